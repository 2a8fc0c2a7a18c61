import PyProof.Rows.All
import Wide.All
import OpenK.AllK
import Wide.FinOn
import Lean
import PyProof.EqAt
import PyProof.EqKinds
import PyProof.TupleCall
import PyProof.Rows.SortRuns
import KE.KSortKey
import KE.KListMore
import KE.KIntText
import KE.KEqDat
import PyProof.Rows.CallKwBuiltin
import PySem.SetTable
import PyProof.Rows.SetFrom
import PyProof.TupleKey
import PyProof.IsRules
import KE.KRevIter
import PyProof.ListRange
import PyProof.TupleOfGen
import PyProof.CollectIter
import PySem.Challenge.RW_seamwright_k68_whole_lasting_bars_are_ho
import KE.KDictLaws
import PyProof.DictWalks
import PyProof.DictItems
import PyProof.SetNew
import PyProof.DictCopy
import PyProof.FactsAll.dict_1
import PyProof.FactsAll.set_2
import PyProof.FactsAll.subtypes_5
import PyProof.AttrMissHeap
import PyProof.MinMaxWalk
import PyProof.SumAny
import PyProof.StationsW
import PyProof.ExcClass3
import OpenK.KOwn
import PyProof.ExcArgsOwn
import KE.KLam
import KE.KMinKey
import PyProof.DictTruth
import PyProof.DictFindH
import PyProof.NeKinds
import KE.KDictList
import KE.KDictSum
set_option linter.all false
set_option tactic.hygienic false
set_option compiler.extract_closed false
set_option bootstrap.genMatcherCode false
set_option autoImplicit true
set_option Elab.async false
set_option maxRecDepth 100000
set_option maxHeartbeats 4000000
open Array renaming toList->ck,size->eJ,push->gf,length_toList->gJ,reverse->jA,getElem?_toList->ki,extract->kj,map->nu,size_map->n_,toList_append->pA,size_extract->rx,setIfInBounds->uR,getElem?_eq_some_iff->uT,getElem?_map->wW,toList_push->zG,getElem?_eq_getElem->DP,eraseIdxIfInBounds->DQ,toList_reverse->Kp,toList_extract->Kq,size_push->Kr,getD_eq_getD_getElem?->Ks,perm_iff_toList_perm->Tn,getElem?_eq_none->To,toList_map->aji,size_setIfInBounds->ajj,replicate->ajk,getElem_mem->ajl,getElem?_setIfInBounds_self_of_lt->ajm,getElem?_setIfInBounds_ne->ajn,getElem?_extract->ajo,getElem?_append_left->ajp,getD->ajq,forIn_toList->ajr,ext_getElem?->ajs
open Bool renaming true->ae,false->aB,false_eq_true->dK,false_ne_true->dY,and_eq_true->jP,not_true->nZ,eq_iff_iff->uQ,and_false->wV,and_eq_true_iff->DO,false_and->Ko,or_eq_true->Th,not_false->Ti,not_eq_true'->Tj,and_true->Tk,and_self->Tl
open Classical renaming byContradiction->qj
open Decidable renaming decide->aE
open Eq renaming trans->cv,symm->cZ
open Exists renaming choose_spec->Kn
open False renaming elim->hX
open ForIn renaming forIn->mN
open ForInStep renaming done->eC,yield->hW
open Function renaming comp->uP
open Iff renaming mpr->pz
open Int renaming dvd_zero->dC,toNat->e_,dvd_trans->lj,le_refl->lW,dvd_add->mM,dvd_sub->nt,le_trans->nW,le_of_lt->nY,emod_nonneg->qh,emod_lt_of_pos->qi,sub_self->rr,dvd_mul_left->rt,toNat_natCast->tj,dvd_neg->uO,le_of_dvd->wS,dvd_of_emod_eq_zero->wT,dvd_mul_right->wU,sub_zero->zE,mul_zero->zF,one_mul->DM,eq_ofNat_of_zero_le->DN,zero_mul->Kg,zero_add->Kh,not_lt->Ki,neg_mul->Kj,mul_sub->Kk,mul_emod->Kl,emod_eq_zero_of_dvd->Km,zero_emod->Tc,sub_mul->Td,mul_assoc->Te,mul_add->Tf,add_mul->Tg,sub_add_cancel->ai9,ne_of_lt->aja,mul_one->ajb,mul_le_mul_of_nonneg_left->ajc,mul_comm->ajd,emod_eq_of_lt->aje,emod_emod->ajf,emod_add_mul_ediv->ajg,add_zero->ajh
open LawfulBEq renaming eq_of_beq->DL
open List renaming map->aj,length->ar,length_map->au,mem_map->aO,Nodup->bv,map_map->bN,map_append->bU,getElem?_map->bV,getElem?_eq_some_iff->bY,range->cr,mem_cons->cz,getElem?_eq_getElem->cB,toArray->cK,size_toArray->cP,mem_singleton->cT,take->cU,map_cons->cY,length_append->c_,mem_of_getElem?->dh,length_cons->dj,mem_append->dt,length_take->dR,sum->eB,take_of_length_le->eV,mem_filter->eW,filter->eZ,mem_cons_self->fE,mem_range->fJ,map_congr_left->fS,mem_cons_of_mem->gd,flatMap->ge,mem_iff_getElem?->gW,pairwise_map->ip,filter_append->jb,append_nil->jy,nodup_cons->jM,mem_flatMap->jN,mem_append_right->jO,nodup_append->kg,eq_nil_of_length_eq_zero->kh,mem_append_left->kF,lookup_cons->kY,headD->kZ,filter_cons_of_neg->k_,all->li,nodup_nil->lS,length_range->lT,append_assoc->lV,sum_cons->mJ,getElem_mem->mK,filter_cons_of_pos->mL,mem_iff_getElem->np,length_nil->nq,flatMap_cons->nr,pairwise_append->nT,lookup->nU,Perm->nV,pairwise_iff_getElem->pc,length_drop->pd,getElem?_range->pf,getElem?_append_right->pg,getElem?_append_left->ph,drop_eq_getElem_cons->pn,drop->po,any->pq,all_eq_true->pv,find?_cons->qf,filter_nil->qg,countP->rq,not_mem_nil->sV,length_filter_le->sW,getElem?_inj->sX,getElem?_eq_none->sY,foldl_cons->sZ,foldl_append->s_,foldl->ti,take_append_drop->uH,pairwise_cons->uI,nodup_iff_pairwise_ne->uJ,length_zip->uK,getElem?_take_of_lt->uL,filter_sublist->uM,countP_cons->uN,range_succ->wN,mem_of_mem_take->wO,getD_eq_getElem?_getD->wP,any_eq_true->wQ,Pairwise->wR,take_add_one->zq,tail->zr,of_mem_zip->zt,nodup_range->zu,map_nil->zv,map_id'->zw,map_fst_zip->zx,length_singleton->zy,getElem?_of_mem->zA,any_cons->zB,take_zero->Dv,mem_map_of_mem->Dx,map_take->Dy,map_inj_right->Dz,map_eq_nil_iff->DA,map_drop->DB,find?->DC,filter_cons->DD,filter_congr->DE,filterMap_cons->DF,ext_getElem?->DG,zipWith->JO,zipIdx_map_fst->JP,sum_append->JQ,reverse_append->JR,mem_filterMap->JS,isEmpty->JT,getLastD->JU,getElem?_zip_eq_some->JV,getElem?_eq_none_iff->JW,getElem?_cons_succ->JX,forIn_cons->JY,extract_eq_drop_take->JZ,eraseIdx->J_,contains->Ka,any_eq_false->Kb,zip_cons_cons->SH,take_sublist->SI,reverse_cons->SJ,perm_append_comm->SK,map_snd_zip->SL,length_zipIdx->SM,getElem_take->SN,getElem?_zipIdx->SO,getElem?_toArray->SP,getElem?_cons_zero->SQ,forIn_nil->SR,flatMap_append->SS,filter_eq_nil_iff->SU,filterMap->SV,drop_of_length_le->SW,drop_eq_nil_of_le->SX,any_map->SY,all_map->SZ,zipIdx_nil->ah7,zipIdx_cons->ah8,take_nil->ah9,take_append_of_le_length->aia,sublist_nil->aib,sublist_map_iff->aic,reverse_reverse->aid,range'->aie,pairwise_singleton->aif,pairwise_lt_range->aig,nil_sublist->aih,mem_zipIdx_iff_getElem?->aii,map_singleton->aij,length_zipWith->aik,length_pos_iff->ail,length_eq_zero_iff->aim,idxOf_lt_length_of_mem->ain,getLastD_eq_getLast?->aio,getElem_idxOf->aip,getElem?_take->aiq,getElem?_set_self->air,getElem?_set_ne->ais,getElem?_drop->ait,find?_eq_none->aiu,find?_cons_of_neg->aiv,filterMap_cons_some->aiw,filterMap_cons_none->aix,filterMap_append->aiy,drop_zero->aiz,drop_drop->ai0,dropLast_concat_getLast->ai1,countP_map->ai2,countP_eq_length_filter->ai3,cons_ne_nil->ai4,all_cons->ai6
open List.Mem renaming head->hV,tail->jz
open List.Nodup renaming length_le_of_subset->zD
open List.Pairwise renaming imp->zC,nil->Kd,imp_of_mem->Ke,and_mem->Tb,of_map->alo,filterMap->alp
open List.Perm renaming trans->DI,refl->DJ,append_right->DK,append_left->Kc,length_eq->Ta,eq_of_pairwise->ai8
open List.Sublist renaming map->DH,refl->S_,length_le->S',nodup->ai7,slnil->aln
open List.cons renaming injEq->ai5
open List.range renaming loop->Dw
open Min renaming min->gc
open MonadExcept renaming tryCatch->rp
open Nat renaming le_refl->aV,ne_of_lt->cM,le_trans->dq,zero_le->eY,lt_of_lt_of_le->fI,ne_of_gt->jx,lt_or_ge->kX,lt_succ_of_lt->lR,lt_irrefl->nQ,le_succ->nR,le_of_lt->qe,lt_succ_iff->ro,lt_trans->sU,zero_add->uG,sub_self->wM,lt_succ_self->zn,le_add_right->zo,add_zero->zp,not_lt_zero->Dr,lt_trichotomy->Ds,le_succ_of_le->Dt,add_sub_cancel->Du,succ_pos->JH,mod_lt->JI,min_le_right->JJ,min_eq_left->JK,lt_or_eq_of_le->JL,lt_of_le_of_lt->JM,le_of_eq->JN,succ_le_succ->Sx,sub_zero->Sy,pow_succ->Sz,pow_le_pow_right->SA,lt_or_gt_of_ne->SB,le_of_succ_le->SC,le_of_not_lt->SE,eq_zero_or_pos->SF,add_assoc->SG,mul_comm->ah3,min_le_left->ah4,lt_of_not_le->ah5,eq_or_lt_of_le->ah6
open Ne renaming symm->dp
open Option renaming some->V,none->Y,getD->eU,map->io,map_some->nj,isSome->nP,map_eq_some_iff->o_,getD_some->sR,isNone->uF,isSome_iff_exists->Dq,isSome_map->ah0,getD_none->ah1,bind_some->ah2
open Option.some renaming inj->bM,injEq->oZ
open Or renaming inl->ai,inr->aw,elim->wL
open Prod renaming snd->nh,fst->ni,mk->aez
open Pure renaming pure->aX
open PyProof.Rows renaming Keyed->ay,arrOf->aJ,SortSt->be,wpS_bind->bE,wpS_pure->ca,seqObj->cj,pendingOf->dE,wpS->dX,IntsAre->fC,wpS_mono->iO,elem'->iP,IsTup->kW,wpS_forRange->lP,SortKind->lQ,wpS_get->nN,failedOf->nO,mirror->oY,envOfC->qd,get?_update_seq->sP,AllBare->sQ,wpS_modify->uE,wpS_lift->wH,slot_tuple_getitem->wI,size_push'->wJ,setArr->zk,listUpdate_at->zl,reverseSlice'->Dj,ltAt'->Dm,kindOf->Dn,callWith_type1->Do,bubble->Dp,subscriptTail->Jz,sortRuns'->JA,seqEpoch_at->JB,mirror_perm->JC,keyLt'->JD,gt_int->JE,Subscript_->JF,slot_list_sort->Sl,plain_sorted->Sm,ne_dataH_same->Sn,listItems_at->So,kws_cons->Sp,kind_sorted->Sq,entry_sorted->Sr,entry_list_sort->Ss,callWith_kw->Su,subscriptTail_builtinR->ahp,recsOf->ahs,lt_int->aht,getElem?_mirror_all->ahu,getElem?_bubble->ahv,entry_tuple_getitem->ahw,args_tuple_getitem->ahx,callWith_builtin1->alm
open PyProof.Rows.F renaming plain_set_update_loop->Sw,entry_set_update_loop->ahz
open PyProof.Rows.IntsAre renaming cons->wK
open PyProof.Rows.IsTup renaming new->Sv
open PyProof.Rows.LSm renaming kept_iter->JG
open PyProof.Rows.SortSt renaming mk'->zm
open PySem renaming Addr->W,Value->aa,wpAny_bind->ag,Shared->ak,Str->aq,wpAny->ax,wpAny_pure->aG,model->aH,Heap->aW,World->bf,Obj->bg,Program->bu,Expr->bz,sizeLine->bD,Around->bO,Pos->ci,Stmt->cJ,FuncData->cW,tupleKeyHash->du,cLine->dB,eval->dN,Sem->eA,Paired->eI,starEach->fu,Scope->fw,wpAny_holding->fO,rawInt->fP,IsTupleKey->gb,Env->gm,Tok->hU,sliceBounds->il,call->im,codeAny_builtin->iC,codeAny->iD,plainId_quiet->iK,wpAny_seqItems->iU,pyNext->iV,compareOp->iW,cellsFrom->iX,bootBuiltins->iY,sizeLine_eq->jt,mainGlobals->ju,wpAny_field->jJ,sysModules->jK,IsPair->jL,wpAny_letGo->kf,wpAny_mono->kB,tupleKind->kC,wpAny_tryCatch->lN,NameKind->lO,wpAny_rule->mD,wpAny_call_entry->mE,IsZip->mG,wpAny_updateSeq->m_,wpAny_newObj_type->nc,SetTable->ng,wpAny_dictEntries->nJ,backTo->nK,wpAny_setField_rec->oT,wpAny_of_eq->oU,mem_of_lookup->oV,DictEntry->oX,wpAny_callSpecial?_slot->pY,getItem->pZ,codeAny_mono->p_,valueAt->qS,updateSeq->qT,pyIter->qU,intKind->qV,field->qW,binaryOp->qX,argBest->qY,IsPart->re,wpAny_truthy_bool->sw,holding->sy,foldedSetIterable->sB,call_meets->sC,atKey->sD,Result->sH,KeyKind->sI,wpAny_typeOf->uh,wpAny_pyIter_list->ui,wpAny_dictEpoch->uj,wpAny_attempt->uk,setField->ul,seqItems?->um,hashByValue->uo,builtinsNs->uq,bindL->ur,bindC->ut,behindInMarks->uu,CmpOp->uC,Arguments->uD,wpAny_passesOwn->wo,wpAny_newList->wp,swapsWith->wq,callerA->wu,assign->wv,Walks->ww,Keyword->wB,Draws->wF,wpAny_setState_of->yL,wpAny_forIn_list->yM,wpAny_call->yN,wpAny_Call_Name_kw->yO,sliceRange->yP,rule->yQ,richCompare->yR,newExc->yS,call_meetsIn->yT,assignEach->yU,Model->zc,BindsTo->zj,wpAny_setField->Cz,wpAny_isInstance->CA,wants->CB,tupleKind_room_in1->CC,subscripted->CD,storedH->CE,setRelay->CF,pushCells->CG,compEnvC->CH,bindArgs->CI,attributeBase->CJ,Meets->C_,ItemsAre->C',Fin->Da,wpAny_typeNameOfWhole_keyiter->IB,wpAny_typeNameOfWhole_itemiter->IC,wpAny_onRaise->ID,wpAny_notOrdered_dict->IE,wpAny_newTuple->IF,wpAny_ite_split->IG,wpAny_isSame_ref_self->IH,wpAny_fieldsOf->II,wpAny_execs_nil->IJ,wpAny_eqBool_tuple->IK,typeLookup->IL,typeIs_str->IM,size_of_entries->IN,preSum->IP,operate->IQ,newList->IR,isTrue->IS,intText?->IT,codeAny_of_tree->IU,closureFor->IV,Params->Jg,ItemsOf->Jj,GenState->Jo,wpAny_updateSeq_pair->QS,wpAny_throw->QT,wpAny_standAt->QU,wpAny_specialOf->QV,wpAny_pyIter_zip->QW,wpAny_pyIter_tuple->QX,wpAny_pyIter_keyiter->QY,wpAny_isOneOf_itemiter->QZ,wpAny_handled->Q_,wpAny_eqBool_int->Ra,wpAny_Name->Rb,unsupported->Rc,strValues->Rd,slot_list_getitem->Re,setSearchFrom->Rf,seq_tuple_add->Rg,seqIndex_of->Rh,seqIndex_neg->Ri,recursionLimit->Rj,raiseNew->Rk,pushCells_keeps->Rl,ofAClassStatement->Rm,noFill_tuple_add->Rn,newTuple->Ro,letOwnedTupleGo->Rp,keywordEach->Rq,isSubtype_type->Rr,isSubtype_stop->Rs,firstIter->Rt,firstAsync->Ru,firstArgMember->Rv,concat_meets->Rw,comprehension->Rx,compPost->Ry,checkCount->Rz,checkBuiltinCall->RA,carriedByValue->RB,backToKw->RC,wpAny_storeSet_of->aex,wpAny_sequenceKey->aey,wpAny_pyIter_slot->ae0,wpAny_pyIter_enum->ae1,wpAny_loadPart'->ae2,wpAny_isTrue_Compare1->ae3,wpAny_isOneOf_keyiter->ae4,wpAny_getItem_list_slice->ae5,wpAny_execs_cons->ae6,wpAny_eqIsQuiet_tuple->ae7,wpAny_dictSet_heap->ae8,wpAny_assign_Name->ae9,wpAny_Dict_empty->afa,wpAny_Call_method0_late->afc,weight_type_call_type->afd,typeLookup_type->afe,searchCouldBeSeen->aff,richCompare_meets_room->afg,getattributeRaised->afj,evalArgs_none->afl,entryFor_of_tree->afm,codeAny_call_builtin->afn,builtinLookup_eq_fast->afp,Within->afr
open PySem.Around renaming under_plainId->ja,under_plain->ahm,frames_deeper->ahn
open PySem.AutoSeq1 renaming wpAny_loadPart'->ahk,sub_tuple_tuple->ahl,list_insert_list_int_val_1->alk
open PySem.Builtin.Builtins renaming bindParams->Di
open PySem.Builtin.Dict renaming showsAll->zh,samePairs->zi,updateCommon->ahi,pairItems->ahj,updateFrom->ald,selfAndRest->ale,pendingCount->alf,noArgs->alg,dictSlotNone->alh,dictSlotArgs->ali,addKeywords->alj
open PySem.Builtin.Dict_items renaming ownsTuple->Dh,pairFromOwner->ahf,ownedTupleIsFree->ahg,ownedTupleFields->ahh,newIterator->alb,dictOf->alc
open PySem.Builtin.Frozenset renaming updateFrom->ak9,newClass->ala
open PySem.Builtin.List renaming listExtendWith->Dg,listTooLong->Sk,listSameRef->ahb,listLengthHint->ahc,listItems->ahd,listFitsIndex->ahe,listUpdate->ak8
open PySem.Builtin.Range renaming rangeSize->ak7
open PySem.Builtin.Slice renaming slicePlaces->Jy,sliceAdjust->Sj,sliceApplied->aha,slicePartIndex->ak5,sliceFields->ak6
open PySem.Builtin.SmallTypes renaming nextOf->sO,ownedTupleIsFree->Jx,ownedTupleHandOut->ag9
open PySem.Builtin.Str renaming occurrences->Si
open PySem.Builtin.Tuple renaming tupleItemsOf->ag7,tupleCompareSizes->ag8,tupleIsExact->ak3,tupleExact->ak4
open PySem.Calls renaming callWith_builtin->Jw,spliced_cons->Sg,call_function_entry->Sh,spliced_nil->ag4,evalArgs_plain->ag5,Name_function_global->ag6
open PySem.CmpOp renaming NotEq->wG,NotIn->zf,In->zg
open PySem.Code renaming builtin->rn,call->sM,quiet_builtin->ag3
open PySem.Data renaming seq->cu,fields->dc,set->iN,dict->kE,func->sK,cell->uB
open PySem.DictEntry renaming key->oW,refKey->Sf,mk->ag2
open PySem.Env renaming kindOf->Se
open PySem.EqMixed renaming ne_str_int->akv,ne_str_bool->akw,ne_int_str->akx,ne_bool_str->aky,eq_str_int->akz,eq_str_bool->ak0,eq_int_str->ak1,eq_bool_str->ak2
open PySem.EqNone renaming ne_str_none->akh,ne_none_str->aki,ne_none_none->akj,ne_none_int->akk,ne_none_bool->akl,ne_int_none->akm,ne_bool_none->akn,eq_str_none->ako,eq_none_str->akp,eq_none_none->akq,eq_none_int->akr,eq_none_bool->aks,eq_int_none->akt,eq_bool_none->aku
open PySem.Expr renaming Name->fR,ListComp->mH,Call->mI,Subscript->sJ,Tuple->wE,BoolOp->ze,Slice->De,Compare->Df,Constant->Ju,Attribute->Jv
open PySem.F renaming plain_max_loop->i',plainAttrs_list->nM,entry_max_loop->rj,slot_list_append->uz,called_set->uA,type_list_append->wD,slot_dict_keyiterator_next->Db,slot_dict_itemiterator_next->Dc,plain_extend_loop->Dd,slot_zip_next->Jp,slot_tuple_iterator_next->Jq,slot_str_split->Jr,slot_list_count->Js,plainAttrs_dict->Jt,type_list_count->RU,slot_tuple_add->RV,slot_list_getattribute->RX,slot_dict_get->RY,plain_max->RZ,kind_max->R_,entry_tuple_add->R',entry_str_split->Sa,entry_max->Sb,args_tuple_add_2->Sc,args_str_split_2->Sd,slot_list_remove->age,slot_list_insert->agf,slot_list_extend->agg,slot_dict_values->agh,slot_dict_setdefault->agi,slot_dict_ne->agj,slot_dict_len->agk,slot_dict_iter->agl,slot_dict_items_iter->agm,slot_dict_items->agn,plain_set_new->ago,plain_list_iadd->agp,entry_zip_next->agq,entry_type_call->agr,entry_tuple_iterator_next->ags,entry_extend_loop->agt,entry_dict_keyiterator_next->agu,entry_dict_itemiterator_next->agv,entry_dict_get->agw,args_zip_next_1->agx,args_tuple_iterator_next_1->agy,args_dict_keyiterator_next_1->agz,args_dict_itemiterator_next_1->ag0,args_dict_get_3->ag1
open PySem.Flow renaming ret->fQ
open PySem.Heap renaming get?_push_of_some->bQ,lt_size->cy,get?_push_size->dg,get?->dQ,push->eM,objs->fB,SameBut->i_,update->qb,get?_update_other->qc,size_push->rf,get?_update_self->rh,size_update->wC,get?_push_ne->zd,get?_update_ne->Jk,get?_push_at->Jl,ExtBut->Jn,IsTuple->agc
open PySem.Heap.DictOf renaming new->akg
open PySem.Heap.IsSliceOf renaming new->agd
open PySem.Heap.IsTuple renaming push->akf
open PySem.Heap.SameBut renaming update->jw,refl->Jm
open PySem.MeetsSeq renaming plain_remove_loop->Ji,entry_remove_loop->agb
open PySem.NameKind renaming free->bK,cell->cE
open PySem.Obj renaming mapSeq->cD,data_mapFields->Jh,putSet->RT,mapFields->af8,isFreed_of_fields->af9,cls_mapFields->aga
open PySem.Paired renaming nil->bq,cons->bS,length->iM,snoc->wA
open PySem.PassesOwn renaming never->ga
open PySem.PyData renaming int->iL,tuple->kD,list->qa,depth->CZ,canLay0->Jf,depthAll->af6,canLayAll0->af7
open PySem.ScopeKind renaming function->iZ
open PySem.SeqAt renaming shaped->za,EqAt->zb,noMix_of_shape->RR,notIn_listAt->af3
open PySem.SeqAt.EqAt renaming int_int->RS,str_int->af4,int_str->af5
open PySem.SetTable renaming runEnd->f_,insertAt->gG,below->gU,fresh->kT,bits->kU,turns->mF,leap->sG,grown->CU,Probe->CW,sizeAbove->Jc,probe->af1,fill->af2
open PySem.SetTable.Met renaming empty->CY,candidate->Je
open PySem.SetTable.Probe renaming dummy->CV
open PySem.SetTable.Slot renaming live->ux,empty->y_,dummy->Jd
open PySem.SetTable.below renaming go->yZ
open PySem.SetTable.layClean renaming free->CT
open PySem.SetTable.probe renaming go->uw
open PySem.Shared renaming TypeIs->wz,heap->RQ
open PySem.Spec renaming same->wy,sameAll->CS
open PySem.Spec.Shape renaming has->yY,tuples->Ja,list->Jb
open PySem.Stmt renaming Assign->wx,FunctionDef->RP
open PySem.Str renaming ofString->jv
open PySem.Txt renaming split->CR
open PySem.Value renaming ref->Z,type->aC,int->aQ,none->bP,builtin->d_,bool->eX,str->q_,ellipsis->yX,isInt->I_,notImplemented->afy,isStrOf->afz,isInt_shape->af0
open PySem.W renaming Frag->aY,tabIn->sE,fnOf->uv,mg_of->yV,OpenLaw->yW,tabObj->CK,nsIn->CL,kla_fn->CM,keepIn->CN,envX->CO,cellsFrom_some->CP,CodeAll->CQ,kla_obj->IW,kdl_call->IX,codeIn->IY,noTabs->RE,methodObj->RF,lookIn->RG,ke_sameAll->RH,instObj->RJ,WalkO->RK,KdlSrc->RM,CodeHd->RN,plainGet->afs,ke_depthAll->aft,ke_carried->afu,ke_canLayAll0->afv,kdl_dict->afw,TabsAt->afx
open PySem.W.KIN renaming call_text->aj0
open PySem.W.WData renaming int->IZ
open PySem.Walks renaming list->qZ
open PySem.argBest renaming eq_2->RD,eq_1->afq
open Std.Legacy.Range renaming size->ajy,forIn_eq_forIn_range'->ajz
open Sum renaming inl->aN,inr->nI
open Sum.inl renaming inj->Cx
open ToString renaming toString->qR
open True renaming intro->ug
open PySem PySem.Spec PyProof.Rows PySem.W
def O{α:Sort _}{a:α}:a=a:=rfl
def am:=@if_neg
def av:=@if_pos
noncomputable def bh:=@absurd
def bT:=@decide_eq_true
def cw:=@decide_eq_false
def da:=@if_false
def eD:=@if_true
def fc:=@of_decide_eq_true
def fj:=@congrArg
def h_:=@getElem?_pos
def iE:=@decide_eq_true_eq
def oe:=@of_decide_eq_false
def rz:=@or_false
def δ{p:Prop}(h:p:=by decide +kernel):p:=h
def ω{p:Prop}(h:p:=by omega):p:=h
def ß{a:Nat}:a≤a:=Nat.le_refl _
def à:=@Nat.le_trans
def â{a p q:Nat}(h:a≤p)(k:p.ble q=true:=by rfl):a≤q:=Nat.le_trans h (Nat.le_of_ble_eq_true k)
def ã{a p q:Nat}(h:q≤a)(k:p.ble q=true:=by rfl):p≤a:=Nat.le_trans (Nat.le_of_ble_eq_true k) h
def ä{p q:Nat}(k:p.ble q=true:=by rfl):p≤q:=Nat.le_of_ble_eq_true k
def å:=@Nat.le_of_eq
def æ{a b:Nat}(h:a=b):b≤a:=Nat.le_of_eq h.symm
def è{a b c:Nat}(h:a+c≤b):a≤b:=Nat.le_of_add_right_le h
def é{a b c:Nat}(h:c+a≤b):a≤b:=Nat.le_trans (Nat.le_add_left _ _) h
def ê{a b c:Nat}(h:a+c<b):a<b:=Nat.lt_of_le_of_lt (Nat.le_add_right _ _) h
def ì:=@Nat.le_of_lt
def í{a b c:Nat}(h:a≤b):a≤b+c:=Nat.le_add_right_of_le h
def î{a b c:Nat}(h:a≤b):a≤c+b:=Nat.le_trans h (Nat.le_add_left _ _)
def ï:=@Nat.succ_le_succ
def ð{a b c:Nat}(h:a≤b):a+c≤b+c:=Nat.add_le_add_right h c
def ñ{a b c:Nat}(h:a≤b):c+a≤c+b:=Nat.add_le_add_left h c
def ò:=@Nat.le_of_succ_le_succ
def ó{a b:Nat}(h:¬a≤b):b<a:=Nat.lt_of_not_le h
def ô{a b:Nat}(h:¬a<b):b≤a:=Nat.le_of_not_lt h
def õ:=@Nat.ne_of_lt
def ö{a b:Nat}(h:b<a):a≠b:=Nat.ne_of_gt h
def ø{a b:Nat}(h:b<a):¬a≤b:=Nat.not_le_of_gt h
def ù{a b:Nat}(h:b≤a):¬a<b:=Nat.not_lt_of_le h
def ú{a:Nat}:0≤a:=Nat.zero_le _
def û:=@Nat.le_antisymm
def ü{a c:Nat}:a≤a+c:=Nat.le_add_right _ _
def ý{a c:Nat}:a≤c+a:=Nat.le_add_left _ _
def þ:=@Nat.lt_of_le_of_ne
def ÿ{a b:Nat}(h:a≤b)(k:b≠a):a<b:=Nat.lt_of_le_of_ne h fun z=>k z.symm
def ξ{p:Prop}(h:p:=by decide):p:=h
abbrev Ω:=PySem.Value->PySem.Shared->Prop
abbrev Ξ:=List (List Int)
abbrev Ψ:=List (PySem.Addr×PySem.Obj)
local macro_rules|`($s⁻¹)=>`(($s).heap.objs.size)
open scoped BitVec
set_option hygiene false
local macro_rules|`(5#$x)=>`(.ref $x)|`(6#$x)=>`(by simpa using $x)|`(0#0)=>`(by simp)|`(1#0)=>`(s.heap.push {cls:=.type "list_iterator",data:=.fields #[.ref l,.int 0 0]})|`(7#$x)=>`(ah $x)|`(2#0)=>`(aH prog w)|`(3#0)=>`(aH X.prog X.w)
section
local macro_rules|`(tactic|omega)=>`(tactic|first|lia|omega (config:={}))
local macro_rules|`(($a,$b,$c,*))=>`(⟨$a,$b,$c,*⟩)|`(($a,$b))=>`(⟨$a,$b⟩)
abbrev aK:=Sum Int aq
noncomputable def vp:aK->aa->Bool
 |.inl k,v=>I_ k v
 |.inr x,v=>afz x v
noncomputable def WQ(w:bf):aK->Int
 |.inl k=>hashInt k
 |.inr x=>hashStr w x
def pI:∀{a:aK}{v:aa},vp a v=ae->(∃i t,a=aN i/\v=aQ i t)\/(∃b t,a=nI b/\v=q_ b t)
 |.inl i,v,h=>by
  obtain⟨t,e⟩:=af0 (k:=i) (v:=v) h;exact .inl (i,t,O,e)
 |.inr b,v,h=>by
  obtain⟨t,e⟩:=Value.isStrOf_shape (x:=b) (v:=v) h;exact .inr (b,t,O,e)
def WP(i:Int)(t:hU):vp (.inl i) (.int i t)=ae:=by simp[vp,I_]
def WO(x:aq)(t:hU):vp (.inr x) (.str x t)=ae:=by simp[vp,afz]
def WN(a b:Int):aE ((aN a:aK)=aN b)=(a==b):=by
 by_cases e:a=b
 ·subst e;simp
 ·have h:¬(aN a:aK)=aN b:=λq=>e<|Cx q
  rw[cw h];exact(beq_eq_false_iff_ne.mpr e).symm
def WK(a b:aq):aE ((nI a:aK)=nI b)=aE (a=b):=by
 by_cases e:a=b
 ·subst e;simp
 ·have h:¬(nI a:aK)=nI b:=λq=>e<|Sum.inr.inj q
  rw[cw h,cw e]
def WM(a:Int)(b:aq):aE ((aN a:aK)=nI b)=aB:=cw (λq=>nomatch q)
def WL(a:aq)(b:Int):aE ((nI a:aK)=aN b)=aB:=cw (λq=>nomatch q)
noncomputable def ff(c:bu)(w:bf):sI c w aK where
 is:=vp
 hash:=WQ w
 inj:=λv a b g f=>by
  rcases pI g with ⟨i,t,rfl,rfl⟩|⟨x,t,rfl,rfl⟩
  ·rcases pI f with ⟨j,u,rfl,e⟩|⟨y,u,rfl,e⟩
   ·injection e with e1 _;rw[e1]
   ·exact nomatch e
  ·rcases pI f with ⟨j,u,rfl,e⟩|⟨y,u,rfl,e⟩
   ·exact nomatch e
   ·injection e with e1 _;rw[e1]
 byValue:=λk v h=>by
  rcases pI h with ⟨i,t,rfl,rfl⟩|⟨x,t,rfl,rfl⟩<;>rfl
 pyHash:=λd h=>by
  rcases pI d with ⟨i,t,rfl,rfl⟩|⟨x,t,rfl,rfl⟩
  ·exact wpAny_pyHash_int h
  ·exact wpAny_pyHash_str h
 eqBool:=λl d h=>by
  rcases pI l with ⟨i,t,rfl,rfl⟩|⟨x,t,rfl,rfl⟩
  ·rcases pI d with ⟨j,u,rfl,rfl⟩|⟨y,u,rfl,rfl⟩
   ·rw[WN] at h;exact Ra h
   ·rw[WM] at h;exact af5 i t y u _ _ _ _ h
  ·rcases pI d with ⟨j,u,rfl,rfl⟩|⟨y,u,rfl,rfl⟩
   ·rw[WL] at h;exact af4 x t j u _ _ _ _ h
   ·rw[WK] at h;exact wpAny_eqBool_str h
 «strs»:=λk x t v h=>by
  rcases pI h with ⟨i,u,rfl,e⟩|⟨y,u,rfl,e⟩
  ·exact nomatch e
  ·injection e with e1 _
   subst e1;cases v<;>rfl
def Fg(a:bu)(w:bf)(i:Int)(t:hU):(ff a w).is (.inl i) (.int i t)=ae:=WP i t
def WA(a:bu)(w:bf)(x:aq)(t:hU):(ff a w).is (.inr x) (.str x t)=ae:=WO x t
inductive af where
 |non|c (b:Bool)|int (i:Int)|str (x:aq)|byt (b:Array UInt8)|flt (b:UInt64)|ref (a:W)|d (n:String)
 deriving DecidableEq
def cg:af->aa->Prop
 |.non,u=>u=bP
 |.c b,u=>u=eX b
 |.int i,u=>∃t,u=aQ i t
 |.str x,u=>∃t,u=q_ x t
 |.byt b,u=>∃t,u=Value.bytes b t
 |.flt b,u=>∃t,u=Value.float b t
 |.ref a,u=>u=Z a
 |.d n,u=>u=aC n
abbrev co:List af->List aa->Prop:=eI cg
noncomputable def co.B{b:List aa}(r:co a b):a.length=b.length:=iM r
def co.F:∀{a:List af}{b:List aa}{i:Nat}{x:af},co a b->a[i]?=V x->∃u,b[i]?=V u/\cg x u
 |_,_,_,_,.nil,e=>by simp at e
 |_,_,0,_,.cons r _,e=>by simp at e;subst e;exact(_,O,r)
 |_,_,i+1,x,.cons _ t,e=>by
  obtain⟨u,c,d⟩:=co.F (i:=i) (x:=x) t 6#e;exact(u,by simpa using c,d)
def co.set(r:cg x u):∀{a:List af}{b:List aa}(i:Nat),co a b->co (a.set i x) (b.set i u)
 |_,_,_,.nil=>.nil
 |_,_,0,.cons _ t=>.cons r t
 |_,_,i+1,.cons q t=>.cons q (co.set r i t)
noncomputable def co.J{a b:List af}(h:co a c)(g:co b d):co (a++b) (c++d):=by
 induction h with
 |nil=>exact g
 |cons r _ e=>exact .cons r e
def co.A0:∀{a:List af}{b:List aa}(n:Nat),co a b->co (a.take n) (b.take n)
 |_,_,0,_=>.nil
 |_,_,_+1,.nil=>.nil
 |_,_,n+1,.cons r t=>.cons r (co.A0 n t)
def co.N:∀{a:List af}{b:List aa}(n:Nat),co a b->co (a.drop n) (b.drop n)
 |_,_,0,r=>r
 |_,_,_+1,.nil=>.nil
 |_,_,n+1,.cons _ t=>co.N n t
def qy:Option af->Option aa->Prop
 |some v,V u=>cg v u
 |none,Y=>True
 |_,_=>False
def jV{a:Type}:List (a×af)->List (a×aa)->Prop:=eI λ(p:a×af)(q:a×aa)=>p.1=q.1/\cg p.2 q.2
noncomputable def cR:aK->af
 |.inl i=>.int i
 |.inr x=>.str x
inductive df where
 |lst (xs:List af)
 |tup (xs:List af)
 |b (kvs:List (aK×af))|a (kvs:List (List aK×af))
 |set (S:Int->Bool) (n:Nat)
 |ins (C dx:W) (fs:List (aq×af))
 |own (x:W)
 |c (fs:List (aq×af))
 |met (f x:W)
 |rng (lo hi:Int)
 |frz (o:bg) (u:df)
 |tbl (ps:Array aa)
 |ext (φ:aW->Prop)
abbrev ab:=W->Option df
noncomputable def aD(H:ab)(a:W)(o:df):ab:=λb=>if b=a then V o else H b
def az:aD H a o a=V o:=by unfold aD;rw[av O]
def aZ{a b:W}(h:b≠a):aD H a o b=H b:=by unfold aD;rw[am h]
def Ls:aD (aD H a o) a u=aD H a u:=by
 funext b;unfold aD;split<;>rfl
def fW{H:ab}{a b:W}(h:H a=V o)(c:H b=V u)(d:o≠u):a≠b:=by
 intro e;subst e;rw[h] at c;exact d<|bM c
def cN{H:ab}{a b:W}(h:H a=V o)(c:H b=Y):a≠b:=by
 intro e;subst e;rw[h] at c;cases c
section
variable(P:bu)(w:bf)
def di(H:ab)(h:aW)(a:W):df->Prop
 |.lst d=>d.length<=bD/\∃(b:List aa)(n:Nat),co d b/\h.get? a=V {cls:=.type "list",data:=.seq b.toArray n}
 |.tup d=>d.length<=bD/\∃b:List aa,co d b/\kW h a b.toArray
 |.b c=>c.length<=bD/\(a==jK)=aB/\∃k,jV c k/\h.DictOf (ff P w) a k
 |.a c=>c.length<=bD/\(a==jK)=aB/\∃d:List (List aK×W×aa),
   eI (λ(p:List aK×af)(q:List aK×W×aa)=>p.1=q.1/\H q.2.1=V (.tup<|p.1.map cR)/\cg p.2 q.2.2) c d/\
   ∃o l s,h.get? a=V o/\o.ExactDict/\o.data=.dict l s/\l.toList=d.map (entryOfKey<|kC<|ff P w)/\(d.map (·.1)).Nodup
 |.set S n=>h.SetOf (qV P w) a S n
 |.ins C i g=>H i=V (.own a)/\g.length<=1000/\i≠a/\h.get? a=V (RJ C i)/\
   ∃e,h.Ns1 i e/\(∀f,qy (g.lookup f) (e f))/\afr e (g.map (·.1))
 |.own _=>∃o,h.get? a=V o
 |.c g=>∃e,h.Ns1 a e/\∀f,qy (g.lookup f) (e f)
 |.rng y z=>∃t u v,h.get? a=V {cls:=.type "range",data:=.fields #[.int y t,.int z u,.int 1 v]}
 |.frz o u=>h.get? a=V o/\di H h a u
 |.tbl A=>h.get? a=V {cls:=.none,data:=.fields A}
 |.met f x=>h.get? a=V (RF 5#f<|.ref x)
 |.ext j=>j h/\(∃o,h.get? a=V o)/\∀m r:aW,j m->(∀o,m.get? a=V o->r.get? a=V o)->j r
def gM(H:ab)(h:aW):Prop:=∀a o,H a=V o->di P w H h a o
end
section
variable{P:bu}{w:bf}{H H':ab}{h h':aW}{a:W}{o:df}
def di.F(x:di P w H h a o):a<h.objs.size:=by
 cases o with
 |lst c=>obtain⟨_,_,_,_,e⟩:=x;exact cy e
 |tup c=>obtain⟨_,_,_,p⟩:=x;exact p.lt
 |b b=>obtain⟨_,_,_,_,o,_,_,e,_⟩:=x;exact cy e
 |a b=>obtain⟨_,_,_,_,o,_,_,e,_⟩:=x;exact cy e
 |set S n=>obtain⟨o,_,_,_,e,_⟩:=x;exact cy e
 |ins C g d=>obtain⟨_,_,_,e,_⟩:=x;exact cy e
 |own y=>obtain⟨_,e⟩:=x;exact cy e
 |c d=>obtain⟨_,⟨_,_,_,e,_⟩,_⟩:=x;exact cy e
 |rng i j=>obtain⟨_,_,_,e⟩:=x;exact cy e
 |frz k u=>obtain⟨e,_⟩:=x;exact cy e
 |tbl l=>exact cy<|show h.get? a=V _ from x
 |met f y=>exact cy<|show h.get? a=V _ from x
 |ext m=>obtain⟨_,⟨_,e⟩,_⟩:=x;exact cy e
def jF{e g:Type}{F G:e->g->Prop}{c:List e}{d:List g}(h:eI F c d)(f:∀a b,F a b->G a b):eI G c d:=by
 induction h with
 |nil=>exact .nil
 |cons r _ i=>exact .cons (f _ _ r) i
noncomputable def di.B(x:di P w H h a o)(k:∀b u,(b=a\/H b=V (.own a))->h.get? b=V u->h'.get? b=V u)(I:∀b,H b=V (.own a)->H' b=V (.own a))(K:∀b m,H b=V (.tup m)->H' b=V (.tup m)):di P w H' h' a o:=by
 induction o with
 |lst m=>obtain⟨z,l,n,r,e⟩:=x;exact(z,l,n,r,k _ _ (.inl O) e)
 |tup m=>obtain⟨z,l,r,g,e,c⟩:=x;exact(z,l,r,g,k _ _ (.inl O) e,c)
 |b s=>obtain⟨z,y,L,r,g,i,j,e,c⟩:=x;exact(z,y,L,r,g,i,j,k _ _ (.inl O) e,c)
 |a s=>
  obtain⟨z,y,m,r,g,i,j,e,c⟩:=x;exact(z,y,m,jF r λp q z=>(z.1,K _ _ z.2.1,z.2.2),g,i,j,k _ _ (.inl O) e,c)
 |set S n=>obtain⟨g,i,j,t,e,c⟩:=x;exact(g,i,j,t,k _ _ (.inl O) e,c)
 |ins C U M=>
  obtain⟨d,z,Q,e,A,⟨D,i,j,R,c⟩,r⟩:=x;exact(I _ d,z,Q,k _ _ (.inl O) e,A,(D,i,j,k _ _ (.inr d) R,c),r)
 |own y=>obtain⟨g,e⟩:=x;exact(g,k _ _ (.inl O) e)
 |c M=>obtain⟨A,⟨D,i,j,e,c⟩,r⟩:=x;exact(A,(D,i,j,k _ _ (.inl O) e,c),r)
 |rng X hi=>obtain⟨t,u,v,e⟩:=x;exact(t,u,v,k _ _ (.inl O) e)
 |frz g u T=>obtain⟨e,q⟩:=x;exact(k _ _ (.inl O) e,T q)
 |tbl E=>
  have e:h.get? a=V {cls:=.none,data:=.fields E}:=x;show h'.get? a=V {cls:=.none,data:=.fields E};exact k a _ (.inl O) e
 |met f y=>
  have e:h.get? a=V (RF 5#f<|.ref y):=x;show h'.get? a=V (RF 5#f<|.ref y);exact k a _ (.inl O) e
 |ext φ=>obtain⟨p,⟨o,e⟩,G⟩:=x;exact(G _ _ p λo q=>k _ _ (.inl O) q,(o,k _ _ (.inl O) e),G)
def gM.F(x:gM P w H h)(e:H a=V o):a<h.objs.size:=(x a o e).F
noncomputable def gM.B(x:gM P w H h)(e:h.objs.size<=a):H a=Y:=by
 cases q:H a with
 |none=>rfl
 |some u=>exact bh (fI (x.F q) e)<|nQ _
noncomputable def gM.J(x:gM P w H h)(k:∀b u,h.get? b=V u->h'.get? b=V u):gM P w H h':=λa o e=>
 (x a o e).B (λb u _ q=>k b u q) (λ_ q=>q) λ_ _ q=>q
def gM.N(x:gM P w H h)(k:∀b u,h.get? b=V u->h'.get? b=V u)(i:h.objs.size<=a)(d:di P w (aD H a o) h' a o):gM P w (aD H a o) h':=λb u e=>by
 have f:=x.B i
 by_cases g:b=a
 ·subst g;rw[az] at e;cases e;exact d
 ·rw[aZ g] at e
  exact(x b u e).B (λc v _ q=>k c v q) (λc q=>by rw[aZ<|cN q f];exact q) λc j q=>by rw[aZ<|cN q f];exact q
end
def cA(H:ab)(a:W)(u:df):Prop:=H a=V u\/∃o,H a=V (.frz o u)
def cA.F(r:cA H a u)(x:gM P w H h):di P w H h a u:=by
 rcases r with r|⟨o,r⟩
 ·exact x a u r
 ·obtain⟨_,q⟩:=x a _ r
  exact q
def xN:Option df->Prop
 |some (.lst _)=>True
 |some (.b _)=>True
 |some (.a _)=>True
 |some (.set _ _)=>True
 |some (.ins _ _ _)=>True
 |some (.ext _)=>True
 |_=>False
section
variable{P:bu}{w:bf}{H:ab}{h h':aW}{x e:W}{o':df}
noncomputable def gM.M(s:gM P w H h)(g:xN (H x))(o:e=x\/H e=V (.own x))(k:∀b u,b≠e->h.get? b=V u->h'.get? b=V u)(m:∃u,h'.get? e=V u)(n:di P w (aD H x o') h' x o'):gM P w (aD H x o') h':=λb u q=>by
 have d:∀c y,H c=V (.own y)->c≠x:=λc y r z=>by subst z;rw[r] at g;exact g
 have f:∀c i,H c=V (.tup i)->c≠x:=λc i r z=>by subst z;rw[r] at g;exact g
 by_cases j:b=x
 ·subst j;rw[az] at q;cases q;exact n
 ·rw[aZ j] at q
  by_cases a:b=e
  ·have p:H b=V (.own x):=by
    rcases o with z|z
    ·exact bh (a.trans z) j
    ·rw[a];exact z
   rw[q] at p;cases p;obtain⟨v,t⟩:=m;exact(v,by rw[a];exact t)
  ·refine(s b u q).B (λc v l r=>k c v ?_ r) (λc r=>by rw[aZ<|d c b r];exact r) λc i r=>by rw[aZ<|f c i r];exact r
   rcases l with rfl|l
   ·exact a
   ·rintro rfl
    rcases o with z|z
    ·exact d c b l z
    ·rw[l] at z;cases z;exact j O
end
structure oC(fs ex:List W)(H H':ab)(h h':aW):Prop where
 a:∀b o,h.get? b=V o->H b=Y->b∉fs->b∉ex->h'.get? b=V o
 d:∀b o,h.get? b=V o->H b=Y->b∈fs->b∉ex->∃sl,h'.get? b=V {o with slots:=sl}
 c:∀b o,h.get? b=V o->H b=Y->b∉ex->H' b=Y
 f:∀b o,h.get? b=V o->b∉ex->∃o',h'.get? b=V o'
 i:∀b xs,H b=V (.tup xs)->H' b=V (.tup xs)
 g:∀b o u,H b=V (.frz o u)->H' b=V (.frz o u)
 e:∀b ps,H b=V (.tbl ps)->∃more,H' b=V (.tbl<|ps++more)
section
variable{fs fs' ex ex':List W}{H H1 H2:ab}{h h1 h2 h':aW}{a x e:W}{o:df}
def oC.F(u:oC fs ex H H1 h h1){b:W}{a:bg}(q:h.get? b=V a)(n:H b=Y)(c:b∉ex):∃e,h1.get? b=V {a with slots:=e}:=by
 by_cases d:b∈fs
 ·exact u.d b a q n d c
 ·exact(a.slots,u.a b a q n d c)
noncomputable def oC.B(k:∀b u,h.get? b=V u->h'.get? b=V u):oC fs ex H H h h':=
 (λb a q _ _ _=>k b a q,λb a q _ _ _=>(a.slots,k b a q),λ_ _ _ n _=>n,λb a q _=>(a,k b a q),λ_ _ q=>q,λ_ _ _ q=>q,λ_ c q=>(#[],by rw[q];simp))
def oC.refl:oC fs ex H H h h:=oC.B λ_ _ q=>q
noncomputable def oC.M(k:∀b u,h.get? b=V u->h'.get? b=V u)(d:h.objs.size<=a)(c:H a=Y):oC fs ex H (aD H a o) h h' where
 a:=λb u q _ _ _=>k b u q
 d:=λb u q _ _ _=>(u.slots,k b u q)
 c:=λb u q n _=>by rw[aZ<|cM<|fI (cy q) d];exact n
 f:=λb u q _=>(u,k b u q)
 i:=λb e q=>by rw[aZ<|cN q c];exact q
 g:=λb u e q=>by rw[aZ<|cN q c];exact q
 e:=λb f q=>(#[],by rw[aZ<|cN q c,q];simp)
noncomputable def oC.J(c:xN (H x))(j:e=x\/H e=V (.own x))(k:∀b u,b≠e->h.get? b=V u->h'.get? b=V u)(d:∃u,h'.get? e=V u):oC fs ex H (aD H x o) h h':=by
 have g:∀b,H b=Y->b≠x:=λb n z=>by subst z;rw[n] at c;exact c
 have i:∀b,H b=Y->b≠e:=λb n z=>by
  subst z;rcases j with r|r
  ·exact g b n r
  ·rw[n] at r;cases r
 have f:∀b u,H b=V u->¬xN (V u)->b≠x:=λb u q l z=>by subst z;rw[q] at c;exact l c
 refine(λb u q n _ _=>k b u (i b n) q,λb u q n _ _=>(u.slots,k b u (i b n) q),λb u q n _=>by rw[aZ<|g b n];exact n,λb u q _=>?_,
  λb m q=>by rw[aZ<|f b _ q λz=>z];exact q,λb u m q=>by rw[aZ<|f b _ q λz=>z];exact q,λb p q=>(#[],by rw[aZ<|f b _ q λz=>z,q];simp))
 by_cases a:b=e
 ·subst a;exact d
 ·exact(u,k b u a q)
end
noncomputable def Aa(h:aW)(H:ab):List W:=(cr h.objs.size).filter λa=>(H a).isSome
noncomputable def oA(h:aW)(H:ab):aW:=PySem.W.hideAll h<|Aa h H
def Xe(h:aW)(H:ab):(oA h H).objs.size=h.objs.size:=PySem.W.hideAll_size _ _
def Xf{h:aW}{H:ab}{b:W}(e:h.get? b=V o)(n:H b=Y):(oA h H).get? b=V o:=
 PySem.W.hideAll_get _ e λa=>by
  have q:(H b).isSome=ae:=(eW.mp a).2;rw[n] at q;simp at q
def Wq{b:W}(e:(oA h H).get? b=V o):h.get? b=V o/\H b=Y:=by
 have a:h.get? b=V o:=PySem.W.of_hideAll (Aa h H) e;refine(a,?_);cases q:H b with
 |none=>rfl
 |some x=>
  have c:b∈Aa h H:=eW.mpr (fJ.mpr<|cy a,by simp[q]);have z:(oA h H).get? b=Y:=PySem.W.hideAll_none (Aa h H) c;rw[z] at e;cases e
structure AD(K:aY)(mg:aq->Option aa)(base:aW):Prop where
 b:K.In base
 a:base.Ns ju mg
 d:∃mb,base.Ns uq mb/\∀x:aq,x≠"__name__"->mb x=iY x
 c:base.NoLimit
structure a_ where
 prog:bu
 w:bf
 K:aY
 mg:aq->Option aa
 base:aW
 A:bO
 N:List aq
 d:ak
 h:ab
 env:gm
 outer:List gm
 c:List gm
 e:List W
 f:aq->Bool
 b:Bool
 g:Ψ
 a:Ω
noncomputable def l_(l:List gm):List W:=l.filterMap (·.frame)
noncomputable abbrev a_.B(X:a_):List W:=l_ X.outer
def Ay(a:fw)(x:aq):Prop:=a.names.lookup x=V .local\/a.names.lookup x=V .cell\/a.names.lookup x=V .free
def rM(a:fw)(x:aq):Prop:=a.names.lookup x=V .local\/a.names.lookup x=V .cell
def XU(a:gm)(h:aW)(m:aq->Option aa)(x:aq)(u:aa):Prop:=
 (a.kindOf x=V .local/\m x=V u)\/((a.kindOf x=V .cell\/a.kindOf x=V .free)/\∃c,a.cells.lookup x=V c/\h.IsCell c (V u))
structure a_.F(X:a_):Prop where
 e:AD X.K X.mg X.base
 d:X.env.scope.kind=.function
 g:X.env.globals=ju
 p:X.env.builtins=uq
 f:X.d⁻¹<=X.env.locals
 q:∀x y c,X.env.cells.lookup x=V c->X.env.cells.lookup y=V c->x=y
 has:∀x,(X.env.kindOf x=V .cell\/X.env.kindOf x=V .free)->∃c,X.env.cells.lookup x=V c
 k:∀x c,X.f x=ae->X.env.cells.lookup x=V c->X.d⁻¹<=c
 a:X.b=ae->X.A.handled=Y
 m:X.A.frames=V X.c
 r:X.c=X.outer\/(X.c=X.env::X.outer/\X.env.frame=V X.env.locals)
 s:∀b∈X.e,b≠X.env.locals/\∀x c,X.env.cells.lookup x=V c->c≠b
 bs:∀b o,X.base.get? b=V o->X.d.heap.get? b=V o/\X.h b=Y
 h:X.base.objs.size<=X.d⁻¹
 i:∀b o,X.base.get? b=V o->b∉X.e
 n:∀b∈X.e,b∉X.B
 j:X.d.heap.FunFrames X.base X.outer
 l:∀b∈X.B,X.h b=Y
structure aA(X:a_)(pins:Ψ)(σ:List (Option af))(H:ab)(s:ak):Prop where
 b:X.F
 k:s.os=X.d.os
 d:sQ s.gens
 base:oC X.B X.e X.h H X.d.heap s.heap
 e:∃m,s.heap.Ns X.env.locals m/\∀(i:Nat)(x:aq)(v:af),X.N[i]?=V x->σ[i]?=V (V v)->Ay X.env.scope x->∃u,cg v u/\XU X.env s.heap m x u
 g:∀x c,X.env.cells.lookup x=V c->∃v,s.heap.IsCell c v
 h:H X.env.locals=Y
 j:∀x c,X.env.cells.lookup x=V c->H c=Y
 f:∀p∈X.g++pins,s.heap.get? p.1=V p.2/\H p.1=Y/\p.1≠X.env.locals/\p.1∉X.B/\∀v,p.2.data≠.cell v
 a:gM X.prog X.w H s.heap
 l:σ.length=X.N.length
section
variable{X:a_}{pins:Ψ}{σ:List (Option af)}{H H':ab}{s:ak}{h':aW}
def a_.F.F(a:X.F){b:W}(e:X.base.get? b=V o):b∉X.B:=λc=>by
 have:=(a.j.mem c).1;rw[e] at this;cases this
def aA.bs(I:aA X pins σ H s):∀b o,X.base.get? b=V o->s.heap.get? b=V o/\H b=Y:=λb o e=>
 (I.base.a b o (I.b.bs b o e).1 (I.b.bs b o e).2 (I.b.F e)<|I.b.i b o e,I.base.c b o (I.b.bs b o e).1 (I.b.bs b o e).2<|I.b.i b o e)
def aA.bk(I:aA X pins σ H s):∀b o,X.base.get? b=V o->s.heap.get? b=V o:=λb o e=>(I.bs b o e).1
def aA.B0(I:aA X pins σ H s):AD X.K X.mg X.base:=I.b.e
def aA.A5(I:aA X pins σ H s):X.K.In s.heap:=I.b.e.b.keeps I.bk
def aA.D5(I:aA X pins σ H s):s.heap.NoLimit:=I.b.e.c.keeps I.bk
def aA.lt(I:aA X pins σ H s):X.env.locals<s⁻¹:=let ⟨_,a,_⟩:=I.e;a.lt
def aA.sz(I:aA X pins σ H s):X.d⁻¹<=s⁻¹:=dq I.b.f<|qe I.lt
def aA.C8(I:aA X pins σ H s){a:W}(h:s⁻¹<=a):a∉X.B:=λb=>by
 obtain⟨_,o,c,_⟩:=I.b.j.mem b;exact bh (fI (cy c)<|dq I.sz h)<|nQ _
def aA.B8(I:aA X pins σ H s):∀x c,X.env.cells.lookup x=V c->c≠X.env.locals:=λx c e z=>by
 obtain⟨v,o,d,f⟩:=I.g x c e;obtain⟨m,⟨g,h,i,a,b,_⟩,_⟩:=I.e;rw[z,a] at d;cases d;rw[b] at f;cases f
def aA.C4(I:aA X pins σ H s):s.heap.FunFrames X.base X.outer:=by
 have a:∀(l:List gm),(∀b∈l_ l,b∈X.B)->X.d.heap.FunFrames X.base l->s.heap.FunFrames X.base l:=by
  intro l
  induction l with
  |nil=>intro _ _;trivial
  |cons h r i=>
   intro g j;obtain⟨k,⟨L,o,c,m,n,p⟩,q⟩:=j;have d:L∈X.B:=g L (by unfold l_;rw[DF,c];exact fE);obtain⟨t,e⟩:=I.base.d L o n (I.b.l L d) d λz=>I.b.n L z d;exact(k,(L,_,c,m,e,p),i (λb f=>g b (by unfold l_;rw[DF,c];exact gd _ f)) q)
 exact a X.outer (λ_ f=>f) I.b.j
def aA.B6(I:aA X pins σ H s):s.heap.FunFrames X.base X.c:=by
 rcases I.b.r with e|⟨e,a⟩
 ·rw[e];exact I.C4
 ·rw[e]
  obtain⟨m,b,_⟩:=I.e;refine .cons (by rw[I.b.d];decide) a b ?_ I.C4;exact Heap.get?_none_of_le<|dq I.b.h I.b.f
def aA.A7(I:aA X pins σ H s):∀b∈l_ X.c,b∈X.env.locals::X.B:=λb a=>by
 rcases I.b.r with e|⟨e,c⟩
 ·rw[e] at a;exact gd _ a
 ·rw[e] at a
  unfold l_ at a;rw[DF,c] at a;exact a
def aA.C3(I:aA X pins σ H s):∀b∈l_ X.c,H b=Y:=λb a=>by
 rcases cz.mp (I.A7 b a) with e|a
 ·rw[e];exact I.h
 ·obtain⟨_,o,c,_⟩:=I.b.j.mem a
  exact I.base.c b o c (I.b.l b a) λz=>I.b.n b z a
def aA.step{t':Nat}{d':Drawn}{ch:List W}(I:aA X pins σ H s)(g:∀b∈ch,(b∈X.e\/X.d⁻¹<=b)/\b≠X.env.locals/\(∀x c,X.env.cells.lookup x=V c->c≠b)/\∀p∈X.g++pins,p.1≠b)(h:∀b o,b≠X.env.locals->b∉X.B->b∉ch->s.heap.get? b=V o->H b=Y->h'.get? b=V o)(A:∀b o,b≠X.env.locals->b∈X.B->b∉ch->s.heap.get? b=V o->H b=Y->∃U,h'.get? b=V {o with slots:=U})(f:∀b o,b∉ch->s.heap.get? b=V o->H b=Y->H' b=Y)(D:∀b o,b∉ch->s.heap.get? b=V o->∃K,h'.get? b=V K)(L:∀b C,H b=V (.tup C)->H' b=V (.tup C))(M:∀b o u,H b=V (.frz o u)->H' b=V (.frz o u))(P:∀b T,H b=V (.tbl T)->∃Q,H' b=V (.tbl<|T++Q))(ns:∀m,s.heap.Ns X.env.locals m->h'.Ns X.env.locals m)(a0:gM X.prog X.w H' h')(hg:sQ g'):aA X pins σ H' {s with heap:=h',gens:=g',drawn:=d',toks:=t'}:=by
 have R:∀b o,X.d.heap.get? b=V o->b≠X.env.locals:=λb o e=>cM<|fI (cy e) I.b.f;have w:∀b o,X.d.heap.get? b=V o->b∉X.e->b∉ch:=λb o e a E=>by
  rcases(g b E).1 with z|z
  ·exact a z
  ·exact bh (fI (cy e) z)<|nQ _
 have j:∀x c,X.env.cells.lookup x=V c->∀v,s.heap.IsCell c v->h'.IsCell c v:=λx c e v (o,G,hd)=>by
  have t:c∉ch:=λz=>(g c z).2.2.1 x c e O
  by_cases hc:c∈X.B
  ·obtain⟨U,q⟩:=A c o (I.B8 x c e) hc t G<|I.j x c e
   exact(_,q,hd)
  ·exact(o,h c o (I.B8 x c e) hc t G<|I.j x c e,hd)
 refine(I.b,I.k,hg,(λb o e n E a=>?_,λb o e n E a=>?_,λb o e n a=>?_,λb o e a=>?_,λb C e=>L b C<|I.base.i b C e,λb o C e=>M b o C<|I.base.g b o C e,λb T e=>?_),?_,λx c e=>?_,?_,λx c e=>?_,λp hp=>?_,a0,I.l)
 ·exact h b o (R b o e) E (w b o e a) (I.base.a b o e n E a)<|I.base.c b o e n a
 ·obtain⟨U,y⟩:=I.base.d b o e n E a
  obtain⟨a1,S⟩:=A b _ (R b o e) E (w b o e a) y<|I.base.c b o e n a;exact(a1,S)
 ·obtain⟨K,y⟩:=I.base.f b o e a
  exact f b K (w b o e a) y<|I.base.c b o e n a
 ·obtain⟨K,y⟩:=I.base.f b o e a
  exact D b K (w b o e a) y
 ·obtain⟨m1,y⟩:=I.base.e b T e
  obtain⟨m2,S⟩:=P b _ y;exact(m1++m2,by rw[S,Array.append_assoc])
 ·obtain⟨m,hn,hl⟩:=I.e
  refine(m,ns m hn,λi x v y S e3=>?_);obtain⟨u,r,l⟩:=hl i x v y S e3;refine(u,r,?_);rcases l with l|⟨k,c,e,z⟩
  ·exact .inl l
  ·exact .inr (k,c,e,j x c e _ z)
 ·obtain⟨v,z⟩:=I.g x c e
  exact(v,j x c e v z)
 ·obtain⟨m,⟨o,_,_,G,_⟩,_⟩:=I.e
  exact f _ o (λz=>(g _ z).2.1 O) G I.h
 ·obtain⟨v,o,G,hd⟩:=I.g x c e
  exact f c o (λz=>(g c z).2.2.1 x c e O) G<|I.j x c e
 ·obtain⟨e,n,ne,nf,d⟩:=I.f p hp
  have t:p.1∉ch:=λz=>(g p.1 z).2.2.2 p hp O;exact(h p.1 p.2 ne nf t e n,f p.1 p.2 t e n,ne,nf,d)
def aA.un{t':Nat}(I:aA X pins σ H s)(u:oC X.B [] H H' s.heap h')(c:gM X.prog X.w H' h'):aA X pins σ H' {s with heap:=h',toks:=t'}:=by
 obtain⟨m,⟨o,l,p,h,r⟩,_⟩:=id I.e;obtain⟨q,i⟩:=u.F h I.h 0#0;exact I.step (g':=s.gens) (d':=s.drawn) (ch:=[]) (λ_ z=>nomatch z) (λb o _ d _ e n=>u.a b o e n d 0#0) (λb o _ d _ e n=>u.d b o e n d 0#0) (λb o _ e n=>u.c b o e n 0#0) (λb o _ e=>u.f b o e 0#0) u.i u.g u.e (λt j=>by
  obtain⟨v,f,g,a,k⟩:=j;rw[h] at a;cases a;exact(_,f,g,i,k)) c I.d
def aA.C2{t':Nat}{d':Drawn}(I:aA X pins σ H s)(u:oC (l_ X.c) ch H H' s.heap h')(g:gM X.prog X.w H' h')(l:sQ g')(d:∀b∈ch,(b∈X.e\/X.d⁻¹<=b)/\b≠X.env.locals/\(∀x c,X.env.cells.lookup x=V c->c≠b)/\∀p∈X.g++pins,p.1≠b):aA X pins σ H' {s with heap:=h',gens:=g',drawn:=d',toks:=t'}:=by
 obtain⟨m,⟨o,w,y,k,r⟩,_⟩:=id I.e;obtain⟨A,h⟩:=u.F k I.h λz=>(d _ z).2.1 O;exact I.step (ch:=ch) d (λb o h q a e n=>u.a b o e n (λz=>(cz.mp<|I.A7 b z).elim h q) a) (λb o _ _ a e n=>u.F e n a) (λb o a e n=>u.c b o e n a) (λb o a e=>u.f b o e a) u.i u.g u.e (λC t=>by
  obtain⟨D,i,j,f,v⟩:=t;rw[k] at f;cases f;exact(_,i,j,h,v)) g l
def aA.A1{t':Nat}{a:W}(I:aA X pins σ H s)(k:∀b o,b≠a->s.heap.get? b=V o->h'.get? b=V o)(h:H a=Y)(g:a≠X.env.locals)(i:a∈X.e\/X.d⁻¹<=a)(j:∀x c,X.env.cells.lookup x=V c->c≠a)(l:∀p∈X.g++pins,p.1≠a):aA X pins σ H {s with heap:=h',toks:=t'}:=by
 have f:∀b u,H b=V u->b≠a:=λb u e z=>by rw[z,h] at e;cases e
 refine I.step (g':=s.gens) (d':=s.drawn) (ch:=[a]) (λb t=>?_) (λb o _ _ d e _=>k b o (λz=>d (by simp[z])) e) (λb o _ _ d e _=>(o.slots,k b o (λz=>d (by simp[z])) e)) (λ_ _ _ _ n=>n)
  (λb o d e=>(o,k b o (λz=>d (by simp[z])) e)) (λ_ _ e=>e) (λ_ _ _ e=>e) (λb D e=>(#[],by rw[e];simp)) (λm w=>?_) (λb u e=>?_) I.d
 ·have e:b=a:=by simpa using t
  subst e;exact(i,g,j,l)
 ·obtain⟨o,y,A,C,r⟩:=w
  exact(o,y,A,k _ o (dp g) C,r)
 ·refine(I.a b u e).B (λc v d q=>k c v ?_ q) (λ_ q=>q) λ_ _ q=>q
  rcases d with z|z
  ·rw[z];exact f b u e
  ·exact f c _ z
def aA.N(I:aA X pins σ H s)(t:Nat):aA X pins σ H {s with toks:=t}:=I.un (h':=s.heap) (t':=t) oC.refl I.a
noncomputable def aA.J{t':Nat}(I:aA X pins σ H s)(k:∀b u,s.heap.get? b=V u->h'.get? b=V u):aA X pins σ H {s with heap:=h',toks:=t'}:=I.un (oC.B k)<|I.a.J k
def aA.F{a:W}{t':Nat}(I:aA X pins σ H s)(k:∀b u,s.heap.get? b=V u->h'.get? b=V u)(c:s⁻¹<=a)(d:di X.prog X.w (aD H a o) h' a o):aA X pins σ (aD H a o) {s with heap:=h',toks:=t'}:=I.un (oC.M k c<|I.a.B c)<|I.a.N k c d
def aA.B9{x e:W}{g:Nat}(I:aA X pins σ H s)(d:xN (H x))(f:e=x\/H e=V (.own x))(k:∀b u,b≠e->s.heap.get? b=V u->h'.get? b=V u)(a:∃u,h'.get? e=V u)(c:di X.prog X.w (aD H x o) h' x o):aA X pins σ (aD H x o) {s with heap:=h',toks:=g}:=I.un (oC.J d f k a)<|I.a.M d f k a c
def aA.C0{a:Ψ}(I:aA X pins σ H s)(h:∀p∈a,s.heap.get? p.1=V p.2/\H p.1=Y/\p.1≠X.env.locals/\p.1∉X.B/\∀v,p.2.data≠.cell v):aA X a σ H s:=
 (I.b,I.k,I.d,I.base,I.e,I.g,I.h,I.j,λp b=>(dt.mp b).elim (λz=>I.f p<|kF _ z)<|h p,I.a,I.l)
def MF{h:List aq}(c:h.Nodup){i j:Nat}(a:h[i]?=V x)(b:h[j]?=V x):i=j:=by
 obtain⟨f,d⟩:=bY.mp a;obtain⟨g,e⟩:=bY.mp b;exact(List.getElem_inj c).mp<|d.trans e.symm
def LG{M:zc}{i:Nat}{Q:Unit->ak->Prop}(I:aA X pins σ H s)(hN:X.N.Nodup)(T:X.N[i]?=V x)(w:rM X.env.scope x)(r:cg v u)(h:∀s',aA X pins (σ.set i<|V v) H s'->(∃a,i_ a s.heap s'.heap/\(a=X.env.locals\/X.env.cells.lookup x=V a))->Q () s')(hf:X.f x=ae\/X.env.scope.names.lookup x=V .local:=by first|exact .inl rfl|exact .inr rfl|assumption):ax M A (storeName X.env x u) Q E s:=by
 obtain⟨m,hn,hl⟩:=id I.e;have U:(X.env.scope.kind==.class|| (X.env.scope.kind==.module&&X.env.locals != X.env.globals))=aB:=by rw[I.b.d];rfl
 have G:i<σ.length:=by rw[I.l];exact(bY.mp T).1
 have L:=I.B8;have g:∀{a:W}{h':aW},(∃o,s.heap.get? a=V o/\H a=Y)->i_ a s.heap h'->gM X.prog X.w H h':=λ{a h'} ha f b ob e=>by
  obtain⟨_,_,C⟩:=ha;refine(I.a b ob e).B (λc w' t q=>(f.2 c ?_).trans q) (λ_ q=>q) λ_ _ q=>q;rintro rfl;rcases t with rfl|t
  ·rw[C] at e;cases e
  ·rw[C] at t;cases t
 rcases w with K|K
 ·refine wpAny_storeName_local K hn (λh' a4 f=>?_) U
  obtain⟨oL,_,_,a5,_⟩:=id hn;refine h _ (I.b,I.k,I.d,(λb o e n P w=>?_,λb o e n P w=>?_,I.base.c,λb o e w=>?_,I.base.i,I.base.g,I.base.e),(_,a4,λj y v' l D e3=>?_),λy c e=>?_,I.h,I.j,λp hp=>?_,g (oL,a5,I.h) f,by simpa using I.l) (_,f,.inl O)
  ·exact(f.2 b<|cM<|fI (cy e) I.b.f).trans<|I.base.a b o e n P w
  ·obtain⟨sl,l⟩:=I.base.d b o e n P w
   exact(sl,(f.2 b<|cM<|fI (cy e) I.b.f).trans l)
  ·obtain⟨o',l⟩:=I.base.f b o e w
   exact(o',(f.2 b<|cM<|fI (cy e) I.b.f).trans l)
  ·by_cases R:j=i
   ·subst R
    rw[T] at l;cases l;rw[air G] at D;cases D;exact(u,r,.inl (K,by simp))
   ·rw[ais<|dp R] at D
    obtain⟨u',r',q⟩:=hl j y v' l D e3;refine(u',r',?_);rcases q with ⟨k,e⟩|⟨k,c,e,z⟩
    ·refine .inl (k,?_)
     have:y≠x:=λe=>R<|MF hN l<|e▸T;simp[this,e]
    ·exact .inr (k,c,e,z.sameBut f<|L y c e)
  ·obtain⟨w',z⟩:=I.g y c e
   exact(w',z.sameBut f<|L y c e)
  ·obtain⟨e,n,ne,nf,d⟩:=I.f p hp
   exact((f.2 p.1 ne).trans e,n,ne,nf,d)
 ·have S:X.f x=ae:=by
   rcases hf with z|z
   ·exact z
   ·rw[z] at K;cases K
  obtain⟨c,t⟩:=I.b.has x<|.inl K;obtain⟨w',z⟩:=I.g x c t;refine wpAny_storeName_cell I.b.d K t z (λh' a0 f=>?_);obtain⟨oc,a1,a2⟩:=id z;refine h {s with heap:=h'} (I.b,I.k,I.d,(λb o e n P w=>?_,λb o e n P w=>?_,I.base.c,λb o e w=>?_,I.base.i,I.base.g,I.base.e),(m,hn.sameBut f<|dp<|L x c t,λj y v' l D e3=>?_),λy c' e=>?_,I.h,I.j,λp hp=>?_,g (oc,a1,I.j x c t) f,by simpa using I.l) (c,f,.inr t)
  ·exact(f.2 b<|cM<|fI (cy e)<|I.b.k x c S t).trans<|I.base.a b o e n P w
  ·obtain⟨sl,l⟩:=I.base.d b o e n P w
   exact(sl,(f.2 b<|cM<|fI (cy e)<|I.b.k x c S t).trans l)
  ·obtain⟨o',l⟩:=I.base.f b o e w
   exact(o',(f.2 b<|cM<|fI (cy e)<|I.b.k x c S t).trans l)
  ·by_cases R:j=i
   ·subst R
    rw[T] at l;cases l;rw[air G] at D;cases D;exact(u,r,.inr (.inl K,c,t,a0))
   ·rw[ais<|dp R] at D
    obtain⟨u',r',q⟩:=hl j y v' l D e3;refine(u',r',?_);rcases q with q|⟨k,c',e,z'⟩
    ·exact .inl q
    ·refine .inr (k,c',e,z'.sameBut f ?_)
     rintro rfl;exact R<|MF hN l<|I.b.q _ _ _ e t▸T
  ·by_cases a3:c'=c
   ·subst a3;exact(_,a0)
   ·obtain⟨w2,z2⟩:=I.g y c' e
    exact(w2,z2.sameBut f a3)
  ·obtain⟨e,n,ne,nf,d⟩:=I.f p hp
   refine((f.2 p.1 ?_).trans e,n,ne,nf,d);intro q;rw[q,a1] at e;have q':oc=p.2:=bM e;exact d w' (by rw[<-q'];exact a2)
def LH{M:zc}{i:Nat}{Q:Unit->ak->Prop}(I:aA X pins σ H s)(b:X.N.Nodup)(c:X.N[i]?=V x)(d:rM X.env.scope x)(r:cg v u)(h:∀a,aA X pins (σ.set i<|V v) H a->Q () a)(e:X.f x=ae\/X.env.scope.names.lookup x=V .local:=by first|exact .inl rfl|exact .inr rfl|assumption):ax M A (storeName X.env x u) Q E s:=
 LG I b c d r (λa f _=>h a f) e
def aA.A8{s':ak}(I:aA X pins σ H s)(f:s'.os=s.os)(u:oC (l_ X.c) ch H H' s.heap s'.heap)(a:gM X.prog X.w H' s'.heap)(g:sQ s'.gens)(d:∀b∈ch,(b∈X.e\/X.d⁻¹<=b)/\b≠X.env.locals/\(∀x c,X.env.cells.lookup x=V c->c≠b)/\∀p∈X.g++pins,p.1≠b):aA X pins σ H' s':=by
 obtain⟨h',g',d',t',h⟩:=s';have e:h=s.os:=f;subst e;exact I.C2 (g':=g') (t':=t') (d':=d') u a g d
end
abbrev db:=aa->Option W->ab->Prop
abbrev aR:=List<|Option af
abbrev aU:=af->ab->Prop
abbrev bd:=aR->ab->aU->Prop
abbrev dO:=aR->ab->(Bool->ab->Prop)->Prop
abbrev fY:=aR->ab->(List af->ab->Prop)->Prop
structure oE where
 a:aR->ab->Prop
 d:aU
 b:aR->ab->Prop:=λ_ _=>False
 c:aR->ab->Prop:=λ_ _=>False
abbrev gC:=oE->aR->ab->Prop
def ji(X:a_)(a:Ψ)(c:aR)(Q:aU)(u:aa)(d:ak):Prop:=∃v b,aA X a c b d/\cg v u/\Q v b
def FM(X:a_)(a:Ψ)(d:aR)(Q:Bool->ab->Prop)(b:Bool)(e:ak):Prop:=∃c,aA X a d c e/\Q b c
def XY(X:a_)(a:Ψ)(d:aR)(Q:List af->ab->Prop)(e:List aa)(f:ak):Prop:=∃b c,aA X a d c f/\co b e/\Q b c
def xM(X:a_)(b:Ψ)(D:oE)(f:Flow)(d:ak):Prop:=
 match f with
 |.next=>∃a c,aA X b a c d/\D.a a c
 |.brk=>∃a c,aA X b a c d/\D.b a c
 |.cont=>∃a c,aA X b a c d/\D.c a c
 |.ret u=>∃v a c,aA X b a c d/\cg v u/\D.d v c
def bG(X:a_)(e:bz)(t:bd):Prop:=
 ∀(a:Ψ)(s:ak)(b:aR)(H:ab)(Q:aU),aA X a b H s->t b H Q->ax 3#0 X.A (dN e X.env) (ji X a b Q) X.a s
def lF(X:a_)(e:bz)(t:dO):Prop:=
 ∀(a:Ψ)(s:ak)(b:aR)(H:ab)(Q:Bool->ab->Prop),aA X a b H s->t b H Q->ax 3#0 X.A (IS e X.env<|dN e X.env) (FM X a b Q) X.a s
def tK(X:a_)(e:bz)(t:dO):Prop:=
 ∀(b:eA aa)(a:Ψ)(s:ak)(c:aR)(H:ab)(Q:Bool->ab->Prop),aA X a c H s->t c H Q->ax 3#0 X.A (IS e X.env b) (FM X a c Q) X.a s
noncomputable def tK.B{t:dO}(h:tK X e t):lF X e t:=h _
def ku(X:a_)(d:List bz)(t:fY):Prop:=
 ∀(b:ci)(a:Ψ)(s:ak)(c:aR)(H:ab)(Q:List af->ab->Prop),aA X a c H s->t c H Q->ax 3#0 X.A (spliced<|nK b<|fu d X.env) (XY X a c Q) X.a s
def lG(X:a_)(c:cJ)(t:gC):Prop:=
 ∀(a:Ψ)(s:ak)(b:aR)(H:ab)(D:oE),aA X a b H s->t D b H->ax 3#0 X.A (exec c X.env) (xM X a D) X.a s
def kJ(X:a_)(c:List cJ)(t:gC):Prop:=
 ∀(a:Ψ)(s:ak)(b:aR)(H:ab)(D:oE),aA X a b H s->t D b H->ax 3#0 X.A (execs c X.env) (xM X a D) X.a s
def bH{b:Type}{t:eA b}{Q c:b->ak->Prop}{M:zc}{A:bO}{E:Ω}{s:ak}(h:ax M A t Q E s)(d:∀a s,Q a s->c a s):ax M A t c E s:=kB h d λ_ _ x=>x
section
variable{X:a_}
inductive bw(i:Nat)(σ:aR)(H:ab)(Q:aU):Prop
 |a:∀v,(σ[i]?=V (V v))->(Q v H)->bw i σ H Q
def gh(v:af):bd:=λ_ H Q=>Q v H
def Wa{i:Nat}(o:X.N[i]?=V x)(p:Ay X.env.scope x)(j:(x==("__debug__":aq))=aB:=by decide)(k:(x==("__classdict__":aq))=aB:=by decide):bG X (.Name x g) (bw i):=by
 intro f s q H Q I h;obtain⟨v,e,h⟩:=h;obtain⟨m,t,w⟩:=I.e;obtain⟨u,r,l⟩:=w i x v o e p;have b:ji X f q Q u s:=(v,H,I,r,h);rcases l with ⟨d,y⟩|⟨d,c,n,a⟩
 ·exact Rb (wpAny_loadName_local I.b.d d t y b) j
 ·rcases d with d|d
  ·exact Rb (wpAny_loadName_cell I.b.d d n a b) j
  ·exact Rb (wpAny_loadName_free I.b.d d n a b k) j
def bb{i j a}:bG X (.Constant (.int i) j a) (gh<|.int i):=λ_ _ _ H _ I h=>wpAny_Constant_int (.int i,H,I.N _,(_,O),h)
def kn{b j a}:bG X (.Constant (.bool b) j a) (gh<|.c b):=λ_ _ _ H _ I h=>Constant_bool (.c b,H,I,O,h)
def xy{j a}:bG X (.Constant .none j a) (gh .non):=λ_ _ _ H _ I h=>Constant_none (.non,H,I,O,h)
def iG{x j a}:bG X (.Constant (.str x) j a) (gh<|.str x):=λ_ _ _ H _ I h=>Calls.Constant_str (.str x,H,I.N _,(_,O),h)
def lI(X:a_)(x:aq):Prop:=X.env.kindOf x=V .globalImplicit
def Fm{s:ak}{b:ci}{Q:Ω}(I:aA X a c H s)(d:lI X x)(e:X.mg x=V u)(h:Q u s)(f:(x==("__debug__":aq))=aB:=by decide):ax 3#0 X.A (dN (.Name x b) X.env) Q E s:=
 ag6 I.b.d d (Calls.loadGlobal_global (by rw[I.b.g];exact I.B0.a.keeps I.bk) e h) f
def qr{s:ak}{b:ci}{Q:Ω}(I:aA X a c H s)(d:lI X x)(e:X.mg x=Y)(f:iY x=V u)(h:Q u s)(g:x≠"__name__":=by decide)(i:(x==("__debug__":aq))=aB:=by decide):ax 3#0 X.A (dN (.Name x b) X.env) Q E s:=by
 obtain⟨l,j,k⟩:=I.B0.d;exact ag6 I.b.d d (Calls.loadGlobal_builtin (by rw[I.b.g];exact I.B0.a.keeps I.bk) e (by rw[I.b.p];exact j.keeps I.bk) ((k x g).trans f) h) i
def vn(b:lI X x)(c:X.mg x=V u)(r:cg v u)(d:(x==("__debug__":aq))=aB:=by decide):bG X (.Name x a) (gh v):=
 λ_ _ _ H _ I h=>Fm I b c (v,H,I,r,h) d
variable{a b:bz}{ta tb:bd}{pos:ci}
def FP(X:a_)(g:uC)(a b:bz)(t:bd):Prop:=
 ∀(c:Ψ)(s:ak)(f:aR)(H:ab)(Q:aU),aA X c f H s->t f H Q->
  ax 3#0 X.A (dN a X.env) (λv d=>ax 3#0 X.A (dN b X.env) (λu e=>ax 3#0 X.A (iW g v u) (ji X c f Q) X.a e) X.a d) X.a s
def LC(t:bd):dO:=λa H Q=>t a H λx b=>∃c,x=.c c/\Q c b
def Wi{t:bd}(h:FP X d a b t)(e:uu d b=aB:=by first|exact MG _ ξ ξ|rfl):bG X (.Compare a [d] [b] pos) t:=λc s f H Q I g=>wpAny_Compare1 (h c s f H Q I g) e
def Mj{t:bd}(h:FP X f a b t)(g:uu f b=aB:=by first|exact MG _ ξ ξ|rfl):lF X (.Compare a [f] [b] pos) (LC t):=by
 intro e s i H Q I j;refine ae3 (bH (h e s i H _ I j) λv p g=>bH g λu r k=>bH k λc w (x,l,m,n,o)=>?_) g;obtain⟨d,rfl,q⟩:=o;cases n;exact sw (l,m,q)
def xr{t:bd}(h:bG X e t)(c:∀a,IS e X.env a=(do let v <-a;standAt e.pos;sy [v] (truthy v)):=by intro _;rfl):lF X e (LC t):=by
 intro b s f H Q I g;refine isTrue_plain (bH (h b s f H _ I g) λv m (x,i,j,k,l)=>?_)<|c _;obtain⟨d,rfl,q⟩:=l;cases k;exact sw (i,j,q)
variable{tA tB':dO}{rest:List bz}
def LD(t u:dO):dO:=λa H Q=>t a H λc b=>if c=ae then u a b Q else Q aB b
def Vo(t u:dO):dO:=λa H Q=>t a H λc b=>if c=ae then Q ae b else u a b Q
def Vp(t:dO):dO:=λa H Q=>t a H λc b=>Q (!c) b
def Mg(d:lF X a tA):tK X (.BoolOp .And [a] pos) tA:=by
 intro g b s f H Q I h;refine isTrue_and<|bH (d b s f H Q I h) λc i e=>?_;cases c with
 |true=>exact isTrue_and_nil e
 |false=>exact e
def ER(d:lF X a tA):tK X (.BoolOp .Or [a] pos) tA:=by
 intro g b s f H Q I h;refine isTrue_or<|bH (d b s f H Q I h) λc i e=>?_;cases c with
 |false=>exact isTrue_or_nil e
 |true=>exact e
def Mh(j:lF X a tA)(k:tK X (.BoolOp .And (b::rest) pos) tB'):tK X (.BoolOp .And (a::b::rest) pos) (LD tA tB'):=by
 intro l d s e H Q I h;refine isTrue_and<|bH (j d s e H _ I h) λc m (f,g,i)=>?_;cases c with
 |true=>exact k l d m e f Q g i
 |false=>exact(f,g,i)
def ES(j:lF X a tA)(k:tK X (.BoolOp .Or (b::rest) pos) tB'):tK X (.BoolOp .Or (a::b::rest) pos) (Vo tA tB'):=by
 intro l d s e H Q I h;refine isTrue_or<|bH (j d s e H _ I h) λc m (f,g,i)=>?_;cases c with
 |true=>exact(f,g,i)
 |false=>exact k l d m e f Q g i
def vm(d:lF X a tA):lF X (.UnaryOp .Not a pos) (Vp tA):=by
 intro b s e H Q I h;exact isTrue_not<|d b s e H (λc f=>Q (!c) f) I h
def Lz(t:dO)(ta tb:bd):bd:=λa H Q=>t a H λc b=>if c=ae then ta a b Q else tb a b Q
def Mw(l:lF X c tA)(m:bG X a ta)(n:bG X b tb):bG X (.IfExp c a b pos) (Lz tA ta tb):=by
 intro e s f H Q I h;refine wpAny_IfExp<|bH (l e s f H _ I h) λd g (i,j,k)=>?_;cases d with
 |true=>exact m e g f i Q j k
 |false=>exact n e g f i Q j k
end
def bI(K:aY)(H:ab)(a:W)(c:List af):Prop:=
 cA H a (.lst c) \/
  ∃(o:bg)(b:Array aa)(n:Nat),K.lookup a=V o/\o.cls=.type "list"/\o.dict=Y/\o.data=.seq b n/\b.size<=bD/\co c b.toList
def fg(K:aY)(H:ab)(a:W)(c:List af):Prop:=
 cA H a (.tup c) \/
  ∃(o:bg)(b:Array aa)(n:Nat),K.lookup a=V o/\o.cls=.type "tuple"/\o.data=.seq b n/\b.size<=bD/\co c b.toList
noncomputable def XN:aa->Option af
 |.none=>V .non
 |.bool b=>V (.c b)
 |.int i _=>V (.int i)
 |.str x _=>V (.str x)
 |.bytes b _=>V (.byt b)
 |.float b _=>V (.flt b)
 |.ref a=>V 5#a
 |.type n=>V (.d n)
 |_=>Y
noncomputable def cg.B(r:cg x u):XN u=V x:=by
 cases x with
 |non=>cases r;rfl
 |c _=>cases r;rfl
 |int _=>obtain⟨t,rfl⟩:=r;rfl
 |str _=>obtain⟨t,rfl⟩:=r;rfl
 |byt _=>obtain⟨t,rfl⟩:=r;rfl
 |flt _=>obtain⟨t,rfl⟩:=r;rfl
 |ref _=>cases r;rfl
 |d _=>cases r;rfl
def cg.F(r:cg x u)(q:cg y u):x=y:=bM<|r.B.symm.trans q.B
def co.A4{b a:List af}(h:co b c)(g:co a c):b=a:=by
 induction h generalizing a with
 |nil=>cases g;rfl
 |cons r t d=>cases g with|cons e f=>rw[r.F e,d f]
section
variable{X:a_}{pins:Ψ}{σ:aR}{H:ab}{s:ak}{a:W}{xs ys:List af}
noncomputable def bI.B{K:aY}(h:H a=V (.lst xs)):bI K H a xs:=.inl<|.inl h
noncomputable def fg.B{K:aY}(h:H a=V (.tup xs)):fg K H a xs:=.inl<|.inl h
def aA.list(I:aA X pins σ H s)(h:bI X.K H a xs):∃b:List aa,co xs b/\PlainL s.heap a b.toArray/\xs.length<=bD:=by
 rcases h with h|⟨o,b,n,c,d,f,g,i,r⟩
 ·obtain⟨z,b,n,r,e⟩:=h.F I.a
  exact(b,r,(_,n,e,O,O,O),z)
 ·refine(b.toList,r,(o,n,I.A5 a o c,d,f,by simpa using g),?_)
  have e:=r.B;simp only[gJ] at e;exact à (å e) i
noncomputable def aA.B(I:aA X pins σ H s)(h:fg X.K H a xs):∃b:List aa,co xs b/\kW s.heap a b.toArray/\xs.length<=bD:=by
 rcases h with h|⟨o,b,n,c,d,f,g,r⟩
 ·obtain⟨z,b,r,p⟩:=h.F I.a
  exact(b,r,p,z)
 ·refine(b.toList,r,(o,I.A5 a o c,d,n,by simpa using f),?_)
  have e:=r.B;simp only[gJ] at e;exact à (å e) g
def aA.A9(I:aA X pins σ H s)(h:bI X.K H a xs)(i:bI X.K H a ys):xs=ys:=by
 obtain⟨c,r,⟨o,n,e,_,_,d⟩,_⟩:=I.list h;obtain⟨b,j,⟨k,l,f,_,_,g⟩,_⟩:=I.list i;rw[e] at f;cases f;rw[d] at g;injection g with d1 _
 have:c=b:=by simpa using fj ck d1
 subst this;exact r.A4 j
def aA.A6(I:aA X pins σ H s)(h:fg X.K H a xs)(i:fg X.K H a ys):xs=ys:=by
 obtain⟨c,r,⟨o,e,_,n,d⟩,_⟩:=I.B h;obtain⟨b,j,⟨k,f,_,l,g⟩,_⟩:=I.B i;rw[e] at f;cases f;rw[d] at g;injection g with d1 _
 have:c=b:=by simpa using fj ck d1
 subst this;exact r.A4 j
end
noncomputable abbrev a_.J(X:a_)(E:Ω):a_:={X with a:=E}
noncomputable abbrev a_.M(X:a_):a_:=X.J λ_ _=>False
noncomputable def a_.F.J{X:a_}(a:X.F)(E:Ω):(X.J E).F:=
 (a.e,a.d,a.g,a.p,a.f,a.q,a.has,a.k,a.a,a.m,a.r,a.s,a.bs,a.h,a.i,a.n,a.j,a.l)
noncomputable def a_.F.B{X:a_}(a:(X.J E).F):X.F:=
 (a.e,a.d,a.g,a.p,a.f,a.q,a.has,a.k,a.a,a.m,a.r,a.s,a.bs,a.h,a.i,a.n,a.j,a.l)
section
variable{X:a_}{pins:Ψ}{σ:aR}{H:ab}{s:ak}{E:Ω}
def aA.D4(I:aA X pins σ H s)(E:Ω):aA (X.J E) pins σ H s:=(I.b.J E,I.k,I.d,I.base,I.e,I.g,I.h,I.j,I.f,I.a,I.l)
def aA.B1(I:aA (X.J E) pins σ H s):aA X pins σ H s:=(I.b.B,I.k,I.d,I.base,I.e,I.g,I.h,I.j,I.f,I.a,I.l)
noncomputable def xM.B(h:xM (X.J E) pins D f c):xM X pins D f c:=by
 cases f with
 |next=>obtain⟨a,b,I,q⟩:=h;exact(a,b,I.B1,q)
 |brk=>obtain⟨a,b,I,q⟩:=h;exact(a,b,I.B1,q)
 |cont=>obtain⟨a,b,I,q⟩:=h;exact(a,b,I.B1,q)
 |ret u=>obtain⟨v,a,b,I,r,q⟩:=h;exact(v,a,b,I.B1,r,q)
noncomputable def kJ.B{t:gC}(h:kJ X.M a t):kJ X a t:=λpins s σ H D I b=>
 kB (h pins s σ H D (I.D4 _) b) (λ_ _ q=>q.B) λ_ _ z=>hX z
end
section
variable{X:a_}{st:cJ}{rest:List cJ}{t u:gC}{e:bz}{te:bd}{pos:ci}
def Vq:gC:=λD a H=>D.a a H
def Ly(t u:gC):gC:=λD a H=>t {D with a:=u D} a H
def fV:kJ X [] Vq:=λ_ _ a H _ I h=>IJ (a,H,I,h)
def bj(c:lG X st t)(d:kJ X rest u):kJ X (st::rest) (Ly t u):=by
 intro a s e H D I h;refine ae6<|bH (c a s e H {D with a:=u D} I h) λf g q=>?_;cases f with
 |next=>
  obtain⟨b,i,j,q⟩:=q;exact d a g b i D j q
 |ret v=>exact q
 |brk=>exact q
 |cont=>exact q
def bF(b:lG X st t):kJ X [st] t:=by
 intro a s c H D I h;refine ae6<|bH (b a s c H D I h) λf d q=>?_;cases f with
 |next=>exact IJ q
 |ret v=>exact q
 |brk=>exact q
 |cont=>exact q
def VE:gC:=λD a H=>D.b a H
def VS:lG X (.Break pos) VE:=λ_ _ a H _ I h=>wpAny_Break (a,H,I,h)
def aA.C7{a:Ψ}{b:aR}{s:ak}(I:aA X a b H s):interactive X.env=aB:=by simp[interactive,I.b.d]
def Vz(te:bd):gC:=λD a H=>te a H λ_ b=>D.a a b
def mR(c:bG X e te)(d:wq e Y pos.line X.env=aX aB:=by rfl):lG X (.Expr e pos) (Vz te):=by
 intro a s b H D I h;exact wpAny_Expr_any (bH (c a s b H _ I h) λv j (x,f,g,k,i)=>(b,f,g,i)) I.C7 d
def Vn(te:bd):gC:=λD a H=>te a H D.d
def cX(c:bG X e te):lG X (.Return (V e) pos) (Vn te):=by
 intro a s b H D I h;exact wpAny_Return_some<|bH (c a s b H _ I h) λv j (x,d,f,g,i)=>(x,b,d,f,g,i)
def Vx(c:dO)(t u:gC):gC:=λD a H=>c a H λb d=>if b=ae then t D a d else u D a d
def fL{a b:List cJ}(m:lF X c g)(n:kJ X a t)(o:kJ X b u):lG X (.If c a b pos) (Vx g t u):=by
 intro e s f H D I h;refine wpAny_If<|bH (m e s f H _ I h) λd i (j,k,l)=>?_;cases d with
 |true=>exact n e i f j D k l
 |false=>exact o e i f j D k l
def Vr:gC:=λ_ _ _=>False
def ET:kJ X a Vr:=λ_ _ _ _ _ _ h=>h.elim
end
abbrev gD:=af->aR->ab->(aR->ab->Prop)->Prop
abbrev tJ:=List af->aR->ab->(aR->ab->Prop)->Prop
def lH(X:a_)(a:bz)(t:gD):Prop:=
 ∀(b:Ψ)(s:ak)(d:aR)(H:ab)(v:af)(u:aa)(Q:aR->ab->Prop),aA X b d H s->cg v u->t v d H Q->
  ax 3#0 X.A (wv a X.env u) (λ_ f=>∃c e,aA X b c e f/\Q c e) X.a s
def AC(X:a_)(g:List bz)(t:tJ):Prop:=
 ∀(a:Ψ)(s:ak)(c:aR)(H:ab)(d:List af)(e:List aa)(Q:aR->ab->Prop),aA X a c H s->co d e->t d c H Q->
  ax 3#0 X.A (assignInOrder ((yU g X.env).map (·.2)) e) (λ_ h=>∃b f,aA X a b f h/\Q b f) X.a s
abbrev FK:=af->af->af->ab->(ab->Prop)->Prop
def NO(X:a_)(t:FK):Prop:=
 ∀(a:Ψ)(s:ak)(b:aR)(H:ab)(o i v:af)(c d u:aa)(Q:ab->Prop),aA X a b H s->cg o c->cg i d->cg v u->t o i v H Q->
  ax 3#0 X.A (setItem c d u) (λ_ f=>∃e,aA X a b e f/\Q e) X.a s
section
variable{X:a_}{pos:ci}
def dw(i:Nat):gD:=λv a H Q=>Q (a.set i<|V v) H
def cx{i:Nat}(b:X.N.Nodup)(c:X.N[i]?=V x)(d:rM X.env.scope x)(e:X.f x=ae\/X.env.scope.names.lookup x=V .local:=by first|exact .inl rfl|exact .inr rfl|assumption):lH X (.Name x pos) (dw i):=by
 intro a s g H v u Q I r h;exact ae9<|LH I b c d r (λj f=>(_,H,f,h)) e
def Ar:tJ:=λa b H Q=>a=[]/\Q b H
def tF(t:gD)(u:tJ):tJ:=λb c H Q=>∃v r,b=v::r/\t v c H λa d=>u r a d Q
def xu:AC X [] Ar:=by
 intro a s b H c d Q I r h;obtain⟨e,h⟩:=h;subst e;cases r;exact assignInOrder_nil (b,H,I,h)
def pG{b:List bz}{t:gD}(d:lH X e t)(f:AC X b u)(g:(yU (e::b) X.env).map (·.2)=wv e X.env::(yU b X.env).map (·.2):=by rfl):AC X (e::b) (tF t u):=by
 intro a s i H p q Q I r h;obtain⟨v,w,j,h⟩:=h;subst j;cases r with
 |cons r k=>
  rw[g];refine assignInOrder_cons<|bH (d a s i H _ _ _ I r h) λ_ l (c,m,n,o)=>?_;exact f a l c m _ _ Q n k o
def Aq(K:aY)(n:Nat)(t:tJ):gD:=λv c H Q=>∃a b,v=.ref a/\fg K H a b/\b.length=n/\t b c H Q
def xx{k:Nat}{t:tJ}{n:Nat}(l:X.b=ae)(h:AC X d t)(m:(yU d X.env).length=n:=by rfl)(f:(yU d X.env).findIdx? (·.1)=Y:=by rfl):lH X (.Tuple d k pos) (Aq X.K n t):=by
 intro c s i H v u Q I r g;obtain⟨a,p,q,w,x,g⟩:=g;subst q;cases r;obtain⟨y,j,z,E⟩:=I.B w;refine assign_Tuple_tuple (I.b.a l) z (by simp[m,<-x,j.B]) f λA C=>?_;have D:aA X c i H {s with heap:=A}:=I.J (t':=s.toks) λb o e=>C b o (cM<|cy e) e;exact h c _ i H p _ Q D 6#j g
def Xi(b c:bd)(t:FK):gD:=λv a H Q=>b a H λo d=>c a d λi e=>t o i v e λf=>Q a f
def Mu{o i:bz}{t:FK}(g:bG X o e)(j:bG X i f)(k:NO X t)(l:∀v,wv (.Subscript o i pos) X.env v=(do
   let b <-sy [v] (dN o X.env)
   let c <-sy [v,b] (dN i X.env)
   standAt pos
   sy [v,b,c] (setItem b c v)
   release [v,b,c] []):=by intro _;rfl):lH X (.Subscript o i pos) (Xi e f t):=by
 intro a s d H v u Q I r h;rw[l];refine ag<|fO<|bH (g a s d H _ I h) λb m (x,n,p,q,w)=>?_;refine ag<|fO<|bH (j a m d n _ p w) λc z (y,A,C,D,E)=>?_;refine ag<|QU<|ag<|fO<|bH (k a z d A x y v b c u _ C q D r E) λ_ M (G,K,L)=>?_;exact wpAny_release (d,G,K,L)
def vg(b:bd)(g:gD):gC:=λD a H=>b a H λx c=>g x a c D.a
def Mn{b e:bz}(f:bG X e c)(i:lH X b g)(j:swapsWithSole [b] e pos.line X.env=aX aB:=by rfl)(hw:swappedStores [b] e X.env=aX Y:=by rfl)(k:(yU [b] X.env).map (·.2)=[wv b X.env]:=by rfl):lG X (.Assign [b] e pos) (vg c g):=by
 intro a s d H D I h;refine wpAny_Assign_stores (bH (f a s d H _ I h) λv l (x,m,n,o,p)=>?_) j hw;rw[k];exact bH (i a l d m x v _ n o p) λ_ r q=>q
def cq{i:Nat}(d:X.N.Nodup)(f:X.N[i]?=V x)(g:rM X.env.scope x)(j:bG X e c)(k:wq e (V<|.Name x a) pos.line X.env=aX aB:=by rfl)(l:X.f x=ae\/X.env.scope.names.lookup x=V .local:=by first|exact .inl rfl|exact .inr rfl|assumption):lG X (.Assign [.Name x a] e pos) (vg c<|dw i):=by
 intro b s m H D I h;refine wpAny_Assign_Name (bH (j b s m H _ I h) λv t (y,n,o,p,q)=>?_) k;exact LH o d f g p (λu r=>(_,n,r,q)) l
end
section
variable{X:a_}{pos:ci}
def Vj(c:dO)(h:gC):gC:=λD a H=>∃i:Nat->aR->ab->Prop,(∃m,i m a H)/\∀m a H,i m a H->
 c a H λb e=>if b=ae then ∃j:aR->ab->Prop,(∀d f,j d f->∃g,g<m/\i g d f)/\h {D with a:=j,c:=j,b:=D.a} a e else D.a a e
def EU{body:List cJ}{t:dO}(w:PassesOwn 3#0 X.A X.env X.a)(E:lF X c t)(G:kJ X body u):lG X (.While c body [] pos) (Vj t u):=by
 intro a s K H D I h;obtain⟨a0,⟨L,M⟩,g⟩:=h;refine wpAny_While<|codeAny_whileLoop (λn P=>∃i x,aA X a i x P/\a0 n i x) ?_ L (K,H,I,M);rintro n Q ⟨e,y,R,S⟩;refine wo w<|bH (E a Q e y _ R<|g n e y S) λb T (z,A,k)=>?_;cases b with
 |true=>
  obtain⟨a1,C,k⟩:=k;rw[av O];refine wo w<|bH (G a T e z _ A k) λf U l=>?_;cases f with
  |next=>
   obtain⟨d,j,m,o⟩:=l;obtain⟨p,q,r⟩:=C d j o;exact(p,q,d,j,m,r)
  |cont=>
   obtain⟨d,j,m,o⟩:=l;obtain⟨p,q,r⟩:=C d j o;exact(p,q,d,j,m,r)
  |brk=>exact l
  |ret v=>exact l
 |false=>
  rw[am dY];exact IJ (e,z,A,k)
end
structure jh where
 b:Nat->ab->Prop
 c:Nat->ab->af->ab->Prop
 a:Nat->ab->Prop
def fF(X:a_)(a:Ψ)(H:ab)(b:W):Prop:=
 H b=Y/\b≠X.env.locals/\b∉X.B/\(b∈X.e\/X.d⁻¹<=b)/\(∀x c,X.env.cells.lookup x=V c->c≠b)/\∀p∈X.g++a,p.1≠b
def aA.A0{a:Ψ}{g:aR}{H f:ab}{s:ak}{b:W}(I:aA X a g H s)(d:s⁻¹<=b)(h:f b=Y):fF X a f b:=by
 refine(h,jx<|fI I.lt d,I.C8 d,.inr<|dq I.sz d,λx c e z=>?_,λp i z=>?_)
 ·obtain⟨v,q⟩:=I.g x c e
  exact bh (fI q.lt (by rw[z];exact d))<|nQ _
 ·exact bh (fI (cy (I.f p i).1) (by rw[z];exact d))<|nQ _
structure pL(P:bu)(w:bf)(K:aY)(tg:bz)(J:jh)(fp:List W)(it:W)(tn:Nat->aW->Prop):Prop where
 f:it∈fp
 a:∀i h,tn i h->∀b∈fp,∃o,h.get? b=V o/\∀v,o.data≠.cell v
 c:∀i h h',tn i h->(∀b∈fp,∀o,h.get? b=V o->h'.get? b=V o)->tn i h'
 d:∀(X:a_),X.prog=P->X.w=w->X.K=K->X.b=ae->∀(i:Nat)(pins:Ψ)(s:ak)(σ:aR)(H:ab)(E:Ω),aA X pins σ H s->(∀b∈fp,fF X pins H b)->tn i s.heap->J.b i H->
  ax (aH P w) X.A (iV<|.ref it) (λr s1=>∃u,r=V u/\
   ax (aH P w) X.A (Rp tg 5#it u) (λ_ s2=>∃x H',aA X pins σ H' s2/\cg x u/\J.c i H x H'/\tn (i+1) s2.heap/\∀b∈fp,H' b=Y) E s1) E s
 done:∀(X:a_),X.prog=P->X.w=w->X.K=K->X.b=ae->∀(i:Nat)(pins:Ψ)(s:ak)(σ:aR)(H:ab)(E:Ω),aA X pins σ H s->(∀b∈fp,fF X pins H b)->tn i s.heap->J.a i H->
  ax (aH P w) X.A (iV<|.ref it) (λr s1=>r=Y/\aA X pins σ H s1) E s
 e:∀(A:bO)(i:Nat)(s:ak)(Q:Ω)(E:Ω),tn i s.heap->Q 5#it s->ax (aH P w) A (qU<|.ref it) Q E s
abbrev jE:=aR->ab->(jh->ab->Prop)->Prop
def FO(X:a_)(a:Ψ)(i:aR)(j:bz)(R:jh->ab->Prop)(c:aa)(e:ak):Prop:=
 ∃(f:W)(g:List W)(h:Nat->aW->Prop)(k:jh)(d:ab),c=.ref f/\aA X a i d e/\pL X.prog X.w X.K j k g f h/\h 0 e.heap/\(∀b∈g,fF X a d b)/\R k d
def jU(X:a_)(d b:bz)(e:jE):Prop:=
 ∀(a:Ψ)(s:ak)(c:aR)(H:ab)(R:jh->ab->Prop),aA X a c H s->e c H R->
  ax 3#0 X.A (dN b X.env) (λv f=>ax 3#0 X.A (qU v) (FO X a c d R) X.a f) X.a s
def vt{M:zc}{s:ak}{b:bz}{n:String}{Q:Unit->ak->Prop}(e:s.heap.get? c=V o)(f:o.cls=.type n)(g:o.data=.fields d)(i:["enumerate","zip","dict_itemiterator","dict_reverseitemiterator","odict_iterator","itertools.zip_longest","itertools.pairwise"].contains n=aB)(a:Q () s):ax M A (Rp b 5#c u) Q E s:=by
 unfold Rp;cases b<;>first
  |exact aG a
  |(cases u<;>first
    |exact aG a
    |(refine ag<|wpAny_load e ?_;rw[f,g];show ax M A (if(["enumerate","zip","dict_itemiterator","dict_reverseitemiterator","odict_iterator","itertools.zip_longest","itertools.pairwise"].contains n&&d[0]?==V (fP _))=ae then _ else _) Q E s;rw[am (by intro h;rw[i,Ko] at h;cases h)];exact aG a))
noncomputable def gY(K:aY)(a:W):jh:=
 (λi H=>∃b x,bI K H a b/\b[i]?=V x,λi H x c=>c=H/\∀b,bI K H a b->b[i]?=V x,λi H=>∃b,bI K H a b/\b.length<=i)
noncomputable def tM(K:aY)(a:W):jh:=
 (λi H=>∃b x,fg K H a b/\b[i]?=V x,λi H x c=>c=H/\∀b,fg K H a b->b[i]?=V x,λi H=>∃b,fg K H a b/\b.length<=i)
noncomputable def jX(a:Int)(n:Nat):jh:=(λi _=>i<n,λi H x b=>b=H/\x=.int (a+i),λi _=>n<=i)
def Ve{K:aY}(a j:W):pL P w K tg (gY K a) [j] j (λi h=>h.IsListIter j a i) where
 f:=by simp
 a:=λi h f b l=>by
  have e:b=j:=by simpa using l
  subst e;obtain⟨o,e,c,d⟩:=f;exact(o,e,λv z=>by rw[d] at z;cases z)
 c:=λi h n f k=>f.at λo e=>k j 0#0 o e
 d:=by
  intro X t y A U i g s σ H E I q f C;subst t y A;obtain⟨xs,x,r,D⟩:=C;obtain⟨G,L,p,hz⟩:=I.list r;obtain⟨u,hu,ru⟩:=L.F D;obtain⟨M,Q,f2,R,S,T⟩:=q j 0#0;refine wpAny_pyNext_list_item f p.isList (x:=u) 6#hu λn m sb=>?_;have I1:aA X g σ H {s with heap:=n}:=I.A1 (t':=s.toks) (λb o l e=>(sb.2 b l).trans e) M Q R S T;obtain⟨o,e,c,d⟩:=id m;exact(u,O,vt (s:={s with heap:=n}) e c d ξ (x,H,I1,ru,(O,λys hy=>by rw[I.A9 hy r];exact D),m,λb l=>(q b l).1))
 done:=by
  intro X t y A U i g s σ H E I q f C;subst t y A;obtain⟨xs,r,D⟩:=C;obtain⟨G,L,p,hz⟩:=I.list r;obtain⟨M,Q,f2,R,S,T⟩:=q j 0#0;have hl:=L.B;exact wpAny_pyNext_list_end (I.b.a U) f p.isList (by simp;exact à (æ hl) D) λn eb=>(O,I.A1 (t':=s.toks) (λb o l e=>eb b o l e) M Q R S T)
 e:=λ_ _ _ _ _ f h=>wpAny_pyIter_listiter f h
def Vc{K:aY}(a j:W):pL P w K tg (tM K a) [j] j (λi h=>h.IsTupleIter j a i) where
 f:=by simp
 a:=λi h f b l=>by
  have e:b=j:=by simpa using l
  subst e;obtain⟨o,e,c,d⟩:=f;exact(o,e,λv z=>by rw[d] at z;cases z)
 c:=λi h q f k=>f.at λo e=>k j 0#0 o e
 d:=by
  intro X y A C U i g s σ H E I r f D;subst y A C;obtain⟨xs,x,t,G⟩:=D;obtain⟨m,L,p,hz⟩:=I.B t;obtain⟨u,hu,ru⟩:=L.F G;obtain⟨M,Q,f2,R,S,T⟩:=r j 0#0;refine wpAny_pyNext_tuple_item f (show s.heap.IsTuple a m.toArray from p) (x:=u) 6#hu λq n sb=>?_;have I1:aA X g σ H {s with heap:=q}:=I.A1 (t':=s.toks) (λb o l e=>(sb.2 b l).trans e) M Q R S T;obtain⟨o,e,c,d⟩:=id n;exact(u,O,vt (s:={s with heap:=q}) e c d ξ (x,H,I1,ru,(O,λys hy=>by rw[I.A6 hy t];exact G),n,λb l=>(r b l).1))
 done:=by
  intro X y A C U i g s σ H E I r f D;subst y A C;obtain⟨xs,t,G⟩:=D;obtain⟨m,L,p,hz⟩:=I.B t;obtain⟨M,Q,f2,R,S,T⟩:=r j 0#0;have hl:=L.B;exact wpAny_pyNext_tuple_end (I.b.a U) f (show s.heap.IsTuple a m.toArray from p) (by simp;exact à (æ hl) G) λq eb=>(O,I.A1 (t':=s.toks) (λb o l e=>eb b o l e) M Q R S T)
 e:=λ_ _ _ _ _ f h=>wpAny_pyIter_tupleiter f h
def Vd{K:aY}(c:W)(j:Int)(n:Nat):pL P w K Q (jX j n) [c] c (λi h=>IsRangeIter h c (j+(i:Nat)*1) ((n:Int)-(i:Nat)) 1) where
 f:=by simp
 a:=λi h a b f=>by
  have e:b=c:=by simpa using f
  subst e;exact(_,a,λv z=>by
   have R:dc _=uB v:=z;cases R)
 c:=λi h l a k=>k c 0#0 _ a
 d:=by
  intro X p q r u i d s L H E I m a x;subst p q r;obtain⟨y,A,S,C,D,G⟩:=m c 0#0;have a0:=Walks.range (prog:=X.prog) (w:=X.w) (I.b.a u) c j 1 n;refine a0.item i s _ _ x a λv l M T g U=>?_;obtain⟨t,rfl⟩:=T;have I1:aA X d L H {s with heap:=l,toks:=M}:=I.A1 (λb o f e=>U b o 6#f e) y A C D G;refine(_,O,vt (s:={s with heap:=l,toks:=M}) (n:="range_iterator") g O O ξ (.int<|j+i,H,I1,(t,?_),(O,O),g,λb f=>(m b f).1));rw[ajb]
 done:=by
  intro X p q r u i d s L H E I m a x;subst p q r;obtain⟨y,A,S,C,D,G⟩:=m c 0#0;exact wpAny_pyNext_range_end (I.b.a u) a (by have:n<=i:=x;omega) λl eb=>(O,I.A1 (t':=s.toks) (λb o f e=>eb b o f e) y A C D G)
 e:=λ_ _ _ _ _ a h=>wpAny_pyIter_rangeiter a h
section
variable{X:a_}{tg:bz}
inductive NH(K:aY)(x:af)(R:jh->ab->Prop)(H:ab):Prop
 |b:∀a,(x=.ref a)->(∃xs,bI K H a xs)->R (gY K a) H->NH K x R H
def Fw(K:aY)(a:bd):jE:=λb H R=>a b H λx c=>NH K x R c
def WX(K:aY)(c:bd):jE:=λd H R=>c d H λx b=>∃a,x=.ref a/\(∃e,fg K b a e)/\R (tM K a) b
def eO(i:bG X l g):jU X tg l (Fw X.K g):=by
 intro c s j H R I h;refine bH (i c s j H _ I h) λv d (x,k,f,m,n)=>?_;obtain⟨a,e,⟨w,r⟩,q⟩:=n;subst e;cases m;obtain⟨t,y,p,z⟩:=f.list r;refine ui p.isList ?_;refine(d⁻¹,[d⁻¹],_,_,k,O,f.J (t':=d.toks) λb o e=>bQ _ e,Ve a _,(_,dg _ O,O,O),λb u=>?_,q);have e:b=d⁻¹:=by simpa using u
 subst e;exact f.A0 (aV _)<|f.a.B<|aV _
def EW{i:bd}(j:bG X l i):jU X tg l (WX X.K i):=by
 intro c s k H R I h;refine bH (j c s k H _ I h) λv d (x,m,f,n,r)=>?_;obtain⟨a,e,⟨w,t⟩,q⟩:=r;subst e;cases n;obtain⟨g,y,p,z⟩:=f.B t;refine QX (show d.heap.IsTuple a g.toArray from p) ?_;refine(d⁻¹,[d⁻¹],_,_,m,O,f.J (t':=d.toks) λb o e=>bQ _ e,Vc a _,(_,dg _ O,O,O),λb u=>?_,q);have e:b=d⁻¹:=by simpa using u
 subst e;exact f.A0 (aV _)<|f.a.B<|aV _
def LS{s:ak}{R:jh->ab->Prop}{a c:Int}{t u v:hU}{g:Nat}(I:aA X d f H s)(i:-(2 ^ 62)<=a)(j:a<2 ^ 62)(k:-(2 ^ 62)<=c)(l:c<2 ^ 62)(q:R (jX a (c-a).toNat) H):ax 3#0 X.A (qU<|.ref s⁻¹) (FO X d f tg R) E {s with heap:=s.heap.push {cls:=.type "range",data:=.fields #[.int a t,.int c u,.int 1 v]},toks:=g}:=by
 refine wpAny_pyIter_range (IsRange.new ..) (small_one i j k l) ?_;have h:aA X d f H {s with heap:=s.heap.push {cls:=.type "range",data:=.fields #[.int a t,.int c u,.int 1 v]},toks:=g}:=I.J λb o e=>bQ _ e;refine((s.heap.push {cls:=.type "range",data:=.fields #[.int a t,.int c u,.int 1 v]}).objs.size,[(s.heap.push {cls:=.type "range",data:=.fields #[.int a t,.int c u,.int 1 v]}).objs.size],_,_,H,O,
  h.J (t':=g) λb o e=>bQ _ e,Vd _ a (c-a).toNat,?_,λb m=>?_,q)
 ·have n:a+((0:Nat):Int)*1=a:=by simp
  have p:(((c-a).toNat:Nat):Int)-((0:Nat):Int)=ak7 a c 1:=by rw[rangeSize_one];split<;>omega
  show IsRangeIter _ _ (a+((0:Nat):Int)*1) ((((c-a).toNat:Nat):Int)-((0:Nat):Int)) 1;rw[n,p];exact dg _ O
 ·have e:b=(s.heap.push {cls:=.type "range",data:=.fields #[.int a t,.int c u,.int 1 v]}).objs.size:=by simpa using m
  subst e;exact h.A0 (aV _)<|h.a.B<|aV _
inductive NF(vs:List af)(R:jh->ab->Prop)(H:ab):Prop
 |a:∀j:Int,(vs=[.int j])->(-(2 ^ 62)<=j)->(j<2 ^ 62)->R (jX 0 j.toNat) H->NF vs R H
def MR(a:fY):jE:=λb H R=>a b H λc d=>NF c R d
def W_(a:fY):jE:=λb H R=>a b H λc d=>∃i j:Int,c=[.int i,.int j]/\(-(2 ^ 62)<=i/\i<2 ^ 62/\-(2 ^ 62)<=j/\j<2 ^ 62)/\R (jX i (j-i).toNat) d
def ou{a:bz}{p b:ci}(g:lI X "range")(i:X.mg "range"=Y)(k:ku X [a] f)(l:fu [a] X.env=[(aez aB (dN a X.env))]:=by rfl):jU X tg (.Call (.Name "range" p) [a] [] b) (MR f):=by
 intro c s m H R I h;refine Call_<|qr I g i boot_range<|Do (bH (k b c s m H _ I h) λw x (y,z,n,o,d)=>?_) l O;obtain⟨j,e,d,u,q⟩:=d;subst e;cases o with
 |cons r v=>
  cases v;obtain⟨t,rfl⟩:=r;exact call_range_1<|LS n ω ω d u 6#q
def EX{a b:bz}{p c:ci}(m:lI X "range")(n:X.mg "range"=Y)(o:ku X [a,b] l)(u:fu [a,b] X.env=[(aez aB (dN a X.env)),(aez aB (dN b X.env))]:=by rfl)(d:fu [b] X.env=[(aez aB (dN b X.env))]:=by rfl):jU X tg (.Call (.Name "range" p) [a,b] [] c) (W_ l):=by
 intro f s v H R I h;refine Call_<|qr I m n boot_range<|Do (bH (o c f s v H _ I h) λD E (G,K,w,x,g)=>?_) (by rw[u,d]) (by rw[d];rfl);obtain⟨i,j,e,⟨g,y,z,A⟩,q⟩:=g;subst e;cases x with
 |cons r k=>
  cases k with
  |cons C k=>
   cases k;obtain⟨t,rfl⟩:=r;obtain⟨L,rfl⟩:=C;exact call_range_2<|LS w g y z A q
def Vy(f:jE)(g:gD)(h:gC):gC:=λD a H=>f a H λl j=>∃n:Nat->Nat->aR->ab->Prop,(∃m,n 0 m a j)/\∀i m a H,n i m a H->
 (l.a i H/\D.a a H)\/(l.b i H/\∃o:aR->ab->Prop,(∀b c,o b c->∃e,e<m/\n (i+1) e b c)/\∀x c,l.c i H x c->g x a c λd k=>h {D with a:=o,c:=o,b:=D.a} d k)
noncomputable def xt(a:List W)(h:aW):Ψ:=a.filterMap λb=>(h.get? b).map λo=>(aez b o)
def Am{a:List W}{h:aW}{b:W}(c:b∈a)(e:h.get? b=V o):(aez b o)∈xt a h:=JS.mpr (b,c,by rw[e];rfl)
def Wp{p:W×bg}(c:p∈xt a h):p.1∈a/\h.get? p.1=V p.2:=by
 obtain⟨b,d,e⟩:=JS.mp c;cases q:h.get? b with
 |none=>rw[q] at e;cases e
 |some o=>
  rw[q] at e;have f:(aez b o)=p:=bM e;subst f;exact(d,q)
def aA.C6{a:Ψ}{f:aR}{s:ak}{c:List W}(I:aA X a f H s)(i:∀b∈c,fF X a H b)(j:∀b∈c,∃o,s.heap.get? b=V o/\∀v,o.data≠.cell v):aA X (a++xt c s.heap) f H s:=
 I.C0 λp k=>(dt.mp k).elim (λz=>I.f p<|jO _ z) λz=>by
  obtain⟨g,e⟩:=Wp z;obtain⟨l,m,n,_⟩:=i p.1 g;obtain⟨o,h,d⟩:=j p.1 g;rw[e] at h;cases h;exact(e,l,m,n,d)
def aA.B4{a c:Ψ}{b:aR}{s:ak}(I:aA X (a++c) b H s):aA X a b H s:=I.C0 λp d=>I.f p<|jO _<|kF _ d
def gz{j:bz}{body:List cJ}(E:PassesOwn 3#0 X.A X.env X.a)(hc:X.b=ae)(hi:jU X tg j wi)(hg:lH X tg g)(k:kJ X body tb)(hs:∀x,sB j X.env x=aX x:=by intro _;rfl):lG X (.For tg j body [] U) (Vy wi g tb):=by
 intro a s σ H D I h;refine wpAny_For (bH (hi a s σ H _ I h) λv s1 h1=>bH h1 λa4 s2 h2=>?_) hs;obtain⟨it,G,tn,a5,H2,e,I2,T,a0,f2,a6,⟨m0,w0⟩,K⟩:=h2;subst e;have l:∀{z:ab},(∀b∈G,z b=Y)->∀b∈G,fF X a z b:=λhn b k=>(hn b k,(f2 b k).2);refine codeAny_forLoop_any (λn s'=>∃i p z,aA X a p z s'/\tn i s'.heap/\(∀b∈G,z b=Y)/\a6 i n p z) ?_ m0 (0,σ,H2,I2,a0,λb k=>(f2 b k).1,w0);rintro n s3 ⟨i,q,S,I3,L,M,w3⟩;rcases K i n q S w3 with ⟨P,qn⟩|⟨go,a7,hN,Q⟩
 ·refine wo E<|bH (T.done X O O O hc i a s3 q S X.a I3 (l M) L P) λr s4 (hr,I4)=>?_
  subst hr;exact IJ (q,S,I4,qn)
 ·refine wo E<|bH (T.d X O O O hc i a s3 q S X.a I3 (l M) L go) λr s4 (u,hr,h4)=>?_
  subst hr;refine wo E<|bH h4 λ_ s5 (x,H5,I5,r5,y5,C,a1)=>?_;have a2:=I5.C6 (l a1)<|T.a _ _ C;refine wo E<|bH (hg _ s5 q H5 x u _ a2 r5<|Q x H5 y5) λ_ s6 (a3,H6,I6,q6)=>?_;refine wo E<|bH (k _ s6 a3 H6 _ I6 q6) λf s7 A=>?_;have t:∀{c:aR}{w:ab},aA X (a++xt G s5.heap) c w s7->a7 c w->∃m,m<n/\∃i p z,aA X a p z s7/\tn i s7.heap/\(∀b∈G,z b=Y)/\a6 i m p z:=λ{c w} y R=>by
   obtain⟨m',hm,w7⟩:=hN c w R;refine(m',hm,i+1,c,w,y.B4,T.c _ _ _ C λb k o e=>(y.f (aez b o)<|jO _<|jO _<|Am k e).1,λb k=>?_,w7);obtain⟨o,e,d⟩:=T.a _ _ C b k;exact(y.f (aez b o)<|jO _<|jO _<|Am k e).2.1
  cases f with
  |next=>obtain⟨c,w,y,R⟩:=A;exact t y R
  |cont=>obtain⟨c,w,y,R⟩:=A;exact t y R
  |brk=>obtain⟨c,w,y,A⟩:=A;exact(c,w,y.B4,A)
  |ret v=>obtain⟨x7,c,w,y,r7,A⟩:=A;exact(x7,c,w,y.B4,r7,A)
end
def me{K:aY}{xs:List af}{g:gD}{l:gC}{D:oE}{b:aR}(c:Nat->aR->ab->Prop)(o:c 0 b H)(r:∀i b H,i<=xs.length->c i b H->bI K H a xs)(s:∀i x b H,xs[i]?=V x->c i b H->g x b H λd k=>l {D with a:=c<|i+1,c:=c<|i+1,b:=D.a} d k)(t:∀b H,c xs.length b H->D.a b H):∃w:Nat->Nat->aR->ab->Prop,(∃m,w 0 m b H)/\∀i m b H,w i m b H->
   ((gY K a).a i H/\D.a b H)\/((gY K a).b i H/\∃z:aR->ab->Prop,(∀f h,z f h->∃n,n<m/\w (i+1) n f h)/\∀x h,(gY K a).c i H x h->g x b h λd k=>l {D with a:=z,c:=z,b:=D.a} d k):=by
 refine(λi m b H=>m=xs.length-i/\i<=xs.length/\c i b H,(xs.length,by simp,eY _,o),?_);rintro i m b H ⟨rfl,u,p⟩;have q:=r i b H u p
 by_cases j:i<xs.length
 ·refine .inr ((xs,xs[i],q,by simp[j]),c<|i+1,λf h v=>(xs.length-(i+1),ω,O,j,v),λx h y=>?_)
  obtain⟨e,y⟩:=y;subst e;exact s i x b _ (y xs q) p
 ·have e:i=xs.length:=(û u (ô j))
  subst e;exact .inl ((xs,q,aV _),t b H p)
def MX{K:aY}{xs:List af}{g:gD}{l:gC}{D:oE}{b:aR}(c:Nat->aR->ab->Prop)(o:c 0 b H)(r:∀i b H,i<=xs.length->c i b H->fg K H a xs)(s:∀i x b H,xs[i]?=V x->c i b H->g x b H λd k=>l {D with a:=c<|i+1,c:=c<|i+1,b:=D.a} d k)(t:∀b H,c xs.length b H->D.a b H):∃w:Nat->Nat->aR->ab->Prop,(∃m,w 0 m b H)/\∀i m b H,w i m b H->
   ((tM K a).a i H/\D.a b H)\/((tM K a).b i H/\∃z:aR->ab->Prop,(∀f h,z f h->∃n,n<m/\w (i+1) n f h)/\∀x h,(tM K a).c i H x h->g x b h λd k=>l {D with a:=z,c:=z,b:=D.a} d k):=by
 refine(λi m b H=>m=xs.length-i/\i<=xs.length/\c i b H,(xs.length,by simp,eY _,o),?_);rintro i m b H ⟨rfl,u,p⟩;have q:=r i b H u p
 by_cases j:i<xs.length
 ·refine .inr ((xs,xs[i],q,by simp[j]),c<|i+1,λf h v=>(xs.length-(i+1),ω,O,j,v),λx h y=>?_)
  obtain⟨e,y⟩:=y;subst e;exact s i x b _ (y xs q) p
 ·have e:i=xs.length:=(û u (ô j))
  subst e;exact .inl ((xs,q,aV _),t b H p)
def xH{lo:Int}{n:Nat}{g:gD}{k:gC}{D:oE}(b:Nat->aR->ab->Prop)(o:b 0 a H)(q:∀i a H,i<n->b i a H->g (.int<|lo+i) a H λc j=>k {D with a:=b<|i+1,c:=b<|i+1,b:=D.a} c j)(r:∀a H,b n a H->D.a a H):∃u:Nat->Nat->aR->ab->Prop,(∃m,u 0 m a H)/\∀i m a H,u i m a H->
   ((jX lo n).a i H/\D.a a H)\/((jX lo n).b i H/\∃v:aR->ab->Prop,(∀d f,v d f->∃l,l<m/\u (i+1) l d f)/\∀x f,(jX lo n).c i H x f->g x a f λc j=>k {D with a:=v,c:=v,b:=D.a} c j):=by
 refine(λi m a H=>m=n-i/\i<=n/\b i a H,(n,by simp,eY _,o),?_);rintro i m a H ⟨rfl,t,p⟩
 by_cases h:i<n
 ·refine .inr (h,b<|i+1,λd f s=>(n-(i+1),ω,O,h,s),λx f y=>?_)
  obtain⟨e,y⟩:=y;subst e y;exact q i a _ h p
 ·have e:i=n:=(û t (ô h))
  subst e;exact .inl (aV _,r a H p)
abbrev lE:=af->af->ab->aU->Prop
def fZ(X:a_)(f:aa->aa->eA aa)(r:lE):Prop:=
 ∀(a:Ψ)(s:ak)(b:aR)(H:ab)(x y:af)(v u:aa)(Q:aU),aA X a b H s->cg x v->cg y u->r x y H Q->
  ax 3#0 X.A (f v u) (ji X a b Q) X.a s
def FJ(X:a_)(f:aa->eA aa)(r:af->ab->aU->Prop):Prop:=
 ∀(a:Ψ)(s:ak)(b:aR)(H:ab)(x:af)(v:aa)(Q:aU),aA X a b H s->cg x v->r x H Q->
  ax 3#0 X.A (f v) (ji X a b Q) X.a s
def iS(X:a_)(f:aa)(r:List af->ab->aU->Prop):Prop:=
 ∀(a:Ψ)(s:ak)(b:aR)(H:ab)(c:List af)(d:List aa)(Q:aU),aA X a b H s->co c d->r c H Q->
  ax 3#0 X.A (im f d) (ji X a b Q) X.a s
def dk(r:lE)(b c:bd):bd:=λa H Q=>b a H λx d=>c a d λy e=>r x y e Q
def EE(r:af->ab->aU->Prop)(a:bd):bd:=λb H Q=>a b H λx c=>r x c Q
inductive lp(C:Int->Int->Prop)(g:Int->Int->af)(x:af)(y:af)(H:ab)(Q:aU):Prop
 |a:∀i j,(x=.int i)->(y=.int j)->(C i j)->(Q (g i j) H)->lp C g x y H Q
inductive jB(g:Int->Int->af)(x:af)(y:af)(H:ab)(Q:aU):Prop
 |a:∀i j,(x=.int i)->(y=.int j)->(Q (g i j) H)->jB g x y H Q
inductive xp(g:Int->af)(x:af)(H:ab)(Q:aU):Prop
 |a:∀i,(x=.int i)->(Q (g i) H)->xp g x H Q
section
variable{X:a_}{a b c:bz}{ta tb tc:bd}{pos:ci}
def FH(l:bG X a ta)(m:bG X b tb){c:Ψ}{s:ak}{R:af->af->ab->Prop}(I:aA X c d H s)(h:ta d H λx k=>tb d k λy e=>R x y e){f:aa->aa->eA aa}(n:∀v u j x y e,aA X c d e j->cg x v->cg y u->R x y e->ax 3#0 X.A (f v u) Q X.a j):ax 3#0 X.A (dN a X.env) (λv g=>ax 3#0 X.A (dN b X.env) (λu i=>ax 3#0 X.A (f v u) Q X.a i) X.a g) X.a s:=by
 refine bH (l c s d H _ I h) λv o (x,k,p,q,r)=>?_;refine bH (m c o d k _ p r) λu j (y,e,t,w,z)=>?_;exact n v u j x y e t q w z
def bW(e:fZ X (qX d) r)(f:bG X a ta)(g:bG X b tb):bG X (.BinOp a d b pos) (dk r ta tb):=by
 intro c s i H Q I h;exact wpAny_BinOp<|FH f g I h λv u j x y k l m n q=>e c j i k x y v u Q l m n q
def EZ{c:UnaryOp}(e:FJ X (unaryOp c) r)(f:bG X a ta):bG X (.UnaryOp c a pos) (EE r ta):=by
 intro b s d H Q I h;exact UnaryOp_<|bH (f b s d H _ I h) λv g (x,i,j,k,l)=>e b g d i x v Q j k l
def Ak{f:aa->aa->eA aa}{C:Int->Int->Prop}{g:Int->Int->Int}(a:∀(i j:Int)(t u:hU)(s:ak)(Q:Ω)(E:Ω),C i j->Q (.int (g i j) s.toks) {s with toks:=s.toks+1}->ax 3#0 X.A (f (.int i t)<|.int j u) Q E s):fZ X f (lp C λi j=>.int<|g i j):=by
 intro b s l H x y v u Q I c d h;obtain⟨i,j,rfl,rfl,e,q⟩:=h;obtain⟨t,rfl⟩:=c;obtain⟨k,rfl⟩:=d;exact a i j t k s _ _ e (.int<|g i j,H,I.N _,(_,O),q)
def ME{f:aa->aa->eA aa}{g:Int->Int->Int}(a:∀(i j:Int)(t u:hU)(s:ak)(Q:Ω)(E:Ω),Q (.int (g i j) s.toks) {s with toks:=s.toks+1}->ax 3#0 X.A (f (.int i t)<|.int j u) Q E s):fZ X f (jB λi j=>.int<|g i j):=by
 intro b s k H x y v u Q I c d h;obtain⟨i,j,rfl,rfl,q⟩:=h;obtain⟨t,rfl⟩:=c;obtain⟨e,rfl⟩:=d;exact a i j t e s _ _ (.int<|g i j,H,I.N _,(_,O),q)
def Al{f:aa->aa->eA aa}{g:Int->Int->Bool}(a:∀(i j:Int)(t u:hU)(s:ak)(Q:Ω)(E:Ω),Q (.bool<|g i j) s->ax 3#0 X.A (f (.int i t)<|.int j u) Q E s):fZ X f (jB λi j=>.c<|g i j):=by
 intro b s k H x y v u Q I c d h;obtain⟨i,j,rfl,rfl,q⟩:=h;obtain⟨t,rfl⟩:=c;obtain⟨e,rfl⟩:=d;exact a i j t e s _ _ (.c<|g i j,H,I,O,q)
def XX(i j:Int):Prop:=0<j/\j<1073741824
def NV(i j:Int):Prop:=0<=j/\j<=1000000/\i.natAbs<2 ^ 64
def rO(i j:Int):Prop:=(-(2 ^ 64)<i/\i<2 ^ 64)\/(-(2 ^ 64)<j/\j<2 ^ 64)
noncomputable def rO.B{i j:Int}(h:rO i j):IntMulOk i j:=by
 rcases h with ⟨a,b⟩|⟨a,b⟩
 ·exact .of_left<|intBits_le_64 a b
 ·exact .of_right<|intBits_le_64 a b
def iv:fZ X (qX .Add) (jB λi j=>.int<|i+j):=ME λ_ _ _ _ _ _ _ q=>add_int q
def mS:fZ X (qX .Sub) (jB λi j=>.int<|i-j):=ME λ_ _ _ _ _ _ _ q=>sub_int q
def mT:fZ X (qX .Mult) (lp rO λi j=>.int<|i*j):=Ak λ_ _ _ _ _ _ _ a q=>mul_int q a.B
def MD:fZ X (qX .FloorDiv) (lp XX λi j=>.int<|i / j):=Ak λi j _ _ _ _ _ a q=>by
 have b:(0:Int)<j:=a.1;have c:j<1073741824:=a.2;exact floordiv_int ω (by rw[Int.fdiv_eq_ediv_of_nonneg i ω];exact q)<|.inl<|PyProof.noPylong_small ω
def kH:fZ X (qX .Mod) (lp (λ_ j=>0<j) λi j=>.int<|i%j):=Ak λi j _ _ _ _ _ a q=>by
 have b:(0:Int)<j:=a;exact mod_int' ω (by rw[Int.fmod_eq_emod_of_nonneg i ω];exact q)
def Fc:fZ X (qX .Pow) (lp NV λi j=>.int<|i ^ j.toNat):=Ak λ_ _ _ _ _ _ _ a q=>pow_int_small a.1 a.2.1 a.2.2 q
def Va{f:aa->eA aa}{g:Int->Int}(a:∀(i:Int)(t:hU)(s:ak)(Q:Ω)(E:Ω),Q (.int (g i) s.toks) {s with toks:=s.toks+1}->ax 3#0 X.A (f<|.int i t) Q E s):FJ X f (xp λi=>.int<|g i):=by
 intro b s d H x v Q I c h;obtain⟨i,rfl,q⟩:=h;obtain⟨t,rfl⟩:=c;exact a i t s _ _ (.int<|g i,H,I.N _,(_,O),q)
def EC:FJ X (unaryOp .USub) (xp λi=>.int<|-i):=Va λ_ _ _ _ _ q=>neg_int q
end
noncomputable def LM:af->af->Bool
 |.non,.non=>ae|.non,.int _=>ae|.int _,.non=>ae|.non,.c _=>ae|.c _,.non=>ae|.non,.str _=>ae|.str _,.non=>ae
 |.int _,.int _=>ae|.c _,.c _=>ae|.str _,.str _=>ae|.byt _,.byt _=>ae
 |.int _,.str _=>ae|.str _,.int _=>ae|.c _,.str _=>ae|.str _,.c _=>ae
 |_,_=>aB
def qp:lE:=λx y H Q=>LM x y=ae/\Q (.c<|aE<|x=y) H
def EO:lE:=λx y H Q=>LM x y=ae/\Q (.c<|!aE (x=y)) H
def Nl{i j:Int}:aE (af.int i=af.int j)=(i==j):=by
 rw[uQ];simp
def Nn{i j:Bool}:aE (af.c i=af.c j)=(i==j):=by
 rw[uQ];simp
def Nk{i j:aq}:aE (af.str i=af.str j)=(i==j):=by
 rw[uQ];simp
def Nm{i j:Array UInt8}:aE (af.byt i=af.byt j)=(i.toList==j.toList):=by
 rw[uQ];cases i;cases j;simp
section
variable{X:a_}{a b c:bz}{ta tb tc:bd}{pos:ci}
def fy{a:Ψ}{b:aR}{s:ak}{Q:aU}{k c:Bool}(I:aA X a b H s)(q:Q (.c k) H)(e:k=c):ji X a b Q (.bool c) s:=by
 subst e;exact(.c k,H,I,O,q)
def jS:fZ X (iW .Eq) qp:=by
 intro e s f H x y v u Q I d a h;obtain⟨c,q⟩:=h;cases x with
 |non=>
  cases d;cases y with
  |non=>cases a;exact akq<|fy I q 0#0
  |c j=>cases a;exact aks<|fy I q 0#0
  |int j=>obtain⟨b,rfl⟩:=a;exact akr<|fy I q 0#0
  |str j=>obtain⟨b,rfl⟩:=a;exact akp<|fy I q 0#0
  |_=>exact bh (show aB=ae from c) dY
 |c i=>
  cases d;cases y with
  |non=>cases a;exact aku<|fy I q 0#0
  |c j=>cases a;exact eq_bool<|fy I q Nn
  |str j=>obtain⟨b,rfl⟩:=a;exact ak2<|fy I q 0#0
  |_=>exact bh (show aB=ae from c) dY
 |int i=>
  obtain⟨t,rfl⟩:=d;cases y with
  |non=>cases a;exact akt<|fy I q 0#0
  |int j=>obtain⟨b,rfl⟩:=a;exact eq_int<|fy I q Nl
  |str j=>obtain⟨b,rfl⟩:=a;exact ak1<|fy I q 0#0
  |_=>exact bh (show aB=ae from c) dY
 |str i=>
  obtain⟨t,rfl⟩:=d;cases y with
  |non=>cases a;exact ako<|fy I q 0#0
  |c j=>cases a;exact ak0<|fy I q 0#0
  |int j=>obtain⟨b,rfl⟩:=a;exact akz<|fy I q 0#0
  |str j=>obtain⟨b,rfl⟩:=a;exact eq_str<|fy I q Nk
  |_=>exact bh (show aB=ae from c) dY
 |byt i=>
  obtain⟨t,rfl⟩:=d;cases y with
  |byt j=>obtain⟨b,rfl⟩:=a;exact PySem.W.eq_bytes<|fy I q Nm
  |_=>exact bh (show aB=ae from c) dY
 |_=>cases y<;>exact bh (show aB=ae from c) dY
def rH:fZ X (iW .NotEq) EO:=by
 intro e s f H x y v u Q I d a h;obtain⟨c,q⟩:=h;cases x with
 |non=>
  cases d;cases y with
  |non=>cases a;exact akj<|fy I q 0#0
  |c j=>cases a;exact akl<|fy I q 0#0
  |int j=>obtain⟨b,rfl⟩:=a;exact akk<|fy I q 0#0
  |str j=>obtain⟨b,rfl⟩:=a;exact aki<|fy I q 0#0
  |_=>exact bh (show aB=ae from c) dY
 |c i=>
  cases d;cases y with
  |non=>cases a;exact akn<|fy I q 0#0
  |c j=>cases a;exact ne_bool<|fy I q<|fj not Nn
  |str j=>obtain⟨b,rfl⟩:=a;exact aky<|fy I q 0#0
  |_=>exact bh (show aB=ae from c) dY
 |int i=>
  obtain⟨t,rfl⟩:=d;cases y with
  |non=>cases a;exact akm<|fy I q 0#0
  |int j=>obtain⟨b,rfl⟩:=a;exact ne_int<|fy I q<|fj not Nl
  |str j=>obtain⟨b,rfl⟩:=a;exact akx<|fy I q 0#0
  |_=>exact bh (show aB=ae from c) dY
 |str i=>
  obtain⟨t,rfl⟩:=d;cases y with
  |non=>cases a;exact akh<|fy I q 0#0
  |c j=>cases a;exact akw<|fy I q 0#0
  |int j=>obtain⟨b,rfl⟩:=a;exact akv<|fy I q 0#0
  |str j=>obtain⟨b,rfl⟩:=a;exact ne_str<|fy I q<|fj not Nk
  |_=>exact bh (show aB=ae from c) dY
 |byt i=>
  obtain⟨t,rfl⟩:=d;cases y with
  |byt j=>obtain⟨b,rfl⟩:=a;exact PySem.W.ne_bytes<|fy I q<|fj not Nm
  |_=>exact bh (show aB=ae from c) dY
 |_=>cases y<;>exact bh (show aB=ae from c) dY
def Aj:fZ X (iW .Lt) (jB λi j=>.c<|aE<|i<j):=Al λ_ _ _ _ _ _ _ q=>aht q
def Fe:fZ X (iW .LtE) (jB λi j=>.c<|aE<|i<=j):=Al λ_ _ _ _ _ _ _ q=>le_int q
def xB:fZ X (iW .Gt) (jB λi j=>.c<|aE<|j<i):=Al λ_ _ _ _ _ _ _ q=>JE q
def Wo:fZ X (iW .GtE) (jB λi j=>.c<|aE<|j<=i):=Al λ_ _ _ _ _ _ _ q=>ge_int q
def MC:fZ X (iW .Is) (λx y H Q=>y=.non/\Q (.c<|aE<|x=.non) H):=by
 intro a s d H x y v u Q I b c h;obtain⟨rfl,q⟩:=h;cases c;refine is_none_gen<|fy I q ?_;cases x<;>first
  |(cases b;rfl)
  |(obtain⟨t,rfl⟩:=b;rfl)
def Wl:fZ X (iW .IsNot) (λx y H Q=>y=.non/\Q (.c<|!aE (x=.non)) H):=by
 intro a s d H x y v u Q I b c h;obtain⟨rfl,q⟩:=h;cases c;refine isnot_none_gen<|fy I q ?_;cases x<;>first
  |(cases b;rfl)
  |(obtain⟨t,rfl⟩:=b;rfl)
def dF(b:bz){a:uC}(h:a≠.In:=by decide)(c:a≠.NotIn:=by decide):uu a b=aB:=by
 have d:(a==zg)=aB:=by cases a<;>first|rfl|exact bh O h
 have e:(a==zf)=aB:=by cases a<;>first|rfl|exact bh O c
 cases b<;>simp[uu,d,e]
def My(e:fZ X (iW d) r)(f:bG X a ta)(g:bG X b tb)(i:uu d b=aB):bG X (.Compare a [d] [b] pos) (dk r ta tb):=by
 intro c s j H Q I h;exact wpAny_Compare1 (FH f g I h λv u k x y l m n o q=>e c k j l x y v u Q m n o q) i
inductive NE(x:af)(Q:Bool->ab->Prop)(H:ab):Prop
 |a:∀k,(x=.c k)->(Q k H)->NE x Q H
def jd(t:bd):dO:=λa H Q=>t a H λx b=>NE x Q b
def dD(i:fZ X (iW f) r)(j:bG X a ta)(l:bG X b tb)(m:uu f b=aB):lF X (.Compare a [f] [b] pos) (jd<|dk r ta tb):=by
 intro d s g H Q I h;refine ae3 (bH (j d s g H _ I h) λv n (x,o,p,q,t)=>bH (l d n g o _ p t) λu w (y,A,C,D,E)=>
  bH (i d w g A x y v u _ C q D E) λc P (z,G,K,L,k,e,M)=>?_) m
 subst e;cases L;exact sw (G,K,M)
def VD(r c:lE)(ta tb tc:bd):bd:=λa H Q=>ta a H λx d=>tb a d λy e=>r x y e λz b=>∃k,z=.c k/\
 (if k=ae then tc a b λf g=>c y f g Q else Q (.c aB) b)
def VQ{j g:uC}{r m:lE}(t:fZ X (iW j) r)(l:fZ X (iW g) m)(w:bG X a ta)(A:bG X b tb)(C:bG X c tc)(D:lastMarks [j,g] [b,c]=aB:=by with_unfolding_all rfl):lF X (.Compare a [j,g] [b,c] pos) (jd<|VD r m ta tb tc):=by
 intro f s i H Q I h;refine isTrue_chain (bH (w f s i H _ I h) λv E (x,G,K,L,M)=>test_link (bH (A f E i G _ K M) λu P (y,R,S,n,T)=>
  bH (t f P i R x y v u _ S L n T) λd U (z,o,p,r3,k,e,q)=>?_)) D
 subst e;cases r3;refine sw ?_;cases k with
 |false=>
  obtain⟨k',e',q'⟩:=q;cases e';exact ite_ff (o,p,q')
 |true=>
  refine ite_tt<|test_last<|bH (C f U i o _ p q) λw' s4 (z',H4,I4,r4,q4)=>bH (l f s4 i H4 y z' u w' _ I4 n r4 q4) λd' s5 (z2,H5,I5,r5,k2,e2,q5)=>?_;subst e2;cases r5;exact sw (H5,I5,q5)
def An:(bD:Nat)<2 ^ 63:=by rw[jt];decide
def ir{x:af}{a:List aa}(r:co [x] a):∃u,a=[u]/\cg x u:=by
 cases r with
 |cons b c=>cases c;exact(_,O,b)
def Lp{x y:af}{a:List aa}(r:co [x,y] a):∃u b,a=[u,b]/\cg x u/\cg y b:=by
 cases r with
 |cons c d=>
  cases d with
  |cons e f=>cases f;exact(_,_,O,c,e)
end
noncomputable def qy.B(r:qy (V v) o):∃u,o=V u/\cg v u:=by
 cases o with
 |none=>exact(show False from r).elim
 |some u=>exact(u,O,r)
noncomputable def qy.M(r:qy Y o):o=Y:=by
 cases o with
 |none=>rfl
 |some u=>exact(show False from r).elim
section
variable{P:bu}{w:bf}{H H':ab}{h h':aW}{a C dx:W}{fs fs':List (aq×af)}
end
structure fM(k:Nat)(A:bO):Prop where
 b:A.handled=Y
 a:A.depth+3*k+5<Rj
 un:A.units+16*k+200<dB
noncomputable def fM.B{j k:Nat}(r:fM k A)(h:j<=k):fM j A:=(r.b,by have:=r.a;omega,by have:=r.un;omega)
noncomputable def fM.M{k:Nat}(r:fM (k+1) A)(a:gm):fM k (A.deeper a):=
 (r.b,by have:=r.a;show A.depth+1+3*k+5<_;omega,by have:=r.un;show A.units+3+16*k+200<_;omega)
def fM.F{k:Nat}(r:fM (k+1) A):fM k A.in1:=
 (r.b,by have:=r.a;show A.depth+3*k+5<_;omega,by have:=r.un;show A.units+1+16*k+200<_;omega)
noncomputable def fM.J{k:Nat}(r:fM k A):A.depth<Rj:=by have:=r.a;exact ê (ê this)
def fM.units{k:Nat}(r:fM k A):A.units+64<dB:=by have:=r.un;omega
def gg:fY:=λ_ H Q=>Q [] H
def eR(b:bd)(c:fY):fY:=λa H Q=>b a H λx d=>c a d λe f=>Q (x::e) f
section
variable{X:a_}{e:bz}{es:List bz}{te:bd}{t:fY}{pos:ci}
def aF:ku X [] gg:=λ_ _ _ _ H Q I h=>ag4 ([],H,I,.nil,h)
def ao(c:bG X e te)(d:ku X es t)(f:fu (e::es) X.env=(aez aB (dN e X.env))::fu es X.env:=by rfl):ku X (e::es) (eR te t):=by
 intro pos a s b H Q I h;rw[f];show ax _ _ (spliced<|(aez aB (dN e X.env))::nK pos (fu es X.env)) _ _ s;refine Sg<|bH (c a s b H _ I h) λu g (x,i,j,k,l)=>?_;exact bH (d pos a g b i _ j l) λr v (m,n,o,p,q)=>(x::m,n,o,.cons k p,q)
def mQ(t:fY):bd:=λc H Q=>t c H λa b=>a.length<=bD/\∀p,b p=Y->Q 5#p (aD b p<|.tup a)
def Vu(t:fY):bd:=λc H Q=>t c H λa b=>a.length<=bD/\∀p,b p=Y->Q 5#p (aD b p<|.lst a)
def jC{g}(h:ku X es t):bG X (.Tuple es g pos) (mQ t):=by
 intro a s i H Q I j;refine wpAny_Tuple_spliced<|bH (h pos a s i H _ I j) λk c (l,d,f,r,z,q)=>(by rw[<-r.B];exact z,?_);have m:d c⁻¹=Y:=f.a.B<|aV _;refine(.ref c⁻¹,aD d c⁻¹<|.tup l,f.F (t':=c.toks) (λb u e=>bQ _ e) (aV _) ?_,O,q _ m);exact(z,k,r,(_,dg _ O,O,_,O))
def je(h:ku X es t):bG X (.List es pos) (Vu t):=by
 intro a s g H Q I i;refine wpAny_List_spliced<|bH (h pos a s g H _ I i) λj c (k,d,f,r,z,q)=>(by rw[<-r.B];exact z,?_);have l:d c⁻¹=Y:=f.a.B<|aV _;refine(.ref c⁻¹,aD d c⁻¹<|.lst k,f.F (t':=c.toks) (λb u e=>bQ _ e) (aV _) ?_,O,q _ l);exact(z,j,0,r,dg _ O)
end
abbrev lD:=List af->ab->aU->db->Prop
abbrev mf:=List gm->ab->ak->db->Ω
structure tN(P:bu)(w:bf)(K:aY)(mg:aq->Option aa)(base:aW)(A:bO)(outer:List gm)(s:ak)(H:ab):Prop where
 g:A.frames=V outer
 c:AD K mg base
 bs:∀b o,base.get? b=V o->s.heap.get? b=V o/\H b=Y
 e:base.objs.size<=s⁻¹
 d:s.heap.FunFrames base outer
 h:∀b∈l_ outer,H b=Y
 a:gM P w H s.heap
 f:sQ s.gens
def vH(a:List gm)(P:bu)(w:bf)(H:ab)(s:ak)(Q:aU)(u:aa)(b:ak):Prop:=
 ∃v c,b.os=s.os/\sQ b.gens/\oC (l_ a) [] H c s.heap b.heap/\gM P w c b.heap/\cg v u/\Q v c
def XW(c:mf)(a:List gm)(P:bu)(w:bf)(H:ab)(s:ak)(Q:aU)(E:db)(r:sH)(b:ak):Prop:=
 match r with
 |.ok (.ret u)=>vH a P w H s Q u b
 |.ok _=>False
 |.error e=>c a H s E e b
structure ce(P:bu)(w:bf)(K:aY)(mg:aq->Option aa)(base:aW)(CX:mf)(k:Nat)(f:W)(fd:cW)(ps:List aq)(sp:lD):Prop where
 b:∀vs H Q E,sp vs H Q E->vs.length=ps.length
 a:∀(A:bO)(outer:List gm)(s:ak)(H:ab)(args:Args)(us:List aa)(vs:List af)(Q:aU)(E:db),fM k A->tN P w K mg base A outer s H->zj s fd args (ps.zip us)->co vs us->sp vs H Q E->
  iD (aH P w) A (.call 5#f args) (XW CX outer P w H s Q E) s
noncomputable def tN.B{K:aY}{c:aq->Option aa}{b:aW}{a:List gm}{s:ak}(e:tN P w K c b A a s H):tN P w K c b A.in1 a s H:=(e.g,e.c,e.bs,e.e,e.d,e.h,e.a,e.f)
section
variable{X:a_}{pins:Ψ}{σ:aR}{H:ab}{s s':ak}
def aA.B5(I:aA X pins σ H s):tN X.prog X.w X.K X.mg X.base X.A X.c s H:=
 (I.b.m,I.b.e,I.bs,dq I.b.h I.sz,I.B6,I.C3,I.a,I.d)
def aA.C9(I:aA X pins σ H s)(h:vH X.c X.prog X.w H s Q u s'):ji X pins σ Q u s':=by
 obtain⟨v,f,i,a,j,c,r,q⟩:=h;obtain⟨k,g,d,t,e⟩:=s';obtain rfl:e=s.os:=i;exact(v,f,I.C2 (h':=k) (g':=g) (d':=d) (t':=t) (ch:=[]) j c a (λb z=>bh z 0#0),r,q)
end
def xo(b:lD)(a:List af)(E:db)(t:fY):bd:=λc H Q=>t c H λd e=>b (d++a) e Q E
def eQ(K:aY)(d:cW)(b:List aq)(c:List aa):Prop:=
 ∀(s:ak)(a:List aa),K.In s.heap->(a++c).length=b.length->zj s d (a,[]) (b.zip<|a++c)
def eQ.all{K:aY}{b:List aq}(h:∀a:List aa,a.length=b.length->CI c (a,[])=aX (b.zip a)):eQ K c b []:=λs a _ d=>by
 rw[jy] at d ⊢;exact .of_eq<|h a d
def AB(c:mf)(X:a_)(E:db):Prop:=∀(a:Ψ)(d:aR)(H:ab)(s:ak)(e:aa)(b:ak),aA X a d H s->c X.c H s E e b->X.a e b
section
variable{X:a_}{CX:mf}{k:Nat}{f C:W}{fd:cW}{ps:List aq}{sp:lD}{dvs:List af}{ds:List aa}{E:db}{x m:aq}{p pos apos:ci}{e o:bz}{es:List bz}{ta:bd}{t:fY}
def VO{s:ak}{b:List aa}(F:ce X.prog X.w X.K X.mg X.base CX k f fd ps sp)(j:fM k X.A)(l:eQ X.K fd ps ds)(m:co dvs ds)(n:AB CX X E)(I:aA X a g H s)(r:co d b)(h:sp (d++dvs) H Q E):ax 3#0 X.A (im 5#f b) (ji X a g Q) X.a s:=by
 have i:co (d++dvs) (b++ds):=r.J m;have o:(b++ds).length=ps.length:=by rw[<-i.B];exact F.b _ _ _ _ h
 refine yN<|p_ (F.a X.A X.c s H (b,[]) (b++ds) (d++dvs) Q E j I.B5 (l s b I.A5 o) i h) λr p c=>?_;cases r with
 |error e=>exact n a g H s e p I c
 |ok q=>
  cases q with
  |ret u=>exact I.C9 c
  |next=>exact hX c
  |brk=>exact hX c
  |cont=>exact hX c
def gB(F:ce X.prog X.w X.K X.mg X.base CX k f fd ps sp)(g:fM k X.A)(i:lI X x)(j:X.mg x=V 5#f)(l:CN X.K 5#f=ae)(m:eQ X.K fd ps ds)(n:co dvs ds)(o:AB CX X E)(u:ku X (e::es) t)(b:(x==("__debug__":aq))=aB:=by decide)(v:fu (e::es) X.env=(aez aB (dN e X.env))::fu es X.env:=by rfl)(c:(nK pos<|fu es X.env).any (·.1)=aB:=by rfl):bG X (.Call (.Name x p) (e::es) [] pos) (xo sp dvs E t):=by
 intro a s w H Q I h;refine yO<|Fm I i j ?_ b;refine PySem.W.callWith_K (h₀:=X.base) I.b.e.b l (bH (u pos a s w H _ I h) λy z (A,C,d,r,q)=>(d.A5,?_)) v c;exact VO F g m n o d r q
end
structure dG(N P:List aq)(sc:fw):Prop where
 c:sc.kind=.function
 g:sc.isCoroutine=aB
 e:sc.isGenerator=aB
 a:N.Nodup
 b:N.take P.length=P
 d:∀x∈P,sc.names.lookup x=V .local\/sc.names.lookup x=V .cell
 f:∀y∈sc.names,y.2≠.free
def Nz{b:aq->Option lO}:∀{a:List (aq×aa)}{m:aq->Option aa},(∀v,(aez x v)∉a)->ur b a m x=m x
 |[],_,_=>O
 |(aez n v)::r,m,h=>by
  unfold ur;rw[Nz λw c=>h w<|gd _ c];split
  ·have:x≠n:=by rintro rfl;exact h v fE
   simp[this]
  ·rfl
def NB{b:aq->Option lO}:∀{a:List (aq×aa)}{m:aq->Option aa},(∀v,(aez x v)∉a)->ut b a m x=m x
 |[],_,_=>O
 |(aez n v)::r,m,h=>by
  unfold ut;rw[NB λw c=>h w<|gd _ c];split
  ·rfl
  ·have:x≠n:=by rintro rfl;exact h v fE
   simp[this]
def NA{a:aq->Option lO}:∀{P:List aq}{b:List aa}{i:Nat}{m:aq->Option aa},P.Nodup->P[i]?=V x->b[i]?=V v->a x=V .local->
  ur a (P.zip b) m x=V v
 |[],_,_,_,_,h,_,_=>by simp at h
 |_::_,[],_,_,_,_,h,_=>by simp at h
 |p::P,w::b,0,m,e,c,d,f=>by
  simp at c d;subst c;subst d;show ur a ((aez p w)::P.zip b) m p=_;unfold ur;rw[Nz λv g=>(jM.mp e).1 (zt g).1,av f];simp
 |p::P,w::b,i+1,m,e,c,d,f=>by
  show ur a ((aez p w)::P.zip b) m x=_;unfold ur;exact NA (i:=i) (jM.mp e).2 6#c 6#d f
def NC{a:aq->Option lO}:∀{P:List aq}{b:List aa}{i:Nat}{m:aq->Option aa},P.Nodup->P[i]?=V x->b[i]?=V v->a x≠V .local->
  ut a (P.zip b) m x=V v
 |[],_,_,_,_,h,_,_=>by simp at h
 |_::_,[],_,_,_,_,h,_=>by simp at h
 |p::P,w::b,0,m,e,c,d,f=>by
  simp at c d;subst c;subst d;show ut a ((aez p w)::P.zip b) m p=_;unfold ut;rw[NB λv g=>(jM.mp e).1 (zt g).1,am f];simp
 |p::P,w::b,i+1,m,e,c,d,f=>by
  show ut a ((aez p w)::P.zip b) m x=_;unfold ut;exact NC (i:=i) (jM.mp e).2 6#c 6#d f
noncomputable def qo(b:List aq)(a:List af):aR:=a.map V++List.replicate (b.length-a.length) Y
noncomputable def qv(i:mf)(P:bu)(w:bf)(K:aY)(j:aq->Option aa)(g:aW)(m:List aq)(c:aq)(a:fw)(f:W)(h:aa)(A:bO)(b:List gm)(s:ak)(H:ab)(E:db):a_ where
 prog:=P
 w:=w
 K:=K
 mg:=j
 base:=g
 A:=A.deeper<|qd c a s⁻¹ f h
 N:=m
 d:=s
 h:=H
 env:=qd c a s⁻¹ f h
 outer:=b
 c:=qd c a s⁻¹ f h::b
 e:=[]
 b:=ae
 f:=λ_=>ae
 g:=[]
 a:=λe k=>ax (aH P w) (A.deeper<|qd c a s⁻¹ f h) (leaving (qd c a s⁻¹ f h) e) (λ_ d=>i b H s E e d) (λl d=>i b H s E l d) k
def Nu{a:fw}{n:Nat}(h:a.names.lookup x=V .cell):∃c,(iX n a.names []).lookup x=V c:=by
 have q:=CP a.names n []<|.inl h;exact Dq.mp q
def WS{K:aY}{m:aW}{a1 t:List aq}{j:aq}{M:aa}{A:bO}{s s1:ak}{C:List af}(S:dG a1 t d)(hd:A.handled=Y)(o:tN P w K T m A g s H)(hl:C.length=t.length)(r:co C U)(x:InCallC s s⁻¹ (ur (qd j d s⁻¹ f M).kindOf (t.zip U) λ_=>Y) (iX (s⁻¹+1) d.names []) (ut (qd j d s⁻¹ f M).kindOf (t.zip U) λ_=>Y) s1):aA (qv X P w K T m a1 j d f M A g s H E) [] (qo a1 C) H s1:=by
 have a0:t.length<=a1.length:=by have:=fj ar S.b;rw[dR] at this;omega
 obtain⟨Q,tk,rfl,hk⟩:=x.done;have D:∀b:W,b∉(qv X P w K T m a1 j d f M A g s H E).e:=λb z=>bh (show b∈([]:List W) from z) 0#0;refine((o.c,S.c,O,O,aV _,λy z c Q l=>?_,λy G=>?_,λy c _ h=>?_,λ_=>hd,ahn o.g,.inr (O,O),λb z=>bh z<|D b,o.bs,o.e,λb _ _=>D b,λb z=>bh z<|D b,o.d,o.h),
  O,o.f,oC.B hk,(_,x.toInCall.ns,λi y v Q l h3=>?_),λy c h=>(_,x.cell y c h),o.a.B<|aV _,λy c h=>?_,λp I=>bh (show p∈([]:Ψ) from I) 0#0,o.a.J hk,?_)
 ·exact name_of_addr x.apart (oV Q)<|oV l
 ·have G:d.names.lookup y=V .cell\/d.names.lookup y=V .free:=G
  rcases G with G|G
  ·exact Nu G
  ·exact bh O<|S.f _<|oV G
 ·exact qe<|x.above y c<|oV h
 ·have R:i<C.length:=by
   unfold qo at l
   by_cases R:i<C.length
   ·exact R
   ·rw[pg 6#R] at l
    rw[List.getElem?_replicate] at l;split at l<;>cases l
  have ha:C[i]?=V v:=by
   unfold qo at l;rw[ph 6#R,bV] at l;cases e:C[i]? with
   |none=>rw[e] at l;cases l
   |some a=>rw[e] at l;cases l;rfl
  obtain⟨u,hu,rv⟩:=r.F ha;have I:t[i]?=V y:=by
   rw[<-S.b,uL (à R (å hl))];exact Q
  have L:t.Nodup:=by rw[<-S.b];exact S.a.sublist<|SI _ _
  refine(u,rv,?_);rcases S.d y (dh I) with k|k
  ·exact .inl (k,NA L I hu k)
  ·obtain⟨c,e⟩:=Nu (n:=s⁻¹+1) k
   refine .inr (.inl k,c,e,?_);have q:=x.cell y c e;rw[NC L I hu (by show d.names.lookup y≠_;rw[k];decide)] at q;exact q
 ·exact o.a.B<|qe<|x.above y c<|oV h
 ·unfold qo
  show _=a1.length;rw[c_,au,List.length_replicate];omega
def Na{U:mf}{P:bu}{w:bf}{K:aY}{X:aq->Option aa}{h:aW}{k:Nat}{m d:aq}{i:uD}{body:List cJ}{a:fw}{dV kV G pm g ct oc:aa}{an od:Option W}{a0:Array (Option aa)}{sp:lD}(lk:K.lookup f=V (oc,od,.func<|uv m d i body a dV kV G pm an g ct,a0))(a1:IY K g d=ae)(S:dG a5 ps a)(L:∀j H Q E,sp j H Q E->j.length=ps.length)(z:∀(A:bO)(c:List gm)(s:ak)(H:ab)(j:List af)(Q:aU)(E:db),fM k (A.deeper<|qd d a s⁻¹ f g)->sp j H Q E->
   ∃t,kJ (qv U P w K X h a5 d a f g A c s H E) body t/\t {a:=λ_ p=>Q .non p,d:=Q} (qo a5 j) H):
  ce P w K X h U (k+1) f (uv m d i body a dV kV G pm an g ct) ps sp:=by
 refine(L,λA c s H a3 us j Q E hr M hb r R=>?_);have hl:=L _ _ _ _ R;have KX:K.In s.heap:=M.c.b.keeps λb o e=>(M.bs b o e).1;have a2:s.heap.NoLimit:=M.c.c.keeps λb o e=>(M.bs b o e).1;have C:∀y∈ps.zip us,a.names.lookup y.1=V .local\/(a.names.lookup y.1=V .cell/\((iX (s⁻¹+1) a.names []).lookup y.1).isSome=ae):=λ(n,v) hy=>by
  rcases S.d n (zt hy).1 with q|q
  ·exact .inl q
  ·exact .inr (q,CP _ _ _<|.inl q)
 refine codeAny_call_function hr.J (KX _ _ lk) O S.g S.e O (PySem.W.codeRec_of KX a1)<|hb _ _ _ _ ?_;refine wpAny_newFunctionEnv_cells S.c C λa4 he s1 x=>?_;subst he;refine(a2.keeps x.toInCall.keep,codeAny_func ?_);obtain⟨t,ht,hq⟩:=z A c s H j Q E (hr.M _) R;have I:aA (qv U P w K X h a5 d a f g A c s H E) [] (qo a5 j) H s1:=WS S hr.b M hl r x;refine kB (ht [] s1 (qo a5 j) H _ I hq) (λfl s' D=>?_) λe s' D=>D;have T:∀{l:aR}{p:ab}{v:af}{u:aa},aA (qv U P w K X h a5 d a f g A c s H E) [] l p s'->cg v u->Q v p->vH c P w H s Q u s':=
  λ{l p v u} a6 rv q=>(v,p,a6.k,a6.d,a6.base,a6.a,rv,q)
 cases fl with
 |ret u=>
  obtain⟨v,l,p,a6,rv,q⟩:=D;exact T a6 rv q
 |next=>
  obtain⟨l,p,a6,q⟩:=D;exact T (v:=af.non) (u:=bP) a6 O q
 |brk=>
  obtain⟨_,_,_,q⟩:=D;exact hX q
 |cont=>
  obtain⟨_,_,_,q⟩:=D;exact hX q
section
variable{X:a_}{x:aq}{p pos:ci}{e:bz}{es:List bz}{t:fY}{id T:String}{r:List af->ab->aU->Prop}
def oq(r:List af->ab->aU->Prop)(t:fY):bd:=λa H Q=>t a H λb c=>r b c Q
def dM(f:iS X (.builtin id) r)(g:lI X x)(i:X.mg x=Y)(j:iY x=V (.builtin id))(k:ku X (e::es) t)(l:x≠"__name__":=by decide)(b:(x==("__debug__":aq))=aB:=by decide)
  (m:fu (e::es) X.env=(aez aB (dN e X.env))::fu es X.env:=by rfl) (c:(nK pos<|fu es X.env).any (·.1)=aB:=by rfl):bG X (.Call (.Name x p) (e::es) [] pos) (oq r t):=by
 intro a s d H Q I h;refine yO<|qr I g i j ?_ l b;exact alm (bH (k pos a s d H _ I h) λn o (q,u,v,w,y)=>f a o d u q n Q v w y) m c
def gA(f:iS X (.type T) r)(g:lI X x)(i:X.mg x=Y)(j:iY x=V (.type T))(k:ku X (e::es) t)(l:x≠"__name__":=by decide)(b:(x==("__debug__":aq))=aB:=by decide)
  (m:fu (e::es) X.env=(aez aB (dN e X.env))::fu es X.env:=by rfl) (c:(nK pos<|fu es X.env).any (·.1)=aB:=by rfl):bG X (.Call (.Name x p) (e::es) [] pos) (oq r t):=by
 intro a s d H Q I h;refine yO<|qr I g i j ?_ l b;exact Do (bH (k pos a s d H _ I h) λn o (q,u,v,w,y)=>f a o d u q n Q v w y) m c
end
noncomputable def bJ:List Int->List Int->Bool
 |[],[]=>aB
 |[],_::_=>ae
 |_::_,[]=>aB
 |x::a,y::b=>if x=y then bJ a b else aE (x<y)
def lL(x y:Int)(a b:List Int):bJ (x::a) (y::b)=if x=y then bJ a b else aE (x<y):=O
def Qt:bJ [] []=aB:=O
def yG(y:Int)(a:List Int):bJ [] (y::a)=ae:=O
def Qu(x:Int)(a:List Int):bJ (x::a) []=aB:=O
def adm(A:bO)(s:ak)(a:Int)(t:hU)(c:Int)(u:hU):∃e,zb A s (.int a t) (.int c u) e/\(e=ae↔a=c):=
 ((a==c),RS a t c u,by simp)
def adg(A:bO)(s:ak)(a:Int)(t:hU)(c:Int)(u:hU)(b:bu)(w:bf)(E:Ω)(Q:Ω)(h:Q (.bool<|aE<|a<c) s):ax (aH b w) A (yR .Lt (.int a t)<|.int c u) Q E s:=
 (aht h:ax (aH b w) A (iW .Lt (.int a t)<|.int c u) Q E s)
section
open PySem.SeqAt
open PySem.AutoSeq1 (wpAny_loadPart')
open PySem.MeetsSeq PySem.MeetsSeq2 PySem.MeetsSeq3
def ade(l b:W)(i f:Array aa)(n n2:Nat)(dd T:Option W)(sl U:Array (Option aa))(I K:List Int)(hi:fC i.toList I)(hj:fC f.toList K):C_ (Builtin.«tuple.__lt__» ([.ref l,.ref b],[]))
   (λ_ R s=>s.heap.get? l=V {cls:=.type "tuple",dict:=dd,data:=.seq i n,slots:=sl}/\s.heap.get? b=V {cls:=.type "tuple",dict:=T,data:=.seq f n2,slots:=U}/\
    R (.ok<|.ret<|.bool<|bJ I K) s):=
 .of_wp λr w A R s h=>by
  obtain⟨L,g,d,M,P⟩:=s;obtain⟨hl,hb,h⟩:=h;have f2:=ahl;have z1:i.size=I.length:=by rw[<-hi.length];simp
  have z2:f.size=K.length:=by rw[<-hj.length];simp
  wp_walk using wpAny_loadPart' hl,wpAny_loadPart' hb,yM _ (λv b X=>b.1=Y/\X=(L,g,d,M,P)/\∃(Q S:List aa)(k m:List Int),v=Q.zip S/\
   fC Q k/\fC S m/\k.length+f.size=m.length+i.size/\R (.ok<|.ret<|.bool<|bJ k m) (L,g,d,M,P)) _
  case turn=>
   rintro⟨y,x⟩ v b X ⟨D,rfl,Q,S,k,m,o,E,p,j,z⟩;cases E with
   |nil=>rw[List.zip_nil_left] at o;cases o
   |cons a t G=>
    cases p with
    |nil=>rw[List.zip_nil_right] at o;cases o
    |cons c u H=>
     rw[SH] at o;injection o with hyx hrest
     injection hyx with hy hx
     subst hy hx;rw[lL] at z;simp only[dj] at j;obtain⟨e,he,C⟩:=adm A.in1 (L,g,d,M,P) a t c u;refine ag<|he r w _ _ ?_;cases e with
     |true=>
      rw[av<|C.mp O] at z
      wp_walk
      exact(O,O,_,_,_,_,hrest,G,H,ω,z)
     |false=>
      rw[am (λq=>bh (C.mpr q) dY)] at z;have a0:=adg A.in1 (L,g,d,M,P) a t c u r w
      wp_walk using a0
      exact(_,O,by simpa using z)
  case fin=>
   rintro⟨b1,b2⟩ X ⟨D,rfl,Q,S,k,m,o,E,p,j,z⟩;simp only at D;subst D;have hv:bJ k m=aE (i.size<f.size):=by
    cases E with
    |nil=>
     cases p with
     |nil=>
      simp only[nq] at j;rw[Qt];exact(cw ω).symm
     |cons c u hw=>
      simp only[nq,dj] at j;rw[yG];exact(bT ω).symm
    |cons a t hv=>
     cases p with
     |nil=>
      simp only[nq,dj] at j;rw[Qu];exact(cw ω).symm
     |cons c u hw=>
      rw[SH] at o;cases o
   rw[hv] at z
   wp_walk
   exact(_,O,by simpa[ag8] using z)
  case h=>
   exact(O,O,i.toList,f.toList,I,K,O,hi,hj,ω,h)
end
section
variable{prog:bu}{w:bf}{A:bO}{E:Ω}{s:ak}
def adj{l b:W}{Q:Ω}(u:kW s.heap l c)(v:kW s.heap b a)(y:fC c.toList d)(z:fC a.toList e)(C:A.units<dB)(h:Q (.bool<|bJ d e) s):ax 2#0 A (iW .Lt 5#l<|.ref b) Q E s:=by
 obtain⟨⟨D,G,o,H⟩,p,q,n,r⟩:=id u;obtain⟨⟨t,j,k,m⟩,f,g,I,i⟩:=id v;simp only at q r g i;subst q r g i;exact afg (op:=.Lt) (_,p,O) (_,f,O) PySem.F.slot_tuple_lt PySem.F.entry_tuple_lt (PySem.F.args_tuple_lt_2 _ _) (ade l b c a n I G j H m d e y z)
  (p,f,show eX (bJ d e)≠afy/\Q (.bool<|bJ d e) s from((λx=>nomatch x),h)) C
def adn{t b:W}{d a:List aa}{Q:Ω}(z:kW s.heap t d.toArray)(C:kW s.heap b a.toArray)(o:d≠[])(D:a=[]->Q 5#t s)(G:a≠[]->Q (.ref s⁻¹) {s with heap:=s.heap.push {cls:=.type "tuple",data:=.seq (d++a).toArray}})(l:d.length+a.length<=bD):ax 2#0 A (qX .Add 5#t<|.ref b) Q E s:=by
 obtain⟨⟨H,p,q,r⟩,j,u,n,v⟩:=id z;obtain⟨⟨x,f,m,g⟩,c,h,y,i⟩:=id C;simp only at u v h i;subst u v h i;have e:d.toArray++a.toArray=(d++a).toArray:=by simp
 by_cases k:a=[]
 ·exact Rw (_,j,O) (_,c,O) Rn Rg RV R' (Sc _ _)
   (tuple_addW1 t b d.toArray a.toArray n y p f r g 6#o (by simp[k])) (j,c,D k)
 ·refine Rw (_,j,O) (_,c,O) Rn Rg RV R' (Sc _ _)
   (tuple_addW2 t b d.toArray a.toArray n y p f r g 6#o 6#k (by rw[cP,cP];exact l)) (j,c,?_)
  rw[e];exact G k
noncomputable def cC(n d:Nat):Option Int->Nat
 |none=>d
 |some v=>if v<0 then(v+(n:Int)).toNat else gc v.toNat n
def Ce(n d:Nat):cC n d Y=d:=O
def yF(n d k:Nat):cC n d (V (k:Int))=gc k n:=by
 show(if(k:Int)<0 then((k:Int)+(n:Int)).toNat else gc (k:Int).toNat n)=gc k n;rw[am ω,tj]
def adf(n d:Nat)(b:d<=n)(o:Option Int):cC n d o<=n:=by
 cases o with
 |none=>exact b
 |some v=>
  show(if v<0 then(v+(n:Int)).toNat else gc v.toNat n)<=n
  by_cases a:v<0
  ·rw[av a];omega
  ·rw[am a];exact JJ _ _
def Qv(v:Int)(n d:Nat):(if v<0 then max (v+(n:Int)) 0 else gc v (n:Int))=((cC n d (V v):Nat):Int):=by
 show(if v<0 then max (v+(n:Int)) 0 else gc v (n:Int))=(((if v<0 then(v+(n:Int)).toNat else gc v.toNat n):Nat):Int)
 by_cases a:v<0
 ·simp only[av a];omega
 ·simp only[am a];omega
def ado(a b:Option Int)(n:Nat):Sj a b 1 (n:Int)=(aez (((cC n 0 a:Nat):Int)) (((cC n n b:Nat):Int))):=by
 have c:¬((1:Int)<0):=ω
 unfold Sj;simp only[c,da];refine Prod.ext ?_ ?_
 ·cases a with
  |none=>rfl
  |some v=>exact Qv v n 0
 ·cases b with
  |none=>rfl
  |some v=>exact Qv v n n
def adh(i j:Nat):Jy (i:Int) (j:Int) 1=j-i:=by
 unfold Jy;have a:(1:Int)>0:=ω
 simp only[a,eD,Int.ediv_one];split<;>omega
def Qr{Q:Option Int->ak->Prop}(p:re v o)(h:Q o s):ax 2#0 A (ak5 v) Q E s:=by
 cases p with
 |none=>exact slicePart_none h
 |int i t=>exact slicePart_int h
def Qs{a b:Option Int}{n:Nat}{Q:Int×Int×Nat->ak->Prop}(i:s.heap.IsSliceOf g e f .none)(j:re e a)(k:re f b)(h:Q (aez (((cC n 0 a:Nat):Int)) (aez 1 (cC n n b-cC n 0 a))) s):ax 2#0 A (aha 5#g<|aX (n:Int)) Q E s:=by
 obtain⟨m,c,l,d⟩:=id i;unfold aha ak6;refine ag<|ag<|jJ c d (x:=e) O<|ag<|jJ c d (x:=f) O<|ag<|jJ c d (x:=.none) O<|aG ?_;refine ag<|slicePart_none ?_;show ax _ _ (if((1:Int)==0)=ae then _ else _) _ _ s;rw[am ξ];refine ag<|Qr j<|ag<|Qr k<|ag<|aG ?_;show ax _ _ (match Sj a b 1 (n:Int) with|(a,b)=>aX (aez a (aez ((1:Int)) (Jy a b 1)))) _ _ s;rw[ado a b n];show ax _ _ (aX (aez (((cC n 0 a:Nat):Int)) (aez ((1:Int)) (Jy ((cC n 0 a:Nat):Int) ((cC n n b:Nat):Int) 1)))) _ _ s;rw[adh];exact aG h
def adi(a:Array aa)(i k:Nat):((cr k).filterMap λ(m:Nat)=>a[((i:Int)+(m:Int)*1).toNat]?).toArray=((a.toList.drop i).take k).toArray:=by
 have e:(λ(m:Nat)=>a[((i:Int)+(m:Int)*1).toNat]?)=λm=>a[i+m]?:=by
  funext m
  have:((i:Int)+(m:Int)*1).toNat=i+m:=ω
  rw[this]
 rw[e];have:=pick_run a i k;rw[List.filterMap_map] at this;have b:((λx=>a[x]?) ∘ λx=>i+x)=λm=>a[i+m]?:=O;rw[b] at this;rw[this]
def adl{t f:W}{l n:aa}{Q:Ω}(e:kW s.heap t a)(o:s.heap.IsSliceOf f l n .none)(p:re l c)(r:re n d)(hw:¬(cC a.size 0 c=0/\cC a.size a.size d=a.size))(h:Q (.ref s⁻¹) {s with heap:=s.heap.push {cls:=.type "tuple",data:=.seq ((a.toList.drop<|cC a.size 0 c).take<|cC a.size a.size d-cC a.size 0 c).toArray}})(u:a.size<=bD):ax 2#0 A (pZ 5#t<|.ref f) Q E s:=by
 have b:sizeOk (.seq ((a.toList.drop<|cC a.size 0 c).take<|cC a.size a.size d-cC a.size 0 c).toArray):=by
  show((a.toList.drop<|cC a.size 0 c).take<|cC a.size a.size d-cC a.size 0 c).toArray.size<=bD;rw[cP,dR,pd,gJ];omega
 have y:cC a.size a.size d<=a.size:=adf _ _ (aV _) d;obtain⟨v,g,i,x⟩:=id o;have j:s.TypeIs 5#f "slice":=(v,g,i);unfold pZ
 try with_reducible refine fO ?_
 first|refine ag<|aG ?_|skip
 refine ag<|aey e.typeIs ξ ?_;refine ag (pY (name:=jv "__getitem__") e.typeIs wI
 <|mE wI e.typeIs ahw ?_<|ahx _ _)
 show ax _ _ (ag7 5#t >>= _) _ _ s;refine ag<|tupleItemsOf_ e ?_;refine ag<|uh j ?_;rw[av ξ];refine ag<|Qs o p r ?_;have k:¬((((cC a.size 0 c:Nat):Int)==0&&(1:Int)==1&&(cC a.size a.size d-cC a.size 0 c)==a.size)=ae):=by
  intro q;rw[jP,jP] at q;have z:((cC a.size 0 c:Nat):Int)=0:=DL q.1.1;have C:cC a.size a.size d-cC a.size 0 c=a.size:=DL q.2;exact hw (ω,ω)
 show ax _ _ (if(((cC a.size 0 c:Nat):Int)==0&&(1:Int)==1&&(cC a.size a.size d-cC a.size 0 c)==a.size)=ae then _ else _) _ _ s;rw[am k,adi]
 first
  |exact ag (m:=ak4 _)<|nc (aG (_,O,aG h)) b
  |exact wpAny_bind (m:=Builtin.Tuple.tupleExact _)<|wpAny_newObj_type (wpAny_bind<|wpAny_pure<|wpAny_pure (_,rfl,wpAny_pure h)) b
  |exact wpAny_bind<|wpAny_bind (m:=Builtin.Tuple.tupleExact _)<|wpAny_newObj_type (wpAny_pure<|wpAny_pure (_,rfl,wpAny_pure h)) b
  |exact wpAny_bind<|wpAny_bind (m:=Builtin.Tuple.tupleExact _)<|wpAny_newObj_type (wpAny_pure (_,rfl,wpAny_pure h)) b
end
abbrev tI:=aR->ab->(Option Int->ab->Prop)->Prop
def tL(X:a_)(e:Option bz)(t:tI):Prop:=
 ∀(a:Ψ)(s:ak)(b:aR)(H:ab)(Q:Option Int->ab->Prop),aA X a b H s->t b H Q->
  ax 3#0 X.A (evalPart e X.env) (λu d=>∃o c,aA X a b c d/\re u o/\Q o c) X.a s
def Ad:tI:=λ_ H Q=>Q Y H
inductive NG(x:af)(Q:Option Int->ab->Prop)(H:ab):Prop
 |a:∀i,(x=.int i)->Q (V i) H->NG x Q H
def Ac(t:bd):tI:=λa H Q=>t a H λx b=>NG x Q b
def pJ{a:List Int}:∀{b:List aa},co (a.map af.int) b->fC b a:=by
 induction a with
 |nil=>intro b r;rw[zv] at r;cases r;exact .nil
 |cons n a c=>
  intro b r;rw[cY] at r;cases r with
  |cons d f=>
   obtain⟨t,e⟩:=d;subst e;exact .cons n t<|c f
section
variable{X:a_}{e:bz}{te:bd}{lo hi:Option bz}{tl th:tI}{pos p2:ci}
def nz:tL X Y Ad:=by
 intro a s b H Q I h;rw[evalPart_none];exact aG (Y,H,I,.none,h)
def ny(h:bG X e te):tL X (V e) (Ac te):=by
 intro a s b H Q I c;rw[evalPart_some];refine bH (h a s b H _ I c) λu k (x,d,f,g,j)=>?_;obtain⟨i,rfl,q⟩:=j;obtain⟨t,rfl⟩:=g;exact(V i,d,f,.int i t,q)
def Az(X:a_)(r:af->Option Int->Option Int->ab->aU->Prop):Prop:=
 ∀(a:Ψ)(s:ak)(b:aR)(H:ab)(x:af)(v c d:aa)(lo hi:Option Int)(e:W)(Q:aU),aA X a b H s->cg x v->s.heap.IsSliceOf e c d .none->re c lo->re d hi->r x lo hi H Q->
  ∃T f,IL (.type T) "__getitem__"=aX (V<|.builtin f)/\s.TypeIs v T/\ax 3#0 X.A (pZ v<|.ref e) (ji X a b Q) X.a s
def Ab(r:af->Option Int->Option Int->ab->aU->Prop)(te:bd)(tl th:tI):bd:=λa H Q=>te a H λx b=>tl a b λl c=>th a c λu d=>r x l u d Q
def qq(j:Az X r)(k:bG X e te)(m:tL X lo tl)(n:tL X hi th):bG X (.Subscript e (.Slice lo hi Y p2) pos) (Ab r te tl th):=by
 intro a s d H Q I h;refine JF<|bH (k a s d H _ I h) λv o (x,p,t,w,y)=>?_;refine wpAny_Slice<|bH (m a o d p _ t y) λf z (l,A,C,D,E)=>bH (n a z d A _ C E) λg c (u,i,G,K,L)=>?_;rw[evalPart_none];refine aG ?_;have M:aA X a d i {c with heap:=c.heap.push {cls:=.type "slice",data:=.fields #[f,g,.none]}}:=G.J (t':=c.toks) λb U q=>bQ _ q;obtain⟨T,id,P,R,S⟩:=j a {c with heap:=c.heap.push {cls:=.type "slice",data:=.fields #[f,g,.none]}} d i x v f g l u c⁻¹ Q M w (agd ..) D K L;show ax 3#0 X.A (Jz e (.Slice lo hi Y p2) v<|.ref c⁻¹) (ji X a d Q) X.a {c with heap:=c.heap.push {cls:=.type "slice",data:=.fields #[f,g,.none]}};exact tail_any (ops:=[.ref c⁻¹,v]) R P S (by with_unfolding_all rfl)
noncomputable def kr(a:List af)(lo hi:Option Int):List af:=(a.drop<|cC a.length 0 lo).take<|cC a.length a.length hi-cC a.length 0 lo
def Nq(a:List af)(lo hi:Option Int):(kr a lo hi).length<=a.length:=by
 unfold kr;rw[dR,pd];omega
inductive EN(K:aY)(x:af)(lo:Option Int)(hi:Option Int)(H:ab)(Q:aU):Prop
 |b:∀a xs,(x=.ref a)->(fg K H a xs)->(¬(cC xs.length 0 lo=0/\cC xs.length xs.length hi=xs.length))->(∀p,H p=Y->Q 5#p (aD H p<|.tup<|kr xs lo hi))->EN K x lo hi H Q
def EJ:Az X (EN X.K):=by
 intro f s t H x v u w lo hi y Q I j k l m h;obtain⟨a,d,rfl,n,p,q⟩:=h;cases j;obtain⟨e,r,g,i⟩:=I.B n;have c:e.toArray.size=d.length:=by rw[cP];exact r.B.symm
 refine("tuple",_,wI.lookup,g.typeIs,?_);refine adl g k l m (by rw[c];exact p) ?_ (by rw[c];exact i);rw[c];refine(.ref s⁻¹,_,I.F (t':=s.toks) (o:=.tup<|kr d lo hi) (λb z q=>bQ _ q) (aV _) ?_,O,q _<|I.a.B<|aV _);exact(dq (Nq d lo hi) i,_,(r.N<|cC d.length 0 lo).A0<|cC d.length d.length hi-cC d.length 0 lo,Sv _ _)
def co.A1{b:List aa}(r:co a b):b=[]↔a=[]:=by
 cases r with
 |nil=>simp
 |cons _ _=>simp
end
noncomputable def qt(n:Nat)(i:Int):Option Nat:=if 0<=i then(if i<n then V i.toNat else Y) else if -(n:Int)<=i then V (i+n).toNat else Y
noncomputable def lC{a:Type}(b:List a)(i:Int):Option a:=(qt b.length i).bind λj=>b[j]?
def MN{n:Nat}{i:Int}{j:Nat}(h:qt n i=V j):seqIndex? i n=V j/\j<n/\-(n:Int)<=i/\i<n:=by
 unfold qt at h
 by_cases b:0<=i
 ·rw[av b] at h
  by_cases a:i<n
  ·rw[av a] at h
   have e:i.toNat=j:=bM h;exact(by rw[Rh b a,e],ω,ω,a)
  ·rw[am a] at h;cases h
 ·rw[am b] at h
  by_cases a:-(n:Int)<=i
  ·rw[av a] at h
   have e:(i+n).toNat=j:=bM h;exact(by rw[Ri ω a,e],ω,a,ω)
  ·rw[am a] at h;cases h
def NJ{b:Type}{a:List b}{i:Int}{v:b}(h:lC a i=V v):∃j,seqIndex? i a.length=V j/\a[j]?=V v/\j<a.length/\-(a.length:Int)<=i/\i<a.length:=by
 unfold lC at h;cases e:qt a.length i with
 |none=>rw[e] at h;cases h
 |some j=>
  rw[e] at h;obtain⟨c,d,f,g⟩:=MN e;exact(j,c,h,d,f,g)
def jg{b:Type}{a:List b}{j:Nat}{v:b}(h:a[j]?=V v):lC a (j:Int)=V v:=by
 have c:j<a.length:=(bY.mp h).1;have e:qt a.length (j:Int)=V j:=by
  unfold qt;rw[av ω,av ω];simp
 unfold lC;rw[e];exact h
def XK{b:Type}(a:List b)(v:b):lC (a++[v]) (-1)=V v:=by
 have c:(a++[v]).length=a.length+1:=by simp
 have e:qt (a++[v]).length (-1)=V a.length:=by
  unfold qt;rw[c,am ξ,av ω]
  congr 1
  omega
 unfold lC;rw[e];show(a++[v])[a.length]?=V v;simp
def XS(b:bz):Prop:=∀o i,CD b aB o i=IQ [o,i] (pZ o i)
def FQ(X:a_)(r:lE):Prop:=
 ∀(c a:bz)(b:Ψ)(s:ak)(d:aR)(H:ab)(x y:af)(v u:aa)(Q:aU),aA X b d H s->cg x v->cg y u->r x y H Q->
  CD a aB v u=IQ [v,u] (pZ v u)->ax 3#0 X.A (Jz c a v u) (ji X b d Q) X.a s
def xO(X:a_)(e:String)(r:af->List af->ab->aU->Prop):Prop:=
 ∀(a:Ψ)(s:ak)(b:aR)(H:ab)(x:af)(c:List af)(v:aa)(d:List aa)(Q:aU),aA X a b H s->cg x v->co c d->r x c H Q->
  ax 3#0 X.A (im (.builtin e)<|v::d) (ji X a b Q) X.a s
section
variable{X:a_}{a b:bz}{ta tb:bd}{pos:ci}
def eK(d:FQ X r)(e:bG X a ta)(f:bG X b tb)(g:XS b):bG X (.Subscript a b pos) (dk r ta tb):=by
 intro c s i H Q I h;exact JF<|FH e f I h λv u j x y k l m n q=>d a b c j i k x y v u Q l m n q<|g _ _
inductive Ma(K:aY)(x:af)(y:af)(H:ab)(Q:aU):Prop
 |a:∀p xs i v,(x=.ref p)->(y=.int i)->(bI K H p xs)->(lC xs i=V v)->(Q v H)->Ma K x y H Q
inductive tD(K:aY)(x:af)(y:af)(H:ab)(Q:aU):Prop
 |a:∀p xs i v,(x=.ref p)->(y=.int i)->(fg K H p xs)->(lC xs i=V v)->(Q v H)->tD K x y H Q
def lw:FQ X (Ma X.K):=by
 intro d e a s m H x y v u Q I C D h n;obtain⟨p,S,i,z,rfl,rfl,E,G,q⟩:=h;cases C;obtain⟨t,rfl⟩:=D;obtain⟨f,r,g,T⟩:=I.list E;obtain⟨j,c,K,U,L,M⟩:=NJ G;obtain⟨w,o,k⟩:=r.F K;have P:=r.B;have hn:=An;have b:ji X a m Q w s:=(z,H,I,k,q)
 by_cases A:0<=i
 ·have l:i.toNat=j:=by
   rw[Rh A M] at c;exact bM c
  exact item_listR g.isList A ω (by rw[l];simpa using o) b n
 ·have l:(i+(f.toArray.size:Int)).toNat=j:=by
   rw[Ri ω L] at c;rw[cP,<-P];exact bM c
  exact ahp (x:=w) g.isList.typeIs Re.lookup
   (wpAny_getItem_list_neg (Q:=λr R=>r=w/\ji X a m Q r R) g.isList ω (by rw[cP]<;>omega) ω (by rw[l];simpa using o) (O,b)) n
def ig:FQ X (tD X.K):=by
 intro b c a s f H U y v u Q I k l h m;obtain⟨p,L,i,z,rfl,rfl,n,o,q⟩:=h;cases k;obtain⟨t,rfl⟩:=l;obtain⟨A,r,g,M⟩:=I.B n;obtain⟨j,C,D,P,R,S⟩:=NJ o;obtain⟨w,E,d⟩:=r.F D;have G:=r.B;have T:=An;have e:ji X a f Q w s:=(z,H,I,d,q);exact ahp (x:=w) g.typeIs wI.lookup
  (getItem_tuple (j:=j) (Q:=λr K=>r=w/\ji X a f Q r K) g ω ω (by rw[cP,<-G];exact C) 6#E (O,e)) m
def WE(a:List aa)(n j:Nat)(u:aa):cD (·.setIfInBounds j u) {cls:=.type "list",data:=.seq a.toArray n}={cls:=.type "list",data:=.seq (a.set j u).toArray n}:=by
 simp[cD]
def aA.lst{b:Ψ}{d:aR}{s:ak}(I:aA X b d H s)(h:H p=V (.lst c)):∃(a:List aa)(n:Nat),co c a/\s.heap.get? p=V {cls:=.type "list",data:=.seq a.toArray n}/\c.length<=bD:=by
 obtain⟨z,a,n,r,e⟩:=I.a p _ h;exact(a,n,r,e,z)
def aA.D2{j:aR}{s:ak}{l g:List af}{d a:List aa}{n i:Nat}{f:bg->bg}(I:aA X c j H s)(h:H p=V (.lst l))(m:s.heap.get? p=V {cls:=.type "list",data:=.seq d.toArray n})(k:f {cls:=.type "list",data:=.seq d.toArray n}={cls:=.type "list",data:=.seq a.toArray i})(r:co g a)(o:g.length<=bD)(t:Nat):aA X c j (aD H p<|.lst g) {s with heap:=s.heap.update p f,toks:=t}:=by
 have e:(s.heap.update p f).get? p=V {cls:=.type "list",data:=.seq a.toArray i}:=by
  rw[rh f m (by rw[k]<;>rfl),k]
 refine I.B9 (x:=p) (e:=p) (by rw[h];trivial) (.inl O) (λb u v q=>(qc _ _<|dp v).trans q) (_,e) ?_;exact(o,a,i,r,e)
inductive LX(o:af)(i:af)(v:af)(H:ab)(Q:ab->Prop):Prop
 |a:∀p xs k j,(o=.ref p)->(i=.int k)->(H p=V (.lst xs))->(qt xs.length k=V j)->(Q<|aD H p<|.lst<|xs.set j v)->LX o i v H Q
def LL:NO X LX:=by
 intro a s y H o i v K L u Q I z A C h;obtain⟨p,D,k,j,rfl,rfl,g,E,q⟩:=h;cases z;obtain⟨t,rfl⟩:=A;obtain⟨b,n,r,d,G⟩:=I.lst g;obtain⟨c,M,l,m⟩:=MN E;have e:=r.B;have P:=An;have w:aA X a y (aD H p<|.lst<|D.set j v) {s with heap:=s.heap.update p (cD (·.setIfInBounds j u))}:=
  I.D2 g d (WE b n j u) (r.set C j) (by rw[List.length_set];exact G) s.toks
 by_cases x:0<=k
 ·have f:k.toNat=j:=by
   rw[Rh x m] at c;exact bM c
  exact PySem.W.ki_setAt d x ω (by rw[cP,<-e];exact m) (by rw[f];exact(_,w,q))
 ·have f:(k+(b.toArray.size:Int)).toNat=j:=by
   rw[Ri ω l] at c;rw[cP,<-e];exact bM c
  exact PySem.W.ki_setBack d ω (by rw[cP,<-e];exact l) ω (by rw[f];exact(_,w,q))
def VK(a b:Option Int)(n:Nat):(il a b Y n).1=((cC n 0 a:Nat):Int)/\(il a b Y n).2.1=((cC n n b:Nat):Int)/\(il a b Y n).2.2=1:=by
 refine(?_,?_,O)
 ·cases a with
  |none=>simp[il,cC]
  |some i=>
   simp only[il,cC,ah1,show(1:Int)>0 from ξ,eD]
   by_cases h:i<0
   ·simp only[h,eD]<;>omega
   ·simp only[h,da]<;>omega
 ·cases b with
  |none=>simp[il,cC]
  |some i=>
   simp only[il,cC,ah1,show(1:Int)>0 from ξ,eD]
   by_cases h:i<0
   ·simp only[h,eD]<;>omega
   ·simp only[h,da]<;>omega
def VL(a:List aa)(b c:Option Int):slicePick a.toArray b c Y=((a.drop<|cC a.length 0 b).take<|cC a.length a.length c-cC a.length 0 b).toArray:=by
 obtain⟨d,e,f⟩:=VK b c a.toArray.size;unfold slicePick;rw[d,e,f];simp only[sliceRange_one,pick_run,cP]<;>rfl
inductive LW(K:aY)(x:af)(lo:Option Int)(hi:Option Int)(H:ab)(Q:aU):Prop
 |b:∀a xs,(x=.ref a)->(bI K H a xs)->(∀p,H p=Y->Q 5#p (aD H p<|.lst<|kr xs lo hi))->LW K x lo hi H Q
def VM:Az X (LW X.K):=by
 intro g s u H x v w y e f z Q I j k l m h;obtain⟨a,c,rfl,n,q⟩:=h;cases j;obtain⟨p,r,i,t⟩:=I.list n;have d:=r.B;refine("list",_,Re.lookup,i.isList.typeIs,?_);refine ae5 i.isList k l m .none 0#0 ?_ (by rw[cP]<;>exact à (æ d) t);rw[VL,<-d];refine(.ref s⁻¹,_,I.F (t':=s.toks) (o:=.lst<|kr c e f) (λb A q=>bQ _ q) (aV _) ?_,O,q _<|I.a.B<|aV _);exact(dq (Nq c e f) t,_,0,(r.N<|cC c.length 0 e).A0<|cC c.length c.length f-cC c.length 0 e,dg _ O)
noncomputable def rJ:af->Bool
 |.non=>ae
 |.c _=>ae
 |.int _=>ae
 |.str _=>ae
 |_=>aB
noncomputable def rK:af->af->Bool
 |.non,.non=>ae
 |.c a,.c b=>a==b
 |.c a,.int b=>(if a then 1 else 0)==b
 |.int a,.c b=>a==(if b then 1 else 0)
 |.int a,.int b=>a==b
 |.str a,.str b=>a==b
 |_,_=>aB
def Nd{s:ak}(e:cg y u)(c:cg x v)(g:rJ y=ae)(f:rJ x=ae):zb A s u v (rK y x):=by
 cases y with
 |non=>
  cases e;cases x with
  |non=>cases c;exact SeqAt.EqAt.same _
  |c b=>cases c;exact SeqAt.EqAt.none_bool b
  |int b=>obtain⟨t,rfl⟩:=c;exact SeqAt.EqAt.none_int b t
  |str b=>obtain⟨t,rfl⟩:=c;exact SeqAt.EqAt.none_str b t
  |_=>exact bh (show aB=ae from f) dY
 |c a=>
  cases e;cases x with
  |non=>cases c;exact SeqAt.EqAt.bool_none a
  |c b=>cases c;exact SeqAt.EqAt.bool_bool a b
  |int b=>obtain⟨t,rfl⟩:=c;exact SeqAt.EqAt.bool_int a b t
  |str b=>obtain⟨t,rfl⟩:=c;exact SeqAt.EqAt.bool_str a b t
  |_=>exact bh (show aB=ae from f) dY
 |int a=>
  obtain⟨d,rfl⟩:=e;cases x with
  |non=>cases c;exact SeqAt.EqAt.int_none a d
  |c b=>cases c;exact SeqAt.EqAt.int_bool a d b
  |int b=>obtain⟨t,rfl⟩:=c;exact RS a d b t
  |str b=>obtain⟨t,rfl⟩:=c;exact af5 a d b t
  |_=>exact bh (show aB=ae from f) dY
 |str a=>
  obtain⟨d,rfl⟩:=e;cases x with
  |non=>cases c;exact SeqAt.EqAt.str_none a d
  |c b=>cases c;exact SeqAt.EqAt.str_bool a d b
  |int b=>obtain⟨t,rfl⟩:=c;exact af4 a d b t
  |str b=>obtain⟨t,rfl⟩:=c;exact SeqAt.EqAt.str_str a d b t
  |_=>exact bh (show aB=ae from f) dY
 |_=>exact bh (show aB=ae from g) dY
noncomputable def qu(x:af)(u:aa):Bool:=match u with
 |.none=>rK .non x
 |.bool b=>rK (.c b) x
 |.int i _=>rK (.int i) x
 |.str z _=>rK (.str z) x
 |_=>aB
def Nc(r:cg y u)(f:rJ y=ae):qu x u=rK y x:=by
 cases y with
 |non=>cases r;rfl
 |c b=>cases r;rfl
 |int i=>obtain⟨t,rfl⟩:=r;rfl
 |str z=>obtain⟨t,rfl⟩:=r;rfl
 |_=>exact bh (show aB=ae from f) dY
def FI:∀{a:List af}{b:List aa},co a b->a.all rJ=ae->b.any (qu x)=a.any λy=>rK y x
 |_,_,.nil,_=>O
 |y::a,u::b,.cons r t,f=>by
  rw[ai6,jP] at f;rw[zB,zB,Nc r f.1,FI t f.2]
def Fh{s:ak}(d:cg x v)(e:rJ x=ae):∀{b:List af}{c:List aa},co b c->b.all rJ=ae->∀u∈c,zb A s u v (qu x u)
 |_,_,.nil,_=>λu a=>by cases a
 |y::b,u::c,.cons r t,f=>λg a=>by
  rw[ai6,jP] at f;rcases cz.mp a with rfl|a
  ·rw[Nc r f.1];exact Nd r d f.1 e
  ·exact Fh d e t f.2 g a
noncomputable def MP(x:af)(a:List af):Bool:=a.any λy=>rK y x
inductive Mc(K:aY)(neg:Bool)(x:af)(y:af)(H:ab)(Q:aU):Prop
 |a:∀p xs,(y=.ref p)->((bI K H p xs\/fg K H p xs))->(rJ x=ae)->(xs.all rJ=ae)->(Q (.c<|if neg then !MP x xs else MP x xs) H)->Mc K neg x y H Q
def Wm:fZ X (iW .NotIn) (Mc X.K ae):=by
 intro f s l H x y v u Q I g j h;obtain⟨p,m,rfl,b,i,c,q⟩:=h;cases j;rcases b with b|b
 ·obtain⟨a,r,d,k⟩:=I.list b
  refine af3 (qu x) d.isList (λw e=>Fh g i r c w 6#e) (.c _,H,I,O,?_);rw[show a.toArray.any (qu x)=a.any (qu x) by simp,FI r c];exact q
 ·obtain⟨a,r,d,k⟩:=I.B b
  refine SeqAt.notIn_tupleAt (qu x) d (λw e=>Fh g i r c w 6#e) (.c _,H,I,O,?_);rw[show a.toArray.any (qu x)=a.any (qu x) by simp,FI r c];exact q
inductive xq(K:aY)(xs:List af)(H:ab)(Q:aU):Prop
 |a:∀p ys,(xs=[.ref p])->(bI K H p ys\/fg K H p ys)->Q (.int ys.length) H->xq K xs H Q
def fX:iS X (.builtin "len") (xq X.K):=by
 intro f s k H l m Q I r h;obtain⟨p,g,rfl,b,q⟩:=h;obtain⟨u,rfl,i⟩:=ir r;cases i;have n:=An;rcases b with b|b
 ·obtain⟨c,d,e,j⟩:=I.list b
  have a:=d.B;exact Calls.call_len_list e.isList (by simp only[cP]<;>omega) (.int g.length,H,I.N _,(s.toks+1,by rw[cP,a]),q)
 ·obtain⟨c,d,e,j⟩:=I.B b
  have a:=d.B;exact len_tuple e (by simp only[cP]<;>omega) (.int g.length,H,I.N _,(s.toks+1,by rw[cP,a]),q)
inductive L'(K:aY)(xs:List af)(H:ab)(Q:aU):Prop
 |a:∀p ys,(xs=[.ref p])->(bI K H p ys\/fg K H p ys)->(∀l,H l=Y->Q 5#l (aD H l<|.lst ys))->L' K xs H Q
def Ax:iS X (.type "list") (L' X.K):=by
 intro g s A H D E Q I r h;obtain⟨p,t,rfl,i,q⟩:=h;obtain⟨u,rfl,C⟩:=ir r;cases C;have j:∀(a:List aa),co t a->t.length<=bD->∀(c:aW)(d:Nat),(∀b z,s.heap.get? b=V z->c.get? b=V z)->
   c.get? s⁻¹=V {cls:=.type "list",dict:=Y,data:=.seq a.toArray d,slots:=#[]}->ji X g A Q (.ref s⁻¹) {s with heap:=c}:=λa f k c d l e=>
  (.ref s⁻¹,_,I.F (t':=s.toks) l (aV _)<|show di X.prog X.w _ c _ (.lst t) from(k,a,d,f,e),O,q _<|I.a.B<|aV _)
 rcases i with i|i
 ·obtain⟨a,f,v,k⟩:=I.list i
  have m:=f.B;obtain⟨o,w,x,n,y⟩:=v.isList;exact call_list_seq p (.inl O) w x y (λc d l e=>j a f k c d l e) (by simp only[cP]<;>exact à (æ m) k)
 ·obtain⟨a,f,v,k⟩:=I.B i
  have m:=f.B;obtain⟨o,w,x,n,y⟩:=v;exact call_list_seq p (.inr O) w x y (λc d l e=>j a f k c d l e) (by simp only[cP]<;>exact à (æ m) k)
def Aw:iS X (.type "tuple") (λk H Q=>∃p d,k=[.ref p]/\((bI X.K H p d/\∀l,H l=Y->Q 5#l (aD H l<|.tup d))\/(fg X.K H p d/\Q 5#p H))):=by
 intro a s m H k z Q I r h;obtain⟨p,d,rfl,h⟩:=h;obtain⟨u,rfl,w⟩:=ir r;cases w;rcases h with ⟨g,q⟩|⟨g,q⟩
 ·obtain⟨c,i,j,n⟩:=I.list g
  have t:=i.B;refine call_tuple_list j.isList (λf x=>?_) (by simp only[cP]<;>exact à (æ t) n);have v:aA X a m H {s with heap:=f}:=I.J (t':=s.toks) x;have y:aA X a m (aD H f.objs.size<|.tup d) {s with heap:=f.push {cls:=.type "tuple",data:=.seq c.toArray}}:=
   v.F (t':=s.toks) (λb o e=>bQ _ e) (aV _)<|show di X.prog X.w _ _ _ (.tup d) from(n,c,i,Sv _ _)
  exact(.ref f.objs.size,_,y,O,q _<|v.a.B<|aV _)
 ·obtain⟨c,i,j,n⟩:=I.B g
  exact call_tuple_same j (.ref p,H,I,O,q)
def ED(K:aY)(T:String)(x:af)(H:ab):Prop:=match x with
 |.str _=>T="str"
 |.int _=>T="int"
 |.ref p=>(T="list"/\∃b,bI K H p b)\/(T="tuple"/\∃o,K.lookup p=V o/\o.cls=.type "tuple"/\o.dict=Y) \/
   (T="dict"/\((∃a,H p=V (.b a))\/∃a,H p=V (.a a)))\/(T="set"/\∃S n,H p=V (.set S n))
 |_=>False
def Lt{s:ak}(I:aA X f q H s)(r:cg x v)(g:ED X.K T x H):s.TypeIs v T/\∀a,v=.ref a->∃l,s.heap.get? a=V l/\l.dict=Y:=by
 cases x with
 |str z=>
  obtain⟨t,rfl⟩:=r;cases(show T="str" from g);exact(IM s z t,λ_ e=>nomatch e)
 |int i=>
  obtain⟨t,rfl⟩:=r;cases(show T="int" from g);exact(typeIs_int s i t,λ_ e=>nomatch e)
 |ref p=>
  cases r;rcases g with ⟨rfl,A,u⟩|⟨rfl,o,b,w,h⟩|⟨rfl,b⟩|⟨rfl,S,n,b⟩
  ·obtain⟨y,_,m,_⟩:=I.list u
   refine(m.isList.typeIs,λa e=>?_);cases e;obtain⟨o,n,e,c,h,_⟩:=m;exact(o,e,h)
  ·refine((o,I.A5 p o b,w),λa e=>?_)
   cases e;exact(o,I.A5 _ o b,h)
  ·have z:∃o,s.heap.get? p=V o/\o.ExactDict:=by
    rcases b with ⟨j,b⟩|⟨j,b⟩
    ·obtain⟨_,_,_,_,o,_,_,e,d,_⟩:=I.a p _ b
     exact(o,e,d)
    ·obtain⟨_,_,_,_,o,_,_,e,d,_⟩:=I.a p _ b
     exact(o,e,d)
   obtain⟨o,e,d⟩:=z;refine((o,e,d.1),λa k=>?_);cases k;exact(o,e,d.2.1)
  ·obtain⟨o,_,_,_,e,d,_⟩:=I.a p _ b
   refine((o,e,d.1),λa k=>?_);cases k;exact(o,e,d.2.1)
 |_=>exact hX g
def VF(K:aY)(T:String)(r:af->List af->ab->aU->Prop)(b:bd):bd:=λc H Q=>b c H λx a=>ED K T x a/\r x [] a Q
def EH(K:aY)(T:String)(r:af->List af->ab->aU->Prop)(c:bd)(t:fY):bd:=λa H Q=>c a H λx b=>ED K T x b/\t a b λd e=>r x d e Q
variable{o e:bz}{es:List bz}{to:bd}{t:fY}{name:aq}{apos cpos:ci}{T id:String}{r:af->List af->ab->aU->Prop}
def Wj(j:PlainAttrs T)(d:Slot T name id)(e:typeOf (.builtin id)=aX (.type "method_descriptor"))(k:xO X id r)(l:bG X o to)(b:CJ o name X.env (dN o X.env)=dN o X.env:=by rfl)(c:(apos.endLine==cpos.line)=ae:=by rfl):bG X (.Call (.Attribute o name apos) [] [] cpos) (VF X.K T r to):=by
 intro a s f H Q I h;refine afc b c<|bH (l a s f H _ I h) λv m (x,n,g,i,p,q)=>?_;obtain⟨t,u⟩:=Lt g i p;exact(T,id,j,d,e,t,u,Jw O<|afl<|k a m f n x [] v [] Q g i .nil q)
def lv(n:PlainAttrs T)(f:Slot T name id)(i:typeOf (.builtin id)=aX (.type "method_descriptor"))(p:xO X id r)(q:bG X o to)(u:ku X (e::es) t)(c:CJ o name X.env (dN o X.env)=dN o X.env:=by rfl)
  (g:((nK cpos<|fu (e::es) X.env).all (λx=>!x.1)&&(RC cpos<|Rq [] X.env).all (λx=>x.1.isSome)
   && aE ((e::es).length+([]:List wB).length+(if([]:List wB).isEmpty then 0 else 1)<30))=ae:=by rfl)
  (d:(apos.endLine==cpos.line)=ae:=by rfl) (w:fu (e::es) X.env=(aez aB (dN e X.env))::fu es X.env:=by rfl) (b:(nK cpos<|fu es X.env).any (·.1)=aB:=by rfl) :
  bG X (.Call (.Attribute o name apos) (e::es) [] cpos) (EH X.K T r to t):=by
 intro a s j H Q I h;refine wpAny_Call_method_late c g d O<|bH (q a s j H _ I h) λv y (x,z,k,l,A,C)=>?_;obtain⟨D,E⟩:=Lt k l A;refine(T,id,n,f,i,D,E,?_);have m:=u cpos a y j z _ k C;rw[w] at m ⊢;refine Jw (by show(aB|| (nK cpos<|fu es X.env).any (·.1))=aB;rw[b]<;>rfl)<|ag5 ?_;exact bH m λG K (L,M,P,R,S)=>p a K j M x L v G Q P l R S
end
def vC(X:a_)(e:String)(r:af->List af->ab->aU->Prop):Prop:=
 ∀(a:Ψ)(s:ak)(b:aR)(H:ab)(x:af)(c:List af)(v:aa)(d:List aa)(Q:aU),aA X a b H s->cg x v->co c d->r x c H Q->
  ax 3#0 X.A (im (.builtin e)<|v::d) (ji X a b Q) X.a s
noncomputable def co.M{x:af}(h:co [x] a):∃u,a=[u]/\cg x u:=by
 cases h with|cons r t=>cases t;exact(_,O,r)
def co.A2{x y:af}(h:co [x,y] a):∃u v,a=[u,v]/\cg x u/\cg y v:=by
 cases h with|cons r t=>obtain⟨v,rfl,q⟩:=co.M t;exact(_,_,O,r,q)
def co.zero:∀{a:List aa},co [] a->a=[]
 |_,.nil=>O
def co.A3:∀{a:List af}{b:List aa}(i:Nat),co a b->co (a.eraseIdx i) (b.eraseIdx i)
 |_,_,_,.nil=>.nil
 |_,_,0,.cons _ t=>t
 |_,_,i+1,.cons r t=>.cons r (co.A3 i t)
def MI{a:Type}:∀(l:List a)(i:Nat),(l.eraseIdx i).length<=l.length
 |[],_=>aV _
 |_::_,0=>nR _
 |_::r,i+1=>Sx (MI r i)
section
variable{X:a_}{pins:Ψ}{σ:aR}{H:ab}{s:ak}{l b:W}{xs ys zs:List af}
def aA.B2{a its':List aa}{n:Nat}{f:Array aa->Array aa}{t':Nat}(I:aA X pins σ H s)(b:H l=V (.lst xs))(e:s.heap.get? l=V {cls:=.type "list",data:=.seq a.toArray n})(c:f a.toArray=its'.toArray)(d:co ys its')(g:ys.length<=bD):aA X pins σ (aD H l<|.lst ys) {s with heap:=s.heap.update l<|cD f,toks:=t'}:=by
 have q:=PySem.IsL.update e f;rw[c] at q;refine I.B9 (x:=l) (e:=l) (by rw[b];exact trivial) (.inl O) (λj u h i=>(qc s.heap (cD f)<|dp h).trans i) (_,q) ?_;exact(g,its',_,d,q)
def aA.C1{a:List aa}{t':Nat}(I:aA X pins σ H s)(b:co ys a)(c:ys.length<=bD):aA X pins σ (aD H s⁻¹<|.lst ys) {s with heap:=s.heap.push {cls:=.type "list",data:=.seq a.toArray},toks:=t'}:=
 I.F (λ_ _ q=>bQ _ q) (aV _) (c,a,0,b,dg _ O)
def aA.D3(I:aA X pins σ H s):H s⁻¹=Y:=I.a.B<|aV _
def aA.A4(I:aA X pins σ H s)(b:H l=V (.lst xs)):xs.length<=bD/\∃(a:List aa)(n:Nat),co xs a/\xs.length=a.length/\s.heap.get? l=V {cls:=.type "list",data:=.seq a.toArray n}:=by
 obtain⟨z,a,n,r,e⟩:=I.a l _ b;exact(z,a,n,r,r.B,e)
def Wr{n:Nat}(h:n<=bD):Sk n=aB:=by
 unfold Sk;exact cw (ù h)
end
section
variable{X:a_}
inductive Mf(x:af)(vs:List af)(H:ab)(Q:aU):Prop
 |a:∀l xs y,(x=.ref l)->(vs=[y])->(H l=V (.lst xs))->(xs.length<bD)->(Q .non<|aD H l<|.lst<|xs++[y])->Mf x vs H Q
def rI:vC X "list.append" Mf:=by
 intro b s i H x j v k Q I d f h;obtain⟨l,m,y,rfl,rfl,c,o,q⟩:=h;cases d;obtain⟨u,rfl,g⟩:=f.M;obtain⟨z,a,n,r,p,e⟩:=I.A4 c;refine sC uz (_,e,O) F.entry_list_append (F.args_list_append_2 _ _) (PySem.list_append l a.toArray n u (by rw[cP];exact à (æ p) z)) (e,?_);refine(.non,_,I.B2 (its':=a++[u]) c e 0#0 (r.J<|.cons g .nil) ?_,O,q);rw[c_,zy];exact o
inductive Md(x:af)(vs:List af)(H:ab)(Q:aU):Prop
 |a:∀l b xs zs,(x=.ref l)->(vs=[.ref b])->(H l=V (.lst xs))->(H b=V (.lst zs))->(xs.length+zs.length<=bD)->(Q .non<|aD H l<|.lst<|xs++zs)->Md x vs H Q
def Wz:vC X "list.extend" Md:=by
 intro g s A H x C v D Q I j k h;obtain⟨l,b,E,G,rfl,rfl,i,m,K,q⟩:=h;cases j;obtain⟨u,rfl,o⟩:=k.M;cases o;obtain⟨z,c,n,r,L,e⟩:=I.A4 i;obtain⟨M,a,p,t,w,y⟩:=I.A4 m;have f:c.toArray.size+a.toArray.size<=bD:=by rw[cP,cP];exact à (à (ð (æ L)) (ñ (æ w))) K
 have d:¬(!c.toArray.isEmpty&&Sk (c.toArray.size+a.toArray.size))=ae:=by
  rw[Wr f,wV];exact dY
 refine sC agg (_,e,O) F.entry_list_extend (F.args_list_extend_2 _ _)
  (AutoSeq1.list_extend_list_list_0 l c.toArray n b a.toArray p d (by rw[cP];exact à (æ L) z) (í f)) (e,y,?_)
 refine(.non,_,I.B2 (its':=c++a) i e 0#0 (r.J t) ?_,O,q);rw[c_];exact K
inductive Me(x:af)(y:af)(H:ab)(Q:aU):Prop
 |a:∀l b xs zs,(x=.ref l)->(y=.ref b)->(H l=V (.lst xs))->(H b=V (.lst zs))->(xs.length+zs.length<=bD)->(∀p,H p=Y->Q 5#p (aD H p<|.lst<|xs++zs))->Me x y H Q
def vo:fZ X (qX .Add) Me:=by
 intro d s t H x y v u Q I f g h;obtain⟨l,b,w,A,rfl,rfl,i,j,C,q⟩:=h;cases f;cases g;obtain⟨z,c,n,r,D,e⟩:=I.A4 i;obtain⟨E,a,G,k,m,o⟩:=I.A4 j;refine PySem.P.add_list e o ?_ (by rw[cP,cP];exact à (à (ð (æ D)) (ñ (æ m))) C);have p:c.toArray++a.toArray=(c++a).toArray:=by simp
 rw[p];exact(.ref _,_,I.C1 (t':=s.toks) (r.J k) (by rw[c_];exact C),O,q _ I.D3)
end
section
variable{prog:bu}{w:bf}{A:bO}{E:Ω}{s:ak}
set_option maxRecDepth 100000 in
end
section
variable{κ:Type}[DecidableEq κ]
noncomputable def fm(a:List (κ×af))(k:κ):Option af:=(a.find? λb=>aE<|b.1=k).map (·.2)
noncomputable def dZ(a:List (κ×af))(k:κ)(v:af):List (κ×af):=
 if(a.any λb=>aE<|b.1=k)=ae then a.map (λb=>if b.1=k then(aez b.1 v) else b) else a++[(aez k v)]
def xm{p:κ×af}{r:List (κ×af)}{k:κ}(e:p.1=k):fm (p::r) k=V p.2:=by simp[fm,qf,e]
def xn{p:κ×af}{r:List (κ×af)}{k:κ}(e:¬p.1=k):fm (p::r) k=fm r k:=by simp[fm,qf,e]
def vf(k:κ):∀a:List (κ×af),(a.any λb=>aE<|b.1=k)=(fm a k).isSome
 |[]=>O
 |p::r=>by
  rw[zB]
  by_cases e:p.1=k
  ·simp only[xm e,bT e,Bool.true_or,Option.isSome_some]
  ·rw[xn e,cw e,Bool.false_or];exact vf k r
def Ao(a:List (κ×af))(k:κ)(v:af):(dZ a k v).length<=a.length+1:=by
 unfold dZ;split
 ·rw[au];exact ü
 ·rw[c_,dj,nq];exact ß
def Mi{k:κ}(v:af)(h:fm a k=Y):dZ a k v=a++[(aez k v)]:=by
 unfold dZ;rw[vf,h];exact am ξ
def qy.F(r:qy o u):o.isSome=u.isSome:=by
 cases o with
 |none=>cases u with
  |none=>rfl
  |some _=>exact(show False from r).elim
 |some _=>cases u with
  |none=>exact(show False from r).elim
  |some _=>rfl
noncomputable def qy.J(r:qy o u)(b:cg d a):cg (o.getD d) (u.getD a):=by
 cases o with
 |none=>cases u with
  |none=>exact b
  |some _=>exact(show False from r).elim
 |some _=>cases u with
  |none=>exact(show False from r).elim
  |some _=>exact r
def jV.val(r:jV a f)(k:κ):qy (fm a k) (qS f k):=by
 unfold jV at r
 induction r with
 |nil=>exact ug
 |@cons p q l c h t i=>
  obtain⟨g,j⟩:=h
  by_cases e:p.1=k
  ·have d:q.1=k:=g.symm.trans e
   have b:qS (q::c) k=V q.2:=by simp[qS,qf,d]
   rw[xm e,b];exact j
  ·have d:¬q.1=k:=λz=>e<|g.trans z
   have b:qS (q::c) k=qS c k:=by simp[qS,qf,d]
   rw[xn e,b];exact i
noncomputable def jV.M(r:jV a c)(k:κ):(a.any λb=>aE<|b.1=k)=c.any λb=>aE<|b.1=k:=by
 unfold jV at r
 induction r with
 |nil=>rfl
 |cons h t d=>rw[zB,zB,d,h.1]
noncomputable def jV.J{b:List (κ×af)}(r:jV b d)(k:κ)(f:cg y u):jV (b.map λa=>if a.1=k then(aez a.1 y) else a) (d.map λa=>if a.1=k then(aez a.1 u) else a):=by
 unfold jV at r ⊢
 induction r with
 |nil=>exact .nil
 |@cons p q j l h t g=>
  rw[cY,cY];refine .cons ?_ g;obtain⟨c,i⟩:=h
  by_cases e:p.1=k
  ·rw[av e,av<|c.symm.trans e];exact(c,f)
  ·rw[am e,am (λz=>e<|c.trans z)];exact(c,i)
def jV.F{b:List (κ×aa)}(r:jV a b)(k:κ)(c:cg y u):jV (dZ a k y) (stored b k u):=by
 unfold dZ stored;rw[r.M k]
 by_cases e:(b.any λd=>aE<|d.1=k)=ae
 ·rw[av e,av e];exact r.J k c
 ·rw[am e,am e];exact wA r (O,c)
noncomputable def jV.B{b:List (κ×aa)}(r:jV a b):a.length=b.length:=iM r
end
def vq{k:aK}(r:cg (cR k) u):(ff P w).is k u=ae:=by
 cases k with
 |inl i=>obtain⟨t,e⟩:=(show ∃t,u=aQ i t from r);subst e;exact Fg P w i t
 |inr x=>obtain⟨t,e⟩:=(show ∃t,u=q_ x t from r);subst e;exact WA P w x t
def MO:∀{a:List aK}{b:List aa},co (a.map cR) b->C' (ff P w) a b
 |[],_,r=>by rw[zv] at r;cases r;exact .nil
 |k::a,_,r=>by
  rw[cY] at r;cases r with
  |cons h t=>exact .cons (vq h)<|MO t
abbrev jW(H:ab):List (List aK×af)->List (List aK×W×aa)->Prop:=eI λp q=>p.1=q.1/\H q.2.1=V (.tup<|p.1.map cR)/\cg p.2 q.2.2
def jW.val(r:jW H a f)(k:List aK):qy (fm a k) ((sD f k).map (·.2)):=by
 induction r with
 |nil=>exact ug
 |@cons p q l c h t i=>
  obtain⟨g,_,j⟩:=h
  by_cases e:p.1=k
  ·have d:q.1=k:=g.symm.trans e
   have b:sD (q::c) k=V q.2:=by simp[sD,qf,d]
   rw[xm e,b];exact j
  ·have d:¬q.1=k:=λz=>e<|g.trans z
   have b:sD (q::c) k=sD c k:=by simp[sD,qf,d]
   rw[xn e,b];exact i
noncomputable def jW.J(r:jW H a d)(k:List aK)(g:cg y u):jW H (a.map λc=>if c.1=k then(aez c.1 y) else c) (d.map<|putAt k u):=by
 induction r with
 |nil=>exact .nil
 |@cons p q l m h t i=>
  rw[cY,cY];refine .cons ?_ i;obtain⟨b,f,j⟩:=h;unfold putAt
  by_cases e:p.1=k
  ·rw[av e,av<|b.symm.trans e];exact(b,f,g)
  ·rw[am e,am (λz=>e<|b.trans z)];exact(b,f,j)
def jW.F(r:jW H kvs a)(k:List aK){b:W}(d:H b=V (.tup<|k.map cR))(c:cg y u):jW H (dZ kvs k y) (CE a k b u):=by
 have e:(kvs.any λf=>aE<|f.1=k)=(sD a k).isSome:=by
  rw[vf,(r.val k).F,ah0]
 unfold dZ CE;rw[e]
 by_cases q:(sD a k).isSome=ae
 ·rw[av q,av q];exact r.J k c
 ·rw[am q,am q];exact wA r (O,d,c)
noncomputable def jW.B{H c:ab}(r:jW H a d)(f:∀b e,H b=V (.tup e)->c b=V (.tup e)):jW c a d:=
 jF r λ_ _ z=>(z.1,f _ _ z.2.1,z.2.2)
section
variable{P:bu}{w:bf}{H:ab}{h:aW}{a:W}
def LR(b:gM P w H h)(e:cA H a u):di P w H h a u:=e.F b
def vx{b:List (aK×af)}(d:gM P w H h)(e:cA H a (.b b)):b.length<=bD/\(a==jK)=aB/\∃c,jV b c/\h.DictOf (ff P w) a c:=
 show di P w H h a (.b b) from LR d e
def tG{b:List (aK×af)}(d:gM P w H h)(e:H a=V (.b b)):b.length<=bD/\(a==jK)=aB/\∃c,jV b c/\h.DictOf (ff P w) a c:=vx d<|.inl e
def tE{b:List aK}(d:gM P w H h)(e:H a=V (.tup<|b.map cR)):(kC<|ff P w).is h b a:=by
 obtain⟨_,c,r,o,f,g,n,i⟩:=(show di P w H h a (.tup<|b.map cR) from d a _ e);exact(o,c.toArray,n,f,g,i,by simpa using MO r)
def vw{b:List (List aK×af)}(g:gM P w H h)(e:cA H a (.a b)):b.length<=bD/\(a==jK)=aB/\
  ∃d,jW H b d/\h.DictOfH (kC<|ff P w) a d:=by
 obtain⟨z,y,d,r,o,j,k,n,s,u,v,A⟩:=(show di P w H h a (.a b) from LR g e);refine(z,y,d,r,o,j,k,n,s,u,v,λx c=>?_,A);have f:∀{l:List (List aK×af)}{m:List (List aK×W×aa)},jW H l m->∀x∈m,(kC<|ff P w).is h x.1 x.2.1:=by
  intro l m q
  induction q with
  |nil=>intro x c;exact nomatch c
  |@cons p q D E i t C=>
   intro x c;rcases cz.mp c with e|c
   ·subst e
    exact tE g (by rw[<-i.1];exact i.2.1)
   ·exact C x c
 exact f r x c
def Nf{b:List (List aK×af)}(d:gM P w H h)(e:H a=V (.a b)):b.length<=bD/\(a==jK)=aB/\
  ∃c,jW H b c/\h.DictOfH (kC<|ff P w) a c:=vw d<|.inl e
end
def gN(H:ab)(a:W)(y:af)(r:Option af):Prop:=
 (∃c k,cA H a (.b c)/\y=cR k/\r=fm c k)\/∃c k b,cA H a (.a c)/\y=.ref b/\H b=V (.tup<|k.map cR)/\r=fm c k
def AF(H:ab)(a:W)(y v:af)(d:ab):Prop:=
 (∃c k,H a=V (.b c)/\y=cR k/\c.length<bD/\d=aD H a (.b<|dZ c k v)) \/
 ∃c k b,H a=V (.a c)/\y=.ref b/\H b=V (.tup<|k.map cR)/\c.length<bD/\d=aD H a (.a<|dZ c k v)
def gN.k{H:ab}{b:List (aK×af)}{k:aK}(e:H a=V (.b b)):gN H a (cR k) (fm b k):=.inl (b,k,.inl e,O,O)
def gN.t{H:ab}{a b:W}{k:List aK}(e:H a=V (.a c))(d:H b=V (.tup<|k.map cR)):gN H a 5#b (fm c k):=.inr (c,k,b,.inl e,O,d,O)
def AF.k{H:ab}{b:List (aK×af)}{k:aK}(e:H a=V (.b b))(c:b.length<bD):AF H a (cR k) v (aD H a<|.b<|dZ b k v):=.inl (b,k,e,O,c,O)
def AF.t{H:ab}{a b:W}{k:List aK}(e:H a=V (.a c))(d:H b=V (.tup<|k.map cR))(f:c.length<bD):AF H a 5#b v (aD H a<|.a<|dZ c k v):=.inr (c,k,b,e,O,d,f,O)
section
variable{X:a_}{pins:Ψ}{σ:aR}{H:ab}{s:ak}{a:W}{y v:af}{u r:aa}{o:Option af}{A:bO}{E:Ω}
def aA.B3(I:aA X pins σ H s):jK<s⁻¹:=by
 have h:ju<s⁻¹:=(I.B0.a.keeps I.bk).lt;exact sU ξ h
def Xr{Q:Ω}(w:A.units+1<dB)(I:aA X pins σ H s)(g:gN H a y (V v))(r:cg y u)(h:∀f t,aA X pins σ H t->cg v f->Q f t):ax 3#0 A (pZ 5#a u) Q E s:=by
 rcases g with ⟨i,k,e,j,l⟩|⟨i,k,b,e,j,x,l⟩
 ·subst j
  obtain⟨z,C,D,c,m⟩:=vx I.a e;obtain⟨f,n,d⟩:=qy.B (v:=v) (o:=qS D k) (by rw[l];exact c.val k);exact wpAny_getItem_of (vq r) m.mapOf n<|h f _ (I.N _) d
 ·subst j
  cases(show u=Z b from r);obtain⟨z,C,G,c,m⟩:=vw I.a e;obtain⟨f,n,d⟩:=qy.B (v:=v) (o:=(sD G k).map (·.2)) (by rw[l];exact c.val k);obtain⟨p,K,q⟩:=o_.mp n;refine wpAny_getItem_heap (CC w) (tE I.a x) m K ?_;rw[q];exact h f _ (I.N _) d
def Xq{Q:Ω}(p:A.units+1<dB)(I:aA X pins σ H s)(g:gN H a y o)(m:cg y u)(h:∀n,aA X pins σ H n->Q (.bool o.isSome) n):ax 3#0 A (iW .In u<|.ref a) Q E s:=by
 rcases g with ⟨d,k,e,f,l⟩|⟨d,k,b,e,f,r,l⟩
 ·subst f
  obtain⟨z,i,t,c,j⟩:=vx I.a e;refine wpAny_in_of (vq m) i j.mapOf ?_;rw[<-(c.val k).F,<-l];exact h _<|I.N _
 ·subst f
  cases(show u=Z b from m);obtain⟨z,i,v,c,j⟩:=vw I.a e;refine wpAny_in_heap (CC p) (tE I.a r) i j ?_;have q:=(c.val k).F;rw[ah0] at q;rw[<-q,<-l];exact h _<|I.N _
def vA{t':Nat}(I:aA X pins σ H s)(f:xN (H a))(g:i_ a s.heap c)(h:∃q,c.get? a=V q)(d:di X.prog X.w (aD H a ob) c a ob):aA X pins σ (aD H a ob) {s with heap:=c,toks:=t'}:=
 I.B9 (x:=a) (e:=a) f (.inl O) (λb q i z=>(g.2 b i).trans z) h d
def Nh{e:aW}{b:List (aK×af)}(z:b.length<=bD)(g:(a==jK)=aB)(d:jV b c)(h:e.DictOf (ff P w) a c):di P w f e a (.b b):=(z,g,c,d,h)
def Xp{Q:Unit->ak->Prop}(R:A.units+1<dB)(I:aA X pins σ H s)(g:AF H a y v C)(D:cg y u)(G:cg v r)(h:∀K,aA X pins σ C K->Q () K):ax 3#0 A (setItem 5#a u r) Q E s:=by
 rcases g with ⟨d,k,e,m,l,n⟩|⟨d,k,b,e,m,L,l,n⟩
 ·subst m n
  obtain⟨z,o,S,f,p⟩:=tG I.a e;have t:S.length<=bD:=by rw[<-f.B];exact z
  have w:(dZ d k v).length<=bD:=by have:=Ao d k v;exact à this l
  refine wpAny_setItem_pairs (hsz:=t) (vq D) p λM i x=>h _ ?_;have T:∃q,M.get? a=V q:=let ⟨q,_,_,j,_⟩:=i;(q,j);exact vA I (by rw[e];exact ug) x T<|Nh w o (f.F k G) i
 ·subst m n
  cases(show u=Z b from D);obtain⟨z,o,U,f,p⟩:=Nf I.a e;have t:U.length<=bD:=by rw[<-iM f];exact z
  have w:(dZ d k v).length<=bD:=by have:=Ao d k v;exact à this l
  refine wpAny_setItem_heap (hsz:=t) (CC R) (tE I.a L) p λM i x=>h _ ?_;obtain⟨q,es,ep,j,h2,h3,h4,_,h5⟩:=i;refine vA I (by rw[e];exact ug) x (q,j) (w,o,_,(f.F k L G).B λc ys P=>?_,q,es,ep,j,h2,h3,h4,h5);rw[aZ<|fW P e (λz=>nomatch z)];exact P
end
def NQ(i:bz):Prop:=∀a b,CD i aB a b=IQ [a,b] (pZ a b)
def VG{s:ak}{j:gm}{c b:bz}{n:ci}(t:IL (.type T) "__getitem__"=aX (V<|.builtin q))(u:NQ b)(h:ax (aH a w) A (dN c j) (λo f=>ax (aH a w) A (dN b j) (λi d=>d.TypeIs o T/\ax (aH a w) A (pZ o i) Q E d) E f) E s):ax (aH a w) A (dN (.Subscript c b n) j) Q E s:=by
 refine JF<|kB h (λo f l=>kB l (λi d e=>?_) λ_ _ x=>x) λ_ _ x=>x;obtain⟨p,e⟩:=e;unfold Jz;refine ag ?_;rw[getitemInPython_of_ne p.not_modules];refine ag<|QV p t ?_;have k:ax (aH a w) A (CD b aB o i) (λr g=>ax (aH a w) A (letTemporaryGo c o r >>= λ_=>aX r) Q E g) E d:=by
  rw[u o i];exact wpAny_operating<|kB e (λr g m=>ag<|wpAny_letTemporaryGo<|aG m) λ_ _ x=>x
 first
  |exact aG<|ag k
  |exact wpAny_bind<|wpAny_pure<|wpAny_bind k
  |exact wpAny_bind k
def Xn{s:ak}(I:aA X c h H s)(g:gN H a y o):s.TypeIs 5#a "dict":=by
 rcases g with ⟨d,k,e,_,_⟩|⟨d,k,b,e,_,_,_⟩
 ·obtain⟨_,_,i,_,f⟩:=vx I.a e
  exact f.typeIs
 ·obtain⟨_,_,j,_,f⟩:=vw I.a e
  exact f.typeIs
inductive NI(x y:af)(Q:aU)(H:ab):Prop
 |b:∀a v,(x=.ref a)->gN H a y (V v)->Q v H->NI x y Q H
def nx(b c:bd):bd:=λa H Q=>b a H λx d=>c a d λy e=>NI x y Q e
def EG(d e:bd):bd:=λb H Q=>d b H λy f=>e b f λx c=>∃a o,x=.ref a/\gN c a y o/\Q (.c o.isSome) c
def VN(d e f:bd):gC:=λD b H=>f b H λv g=>d b g λx h=>e b h λy i=>∃a c,x=.ref a/\AF i a y v c/\D.a b c
section
variable{X:a_}{o i e value:bz}{pos pos' tpos:ci}{td ty tv:bd}
def gi(f:X.A.units+1<dB)(j:bG X o td)(k:bG X i ty)(l:NQ i):bG X (.Subscript o i pos) (nx td ty):=by
 intro b s d H Q I h;refine VG PySem.F.slot_dict_getitem.lookup l<|bH (j b s d H _ I h) λu m (x,n,p,q,r)=>bH (k b m d n _ p r) λD E (y,t,e,w,a,v,z,g,A)=>?_;subst z;obtain rfl:u=Z a:=q;exact(Xn e g,Xr f e g w λG K C c=>(v,t,C,c,A))
def Fb(d:X.A.units+1<dB)(e:bG X i ty)(f:bG X o td):FP X .In i o (EG ty td):=by
 intro b s c H Q I h;refine bH (e b s c H _ I h) λA j (y,k,l,m,n)=>bH (f b j c k _ l n) λu C (x,p,q,r,a,t,v,g,w)=>?_;subst v;obtain rfl:u=Z a:=r;exact Xq d q g m λD z=>(.c t.isSome,p,z,O,w)
def lZ(d:X.A.units+1<dB)(e:bG X o td)(f:bG X i ty)(j:bG X value tv)(k:wq value (V<|.Subscript o i pos') pos.line X.env=aX aB):lG X (.Assign [.Subscript o i pos'] value pos) (VN td ty tv):=by
 intro b s c H D I h;refine wpAny_Assign_Subscript (bH (j b s c H _ I h) λr l (v,m,n,p,q)=>bH (e b l c m _ n q) λu t (x,w,z,A,C)=>bH (f b t c w _ z C) λQ R (y,S,E,G,a,K,L,g,M)=>?_) k;subst L;obtain rfl:u=Z a:=A;exact Xp d E g G p λT P=>(c,K,P,M)
end
def Xm(h:aW)(a:jK<h.objs.size):di P w H (h.push {cls:=.type "dict",data:=.dict #[]}) h.objs.size (.b []):=
 (eY _,beq_eq_false_iff_ne.mpr<|dp<|cM a,[],.nil,akg h)
def Ng(h:aW)(a:jK<h.objs.size):di P w H (h.push {cls:=.type "dict",data:=.dict #[]}) h.objs.size (.a []):=
 (eY _,beq_eq_false_iff_ne.mpr<|dp<|cM a,[],.nil,_,#[],0,dg _ O,(O,O,O),O,O,lS)
def VB:bd:=λ_ H Q=>∀p,H p=Y->Q 5#p (aD H p<|.b [])
def VA:bd:=λ_ H Q=>∀p,H p=Y->Q 5#p (aD H p<|.a [])
section
variable{X:a_}{pos:ci}
def xz:bG X (.Dict [] [] pos) VB:=λb s c H Q I h=>
 afa (.ref s⁻¹,_,I.F (a:=s⁻¹) (o:=.b []) (t':=s.toks) (λ_ _ q=>bQ _ q) (aV _)<|Xm s.heap I.B3,O,h _<|I.a.B<|aV _)
def pH:bG X (.Dict [] [] pos) VA:=λb s c H Q I h=>
 afa (.ref s⁻¹,_,I.F (a:=s⁻¹) (o:=.a []) (t':=s.toks) (λ_ _ q=>bQ _ q) (aV _)<|Ng s.heap I.B3,O,h _<|I.a.B<|aV _)
end
def EF:List (bd×bd)->aR->ab->(List (af×af)->ab->Prop)->Prop
 |[],_,H,Q=>Q [] H
 |(aez b c)::r,a,H,Q=>b a H λx d=>c a d λy e=>EF r a e λf g=>Q ((aez x y)::f) g
abbrev XO:List (af×af)->List (aa×aa)->Prop:=eI λp q=>cg p.1 q.1/\cg p.2 q.2
def FN(X:a_)(d:ci)(c:List (Option bz))(a:List bz)(e:List (bd×bd)):Prop:=
 ∀(b:Ψ)(s:ak)(f:aR)(H:ab)(Q:List (af×af)->ab->Prop),aA X b f H s->EF e f H Q->
  ax 3#0 X.A (evalPairs<|pairTrees c a X.env d) (λi j=>∃g h,aA X b f h j/\XO g i/\Q g h) X.a s
def VU:FN X a [] [] []:=λb s c H Q I h=>pairTrees_nil_walk ([],H,I,.nil,h)
def VV{b:ci}{k v:bz}{i j:bd}(l:bG X k i)(m:bG X v j)(n:FN X b f g c):FN X b (V k::f) (v::g) ((aez i j)::c):=λa s d H Q I h=>
 pairTrees_cons_walk (bH (l a s d H _ I h) λu o (x,p,q,r,t)=>bH (m a o d p _ q t) λM w (y,z,A,C,D)=>
  bH (n a w d z _ A D) λP R (E,G,K,e,L)=>((aez x y)::E,G,K,.cons (r,C) e,L))
structure XT(X:a_)(o:bz)(m:aq)(apos:ci)(e f:bz)(cpos:ci):Prop where
 base:CJ o m X.env (dN o X.env)=dN o X.env
 a:((nK cpos<|fu [e,f] X.env).all (λx=>!x.1)&&(RC cpos<|Rq [] X.env).all (λx=>x.1.isSome)
  && aE (([e,f]:List bz).length+([]:List wB).length+(if([]:List wB).isEmpty then 0 else 1)<30))=ae
 b:(apos.endLine==cpos.line)=ae
 c:nK cpos (fu [e,f] X.env)=[(aez aB (dN e X.env)),(aez aB (dN f X.env))]
def NT(H:ab)(a:W):Prop:=(∃b,cA H a (.b b))\/∃b,cA H a (.a b)
def WR{s:ak}(I:aA X f l H s)(d:NT H a):s.TypeIs 5#a "dict"/\(∀b,Z a=.ref b->∃c,s.heap.get? b=V c/\c.dict=Y)/\(a==jK)=aB:=by
 rcases d with ⟨h,e⟩|⟨h,e⟩
 ·obtain⟨_,i,m,_,g⟩:=vx I.a e
  refine(g.typeIs,λb q=>?_,i);cases q;obtain⟨c,_,_,j,k,_⟩:=g;exact(c,j,k.2.1)
 ·obtain⟨_,i,n,_,g⟩:=vw I.a e
  refine(g.typeIs,λb q=>?_,i);cases q;obtain⟨c,_,_,j,k,_⟩:=g;exact(c,j,k.2.1)
section
variable{X:a_}{pins:Ψ}{σ:aR}{H:ab}{s:ak}{a:W}{y d:af}{u r:aa}{o:Option af}{A:bO}{E:Ω}
def Xs{Q:Ω}(v:A.units+1<dB)(I:aA X pins σ H s)(g:gN H a y o)(n:cg y u)(p:cg d r)(h:∀q t,aA X pins σ H t->cg (o.getD d) q->Q q t):ax 3#0 A (im (.builtin "dict.get") [.ref a,u,r]) Q E s:=by
 rcases g with ⟨i,k,e,j,l⟩|⟨i,k,b,e,j,w,l⟩
 ·subst j
  obtain⟨z,m,C,c,f⟩:=vx I.a e;refine yT RY f.typeIs agw (ag1 _ _ _) (meets_dict_get_default (ff X.prog X.w) a (vq n) m r) (_,f.mapOf,h _ _ (I.N _) ?_);rw[l];exact(c.val k).J p
 ·subst j
  cases(show u=Z b from n);obtain⟨z,m,x,c,f⟩:=vw I.a e;refine yT RY f.typeIs agw (ag1 _ _ _) (meetsH_dict_get_default (kC<|ff X.prog X.w) a b m r) (CC v,k,x,tE I.a w,f,h _ _ (I.N _) ?_);rw[l];exact(c.val k).J p
end
def VC(e f g:bd):bd:=λb H Q=>e b H λx c=>∃a,x=.ref a/\NT c a/\f b c λy h=>g b h λz d=>∃o,gN d a y o/\Q (o.getD z) d
section
variable{X:a_}{o e f:bz}{apos cpos:ci}{td ty tx:bd}
def E_(k:X.A.units+1<dB)(l:bG X o td)(n:bG X e ty)(p:bG X f tx)(m:XT X o "get" apos e f cpos):bG X (.Call (.Attribute o "get" apos) [e,f] [] cpos) (VC td ty tx):=by
 intro b s c H Q I h;refine wpAny_Call_method m.base m.a m.b Jt RY PySem.F.type_dict_get<|bH (l b s c H _ I h) λu q (x,r,j,t,a,v,d,w)=>?_;subst v;obtain rfl:u=Z a:=t;obtain⟨A,C,_⟩:=WR j d;refine(A,C,?_);rw[m.c];refine Jw O (ag5 (Sg (bH (n b q c r _ j w) λU D (y,E,G,K,L)=>
  Sg<|bH (p b D c E _ G L) λfv s3 (z,M,P,R,ov,g,S)=>ag4 ?_)))
 exact Xs k P g K R λw' s4 T i=>(_,M,T,i,S)
end
section
open PySem.Calls
def aev:∀(c:List Int)(d:List aa),WellAll P h d (c.map IZ)->fC d c:=by
 intro c
 induction c with
 |nil=>
  intro d w;rw[zv] at w;cases w;exact .nil
 |cons n c e=>
  intro d w;rw[cY] at w;cases w with
  |cons a b=>
   cases a;exact .cons _ _<|e _ b
def aet{l:yW}{n:Nat}(t:l.most=V n){b:List WData}(f:l.row.toRowW.claim.pre b=ae)(m:WellAll P h e b):∃a p c,e=[Z a]/\b=[WData.list<|c.map IZ]/\h.get? a=V {cls:=.type "list",data:=.seq p.toArray}/\fC p c/\c.length<=n:=by
 have o:WShape.hasAll [] b [.list .int]=ae:=(pre_splitW f).1;have s:l.pre.holds [] {args:=b}=ae:=(pre_splitW f).2;obtain⟨d,r,rfl,u,v⟩:=hasAllW_cons o;obtain rfl:=hasAllW_nil v;obtain⟨C,rfl,w⟩:=hasW_list u;obtain⟨c,rfl⟩:=items_int w;have g:c.length<=n:=by
  unfold OpenLaw.pre at s;have j:(WTm.not<|.lt (.lit<|.int (n:Int))<|.len<|.arg 0).holds [] {args:=[.list<|c.map .int]}=ae:=by
   have j:=(holds_andW s).1;rw[t] at j;exact j
  have k:=condW_of j<|w_not<|w_lt w_lit<|w_len_list<|w_arg O;rw[au] at k;refine SE λq=>?_;have x:(n:Int)<((c.length:Nat):Int):=ω
  first
   |(rw[bT x] at k;exact bh k ξ)
   |(simp at k;omega)
 cases m with
 |cons y z=>
  cases z;cases y with
  |list A i=>exact(_,_,c,O,O,A,aev c _ i,g)
def aeu(l:yW)(a:List WData):l.row.toRowW.claim.post a (.bool ae) a=ae:=
 postW_of (r:=l.row.toRowW) (X:=(ae==ae))
  (show WShape.has [] (.bool ae) .bool=ae by first|rfl|decide|simp[WShape.has,WShape.arms,WShape.armsAll])
  (show(WTm.eq .res<|.lit<|.bool ae).value [] {args:=a,res:=V<|.bool ae,after:=a}=V (.bool<|ae==ae) from w_eq_bool (w_res O) w_lit) O
def aew{l:yW}{n:Nat}{q:bu}{c:List aq}{H:(aq->Option aa)->aW->Prop}{I:bf->aW->Prop}{d:DefRec}(Q:l.most=V n)(y:d.params.defaults=[])(j:∀(w:bf)(e b:ak)(t z:aq->Option aa)(k:W)(o:bg)(A u g:aa)(a:W)(i:List aa)(v:List Int),
   Ground q c [] H w e t z b.heap->I w b.heap->
   b.heap.get? k=V o->o.data=.func (docDef d.name d.params d.body d.scope A u g)->b.heap.CodeRec u d.name->t d.name=V 5#k->
   b.heap.get? a=V {cls:=.type "list",data:=.seq i.toArray}->fC i v->v.length<=n->b.gens=#[]->
   iD (aH l.prog w) wu (.call 5#k ([.ref a],[])) (λr x=>r=.ok (.ret<|.bool ae)/\OldK b.heap x.heap/\x.os=b.os/\sQ x.gens) b):
  RK q c H I l.row.toRowW d [] (λf i=>im f i):=by
 intro w e b t z G a2 k o A u g R S T U C K D X L M as m P a0 E a1;obtain rfl:R=.none:=Dflts.none K y;obtain rfl:S=.none:=Dflts.noKw K;obtain⟨a,i,v,rfl,rfl,p,h,s⟩:=aet Q m E;refine enter_call<|p_ (j w e b t z k o A u g a i v G a2 T (fd_plain U) C D p h s X) λr x hq=>?_;obtain⟨rfl,h2,h3,h4⟩:=hq;exact(.inl (.bool ae,.bool ae,[],O,λ_=>O,.bool ae,aeu l _,λ_=>(Kd,λ_ hm=>(nomatch hm))),h2,h3,h4)
end
def Lo:∀{a:List aa}{b:List Int},fC a b->co (b.map af.int) a
 |_,_,.nil=>.nil
 |_,_,.cons n t h=>.cons (t,O) (Lo h)
/- THE LAST THEOREM (shape;LID,My.* are yours):
  My.Adr: a structure of the addresses that your layer names (classes,functions);My.Txt K t: a structure (Prop) of the equations over K;
  My.txt_mk:{K} {implicit addresses ..} (e1:nsIn K mainGlobals "law"=some (some 5#f)) (e2:K.lookup f=some ⟨oc,od,.func (fnOf "law" "law" params body scope dV kV doc pm an cdv ct),sl⟩) (e3:codeIn K cdv "law"=true) ..:∃t,My.Txt K t
set_option maxRecDepth 100000 in
set_option maxHeartbeats 0 in
theorem PySem.Challenge.cw_LID_holds:PySem.Challenge.rw_LID.Holds := by
 w_on;o_law;k_head;(case hw=>w_witness2)
 k_fill
 refine L2.walk_of (l:=PySem.Challenge.rw_LID) (n:=63) (k:=40) (x:="script") (CX:=λw=>..) (sp:=λ_=>My.sp_law) rfl ξ rfl ⟨rfl,ξ,ξ⟩ (λw h Y=>PySem.W.kIn_of Y) ?F ?S ?C
 case F=>
  intro w mg fa h KX G hmg;have T:∃t,My.Txt (L2.KOf KX) t:=by
   dsimp only[L2.KOf]                          -- K must stand as «<heap const> w.params» for k_is
   refine' My.txt_mk ?e1 ?e2 ?e3 ..
   (case e1 => PySem.W.k_is)                    -- in the order: a name -> its address -> its object -> its parts
   (case e2=>PySem.W.k_is)
   ..
  obtain⟨t,T⟩:=T;have e0:=hmg.symm.trans (PySem.W.mg_of KX G T.law);cases e0                                       -- fa is the law's own address
  exact⟨_,λs u => .of_eq rfl,λbase kb nb => My.law_fn T kb nb⟩     -- if «.of_eq rfl» comes too early: refine' ⟨_,?b,λbase kb nb => My.law_fn T kb nb⟩;exact λs u => .of_eq rfl
 case S=>exact λw H a ns hl hO hS=>..
 case C=>exact ..
(the tactic k_is has no namespace: write k_is) -/
noncomputable def vz(s:cJ):uD:=match s with
 |.FunctionDef _ a _ _ _ _ _ _ _ _=>a
 |_=>{posonlyargs:=[],args:=[],vararg:=Y,kwonlyargs:=[],kw_defaults:=[],kwarg:=Y,defaults:=[]}
noncomputable def pK(s:cJ):List cJ:=match s with
 |.FunctionDef _ _ b _ _ _ _ _ _ _=>b
 |_=>[]
noncomputable def bX(s:cJ):fw:=match s with
 |.FunctionDef _ _ _ _ _ _ a _ _ _=>a
 |_=>{kind:=.function,names:=[],isGenerator:=aB,isCoroutine:=aB}
abbrev bx:mf:=λ_ _ _ _ _ _=>False
abbrev xS:db:=λ_ _ _=>False
def cF:AB bx X xS:=λ_ _ _ _ _ _ _ h=>h.elim
structure b_(K:aY)(x qual:aq)(st:cJ)(f:W)(fd:cW):Prop where
 b:∃(oc:aa)(od:Option W)(kV doc pm:aa)(an:Option W)(cdv ct:aa)(osl:Array (Option aa)),
  fd=uv x qual (vz st) (pK st) (bX st) .none kV doc pm an cdv ct/\K.lookup f=V (oc,od,.func fd,osl)/\IY K cdv qual=ae
 a:CN K 5#f=ae
section
variable{P:bu}{w:bf}{K:aY}{mg:aq->Option aa}{base:aW}
noncomputable def b_.B{x b:aq}{M i:List aq}{k:Nat}{j:lD}(F:b_ K x b g f o)(S:dG M i (bX g))(l:∀d H Q E,j d H Q E->d.length=i.length)(e:∀(c:aa)(A:bO)(a:List gm)(s:ak)(H:ab)(d:List af)(Q:aU)(E:db),fM k (A.deeper<|qd b (bX g) s⁻¹ f c)->j d H Q E->
   ∃t,kJ (qv bx P w K mg base M b (bX g) f c A a s H E).M (pK g) t/\t {a:=λ_ p=>Q .non p,d:=Q} (qo M d) H):ce P w K mg base bx (k+1) f o i j:=by
 obtain⟨z,C,D,r,G,I,c,L,u,rfl,v,m⟩:=F.b;refine Na v m S l λA a s H d Q E y n=>?_;obtain⟨t,h,q⟩:=e c A a s H d Q E y n;exact(t,h.B,q)
def b_.F{x a:aq}{m:cW}{e:List aq}(F:b_ K x a d f m)(h:∀(g b i:aa)(j:Option W)(c k:aa)(l:List aa),l.length=e.length->CI (uv x a (vz d) (pK d) (bX d) .none g b i j c k) (l,[])=aX (e.zip l)):eQ K m e []:=by
 obtain⟨p,q,g,b,i,j,c,k,n,rfl,r,o⟩:=F.b;exact .all<|h g b i j c k
def Xj{x a:aq}{n:aa}{o h:Option W}{g:Array (Option aa)}{i e j b m:aa}(l:K.lookup f=V (n,o,.func<|uv x a (vz d) (pK d) (bX d) .none i e j h b m,g))(c:IY K b a=ae)(k:CN K 5#f=ae):b_ K x a d f (uv x a (vz d) (pK d) (bX d) .none i e j h b m):=((n,o,i,e,j,h,b,m,g,O,l,c),k)
end
def ko{k:Nat}(a:fM k A):A.units+1<dB:=JM (Nat.add_le_add_left (by decide:1<=64) _) a.units
def EI{n:Nat}(h:n<=1000):n<bD:=JM h ξ
section
variable{X:a_}
def ah(i:Nat){a:ci}(c:X.N[i]?=V x:=by rfl)(d:Ay X.env.scope x:=by first|exact Or.inl rfl|exact Or.inr<|Or.inl rfl|exact Or.inr<|Or.inr rfl)(e:(x==("__debug__":aq))=aB:=by decide)
  (b:(x==("__classdict__":aq))=aB:=by decide):bG X (.Name x a) (bw i):=Wa c d e b
end
def dT{A a:Prop}(h:a):if aB=ae then A else a:=by
 rw[am dY];exact h
def eS{A a:Prop}(h:A):if ae=ae then A else a:=by
 rw[av O];exact h
def oz{c A d:Prop}[Decidable c](a:c->A)(b:¬c->d):if c then A else d:=by
 by_cases h:c
 ·rw[av h]
  exact a h
 ·rw[am h]
  exact b h
def aL(H a:ab):Prop:=∀b o,H b=V o->a b=V o
def aL.refl(H:ab):aL H H:=λ_ _ h=>h
def aL.F(a:aL H d)(b:aL d e):aL H e:=λc o h=>b c o<|a c o h
def aL.A0(e:aL H a)(h:a l=Y):H l=Y:=by
 cases q:H l with
 |none=>rfl
 |some o=>
  rw[e l o q] at h;cases h
def aL.A1{K:aY}{H b:ab}(e:aL H b)(h:bI K H a c):bI K b a c:=by
 rcases h with (h|⟨o,h⟩)|h
 ·exact .inl<|.inl<|e _ _ h
 ·exact .inl<|.inr (o,e _ _ h)
 ·exact .inr h
noncomputable def R(a:ay->Int)(b:Array ay)(i:Nat):Int:=match b[i]? with
 |some p=>a p
 |none=>0
def pD{b c:Array ay}{i j:Nat}(h:b[i]?=c[j]?):R a b i=R a c j:=by unfold R;rw[h]
def fU{b:Array ay}{i:Nat}(h:b[i]?=V p):R a b i=a p:=by unfold R;rw[h]
def Srt(a:ay->Int)(b:Array ay)(c d:Nat):Prop:=∀i j,c<=i->i<=j->j<d->R a b i<=R a b j
def u_(a:ay->Int)(b:Array ay)(c d:Nat):Prop:=∀i j,c<=i->i<=j->j<d->R a b j<=R a b i
def Ed{b:ay->Int}{a:Array ay}{f j:Nat}(d:j<=a.size)(k:Nat):R b (oY a f j<|(j-f) / 2) k=if f<=k/\k<j then R b a (f+j-1-k) else R b a k:=by
 have e:=ahu (i:=f) d k
 by_cases c:f<=k/\k<j
 ·rw[av c] at e ⊢;exact pD e
 ·rw[am c] at e ⊢;exact pD e
def xf{a:Array ay}{i j:Nat}(d:j<=a.size)(b:∀k,i<=k->k<j->R c a k=R c a (j-1))(k:Nat):R c (oY a i j<|(j-i) / 2) k=R c a k:=by
 rw[Ed d];split
 ·rw[b _ ω ω,b k ω ω]
 ·rfl
def KQ{b:Array ay}{a d:Nat}(h:a<b.size)(i:d<=a)(k:Nat):R c (Dp b a d) k=if k=a-d then R c b a else if a-d<k/\k<=a then R c b (k-1) else R c b k:=by
 have e:=ahv h d i k
 by_cases f:k=a-d
 ·rw[av f] at e ⊢;exact pD e
 ·rw[am f] at e ⊢
  by_cases g:a-d<k/\k<=a
  ·rw[av g] at e ⊢;exact pD e
  ·rw[am g] at e ⊢;exact pD e
structure ic(prog:bu)(w:bf)(A:bO)(s:ak)(κ:lQ)(a₀:Array ay)(ρ:ay->Int):Prop where
 a:∀x y,x∈a₀.toList->y∈a₀.toList->∀(Q:Bool->ak->Prop)(E:Ω),Q (aE<|ρ x<ρ y) s->ax 2#0 A (JD κ x.1 y.1) Q E s
structure cV(κ:lQ)(a₀:Array ay)(st:be):Prop where
 a:(aJ st).Perm a₀
 c:Dn st=κ
 b:nO st=Y
def cV.F{c:lQ}{a:Array ay}{b:be}(h:cV c a b):(aJ b).size=a.size:=h.a.size_eq
noncomputable def cV.J{c:lQ}{a:Array ay}{b:be}(h:cV c a b){d:Array ay}(e:d.Perm (aJ b)):cV c a (zk b d):=(e.trans h.a,h.c,h.b)
noncomputable def cV.M{c:lQ}{a:Array ay}{b:be}(h:cV c a b){p:ay}(d:p∈(aJ b).toList):p∈a.toList:=(Tn.mp h.a).mem_iff.mp d
def DZ{xs:Array ay}{i:Nat}(a:i<xs.size):∃p,xs[i]?=V p/\p∈xs.toList:=(xs[i],h_ _ i a,by simp)
structure lm(lo:Nat)(st st':be):Prop where
 arr:∀k,k<lo->(aJ st')[k]?=(aJ st)[k]?
 a:dE st'=dE st
def lm.refl{b:Nat}{a:be}:lm b a a:=(λ_ _=>O,O)
def lm.F{a b c:be}(x:lm d a b)(y:lm d b c):lm d a c:=(λk h=>(y.arr k h).trans<|x.arr k h,y.a.trans x.a)
noncomputable def lm.B{b i j:Nat}{a:be}(c:j<=(aJ a).size)(d:b<=i):lm b a (zk a<|oY (aJ a) i j<|(j-i) / 2):=
 (λk h=>by show(oY _ _ _ _)[k]?=_;rw[ahu c,am ω],O)
noncomputable def lm.J{c a d:Nat}{b:be}(e:a<(aJ b).size)(f:d<=a)(g:c<=a-d):lm c b (zk b<|Dp (aJ b) a d):=
 (λk h=>by show(Dp _ _ _)[k]?=_;rw[ahv e d f,am (õ (à h g)),am ω],O)
section
variable{prog:bu}{w:bf}{A:bO}{E:Ω}{s:ak}{κ:lQ}{a₀:Array ay}{ρ:ay->Int}
def wY(C:ic prog w A s κ a₀ ρ)(b:cV κ a₀ a){x y:ay}(c:x∈a₀.toList)(d:y∈a₀.toList){Q:Option Bool->be->Prop}(h:Q (V<|aE<|ρ x<ρ y) a):dX 2#0 A E s (lt' x y) Q a:=by
 rw[lt'_eq];refine bE<|nN ?_;rw[b.c];refine bE<|wH<|uk<|C.a x y c d _ _ (O,?_);exact ca h
def iq{b:Array ay}{i:Nat}(h:b[i]?=V p){Q:ay->be->Prop}(c:Q p a):dX 2#0 A E s (iP b i) Q a:=by
 rw[elem'_eq,h];exact ca c
def wX(C:ic prog w A s κ a₀ ρ)(b:cV κ a₀ a){l j:Nat}(e:l<a₀.size)(f:j<a₀.size){Q:Option Bool->be->Prop}(h:Q (V<|aE<|R ρ (aJ a) l<R ρ (aJ a) j) a):dX 2#0 A E s (Dm l j) Q a:=by
 obtain⟨p,c,g⟩:=DZ (xs:=aJ a) (i:=l) (by rw[b.F];exact e);obtain⟨q,d,k⟩:=DZ (xs:=aJ a) (i:=j) (by rw[b.F];exact f);rw[ltAt'_eq];refine bE<|nN ?_;show dX _ _ _ _ (do let x <-iP (aJ a) l;let y <-iP (aJ a) j;lt' x y) Q a;refine bE<|iq c<|bE<|iq d<|wY C b (b.M g) (b.M k) ?_;rw[fU c,fU d] at h;exact h
noncomputable def xd(f a d:Nat):StateT be eA AscSt:=
 mN [a:d] ((aez Y a):AscSt) λ_ b=>do
  let e <-Dm (f+b.snd) (f+b.snd-1)
  match e with
  |some c=>if c=ae then aX (eC (aez Y b.snd)) else aX (hW (aez Y (b.snd+1)))
  |_=>aX (eC (aez (V Y) b.snd))
noncomputable def wZ(c n a:Nat):StateT be eA (Option Nat):=do
 Dj c (c+n)
 let b <-xd c n a
 match b.fst with
 |some r=>aX r
 |none=>aX (V b.snd)
noncomputable def zQ(e n f:Nat):StateT be eA DescSt:=
 mN [n:f] ((aez Y (aez n 0)):DescSt) λ_ a=>do
  let d <-Dm (e+a.snd.fst) (e+a.snd.fst-1)
  match d with
  |some b=>
   if b=ae then
    if a.snd.snd>0 then do
     Dj (e+a.snd.fst-(a.snd.snd+1)) (e+a.snd.fst)
     aX (hW (aez Y (aez (a.snd.fst+1) 0)))
    else aX (hW (aez Y (aez (a.snd.fst+1) 0)))
   else do
    let d <-Dm (e+a.snd.fst-1) (e+a.snd.fst)
    match d with
    |some c=>
     if c=ae then aX (eC (aez Y (aez a.snd.fst a.snd.snd)))
     else aX (hW (aez Y (aez (a.snd.fst+1) (a.snd.snd+1))))
    |_=>aX (eC (aez (V Y) (aez a.snd.fst a.snd.snd)))
  |_=>aX (eC (aez (V Y) (aez a.snd.fst a.snd.snd)))
noncomputable def xb(c n b:Nat):StateT be eA (Option Nat):=do
 liftM (yQ "list.sort.descending-run")
 let a <-zQ c (n+1) b
 match a.fst with
 |some r=>aX r
 |none=>
  if a.snd.snd>0 then do
   Dj (c+a.snd.fst-(a.snd.snd+1)) (c+a.snd.fst)
   wZ c a.snd.fst b
  else wZ c a.snd.fst b
def km{b c:Type}{m:StateT be eA b}{f g:b->StateT be eA c}(h:∀a,f a=g a):(m >>= f)=(m >>= g):=by
 have e:f=g:=funext h;rw[e]
def TT(c b:Nat):countRun' c b=(do
  let a <-xd c 1 b
  match a.fst with
  |some r=>aX r
  |none=>
   if(a.snd==b)=ae then aX (V a.snd)
   else if a.snd>1 then do
    let h <-Dm c (c+a.snd-1)
    match h with
    |some d=>if d=ae then aX (V a.snd) else do
      Dj c (c+a.snd)
      xb c a.snd b
    |_=>aX Y
   else xb c a.snd b):=by
 rw[countRun'_eq];unfold xb wZ zQ xd;refine km λl=>?_;obtain⟨r,n⟩:=l;cases r with
 |some r=>rfl
 |none=>
  dsimp only;split
  ·rfl
  ·split
   ·refine km λx=>?_
    cases x with
    |none=>rfl
    |some d=>
     dsimp only;split
     ·rfl
     ·refine km λs=>km λm=>km λi=>?_
      obtain⟨g,o,p⟩:=i;cases g with
      |some g=>rfl
      |none=>
       dsimp only;split
       ·refine km λq=>km λj=>km λe=>?_
        obtain⟨f,k⟩:=e;cases f<;>rfl
       ·refine km λj=>km λe=>?_
        obtain⟨f,k⟩:=e;cases f<;>rfl
   ·refine km λm=>km λi=>?_
    obtain⟨g,o,p⟩:=i;cases g with
    |some g=>rfl
    |none=>
     dsimp only;split
     ·refine km λq=>km λj=>km λe=>?_
      obtain⟨f,k⟩:=e;cases f<;>rfl
     ·refine km λj=>km λe=>?_
      obtain⟨f,k⟩:=e;cases f<;>rfl
def KA(C:ic prog w A s κ a₀ ρ){k:be}{e a b:Nat}{Q:AscSt->be->Prop}(z:e+b<=a₀.size)(D:1<=a)(l:a<=b)(u:cV κ a₀ k)(v:Srt ρ (aJ k) e (e+a))(h:∀n,a<=n->n<=b->Srt ρ (aJ k) e (e+n)->(n=b\/R ρ (aJ k) (e+n)<R ρ (aJ k) (e+n-1))->Q (aez Y n) k):dX 2#0 A E s (xd e a b) Q k:=by
 unfold xd;refine lP (I:=λx c g=>g=k/\c=(aez Y x)/\Srt ρ (aJ k) e (e+x)) ?step ?fin (O,O,v)
 case fin=>
  rintro c g ⟨rfl,rfl,f⟩;rw[show max a b=b from ω] at f ⊢;exact h b l (aV _) f<|.inl O
 case step=>
  rintro x c g m y ⟨rfl,rfl,f⟩;dsimp only;refine bE<|wX C u ω ω ?_
  by_cases d:R ρ (aJ g) (e+x)<R ρ (aJ g) (e+x-1)
  ·simp only[d,decide_true,eD]
   exact ca<|h x m ω f<|.inr d
  ·simp only[d,decide_false,dK,da]
   refine ca (O,O,λi j t o G=>?_)
   by_cases p:j<e+x
   ·exact f i j t o p
   ·have q:j=e+x:=ω
    subst q
    by_cases r:i=e+x
    ·subst r;exact lW _
    ·exact nW (f i (e+x-1) t ω ω)<|Ki.mp d
def zJ{i j:Nat}{Q:Unit->be->Prop}(h:Q () (zk a<|oY (aJ a) i j<|(j-i) / 2)):dX 2#0 A E s (Dj i j) Q a:=by
 rw[reverseSlice'_eq];exact uE h
abbrev Ei(κ:lQ)(a₀:Array ay)(ρ:ay->Int)(c b:Nat)(d:be)(Q:Option Nat->be->Prop):Prop:=
 ∀m a,cV κ a₀ a->lm c d a->1<=m->m<=b->Srt ρ (aJ a) c (c+m)->Q (V m) a
def Ku(C:ic prog w A s κ a₀ ρ){a n b:Nat}(p:a+b<=a₀.size)(q:1<=n)(g:n<=b)(o:cV κ a₀ d)(r:lm a c d)(t:u_ ρ (aJ d) a (a+n))(h:Ei κ a₀ ρ a b c Q):dX 2#0 A E s (wZ a n b) Q d:=by
 unfold wZ;have e:a+n<=(aJ d).size:=by rw[o.F];exact à (ñ g) p
 refine bE<|zJ ?_;have f:cV κ a₀ (zk d<|oY (aJ d) a (a+n)<|(a+n-a) / 2):=o.J<|JC _ _ _ _;refine bE<|KA C p q g f ?_ λm u k l _=>ca<|h m _ f (r.F<|.B e<|aV _) (à q u) k l;intro i j x v y;show R ρ (oY (aJ d) a (a+n)<|(a+n-a) / 2) i<=R ρ (oY (aJ d) a (a+n)<|(a+n-a) / 2) j;rw[Ed e,Ed e,av (x,à (ï v) y),av (à x v,y)];exact t _ _ ω ω ω
def TJ(C:ic prog w A s κ a₀ ρ){b n e:Nat}{Q:DescSt->be->Prop}(hn:b+e<=a₀.size)(M:1<=n)(S:n<=e)(hB:cV κ a₀ L)(hP:lm b o L)(hs:u_ ρ (aJ L) b (b+n))(h:∀m d a,cV κ a₀ a->lm b o a->n<=m->m<=e->u_ ρ (aJ a) b (b+m)->d+1<=m->(∀i,b+m-(d+1)<=i->i<b+m->R ρ (aJ a) i=R ρ (aJ a) (b+m-1))->Q (aez Y (aez m d)) a):dX 2#0 A E s (zQ b n e) Q L:=by
 unfold zQ;refine lP (I:=λx c a=>∃d,c=(aez Y (aez x d))/\cV κ a₀ a/\lm b o a/\u_ ρ (aJ a) b (b+x)/\d+1<=x/\
   (∀i,b+x-(d+1)<=i->i<b+x->R ρ (aJ a) i=R ρ (aJ a) (b+x-1))) ?step ?fin (0,O,hB,hP,hs,ω,λi M T=>by congr 1;omega)
 case fin=>
  rintro c a ⟨d,rfl,f,q,g,P,G⟩;rw[show max n e=e from ω] at g P G ⊢;exact h e d a f q S (aV _) g P G
 case step=>
  rintro x c a U a1 ⟨d,rfl,f,q,g,P,G⟩;dsimp only;have H:b+x<=(aJ a).size:=by rw[f.F];omega
  refine bE<|wX C f ω ω ?_
  by_cases p:R ρ (aJ a) (b+x)<R ρ (aJ a) (b+x-1)
  ·simp only[p,decide_true,eD]
   have r:∀X:Array ay,(∀k,R ρ X k=R ρ (aJ a) k)->u_ ρ X b (b+(x+1)):=by
    intro X hk i j K v hj;rw[hk,hk]
    by_cases y:j<b+x
    ·exact g i j K v y
    ·have z:j=b+x:=ω
     subst z
     by_cases D:i=b+x
     ·subst D;exact lW _
     ·exact nW (nY p)<|g i (b+x-1) K ω ω
   by_cases t:d>0
   ·rw[av t]
    refine bE<|zJ<|ca (0,O,f.J<|JC _ _ _ _,q.F<|.B H ω,r _<|xf H G,ω,λi M T=>by congr 1;omega)
   ·rw[am t]
    exact ca (0,O,f,q,r _ (λ_=>O),ω,λi M T=>by congr 1;omega)
  ·simp only[p,decide_false,dK,da]
   refine bE<|wX C f ω ω ?_
   by_cases l:R ρ (aJ a) (b+x-1)<R ρ (aJ a) (b+x)
   ·simp only[l,decide_true,eD]
    exact ca<|h x d a f q U ω g P G
   ·simp only[l,decide_false,dK,da]
    have u:R ρ (aJ a) (b+x)=R ρ (aJ a) (b+x-1):=ω
    refine ca (d+1,O,f,q,λi j K v hj=>?_,ω,λi M T=>?_)
    ·by_cases y:j<b+x
     ·exact g i j K v y
     ·have z:j=b+x:=ω
      subst z
      by_cases D:i=b+x
      ·subst D;exact lW _
      ·rw[u];exact g i (b+x-1) K ω ω
    ·rw[show b+(x+1)-1=b+x from ω]
     by_cases a0:i=b+x
     ·subst a0;rfl
     ·rw[u];exact G i ω ω
def Kz(C:ic prog w A s κ a₀ ρ){p b:be}{d n a:Nat}(q:d+a<=a₀.size)(r:n+1<=a)(x:cV κ a₀ p)(y:lm d b p)(z:u_ ρ (aJ p) d (d+(n+1)))(h:Ei κ a₀ ρ d a b Q):dX 2#0 A E s (xb d n a) Q p:=by
 unfold xb;refine bE<|wH<|mD (O,?_);refine bE<|TJ C q ý r x y z λm t e f k D l o I v=>?_;dsimp only;have g:d+m<=(aJ e).size:=by rw[f.F];exact à (ñ l) q
 by_cases c:t>0
 ·rw[av c]
  refine bE<|zJ<|Ku C q (à c (ì I)) l (f.J<|JC _ _ _ _) (k.F<|.B g ω) ?_ h;intro i j G u H;show R ρ (oY (aJ e) _ _ _) j<=R ρ (oY (aJ e) _ _ _) i;rw[xf g v,xf g v];exact o i j G u H
 ·rw[am c]
  exact Ku C q ω l f k o h
def TK(C:ic prog w A s κ a₀ ρ){a b:Nat}(y:a+b<=a₀.size)(L:1<=b)(g:cV κ a₀ d)(h:Ei κ a₀ ρ a b d Q):dX 2#0 A E s (countRun' a b) Q d:=by
 rw[TT];refine bE<|KA C y (aV 1) L g (λi j p q K=>by have:i=j:=(û q (à (ò K) p));subst this;exact lW _) λn r t f z=>?_;dsimp only
 by_cases l:n=b
 ·rw[av 6#l]
  exact ca<|h n d g .refl r t f
 ·rw[am 6#l]
  have u:R ρ (aJ d) (a+n)<R ρ (aJ d) (a+n-1):=z.resolve_left l
  by_cases v:n>1
  ·rw[av v]
   refine bE<|wX C g ω ω ?_
   by_cases e:R ρ (aJ d) a<R ρ (aJ d) (a+n-1)
   ·simp only[e,decide_true,eD]
    exact ca<|h n d g .refl r t f
   ·simp only[e,decide_false,dK,da]
    have m:a+n<=(aJ d).size:=by rw[g.F];exact à (ñ t) y
    have c:∀k,a<=k->k<a+n->R ρ (aJ d) k=R ρ (aJ d) (a+n-1):=by
     intro k p M;have P:=f a k ß p M;have S:=f k (a+n-1) p ω ω;omega
    refine bE<|zJ<|Kz C y (þ t l) (g.J<|JC _ _ _ _) (.B m<|aV _) ?_ h;intro i j p q K;show R ρ (oY (aJ d) _ _ _) j<=R ρ (oY (aJ d) _ _ _) i;rw[xf m c,xf m c]
    by_cases D:j<a+n
    ·rw[c i p (à (ï q) D),c j (à p q) D];exact lW _
    ·have G:j=a+n:=(û (ò K) (ô D))
     subst G
     by_cases o:i=a+n
     ·subst o;exact lW _
     ·rw[c i p (þ q o)];exact nY u
  ·rw[am v]
   have x:n=1:=(û (ô v) r)
   subst x;refine Kz C y (þ t l) g .refl ?_ h;intro i j p q K
   by_cases o:i=j
   ·subst o;exact lW _
   ·have H:i=a:=ω
    have I:j=a+1:=(û (ò K) (à (ð p) (þ q o)))
    subst H;subst I;exact nY u
def TL(C:ic prog w A s κ a₀ ρ){b n v:Nat}{Q:Bool->be->Prop}(hn:b+n<=a₀.size)(M:v<=n)(P:cV κ a₀ u)(S:Srt ρ (aJ u) b (b+v))(h:∀a,cV κ a₀ a->lm b u a->Srt ρ (aJ a) b (b+n)->Q ae a):dX 2#0 A E s (binarySort' b n v) Q u:=by
 rw[binarySort'_eq];refine bE (iO (lP (I:=λk c a=>c=(aez Y (()))/\cV κ a₀ a/\lm b u a/\Srt ρ (aJ a) b (b+gc k n))
  (Q:=λc a=>c=(aez Y (()))/\cV κ a₀ a/\lm b u a/\Srt ρ (aJ a) b (b+n)) ?step ?fin ?init) ?post)
 case post=>
  rintro c a ⟨rfl,g,p,f⟩;exact ca<|h a g p f
 case init=>
  refine(O,P,.refl,λi j K y T=>?_)
  by_cases z:v=0
  ·have:i=j:=ω
   subst this;exact lW _
  ·exact S i j K y ω
 case fin=>
  rintro c a ⟨U,g,p,f⟩;refine(U,g,p,?_)
  rwa [show gc (max (max v 1) n) n=n from ω] at f
 case step=>
  rintro k c a X a0 ⟨rfl,g,p,f⟩;rw[show gc k n=k from ω] at f;have L:b+k<a₀.size:=(à (ñ a0) hn)
  refine bE (iO (lP (I:=λx c d=>d=a/\∃l r,c=(aez Y (aez l r))/\l<=r/\r<=k/\r-l<=k-x/\
    (∀i,i<l->R ρ (aJ a) (b+i)<=R ρ (aJ a) (b+k))/\(∀i,r<=i->i<k->R ρ (aJ a) (b+k)<R ρ (aJ a) (b+i)))
   (Q:=λc d=>d=a/\∃l r,c=(aez Y (aez l r))/\l<=k/\
    (∀i,i<l->R ρ (aJ a) (b+i)<=R ρ (aJ a) (b+k))/\(∀i,l<=i->i<k->R ρ (aJ a) (b+k)<R ρ (aJ a) (b+i))) ?istep ?ifin ?iinit) ?ipost)
  case iinit=>exact(O,0,k,O,ú,ß,ß,λi hi=>ω,λi z G=>ω)
  case ifin=>
   rintro c d ⟨rfl,l,r,rfl,H,q,hm,m,o⟩;have:l=r:=ω
   subst this;exact(O,l,l,O,q,m,o)
  case istep=>
   rintro x c d _ a1 ⟨rfl,l,r,rfl,H,q,hm,m,o⟩;dsimp only
   by_cases D:l ≥ r
   ·rw[av D]
    have:l=r:=(û H D)
    subst this;exact ca (O,l,l,O,q,m,o)
   ·rw[am D]
    refine bE<|wX C g L ω ?_
    by_cases e:R ρ (aJ d) (b+k)<R ρ (aJ d) (b+(l+r) / 2)
    ·simp only[e,decide_true,eD]
     refine ca (O,l,(l+r) / 2,O,ω,ω,ω,m,λi z G=>?_);exact Int.lt_of_lt_of_le e<|f _ _ ü (ñ z) (ñ G)
    ·simp only[e,decide_false,dK,da]
     refine ca (O,(l+r) / 2+1,r,O,ω,q,ω,λi z=>?_,o);exact nW (f (b+i) (b+(l+r) / 2) ü (ñ (ò z)) ω)<|Ki.mp e
  case ipost=>
   rintro c d ⟨rfl,l,r,rfl,a2,m,o⟩;show dX _ _ _ _ (do moveDown' (b+k) (b+l);aX (hW (aez Y (())))) _ _;rw[moveDown'_eq];have t:b+k<(aJ d).size:=by rw[g.F];exact L
   refine bE<|uE<|ca (O,g.J<|bubble_perm _ _ _,p.F<|.J t ω ω,?_);rw[show gc (k+1) n=k+1 from ω];intro i j K y T;show R ρ (Dp (aJ d) (b+k)<|b+k-(b+l)) i<=R ρ (Dp (aJ d) (b+k)<|b+k-(b+l)) j;rw[KQ t ω,KQ t ω,show b+k-(b+k-(b+l))=b+l from ω];have q1:∀i,b<=i->i<b+l->R ρ (aJ d) i<=R ρ (aJ d) (b+k):=λi z G=>by
    have:=m (i-b) ω;rwa [show b+(i-b)=i from ω] at this
   have q2:∀i,b+l<=i->i<b+k->R ρ (aJ d) (b+k)<R ρ (aJ d) i:=λi z G=>by
    have:=o (i-b) ω ω;rwa [show b+(i-b)=i from ω] at this
   repeat' split
   all_goals first
    |(exfalso;omega)
    |exact lW _
    |exact q1 _ ω ω
    |exact nY<|q2 _ ω ω
    |exact f _ _ ω ω ω
end
section
variable{prog:bu}{w:bf}{A:bO}{E:Ω}{s:ak}{κ:lQ}{a₀:Array ay}{ρ:ay->Int}
noncomputable def xa:Bool->ay->Array ay->Nat->Nat->Nat->StateT be eA (Option Nat):=sortPriv% PySem.Builtin.gallop
noncomputable def dS(a:Bool)(k r:Int):Bool:=if a=ae then aE (r<k) else !aE (k<r)
def TU{k r b:Int}(h:b<=r)(c:dS a k r=ae):dS a k b=ae:=by
 unfold dS at *;cases a with
 |true=>simp at *;omega
 |false=>simp at *;omega
def zK(C:ic prog w A s κ a₀ ρ)(g:cV κ a₀ f){c:ay}{d:Array ay}{i:Nat}(j:c∈a₀.toList)(l:∃p,d[i]?=V p/\p∈a₀.toList){Q:Option Bool->be->Prop}(h:Q (V<|dS a (ρ c)<|R ρ d i) f):dX 2#0 A E s (do
   let x <-iP d i
   if a=ae then lt' x c
   else do
    let b <-lt' c x
    aX (io (λx=>!x) b)) Q f:=by
 obtain⟨p,e,k⟩:=l;rw[fU e] at h;refine bE<|iq e ?_;cases a with
 |true=>
  rw[av O];exact wY C g k j h
 |false=>
  rw[am dY];exact bE<|wY C g j k<|ca h
def uU(C:ic prog w A s κ a₀ ρ)(hB:cV κ a₀ D){d:ay}{arr:Array ay}{base n hint:Nat}{Q:Option Nat->be->Prop}(hk:d∈a₀.toList)(ha:∀i,i<n->∃p,arr[base+i]?=V p/\p∈a₀.toList)(hs:∀i j,i<=j->j<n->R ρ arr (base+i)<=R ρ arr (base+j))(hh:hint<n)(h:∀k,k<=n->(∀i,i<k->dS a (ρ d) (R ρ arr<|base+i)=ae)->(∀i,k<=i->i<n->dS a (ρ d) (R ρ arr<|base+i)=aB)->Q (V k) D):dX 2#0 A E s (xa a d arr base n hint) Q D:=by
 have up:∀i j,i<=j->j<n->dS a (ρ d) (R ρ arr<|base+j)=ae->dS a (ρ d) (R ρ arr<|base+i)=ae:=λi j P L=>TU<|hs i j P L;have dn:∀i j,i<=j->j<n->dS a (ρ d) (R ρ arr<|base+i)=aB->dS a (ρ d) (R ρ arr<|base+j)=aB:=λi j P L e=>by
  cases q:dS a (ρ d) (R ρ arr<|base+j) with
  |false=>rfl
  |true=>rw[up i j P L q] at e;cases e
 have S:∀(m:be)(f:Nat->Option (Option Nat)×Nat×Nat->StateT be eA (ForInStep<|Option (Option Nat)×Nat×Nat))(g t:Nat),m=D->g<=t->t<=n->(∀i,i<g->dS a (ρ d) (R ρ arr<|base+i)=ae)->(∀i,t<=i->i<n->dS a (ρ d) (R ρ arr<|base+i)=aB)->
   (∀x g t(T:ForInStep (Option (Option Nat)×Nat×Nat)->be->Prop),(g ≥ t->T (.done (aez Y (aez g t))) D)->(g<t->t<=n->T (.yield<|if dS a (ρ d) (R ρ arr<|base+(g+(t-g) / 2))=ae then(aez Y (aez (g+(t-g) / 2+1) t)) else(aez Y (aez g (g+(t-g) / 2)))) D)->t<=n->dX 2#0 A E s (f x (aez Y (aez g t))) T D)->
   dX 2#0 A E s (mN [0:n] (aez Y (aez g t)) f) (λc m=>m=D/\c.1=Y/\Q (V c.2.2) D) m:=by
  intro m f g t e0 P L h3 h4 hf;subst e0;refine lP (I:=λx c z=>z=m/\∃l r,c=(aez Y (aez l r))/\l<=r/\r<=n/\r-l<=n-x/\(∀i,i<l->dS a (ρ d) (R ρ arr<|base+i)=ae)/\(∀i,r<=i->i<n->dS a (ρ d) (R ρ arr<|base+i)=aB)) ?step ?fin (O,g,t,O,P,L,ω,h3,h4)
  case fin=>
   rintro c z ⟨rfl,l,r,rfl,G,U,H,v,K⟩;have:l=r:=ω
   subst this;exact(O,O,h l U v K)
  case step=>
   rintro x c z _ hx ⟨rfl,l,r,rfl,G,U,H,v,K⟩;refine hf x l r _ (λu=>?_) (λa7 hr=>?_) U
   ·have:l=r:=(û G u)
    subst this;exact(O,O,h l U v K)
   ·cases q:dS a (ρ d) (R ρ arr<|base+(l+(r-l) / 2)) with
    |true=>exact(O,_,_,by rw[av O],ω,U,ω,λi t=>up i _ (ò t) ω q,K)
    |false=>exact(O,_,_,by rw[am dY],ü,ω,ω,v,λi P L=>dn _ i P L q)
 have X:∀(x g t:Nat)(T:ForInStep (Option (Option Nat)×Nat×Nat)->be->Prop),(g ≥ t->T (.done (aez Y (aez g t))) D)->(g<t->t<=n->T (.yield<|if dS a (ρ d) (R ρ arr<|base+(g+(t-g) / 2))=ae then(aez Y (aez (g+(t-g) / 2+1) t)) else(aez Y (aez g (g+(t-g) / 2)))) D)->t<=n->
   dX 2#0 A E s (if g ≥ t then aX (eC (aez Y (aez g t))) else(do
    let x <-iP arr (base+(g+(t-g) / 2))
    if a=ae then lt' x d
    else do
     let b <-lt' d x
     aX (io (λx=>!x) b)) >>= λy=>match y with
    |some a0=>if a0=ae then aX (hW (aez Y (aez (g+(t-g) / 2+1) t))) else aX (hW (aez Y (aez g (g+(t-g) / 2))))
    |x=>aX (eC (aez (V Y) (aez g t)))) T D:=by
  intro x g t T q1 q2 hn
  by_cases u:g ≥ t
  ·rw[av u]
   exact ca<|q1 u
  ·rw[am u]
   have q:=q2 (ó u) hn;refine bE<|zK C hB hk (ha _ ω) ?_;cases e:dS a (ρ d) (R ρ arr<|base+(g+(t-g) / 2)) with
   |true=>
    rw[e,av O] at q;simp only[eD];exact ca q
   |false=>
    rw[e,am dY] at q;simp only[dK,da];exact ca q
 refine bE ?_;refine zK C hB hk (ha hint hh) ?_;cases M:dS a (ρ d) (R ρ arr<|base+hint) with
 |true=>
  dsimp only;rw[av O];refine bE (iO (lP (I:=λx c m=>m=D/\∃l o,c=(aez Y (aez l o))/\l<o/\x+1<=o/\hint+l<n/\dS a (ρ d) (R ρ arr<|base+(hint+l))=ae)
   (Q:=λc m=>m=D/\∃l o,c=(aez Y (aez l o))/\l<o/\hint+l<n/\dS a (ρ d) (R ρ arr<|base+(hint+l))=ae/\(n-hint<=o\/(hint+o<n/\dS a (ρ d) (R ρ arr<|base+(hint+o))=aB))) ?step ?fin (O,0,1,O,ß,ß,hh,M)) ?post)
  case fin=>
   rintro c m ⟨rfl,l,o,rfl,G,U,H,v⟩;exact(O,l,o,O,G,H,v,.inl ω)
  case step=>
   rintro x c m _ hx ⟨rfl,l,o,rfl,G,U,H,v⟩;dsimp only
   by_cases u:o ≥ n-hint
   ·rw[av u]
    exact ca (O,l,o,O,G,H,v,.inl u)
   ·rw[am u]
    refine bE<|zK C hB hk (ha _ ω) ?_;cases e:dS a (ρ d) (R ρ arr<|base+(hint+o)) with
    |true=>
     simp only[nZ,dK,da];exact ca (O,o,2*o+1,O,ω,ω,ω,e)
    |false=>
     simp only[Ti,eD];exact ca (O,l,o,O,G,H,v,.inr (ω,e))
  case post=>
   rintro c m ⟨rfl,l,o,rfl,G,H,v,K⟩;dsimp only;refine bE<|iO (S _ _ _ _ O ω ω (λi t=>up i _ (ò t) H v) (λi P L=>?_) X) ?fin2
   case fin2=>rintro⟨c1,c2,c3⟩ z ⟨rfl,e,q⟩;dsimp only at e q ⊢;subst e;exact ca q
   rcases K with K|⟨K,a6⟩
   ·omega
   ·exact dn _ i ω L a6
 |false=>
  dsimp only;rw[am dY];refine bE (iO (lP (I:=λx c m=>m=D/\∃l o,c=(aez Y (aez l o))/\l<o/\x+1<=o/\l<=hint/\dS a (ρ d) (R ρ arr<|base+(hint-l))=aB)
   (Q:=λc m=>m=D/\∃l o,c=(aez Y (aez l o))/\l<o/\l<=hint/\dS a (ρ d) (R ρ arr<|base+(hint-l))=aB/\(hint+1<=o\/(o<=hint/\dS a (ρ d) (R ρ arr<|base+(hint-o))=ae))) ?step ?fin (O,0,1,O,ß,ß,ú,M)) ?post)
  case fin=>
   rintro c m ⟨rfl,l,o,rfl,G,U,H,v⟩;exact(O,l,o,O,G,H,v,.inl ω)
  case step=>
   rintro x c m _ hx ⟨rfl,l,o,rfl,G,U,H,v⟩;dsimp only
   by_cases u:o ≥ hint+1
   ·rw[av u]
    exact ca (O,l,o,O,G,H,v,.inl u)
   ·rw[am u]
    refine bE<|zK C hB hk (ha _ ω) ?_;cases e:dS a (ρ d) (R ρ arr<|base+(hint-o)) with
    |true=>
     simp only[eD];exact ca (O,l,o,O,G,H,v,.inr ((ò (ó u)),e))
    |false=>
     simp only[dK,da];exact ca (O,o,2*o+1,O,ω,ω,(ò (ó u)),e)
  case post=>
   rintro c m ⟨rfl,l,o,rfl,G,H,v,K⟩;dsimp only;refine bE<|iO (S _ _ _ _ O ω ω (λi t=>?_) (λi P L=>dn _ i P L v) X) ?fin2
   case fin2=>rintro⟨c1,c2,c3⟩ z ⟨rfl,e,q⟩;dsimp only at e q ⊢;subst e;exact ca q
   rcases K with K|⟨K,a6⟩
   ·omega
   ·exact up i _ ω ω a6
end
abbrev dL(a:ay->Int)(l:List ay):Prop:=l.Pairwise λx y=>a x<=a y
structure iF(ρ:ay->Int)(la lb out ra rb:List ay):Prop where
 d:(out++(ra++rb)).Perm (la++lb)
 b:dL ρ out
 a:dL ρ ra
 e:dL ρ rb
 c:∀x∈out,∀y∈ra,ρ x<=ρ y
 ob:∀x∈out,∀y∈rb,ρ x<=ρ y
def iF.N{i j e b k g:List ay}(h:iF f i j e (b++k) g)(m:∀x∈b,∀y∈g,f x<=f y):iF f i j (e++b) k g:=by
 obtain⟨p,n,o,q,l,r⟩:=h;have c:=nT.mp o;refine(by simpa[lV] using p,nT.mpr (n,c.1,λx a y d=>l x a y<|kF _ d),c.2.1,q,λx a y d=>?_,λx a y d=>?_)
 ·rcases dt.mp a with a|a
  ·exact l x a y<|jO _ d
  ·exact c.2.2 x a y d
 ·rcases dt.mp a with a|a
  ·exact r x a y d
  ·exact m x a y d
def iF.F{i j e b g k:List ay}(h:iF f i j e g (b++k))(m:∀x∈b,∀y∈g,f x<=f y):iF f i j (e++b) g k:=by
 obtain⟨p,n,o,q,r,l⟩:=h;have c:=nT.mp q;refine(?_,nT.mpr (n,c.1,λx a y d=>l x a y<|kF _ d),o,c.2.1,λx a y d=>?_,λx a y d=>?_)
 ·refine DI ?_ p
  rw[lV];refine Kc _ ?_;rw[<-lV,<-lV];exact DK _ SK
 ·rcases dt.mp a with a|a
  ·exact r x a y d
  ·exact m x a y d
 ·rcases dt.mp a with a|a
  ·exact l x a y<|jO _ d
  ·exact c.2.2 x a y d
def iF.A1{d:ay->Int}{f g a c b:List ay}(h:iF d f g a c b)(e:b=[]):((a++c)++b).Perm (f++g)/\dL d ((a++c)++b):=by
 subst e;refine(by simpa[lV] using h.d,?_);rw[jy];exact nT.mpr (h.b,h.a,h.c)
def iF.A0{b:ay->Int}{f g a c d:List ay}(h:iF b f g a c d)(i:∀x∈d,∀y∈c,b x<=b y):((a++d)++c).Perm (f++g)/\dL b ((a++d)++c):=by
 have e:=(show iF b f g a c (d++[]) by rw[jy];exact h).F i;refine(by simpa using e.d,nT.mpr (e.b,e.a,e.c))
def KP{a:Array ay}{i:Nat}(h:a[i]?=V p):a.toList.drop i=[p]++a.toList.drop (i+1):=by
 have b:a.toList[i]?=V p:=by simpa using h
 obtain⟨c,e⟩:=bY.mp b;rw[pn c,e]
 rfl
def zR{a:Array ay}(i k:Nat):a.toList.drop i=(a.extract i<|i+k).toList++a.toList.drop (i+k):=by
 rw[Kq,JZ,Nat.add_sub_cancel_left,<-ai0,uH]
def tu{a:Array ay}{i:Nat}{y:ay}(h:y∈a.toList.drop i):∃j,i+j<a.size/\a[i+j]?=V y:=by
 obtain⟨j,b,e⟩:=np.mp h;rw[pd,gJ] at b;refine(j,ω,?_);rw[List.getElem_drop] at e;rw[h_ a (i+j) ω,<-e];simp
def KH{a:Array ay}{i k:Nat}{y:ay}(h:y∈(a.extract i<|i+k).toList):∃j,j<k/\i+j<a.size/\a[i+j]?=V y:=by
 obtain⟨j,b,e⟩:=np.mp h;rw[gJ,rx] at b;refine(j,ω,ω,?_);rw[h_ a (i+j) ω,<-e];simp
def zP(a:Array ay)(i:Nat):(a.extract i).toList=a.toList.drop i:=by
 rw[Kq,JZ,eV 0#0]
def jQ{xs:Array ay}{i:Nat}(h:i<xs.size):∃p,xs[i]?=V p:=(xs[i],h_ _ i h)
def kG{a:Array ay}{i:Nat}(h:a[i]?=V p):p∈a.toList:=by
 obtain⟨b,rfl⟩:=uT.mp h;simp
def pB{b:Array ay}(d:dL a b.toList){i j:Nat}(e:b[i]?=V p)(f:b[j]?=V q)(c:i<=j):a p<=a q:=by
 obtain⟨g,rfl⟩:=uT.mp e;obtain⟨k,rfl⟩:=uT.mp f;rcases JL c with h|h
 ·have:=pc.mp d i j 6#g 6#k h
  simpa using this
 ·subst h;exact lW _
def zS{b:ay->Int}{a:Array ay}(f:dL b a.toList){h j:Nat}(c:h<=j)(g:j<a.size):R b a h<=R b a j:=by
 obtain⟨p,d⟩:=jQ (xs:=a) (i:=h) (à (ï c) g);obtain⟨q,e⟩:=jQ g;rw[fU d,fU e];exact pB f d e c
structure iQ(st st':be):Prop where
 arr:aJ st'=aJ st
 a:dE st'=dE st
 c:Dn st'=Dn st
 d:nO st'=nO st
def iQ.refl{a:be}:iQ a a:=(O,O,O,O)
noncomputable def iQ.B{a b c:be}(x:iQ a b)(y:iQ b c):iQ a c:=(y.arr.trans x.arr,y.a.trans x.a,y.c.trans x.c,y.d.trans x.d)
def iQ.b{c:lQ}{a:Array ay}{d b:be}(x:iQ d b)(h:cV c a d):cV c a b:=(by rw[x.arr];exact h.a,x.c.trans h.c,x.d.trans h.b)
noncomputable def w_:Nat->StateT be eA Unit:=sortPriv% PySem.Builtin.setMinGallop
noncomputable def KF:Array ay->Array ay->StateT be eA (Array ay):=sortPriv% PySem.Builtin.mergeLo
noncomputable def KG:Array ay->Array ay->StateT be eA (Array ay):=sortPriv% PySem.Builtin.mergeHi
section
variable{prog:bu}{w:bf}{A:bO}{E:Ω}{s:ak}{κ:lQ}{a₀:Array ay}{ρ:ay->Int}
def zI{b:be}{Q:Unit->be->Prop}(h:∀a,iQ b a->Q () a):dX 2#0 A E s (w_ g) Q b:=by
 refine uE<|h _ ?_;exact(O,O,O,O)
abbrev pE(ρ:ay->Int)(a b:Array ay)(d:be)(r:Array ay)(c:be):Prop:=iQ d c/\r.toList.Perm (a.toList++b.toList)/\dL ρ r.toList
structure tw(ρ:ay->Int)(a b:Array ay)(out:Array ay)(ia ib:Nat):Prop where
 e:iF ρ a.toList b.toList out.toList (a.toList.drop ia) (b.toList.drop ib)
 d:ia+1<a.size
 c:ib<b.size
noncomputable def iF.J{ρ:ay->Int}{a b c:Array ay}{d f:Nat}(h:iF ρ a.toList b.toList c.toList (a.toList.drop d) (b.toList.drop f))(e:b[f]?=V y)(g:∀x∈a.toList.drop d,ρ y<=ρ x):iF ρ a.toList b.toList (c.push y).toList (a.toList.drop d) (b.toList.drop<|f+1):=by
 rw[KP e] at h;rw[zG];exact h.F λx i z j=>by rw[cT.mp i];exact g z j
noncomputable def iF.M{ρ:ay->Int}{a b c:Array ay}{d f:Nat}(h:iF ρ a.toList b.toList c.toList (a.toList.drop d) (b.toList.drop f))(e:a[d]?=V x)(i:∀y∈b.toList.drop f,ρ x<=ρ y):iF ρ a.toList b.toList (c.push x).toList (a.toList.drop<|d+1) (b.toList.drop f):=by
 rw[KP e] at h;rw[zG];exact h.N λz j y g=>by rw[cT.mp j];exact i y g
def iF.A3{ρ:ay->Int}{a b d:Array ay}{c e:Nat}(k:Nat)(h:iF ρ a.toList b.toList d.toList (a.toList.drop c) (b.toList.drop e))(f:∀x∈(a.extract c<|c+k).toList,∀y∈b.toList.drop e,ρ x<=ρ y):iF ρ a.toList b.toList (d++a.extract c (c+k)).toList (a.toList.drop<|c+k) (b.toList.drop e):=by
 rw[zR c k] at h;rw[pA];exact h.N f
def iF.A2{ρ:ay->Int}{a b d:Array ay}{e c:Nat}(k:Nat)(h:iF ρ a.toList b.toList d.toList (a.toList.drop e) (b.toList.drop c))(f:∀x∈(b.extract c<|c+k).toList,∀y∈a.toList.drop e,ρ x<=ρ y):iF ρ a.toList b.toList (d++b.extract c (c+k)).toList (a.toList.drop e) (b.toList.drop<|c+k):=by
 rw[zR c k] at h;rw[pA];exact h.F f
def iF.fin{ρ:ay->Int}{a b c:Array ay}{f d:Nat}(h:iF ρ a.toList b.toList c.toList (a.toList.drop f) (b.toList.drop d))(e:b.size<=d):(c++a.extract f++b.extract d).toList.Perm (a.toList++b.toList)/\dL ρ (c++a.extract f++b.extract d).toList:=by
 rw[pA,pA,zP,zP];exact h.A1<|SX 6#e
noncomputable def iF.B{ρ:ay->Int}{a b c:Array ay}{d e:Nat}(h:iF ρ a.toList b.toList c.toList (a.toList.drop d) (b.toList.drop e))(f:∀x∈b.toList.drop e,∀y∈a.toList.drop d,ρ x<=ρ y):(c++b.extract e++a.extract d).toList.Perm (a.toList++b.toList)/\dL ρ (c++b.extract e++a.extract d).toList:=by
 rw[pA,pA,zP,zP];exact h.A0 f
abbrev pC:=Option (Array ay)×Array ay×Nat×Nat×Nat×Nat×Nat
def Ej(ρ:ay->Int)(a b:Array ay)(h:be)(l:Nat):ForInStep pC->be->Prop:=λr d=>match r with
 |.done g=>(∃r,g.1=V r/\pE ρ a b h r d)\/iQ h d/\∃c e f i j k,g=(aez Y (aez c (aez e (aez f (aez i (aez j k))))))/\tw ρ a b c e f/\l<=e+f
 |.yield g=>iQ h d/\∃c e f i j k,g=(aez Y (aez c (aez e (aez f (aez i (aez j k))))))/\tw ρ a b c e f/\l<=e+f
noncomputable def DS(a b o:Array ay)(i j c k l:Nat):StateT be eA (ForInStep pC):=iP a i >>= λz=>if(i+1+1==a.size)=ae then aX (.done (aez (V<|o.push z++b.extract j++a.extract (i+1)) (aez (o.push z) (aez (i+1) (aez j (aez c (aez k l))))))) else if(aE (k<7)&&aE (l<7))=ae then aX (.done (aez Y (aez (o.push z) (aez (i+1) (aez j (aez c (aez k l))))))) else aX (.yield (aez Y (aez (o.push z) (aez (i+1) (aez j (aez c (aez k l)))))))
noncomputable def DX(a b o:Array ay)(i j c k d:Nat):StateT be eA (ForInStep pC):=iP b j >>= λy=>if(j+1==b.size)=ae then aX (.done (aez (V<|o.push y++a.extract i++b.extract (j+1)) (aez (o.push y) (aez i (aez (j+1) (aez c (aez k d))))))) else iP a i >>= λx=>xa ae x b (j+1) (b.size-(j+1)) 0 >>= λg=>match g with
 |some l=>if l>0 then(if(j+1+l==b.size)=ae then aX (.done (aez (V<|o.push y++b.extract (j+1) (j+1+l)++a.extract i++b.extract (j+1+l)) (aez (o.push y++b.extract (j+1) (j+1+l)) (aez i (aez (j+1+l) (aez c (aez k l))))))) else DS a b (o.push y++b.extract (j+1) (j+1+l)) i (j+1+l) c k l) else DS a b (o.push y) i (j+1) c k l
 |_=>aX (.done (aez (V<|o.push y++a.extract i++b.extract (j+1)) (aez (o.push y) (aez i (aez (j+1) (aez c (aez k d)))))))
def Kv{m c:be}{a b o:Array ay}{i j q k l v:Nat}(S:iQ m c)(M:iF ρ a.toList b.toList o.toList (a.toList.drop i) (b.toList.drop j))(n:a[i]?=V x)(e:∀y∈b.toList.drop j,ρ x<=ρ y)(f:∀i j,a.size<=i+1->∀x∈b.toList.drop j,∀y∈a.toList.drop i,ρ x<=ρ y)(r:i+1<a.size)(t:j<b.size)(u:v<=i+j):dX 2#0 A E s (DS a b o i j q k l) (Ej ρ a b m v) c:=by
 refine bE<|iq n ?_;have g:=M.M n e
 by_cases d:(i+1+1==a.size)=ae
 ·rw[av d]
  have h:i+1+1=a.size:=by simpa using d
  exact ca<|.inl (_,O,S,g.B<|f _ _ (æ h))
 rw[am d];have h:i+1+1≠a.size:=by simpa using d
 by_cases p:(aE (k<7)&&aE (l<7))=ae
 ·rw[av p]
  exact ca<|.inr (S,_,_,_,_,_,_,O,(g,(þ r h),t),ω)
 ·rw[am p]
  exact ca (S,_,_,_,_,_,_,O,(g,(þ r h),t),ω)
def Kx(C:ic prog w A s κ a₀ ρ){G n:be}(X:cV κ a₀ G){a b o:Array ay}{i j mg k bc a0:Nat}(ha:∀p∈a.toList,p∈a₀.toList)(hb:∀p∈b.toList,p∈a₀.toList)(sa:dL ρ a.toList)(sb:dL ρ b.toList)(S:iQ G n)(M:iF ρ a.toList b.toList o.toList (a.toList.drop i) (b.toList.drop j))(Q:b[j]?=V y)(c:∀x∈a.toList.drop i,ρ y<=ρ x)(q:∀i j,a.size<=i+1->∀x∈b.toList.drop j,∀y∈a.toList.drop i,ρ x<=ρ y)(H:i+1<a.size)(h2:j<b.size)(hN:a0<=i+j):dX 2#0 A E s (DX a b o i j mg k bc) (Ej ρ a b G a0) n:=by
 refine bE<|iq Q ?_;have I:=M.J Q c
 by_cases z:(j+1==b.size)=ae
 ·rw[av z]
  have K:j+1=b.size:=by simpa using z
  exact ca<|.inl (_,O,S,I.fin (æ K))
 rw[am z];have K:j+1≠b.size:=by simpa using z
 obtain⟨x,r⟩:=jQ (xs:=a) (i:=i) (ì H);refine bE<|iq r ?_;refine bE<|uU C (S.b X) (ha _<|kG r) (λl hl=>?_) (λl m H h2=>zS sb (ñ H) ω) ω λl l1 l2 l3=>?_
 ·obtain⟨p,e⟩:=jQ (xs:=b) (i:=j+1+l) ω
  exact(p,e,hb _<|kG e)
 dsimp only;have g:∀y∈b.toList.drop (j+1+l),ρ x<=ρ y:=λu L=>by
  obtain⟨d,R,T⟩:=tu L;have h:=l3 (l+d) ü ω;rw[show j+1+(l+d)=j+1+l+d from ω,fU T] at h;simp[dS] at h;omega
 by_cases t:l>0
 ·rw[av t]
  have U:=I.A2 l λu L v hv=>by
   obtain⟨d,R,T,d3⟩:=KH L;obtain⟨f,f1,f2⟩:=tu hv;have h:=l2 d R;rw[fU d3] at h;simp[dS] at h;exact nW (nY h)<|pB sa r f2 ü
  by_cases D:(j+1+l==b.size)=ae
  ·rw[av D]
   have P:j+1+l=b.size:=by simpa using D
   exact ca<|.inl (_,O,S,U.fin (æ P))
  rw[am D];have P:j+1+l≠b.size:=by simpa using D
  exact Kv S U r g q H ω ω
 ·rw[am t]
  have l0:l=0:=(û (ô t) ú)
  rw[l0] at g;exact Kv S I r g q H (þ h2 K) ω
noncomputable def zM(a b o:Array ay)(i j c e d:Nat):StateT be eA (ForInStep pC):=w_ c >>= λ_=>iP b j >>= λy=>xa aB y a i (a.size-i) 0 >>= λg=>match g with
 |some k=>if k>0 then(if(i+k+1==a.size)=ae then aX (.done (aez (V<|o++a.extract i (i+k)++b.extract j++a.extract (i+k)) (aez (o++a.extract i (i+k)) (aez (i+k) (aez j (aez c (aez k d))))))) else if(i+k==a.size)=ae then aX (.done (aez (V<|o++a.extract i (i+k)++a.extract (i+k)++b.extract j) (aez (o++a.extract i (i+k)) (aez (i+k) (aez j (aez c (aez k d))))))) else DX a b (o++a.extract i (i+k)) (i+k) j c k d) else DX a b o i j c k d
 |_=>aX (.done (aez (V<|o++a.extract i++b.extract j) (aez o (aez i (aez j (aez c (aez e d)))))))
def TE(C:ic prog w A s κ a₀ ρ){K n:be}(L:cV κ a₀ K){a b o:Array ay}{i j mg ac bc N:Nat}{y z:ay}(M:∀p∈a.toList,p∈a₀.toList)(P:∀p∈b.toList,p∈a₀.toList)(Q:dL ρ a.toList)(R:dL ρ b.toList)(D:iQ K n)(G:tw ρ a b o i j)(m:b[j]?=V y)(X:a[a.size-1]?=V z)(hz:∀z,a[a.size-1]?=V z->∀y∈b.toList,ρ y<ρ z)(h:∀i j,a.size<=i+1->∀x∈b.toList.drop j,∀y∈a.toList.drop i,ρ x<=ρ y)(a0:N<=i+j):dX 2#0 A E s (zM a b o i j mg ac bc) (Ej ρ a b K N) n:=by
 have S:=G.d;have r:=G.c;refine bE<|zI λa1 H=>?_;refine bE<|iq m ?_;refine bE<|uU C ((D.B H).b L) (P _<|kG m) (λk hk=>?_) (λk l h1 h2=>zS Q (ñ h1) ω) ω λk k1 k2 k3=>?_
 ·obtain⟨p,e⟩:=jQ (xs:=a) (i:=i+k) ω
  exact(p,e,M _<|kG e)
 dsimp only;have kz:i+k<a.size:=by
  rcases kX (i+k) a.size with q|q
  ·exact q
  ·have g:=k2 (a.size-1-i) ω
   rw[show i+(a.size-1-i)=a.size-1 from ω,fU X] at g;have q2:=hz _ X y<|kG m;simp[dS] at g;omega
 have c:∀x∈a.toList.drop (i+k),ρ y<=ρ x:=λu T=>by
  obtain⟨d,d1,d2⟩:=tu T;have g:=k3 (k+d) ü ω;rw[show i+(k+d)=i+k+d from ω,fU d2] at g;simp[dS] at g;omega
 by_cases t:k>0
 ·rw[av t]
  have MB:=G.e.A3 k λu T v hv=>by
   obtain⟨d,d1,d2,d3⟩:=KH T;obtain⟨f,f1,f2⟩:=tu hv;have g:=k2 d d1;rw[fU d3] at g;simp[dS] at g;exact nW g<|pB R m f2 ü
  by_cases I:(i+k+1==a.size)=ae
  ·rw[av I]
   have U:i+k+1=a.size:=by simpa using I
   exact ca<|.inl (_,O,D.B H,MB.B<|h _ _ (æ U))
  rw[am I];have U:i+k+1≠a.size:=by simpa using I
  rw[am (show ¬(i+k==a.size)=ae by simp;exact õ kz)];exact Kx C L M P Q R (D.B H) MB m c h (þ kz U) r ω
 ·rw[am t]
  have k0:k=0:=(û (ô t) ú)
  rw[k0] at c;exact Kx C L M P Q R (D.B H) G.e m c h S r a0
abbrev uY:=Option (Array ay)×Array ay×Nat×Nat×Nat×Nat
abbrev uW:=Option (Array ay)×Array ay×Nat×Nat×Nat
noncomputable def KL:be->Nat:=sortPriv% PySem.Builtin.SortState.minGallop
noncomputable def D_(a b:Array ay)(d:Nat):Nat->uY->StateT be eA (ForInStep uY):=λ_ c=>iP b c.2.2.2.1 >>= λy=>iP a c.2.2.1 >>= λx=>lt' y x >>= λq=>match q with
 |some r=>if r=ae then iP b c.2.2.2.1 >>= λz=>(if(c.2.2.2.1+1==b.size)=ae then aX (.done (aez (V<|c.2.1.push z++a.extract c.2.2.1++b.extract (c.2.2.2.1+1)) (aez (c.2.1.push z) (aez c.2.2.1 (aez (c.2.2.2.1+1) (aez 0 (c.2.2.2.2.2+1))))))) else if c.2.2.2.2.2+1 ≥ d then aX (.done (aez Y (aez (c.2.1.push z) (aez c.2.2.1 (aez (c.2.2.2.1+1) (aez 0 (c.2.2.2.2.2+1))))))) else aX (.yield (aez Y (aez (c.2.1.push z) (aez c.2.2.1 (aez (c.2.2.2.1+1) (aez 0 (c.2.2.2.2.2+1))))))))
  else iP a c.2.2.1 >>= λz=>(if(c.2.2.1+1+1==a.size)=ae then aX (.done (aez (V<|c.2.1.push z++b.extract c.2.2.2.1++a.extract (c.2.2.1+1)) (aez (c.2.1.push z) (aez (c.2.2.1+1) (aez c.2.2.2.1 (aez (c.2.2.2.2.1+1) 0)))))) else if c.2.2.2.2.1+1 ≥ d then aX (.done (aez Y (aez (c.2.1.push z) (aez (c.2.2.1+1) (aez c.2.2.2.1 (aez (c.2.2.2.2.1+1) 0)))))) else aX (.yield (aez Y (aez (c.2.1.push z) (aez (c.2.2.1+1) (aez c.2.2.2.1 (aez (c.2.2.2.2.1+1) 0)))))))
 |_=>aX (.done (aez (V<|c.2.1++a.extract c.2.2.1++b.extract c.2.2.2.1) (aez c.2.1 (aez c.2.2.1 (aez c.2.2.2.1 (aez c.2.2.2.2.1 c.2.2.2.2.2))))))
noncomputable def Eb(a b:Array ay):Nat->pC->StateT be eA (ForInStep pC):=λ_ c=>if c.2.2.2.2.1>1 then zM a b c.2.1 c.2.2.1 c.2.2.2.1 (c.2.2.2.2.1-1) c.2.2.2.2.2.1 c.2.2.2.2.2.2 else zM a b c.2.1 c.2.2.1 c.2.2.2.1 c.2.2.2.2.1 c.2.2.2.2.2.1 c.2.2.2.2.2.2
noncomputable def DV(a b:Array ay):Nat->uW->StateT be eA (ForInStep uW):=λ_ c=>mN [:a.size+b.size] ((aez Y (aez c.2.1 (aez c.2.2.1 (aez c.2.2.2.1 (aez 0 0))))):uY) (D_ a b c.2.2.2.2) >>= λd=>match d.1 with
 |some r=>aX (.done (aez (V r) (aez d.2.1 (aez d.2.2.1 (aez d.2.2.2.1 c.2.2.2.2)))))
 |none=>liftM (yQ "list.sort.gallop") >>= λ_=>mN [:a.size+b.size] ((aez Y (aez d.2.1 (aez d.2.2.1 (aez d.2.2.2.1 (aez (c.2.2.2.2+1) (aez d.2.2.2.2.1 d.2.2.2.2.2)))))):pC) (Eb a b) >>= λe=>match e.1 with
  |some r=>aX (.done (aez (V r) (aez e.2.1 (aez e.2.2.1 (aez e.2.2.2.1 e.2.2.2.2.1)))))
  |none=>w_ (e.2.2.2.2.1+1) >>= λ_=>aX<|.yield (aez Y (aez e.2.1 (aez e.2.2.1 (aez e.2.2.2.1 (e.2.2.2.2.1+1)))))
noncomputable def KI(a b:Array ay):StateT be eA (Array ay):=liftM (yQ "list.sort.merge-lo") >>= λ_=>iP b 0 >>= λy=>if(1==b.size)=ae then aX (#[y]++a.extract 0++b.extract 1) else if(0+1==a.size)=ae then aX (#[y]++b.extract 1++a.extract 0) else get >>= λg=>mN [:a.size+b.size] ((aez Y (aez (#[y]) (aez 0 (aez 1 (KL g))))):uW) (DV a b) >>= λd=>match d.1 with
 |some r=>aX r
 |none=>liftM (Rc "internal:list.sort.merge-bound":eA (Array ay))
def TR(a b:Array ay):KF a b=KI a b:=by kernel_rfl
def Eh(ρ:ay->Int)(a b:Array ay)(g:be)(k:Nat):Nat->uY->be->Prop:=λt c h=>h=g/\∃f d e i j,c=(aez Y (aez f (aez d (aez e (aez i j)))))/\tw ρ a b f d e/\k+t<=d+e
def KV(ρ:ay->Int)(a b:Array ay)(i h:be)(l:Nat):uY->be->Prop:=λc f=>f=h/\((∃r,c.1=V r/\pE ρ a b i r f)\/∃g d e j k,c=(aez Y (aez g (aez d (aez e (aez j k)))))/\tw ρ a b g d e/\l+1<=d+e)
def Ef(ρ:ay->Int)(a b:Array ay)(h:be):Nat->uW->be->Prop:=λx c e=>iQ h e/\∃d f g i,c=(aez Y (aez d (aez f (aez g i))))/\tw ρ a b d f g/\x+1<=f+g
def KS(ρ:ay->Int)(a b:Array ay)(e:be):uW->be->Prop:=λc d=>∃r,c.1=V r/\pE ρ a b e r d
def xh(ρ:ay->Int)(a b:Array ay)(h:be)(l:Nat):pC->be->Prop:=λc e=>iQ h e/\∃d f g i j k,c=(aez Y (aez d (aez f (aez g (aez i (aez j k))))))/\tw ρ a b d f g/\l<=f+g
def Ek(ρ:ay->Int)(a b:Array ay)(e:be)(f:Nat):pC->be->Prop:=λc d=>(∃r,c.1=V r/\pE ρ a b e r d)\/xh ρ a b e f c d
def of{c:Type}(I Q:c->be->Prop):ForInStep c->be->Prop:=λr a=>match r with
 |.done b=>Q b a
 |.yield b=>I b a
def TB(C:ic prog w A s κ a₀ ρ){r f n:be}(H:cV κ a₀ r){a b:Array ay}{I a0 t:Nat}(K:∀p∈a.toList,p∈a₀.toList)(L:∀p∈b.toList,p∈a₀.toList)(M:dL ρ a.toList)(P:dL ρ b.toList)(v:iQ r f)(z:∀i j,a.size<=i+1->∀x∈b.toList.drop j,∀y∈a.toList.drop i,ρ x<=ρ y)(Q:Eh ρ a b f a0 t c n):dX 2#0 A E s (D_ a b I t c) (of (Eh ρ a b f a0<|t+1)<|KV ρ a b r f a0) n:=by
 obtain⟨rfl,R,h,k,ac,bc,rfl,e,S⟩:=Q;unfold D_;dsimp only;obtain⟨y,o⟩:=jQ e.c;obtain⟨x,q⟩:=jQ<|Nat.lt_of_succ_lt e.d;have T:=e.d;have U:=e.c;refine bE<|iq o<|bE<|iq q<|bE<|wY C (v.b H) (L _<|kG o) (K _<|kG q) ?_
 by_cases d:ρ y<ρ x
 ·simp only[d,decide_true,eD]
  refine bE<|iq o ?_;have l:=e.e.J o λu D=>by
   obtain⟨j,X,G⟩:=tu D;exact nW (nY d)<|pB M q G ü
  by_cases g:(k+1==b.size)=ae
  ·rw[av g]
   have m:k+1=b.size:=by simpa using g
   exact ca (O,.inl (_,O,v,l.fin (æ m)))
  ·rw[am g]
   have m:k+1≠b.size:=by simpa using g
   split
   ·exact ca (O,.inr (_,_,_,_,_,O,(l,e.d,(þ U m)),ω))
   ·exact ca (O,_,_,_,_,_,O,(l,e.d,(þ U m)),(ï S))
 ·simp only[d,decide_false,dK,da]
  refine bE<|iq q ?_;have l:=e.e.M q λu D=>by
   obtain⟨j,X,G⟩:=tu D;exact nW (Ki.mp d)<|pB P o G ü
  by_cases g:(h+1+1==a.size)=ae
  ·rw[av g]
   have m:h+1+1=a.size:=by simpa using g
   exact ca (O,.inl (_,O,v,l.B<|z _ _ (æ m)))
  ·rw[am g]
   have m:h+1+1≠a.size:=by simpa using g
   split
   ·exact ca (O,.inr (_,_,_,_,_,O,(l,(þ T m),e.c),ω))
   ·exact ca (O,_,_,_,_,_,O,(l,(þ T m),e.c),ω)
def TG(C:ic prog w A s κ a₀ ρ)(o:cV κ a₀ e){a b:Array ay}{S t:Nat}{z:ay}(q:∀p∈a.toList,p∈a₀.toList)(u:∀p∈b.toList,p∈a₀.toList)(v:dL ρ a.toList)(D:dL ρ b.toList)(G:a[a.size-1]?=V z)(H:∀z,a[a.size-1]?=V z->∀y∈b.toList,ρ y<ρ z)(f:∀i j,a.size<=i+1->∀x∈b.toList.drop j,∀y∈a.toList.drop i,ρ x<=ρ y)(I:xh ρ a b e S c d):dX 2#0 A E s (Eb a b t c) (of (xh ρ a b e S)<|Ek ρ a b e S) d:=by
 obtain⟨K,l,i,j,R,L,M,rfl,n,m⟩:=I;obtain⟨y,P⟩:=jQ n.c;have k:∀g,dX 2#0 A E s (zM a b l i j g L M) (of (xh ρ a b e S)<|Ek ρ a b e S) d:=λg=>iO (TE (N:=S) C o q u v D K n P G H f m) λr Q h=>by cases r<;>exact h
 unfold Eb;dsimp only;split
 ·exact k _
 ·exact k _
def Tw(C:ic prog w A s κ a₀ ρ)(D:cV κ a₀ g){a b:Array ay}{x:Nat}{z:ay}(G:∀p∈a.toList,p∈a₀.toList)(H:∀p∈b.toList,p∈a₀.toList)(K:dL ρ a.toList)(L:dL ρ b.toList)(ez:a[a.size-1]?=V z)(hz:∀z,a[a.size-1]?=V z->∀y∈b.toList,ρ y<ρ z)(n:∀i j,a.size<=i+1->∀x∈b.toList.drop j,∀y∈a.toList.drop i,ρ x<=ρ y)(hx:x<a.size+b.size)(o:Ef ρ a b g x c f):dX 2#0 A E s (DV a b x c) (of (Ef ρ a b g<|x+1)<|KS ρ a b g) f:=by
 obtain⟨M,k,P,R,mg,rfl,a2,hp⟩:=o;unfold DV;dsimp only;refine bE<|iO (lP (I:=Eh ρ a b f<|P+R) (Q:=KV ρ a b g f<|P+R) (λt c d _ ht o=>iO (TB C D G H K L M n o) λr d h=>by cases r<;>exact h) ?ifin (O,_,_,_,_,_,O,a2,ß)) ?ipost
 case ifin=>
  rintro c d ⟨rfl,k,l,m,S,T,rfl,u,v⟩;exact(O,.inr (_,_,_,_,_,O,u,ω))
 case ipost=>
  rintro⟨c1,c2⟩ d ⟨rfl,⟨r,e,q⟩|⟨k,l,m,S,T,e,u,v⟩⟩
  ·dsimp only at e ⊢
   subst e;exact ca (r,O,q)
  ·cases e
   dsimp only;refine bE<|wH<|mD (O,?_);refine bE<|iO (lP (I:=λ_=>xh ρ a b g<|l+m) (Q:=Ek ρ a b g<|l+m) (λt c d _ ht o=>iO (TG C D G H K L ez hz n o) λr d h=>by cases r<;>exact h) ?gfin (M,_,_,_,_,_,_,O,u,aV _)) ?gpost
   case gfin=>
    rintro c d q;exact .inr q
   case gpost=>
    rintro⟨c1,c2⟩ d (⟨r,e,q⟩|⟨S2,k,U,X,mg,S,T,e,J2,a0⟩)
    ·dsimp only at e ⊢
     subst e;exact ca (r,O,q)
    ·cases e
     dsimp only;exact bE<|zI λa1 S3=>ca (S2.B S3,_,_,_,_,O,J2,(à (à (ï hp) v) a0))
def Tz(C:ic prog w A s κ a₀ ρ)(P:cV κ a₀ f){a b:Array ay}{Q:Array ay->be->Prop}(R:∀p∈a.toList,p∈a₀.toList)(S:∀p∈b.toList,p∈a₀.toList)(G:dL ρ a.toList)(H:dL ρ b.toList)(na:1<=a.size)(nb:1<=b.size)(T:∀x∈a.toList,∀y,b[0]?=V y->ρ y<=ρ x)(K:∀z,a[a.size-1]?=V z->∀y∈b.toList,ρ y<ρ z)(h:∀r d,pE ρ a b f r d->Q r d):dX 2#0 A E s (KF a b) Q f:=by
 obtain⟨z,o⟩:=jQ (xs:=a) (i:=a.size-1) ω;have g:∀i j,a.size<=i+1->∀x∈b.toList.drop j,∀y∈a.toList.drop i,ρ x<=ρ y:=λi j hi x l y U=>by
  obtain⟨k,k1,L⟩:=tu U;rw[show i+k=a.size-1 from ω,o] at L;cases L;exact nY<|K _ o x<|List.mem_of_mem_drop l
 rw[TR];unfold KI;refine bE<|wH<|mD (O,?_);obtain⟨M,t⟩:=jQ (xs:=b) (i:=0) nb;refine bE<|iq t ?_;have u:iF ρ a.toList b.toList (#[M]:Array ay).toList (a.toList.drop 0) (b.toList.drop 1):=by
  have q:iF ρ a.toList b.toList (#[]:Array ay).toList (a.toList.drop 0) (b.toList.drop 0):=(by simp,by simp,by simpa using G,by simpa using H,by simp,by simp);exact q.J t λx l=>T x 6#l M t
 by_cases m:(1==b.size)=ae
 ·rw[av m]
  have v:1=b.size:=by simpa using m
  exact ca<|h _ _ (.refl,u.fin (æ v))
 rw[am m];have v:1≠b.size:=by simpa using m
 by_cases n:(0+1==a.size)=ae
 ·rw[av n]
  have D:0+1=a.size:=by simpa using n
  exact ca<|h _ _ (.refl,u.B<|g 0 1 (æ D))
 rw[am n];have D:0+1≠a.size:=by simpa using n
 refine bE<|nN ?_;refine bE<|iO (lP (I:=Ef ρ a b f) (Q:=KS ρ a b f) (λx c X _ l hI=>iO (Tw C P R S G H o K g l hI) λr d h=>by cases r<;>exact h) ?fin (.refl,_,0,1,_,O,(u,(þ na D),(þ nb v)),ß)) ?post
 case post=>
  rintro⟨m,n⟩ d ⟨r,e,q⟩;dsimp only at e ⊢;subst e;exact ca<|h _ _ q
 case fin=>
  rintro c d ⟨_,a0,ia,ib,mg,_,a1,l⟩;have:=a1.d;have:=a1.c;omega
end
structure rA(ρ:ay->Int)(la lb ra rb o:List ay):Prop where
 c:((ra++rb)++o).Perm (la++lb)
 a:dL ρ o
 e:dL ρ ra
 d:dL ρ rb
 f:∀x∈ra,∀y∈o,ρ x<=ρ y
 b:∀x∈rb,∀y∈o,ρ x<=ρ y
noncomputable def rA.J{e:ay->Int}{g i j b f o:List ay}(h:rA e g i (j++b) f o)(l:∀y∈f,∀x∈b,e y<=e x):rA e g i j f (b++o):=by
 obtain⟨p,m,n,q,k,r⟩:=h;have c:=nT.mp n;refine(?_,nT.mpr (c.2.1,m,λx d y a=>k x (jO _ d) y a),c.1,q,λx d y a=>?_,λx d y a=>?_)
 ·refine DI ?_ p
  simp only[lV];refine Kc _ ?_;rw[<-lV,<-lV];exact DK _ SK
 ·rcases dt.mp a with a|a
  ·exact c.2.2 x d y a
  ·exact k x (kF _ d) y a
 ·rcases dt.mp a with a|a
  ·exact l x d y a
  ·exact r x d y a
noncomputable def rA.M{e:ay->Int}{g i f b j o:List ay}(h:rA e g i f (j++b) o)(l:∀y∈f,∀x∈b,e y<=e x):rA e g i f j (b++o):=by
 obtain⟨p,m,n,q,r,k⟩:=h;have c:=nT.mp q;refine(by simpa[lV] using p,nT.mpr (c.2.1,m,λx d y a=>k x (jO _ d) y a),n,c.1,λx d y a=>?_,λx d y a=>?_)
 ·rcases dt.mp a with a|a
  ·exact l x d y a
  ·exact r x d y a
 ·rcases dt.mp a with a|a
  ·exact c.2.2 x d y a
  ·exact k x (kF _ d) y a
def rA.A2{c:ay->Int}{d f a b o:List ay}(h:rA c d f a b o)(e:a=[]):((a++b)++o).Perm (d++f)/\dL c ((a++b)++o):=by
 subst e;exact(h.c,nT.mpr (h.d,h.a,h.b))
def rA.A0{c:ay->Int}{d e a b o:List ay}(h:rA c d e a b o)(g:∀x∈b,∀y∈a,c x<=c y):((b++a)++o).Perm (d++e)/\dL c ((b++a)++o):=by
 have f:=(show rA c d e ([]++a) b o from h).J g;refine(by simpa[lV] using (DK o<|SK (l₁:=b) (l₂:=a)).trans h.c,?_);rw[lV];exact nT.mpr (f.d,f.a,f.b)
def KC{a:Array ay}{i:Nat}(h:a[i]?=V p):a.toList.take (i+1)=a.toList.take i++[p]:=by
 have b:a.toList[i]?=V p:=by simpa using h
 rw[zq,b]
 rfl
def KB{a:Array ay}{i k:Nat}(h:i<=k):a.toList.take k=a.toList.take i++(a.extract i k).toList:=by
 rw[Kq,JZ];have e:a.toList.take k=(a.toList.take k).take i++(a.toList.take k).drop i:=(uH i _).symm;rw[List.take_take,List.drop_take,JK h] at e;exact e
def tm{a:Array ay}{i:Nat}{y:ay}(h:y∈a.toList.take i):∃j,j<i/\j<a.size/\a[j]?=V y:=by
 obtain⟨j,b,e⟩:=np.mp h;rw[dR,gJ] at b;refine(j,ω,ω,?_);rw[SN] at e;rw[h_ a j ω,<-e];simp
def zL{a:Array ay}{i k:Nat}{y:ay}(h:y∈(a.extract i k).toList):∃j,i<=j/\j<k/\j<a.size/\a[j]?=V y:=by
 obtain⟨j,b,e⟩:=np.mp h;rw[gJ,rx] at b;refine(i+j,ü,ω,ω,?_);rw[h_ a (i+j) ω,<-e];simp
def zO(a:Array ay)(i:Nat):(a.extract 0 i).toList=a.toList.take i:=by
 rw[Kq,JZ];simp
section
variable{prog:bu}{w:bf}{A:bO}{E:Ω}{s:ak}{κ:lQ}{a₀:Array ay}{ρ:ay->Int}
abbrev jc(ρ:ay->Int)(a b c:Array ay)(d e:Nat):Prop:=rA ρ a.toList b.toList (a.toList.take d) (b.toList.take e) c.toList.reverse
structure xg(ρ:ay->Int)(a b out:Array ay)(na nb:Nat):Prop where
 f:jc ρ a b out na nb
 e:1<=na
 c:2<=nb
 g:na<=a.size
 d:nb<=b.size
def rA.F{ρ:ay->Int}{a b out:Array ay}{c d:Nat}(h:jc ρ a b out c d)(j:1<=c)(e:a[c-1]?=V x)(g:∀y∈b.toList.take d,ρ y<=ρ x):jc ρ a b (out.push x) (c-1) d:=by
 obtain⟨n,rfl⟩:∃n,c=n+1:=(c-1,ω);rw[Du] at e ⊢;unfold jc at *;rw[KC e] at h;rw[zG,JR];exact h.J λy f z i=>by rw[cT.mp i];exact g y f
def rA.N{ρ:ay->Int}{a b d:Array ay}{f c:Nat}(h:jc ρ a b d f c)(k:1<=c)(e:b[c-1]?=V x)(i:∀y∈a.toList.take f,ρ y<=ρ x):jc ρ a b (d.push x) f (c-1):=by
 obtain⟨n,rfl⟩:∃n,c=n+1:=(c-1,ω);rw[Du] at e ⊢;unfold jc at *;rw[KC e] at h;rw[zG,JR];exact h.M λy g z j=>by rw[cT.mp j];exact i y g
def rA.A1{ρ:ay->Int}{a b c:Array ay}{d e:Nat}(k:Nat)(f:k<=d)(h:jc ρ a b c d e)(g:∀y∈b.toList.take e,∀x∈(a.extract k d).toList,ρ y<=ρ x):jc ρ a b (c++(a.extract k d).reverse) k e:=by
 unfold jc at *;rw[KB f] at h;rw[pA,JR,Kp,aid];exact h.J g
def rA.A3{ρ:ay->Int}{a b c:Array ay}{e d:Nat}(k:Nat)(f:k<=d)(h:jc ρ a b c e d)(g:∀y∈a.toList.take e,∀x∈(b.extract k d).toList,ρ y<=ρ x):jc ρ a b (c++(b.extract k d).reverse) e k:=by
 unfold jc at *;rw[KB f] at h;rw[pA,JR,Kp,aid];exact h.M g
def rA.fin{ρ:ay->Int}{a b c:Array ay}{d f:Nat}(h:jc ρ a b c d f)(e:d=0):(a.extract 0 d++b.extract 0 f++c.reverse).toList.Perm (a.toList++b.toList)/\dL ρ (a.extract 0 d++b.extract 0 f++c.reverse).toList:=by
 rw[pA,pA,zO,zO,Kp];exact rA.A2 h (by rw[e];rfl)
noncomputable def rA.B{ρ:ay->Int}{a b c:Array ay}{d e:Nat}(h:jc ρ a b c d e)(f:∀x∈b.toList.take e,∀y∈a.toList.take d,ρ x<=ρ y):(b.extract 0 e++a.extract 0 d++c.reverse).toList.Perm (a.toList++b.toList)/\dL ρ (b.extract 0 e++a.extract 0 d++c.reverse).toList:=by
 rw[pA,pA,zO,zO,Kp];exact rA.A0 h f
abbrev ql:=Option (Array ay)×Nat×Nat×Array ay×Nat×Nat×Nat
abbrev uX:=Option (Array ay)×Nat×Nat×Array ay×Nat×Nat
abbrev uV:=Option (Array ay)×Nat×Nat×Array ay×Nat
noncomputable def DT(a b o:Array ay)(i j c k l:Nat):StateT be eA (ForInStep ql):=iP a (i-1) >>= λz=>if(i-1==0)=ae then aX (.done (aez (V<|a.extract 0 (i-1)++b.extract 0 j++(o.push z).reverse) (aez (i-1) (aez j (aez (o.push z) (aez c (aez k l))))))) else if(aE (k<7)&&aE (l<7))=ae then aX (.done (aez Y (aez (i-1) (aez j (aez (o.push z) (aez c (aez k l))))))) else aX (.yield (aez Y (aez (i-1) (aez j (aez (o.push z) (aez c (aez k l)))))))
noncomputable def DY(a b o:Array ay)(i j c k d:Nat):StateT be eA (ForInStep ql):=iP b (j-1) >>= λy=>if(j-1==1)=ae then aX (.done (aez (V<|b.extract 0 (j-1)++a.extract 0 i++(o.push y).reverse) (aez i (aez (j-1) (aez (o.push y) (aez c (aez k d))))))) else iP a (i-1) >>= λx=>xa ae x b 0 (j-1) (j-1-1) >>= λg=>match g with
 |some l=>if j-1-l>0 then(if(l==1)=ae then aX (.done (aez (V<|b.extract 0 l++a.extract 0 i++(o.push y++(b.extract l<|j-1).reverse).reverse) (aez i (aez l (aez (o.push y++(b.extract l<|j-1).reverse) (aez c (aez k (j-1-l)))))))) else if(l==0)=ae then aX (.done (aez (V<|a.extract 0 i++b.extract 0 l++(o.push y++(b.extract l<|j-1).reverse).reverse) (aez i (aez l (aez (o.push y++(b.extract l<|j-1).reverse) (aez c (aez k (j-1-l)))))))) else DT a b (o.push y++(b.extract l<|j-1).reverse) i l c k (j-1-l)) else DT a b (o.push y) i (j-1) c k (j-1-l)
 |_=>aX (.done (aez (V<|a.extract 0 i++b.extract 0 (j-1)++(o.push y).reverse) (aez i (aez (j-1) (aez (o.push y) (aez c (aez k d)))))))
noncomputable def zN(a b o:Array ay)(i j c e d:Nat):StateT be eA (ForInStep ql):=w_ c >>= λ_=>iP b (j-1) >>= λy=>xa aB y a 0 i (i-1) >>= λg=>match g with
 |some k=>if i-k>0 then(if(k==0)=ae then aX (.done (aez (V<|a.extract 0 k++b.extract 0 j++(o++(a.extract k i).reverse).reverse) (aez k (aez j (aez (o++(a.extract k i).reverse) (aez c (aez (i-k) d))))))) else DY a b (o++(a.extract k i).reverse) k j c (i-k) d) else DY a b o i j c (i-k) d
 |_=>aX (.done (aez (V<|a.extract 0 i++b.extract 0 j++o.reverse) (aez i (aez j (aez o (aez c (aez e d)))))))
noncomputable def Ea(a b:Array ay)(d:Nat):Nat->uX->StateT be eA (ForInStep uX):=λ_ c=>iP b (c.2.2.1-1) >>= λy=>iP a (c.2.1-1) >>= λx=>lt' y x >>= λq=>match q with
 |some r=>if r=ae then iP a (c.2.1-1) >>= λz=>(if(c.2.1-1==0)=ae then aX (.done (aez (V<|a.extract 0 (c.2.1-1)++b.extract 0 c.2.2.1++(c.2.2.2.1.push z).reverse) (aez (c.2.1-1) (aez c.2.2.1 (aez (c.2.2.2.1.push z) (aez (c.2.2.2.2.1+1) 0)))))) else if c.2.2.2.2.1+1 ≥ d then aX (.done (aez Y (aez (c.2.1-1) (aez c.2.2.1 (aez (c.2.2.2.1.push z) (aez (c.2.2.2.2.1+1) 0)))))) else aX (.yield (aez Y (aez (c.2.1-1) (aez c.2.2.1 (aez (c.2.2.2.1.push z) (aez (c.2.2.2.2.1+1) 0)))))))
  else iP b (c.2.2.1-1) >>= λz=>(if(c.2.2.1-1==1)=ae then aX (.done (aez (V<|b.extract 0 (c.2.2.1-1)++a.extract 0 c.2.1++(c.2.2.2.1.push z).reverse) (aez c.2.1 (aez (c.2.2.1-1) (aez (c.2.2.2.1.push z) (aez 0 (c.2.2.2.2.2+1))))))) else if c.2.2.2.2.2+1 ≥ d then aX (.done (aez Y (aez c.2.1 (aez (c.2.2.1-1) (aez (c.2.2.2.1.push z) (aez 0 (c.2.2.2.2.2+1))))))) else aX (.yield (aez Y (aez c.2.1 (aez (c.2.2.1-1) (aez (c.2.2.2.1.push z) (aez 0 (c.2.2.2.2.2+1))))))))
 |_=>aX (.done (aez (V<|a.extract 0 c.2.1++b.extract 0 c.2.2.1++c.2.2.2.1.reverse) (aez c.2.1 (aez c.2.2.1 (aez c.2.2.2.1 (aez c.2.2.2.2.1 c.2.2.2.2.2))))))
noncomputable def Ec(a b:Array ay):Nat->ql->StateT be eA (ForInStep ql):=λ_ c=>if c.2.2.2.2.1>1 then zN a b c.2.2.2.1 c.2.1 c.2.2.1 (c.2.2.2.2.1-1) c.2.2.2.2.2.1 c.2.2.2.2.2.2 else zN a b c.2.2.2.1 c.2.1 c.2.2.1 c.2.2.2.2.1 c.2.2.2.2.2.1 c.2.2.2.2.2.2
noncomputable def DW(a b:Array ay):Nat->uV->StateT be eA (ForInStep uV):=λ_ c=>mN [:a.size+b.size] ((aez Y (aez c.2.1 (aez c.2.2.1 (aez c.2.2.2.1 (aez 0 0))))):uX) (Ea a b c.2.2.2.2) >>= λd=>match d.1 with
 |some r=>aX (.done (aez (V r) (aez d.2.1 (aez d.2.2.1 (aez d.2.2.2.1 c.2.2.2.2)))))
 |none=>liftM (yQ "list.sort.gallop") >>= λ_=>mN [:a.size+b.size] ((aez Y (aez d.2.1 (aez d.2.2.1 (aez d.2.2.2.1 (aez (c.2.2.2.2+1) (aez d.2.2.2.2.1 d.2.2.2.2.2)))))):ql) (Ec a b) >>= λe=>match e.1 with
  |some r=>aX (.done (aez (V r) (aez e.2.1 (aez e.2.2.1 (aez e.2.2.2.1 e.2.2.2.2.1)))))
  |none=>w_ (e.2.2.2.2.1+1) >>= λ_=>aX<|.yield (aez Y (aez e.2.1 (aez e.2.2.1 (aez e.2.2.2.1 (e.2.2.2.2.1+1)))))
noncomputable def KJ(a b:Array ay):StateT be eA (Array ay):=liftM (yQ "list.sort.merge-hi") >>= λ_=>iP a (a.size-1) >>= λy=>if(a.size-1==0)=ae then aX (a.extract 0 (a.size-1)++b.extract 0 b.size++#[y].reverse) else if(b.size==1)=ae then aX (b.extract 0 b.size++a.extract 0 (a.size-1)++#[y].reverse) else get >>= λg=>mN [:a.size+b.size] ((aez Y (aez (a.size-1) (aez b.size (aez (#[y]) (KL g))))):uV) (DW a b) >>= λd=>match d.1 with
 |some r=>aX r
 |none=>liftM (Rc "internal:list.sort.merge-bound":eA (Array ay))
def TS(a b:Array ay):KG a b=KJ a b:=by kernel_rfl
def Eg(ρ:ay->Int)(a b:Array ay)(g:be)(k:Nat):Nat->uX->be->Prop:=λt c h=>h=g/\∃d e f i j,c=(aez Y (aez d (aez e (aez f (aez i j)))))/\xg ρ a b f d e/\t+(d+e)<=k
def KU(ρ:ay->Int)(a b:Array ay)(i h:be)(l:Nat):uX->be->Prop:=λc f=>f=h/\((∃r,c.1=V r/\pE ρ a b i r f)\/∃d e g j k,c=(aez Y (aez d (aez e (aez g (aez j k)))))/\xg ρ a b g d e/\1+(d+e)<=l)
def Ee(ρ:ay->Int)(a b:Array ay)(h:be):Nat->uV->be->Prop:=λx c e=>iQ h e/\∃f g d i,c=(aez Y (aez f (aez g (aez d i))))/\xg ρ a b d f g/\x+1+(f+g)<=a.size+b.size
def KR(ρ:ay->Int)(a b:Array ay)(e:be):uV->be->Prop:=λc d=>∃r,c.1=V r/\pE ρ a b e r d
def rB(ρ:ay->Int)(a b:Array ay)(h:be)(l:Nat):ql->be->Prop:=λc e=>iQ h e/\∃f g d i j k,c=(aez Y (aez f (aez g (aez d (aez i (aez j k))))))/\xg ρ a b d f g/\f+g<=l
def uZ(ρ:ay->Int)(a b:Array ay)(e:be)(f:Nat):ql->be->Prop:=λc d=>(∃r,c.1=V r/\pE ρ a b e r d)\/rB ρ a b e f c d
def Kw{a b o:Array ay}{i j p k l z:Nat}(S:iQ e c)(M:jc ρ a b o i j)(m:a[i-1]?=V x)(f:∀y∈b.toList.take j,ρ y<=ρ x)(q:1<=i)(r:2<=j)(t:i<=a.size)(u:j<=b.size)(v:i+j<=z):dX 2#0 A E s (DT a b o i j p k l) (of (rB ρ a b e z)<|uZ ρ a b e z) c:=by
 refine bE<|iq m ?_;have g:=rA.F M q m f
 by_cases d:(i-1==0)=ae
 ·rw[av d]
  have h:i-1=0:=by simpa using d
  exact ca<|.inl (_,O,S,rA.fin g (û (å h) ú))
 rw[am d];have h:i-1≠0:=by simpa using d
 by_cases n:(aE (k<7)&&aE (l<7))=ae
 ·rw[av n]
  exact ca<|.inr (S,_,_,_,_,_,_,O,(g,ω,r,ω,u),ω)
 ·rw[am n]
  exact ca (S,_,_,_,_,_,_,O,(g,ω,r,ω,u),ω)
def Ky(C:ic prog w A s κ a₀ ρ)(hB:cV κ a₀ D){a b o:Array ay}{i j mg k bc a0:Nat}(ha:∀p∈a.toList,p∈a₀.toList)(hb:∀p∈b.toList,p∈a₀.toList)(sa:dL ρ a.toList)(sb:dL ρ b.toList)(S:iQ D r)(M:jc ρ a b o i j)(U:b[j-1]?=V y)(g:∀x∈a.toList.take i,ρ x<=ρ y)(X:b[0]?=V T)(h0:∀x∈a.toList,∀y,b[0]?=V y->ρ y<ρ x)(t:∀i j,j<=1->∀x∈b.toList.take j,∀y∈a.toList.take i,ρ x<=ρ y)(I:1<=i)(h2:2<=j)(h3:i<=a.size)(h4:j<=b.size)(hN:i+j<=a0):dX 2#0 A E s (DY a b o i j mg k bc) (of (rB ρ a b D a0)<|uZ ρ a b D a0) r:=by
 refine bE<|iq U ?_;have K:=rA.N M (ã h2) U g
 by_cases G:(j-1==1)=ae
 ·rw[av G]
  have L:j-1=1:=by simpa using G
  exact ca<|.inl (_,O,S,rA.B K<|t _ _ (å L))
 rw[am G];have L:j-1≠1:=by simpa using G
 obtain⟨x,n⟩:=jQ (xs:=a) (i:=i-1) ω;refine bE<|iq n ?_;refine bE<|uU C (S.b hB) (ha _<|kG n) (λl hl=>?_) (λl m I h2=>zS sb ω ω) ω λl l1 l2 l3=>?_
 ·obtain⟨p,e⟩:=jQ (xs:=b) (i:=0+l) ω
  exact(p,e,hb _<|kG e)
 dsimp only;have lz:1<=l:=by
  rcases kX 0 l with q|q
  ·exact q
  ·have c:=l3 0 q ω
   rw[fU X] at c;have q2:=h0 x (kG n) T X;simp[dS] at c;omega
 have h:∀y∈b.toList.take l,ρ y<=ρ x:=λu P=>by
  obtain⟨d,Q,d2,d3⟩:=tm P;have c:=l2 d Q;rw[uG,fU d3] at c;simp[dS] at c;omega
 by_cases z:j-1-l>0
 ·rw[av z]
  have M3:=rA.A3 l l1 K λv hv u P=>by
   obtain⟨d,Q,d2,d3,d4⟩:=zL P;obtain⟨f,f1,f2,f3⟩:=tm hv;have c:=l3 d Q d2;rw[uG,fU d4] at c;simp[dS] at c;exact nW (pB sa f3 n ω) ω
  by_cases H:(l==1)=ae
  ·rw[av H]
   have R:l=1:=by simpa using H
   exact ca<|.inl (_,O,S,rA.B M3<|t _ _ (å R))
  rw[am H];have R:l≠1:=by simpa using H
  rw[am (show ¬(l==0)=ae by simp;exact ö lz)];exact Kw S M3 n h I (ÿ lz R) h3 ω ω
 ·rw[am z]
  have l0:l=j-1:=ω
  rw[l0] at h;exact Kw S K n h I ω h3 ω ω
def TF(C:ic prog w A s κ a₀ ρ)(L:cV κ a₀ G){a b m:Array ay}{i j mg ac bc N:Nat}(M:∀p∈a.toList,p∈a₀.toList)(P:∀p∈b.toList,p∈a₀.toList)(Q:dL ρ a.toList)(R:dL ρ b.toList)(H:iQ G h)(g:xg ρ a b m i j)(n:b[j-1]?=V y)(e0:b[0]?=V y0)(h0:∀x∈a.toList,∀y,b[0]?=V y->ρ y<ρ x)(o:∀i j,j<=1->∀x∈b.toList.take j,∀y∈a.toList.take i,ρ x<=ρ y)(S:i+j<=N):dX 2#0 A E s (zN a b m i j mg ac bc) (of (rB ρ a b G N)<|uZ ρ a b G N) h:=by
 have T:=g.e;have q:=g.c;have U:=g.g;have r:=g.d;refine bE<|zI λa0 I=>?_;refine bE<|iq n ?_;refine bE<|uU C ((H.B I).b L) (P _<|kG n) (λk hk=>?_) (λk l h1 h2=>zS Q ω ω) ω λk k1 k2 k3=>?_
 ·obtain⟨p,e⟩:=jQ (xs:=a) (i:=0+k) ω
  exact(p,e,M _<|kG e)
 dsimp only;have c:∀x∈a.toList.take k,ρ x<=ρ y:=λu X=>by
  obtain⟨d,d1,d2,d3⟩:=tm X;have t:=k2 d d1;rw[uG,fU d3] at t;simp[dS] at t;omega
 by_cases z:i-k>0
 ·rw[av z]
  have MB:=rA.A1 k k1 g.f λv hv u X=>by
   obtain⟨d,d1,d2,d3,d4⟩:=zL X;obtain⟨f,f1,f2,f3⟩:=tm hv;have t:=k3 d d1 d2;rw[uG,fU d4] at t;simp[dS] at t;exact nW (pB R f3 n ω) ω
  by_cases K:(k==0)=ae
  ·rw[av K]
   have D:k=0:=by simpa using K
   exact ca<|.inl (_,O,H.B I,rA.fin MB D)
  rw[am K];have D:k≠0:=by simpa using K
  exact Ky C L M P Q R (H.B I) MB n c e0 h0 o ω q (à k1 U) r (à (ð k1) S)
 ·rw[am z]
  have k0:k=i:=ω
  rw[k0] at c;exact Ky C L M P Q R (H.B I) g.f n c e0 h0 o T q U r S
def TC(C:ic prog w A s κ a₀ ρ)(M:cV κ a₀ G){a b:Array ay}{P a1 t:Nat}(Q:∀p∈a.toList,p∈a₀.toList)(R:∀p∈b.toList,p∈a₀.toList)(S:dL ρ a.toList)(T:dL ρ b.toList)(H:iQ G e)(I:∀i j,j<=1->∀x∈b.toList.take j,∀y∈a.toList.take i,ρ x<=ρ y)(U:Eg ρ a b e a1 t c o):dX 2#0 A E s (Ea a b P t c) (of (Eg ρ a b e a1<|t+1)<|KU ρ a b G e a1) o:=by
 obtain⟨rfl,f,g,X,ac,bc,rfl,n,a0⟩:=U;unfold Ea;dsimp only;have k:=n.e;have q:=n.c;have r:=n.g;have v:=n.d;obtain⟨y,z⟩:=jQ (xs:=b) (i:=g-1) ω;obtain⟨x,D⟩:=jQ (xs:=a) (i:=f-1) ω;refine bE<|iq z<|bE<|iq D<|bE<|wY C (H.b M) (R _<|kG z) (Q _<|kG D) ?_
 by_cases d:ρ y<ρ x
 ·simp only[d,decide_true,eD]
  refine bE<|iq D ?_;have l:=rA.F n.f k D λu K=>by
   obtain⟨j,j1,j2,L⟩:=tm K;exact nW (pB T L z ω)<|nY d
  by_cases h:(f-1==0)=ae
  ·rw[av h]
   have m:f-1=0:=by simpa using h
   exact ca (O,.inl (_,O,H,rA.fin l (û (å m) ú)))
  ·rw[am h]
   have m:f-1≠0:=by simpa using h
   split
   ·exact ca (O,.inr (_,_,_,_,_,O,(l,ω,q,ω,v),ω))
   ·exact ca (O,_,_,_,_,_,O,(l,ω,q,ω,v),ω)
 ·simp only[d,decide_false,dK,da]
  refine bE<|iq z ?_;have l:=rA.N n.f (ã q) z λu K=>by
   obtain⟨j,j1,j2,L⟩:=tm K;exact nW (pB S L D ω)<|Ki.mp d
  by_cases h:(g-1==1)=ae
  ·rw[av h]
   have m:g-1=1:=by simpa using h
   exact ca (O,.inl (_,O,H,rA.B l<|I _ _ (å m)))
  ·rw[am h]
   have m:g-1≠1:=by simpa using h
   split
   ·exact ca (O,.inr (_,_,_,_,_,O,(l,k,ω,r,ω),ω))
   ·exact ca (O,_,_,_,_,_,O,(l,k,ω,r,ω),ω)
def TH(C:ic prog w A s κ a₀ ρ)(n:cV κ a₀ e){a b:Array ay}{R t:Nat}(q:∀p∈a.toList,p∈a₀.toList)(r:∀p∈b.toList,p∈a₀.toList)(u:dL ρ a.toList)(v:dL ρ b.toList)(z:b[0]?=V o)(D:∀x∈a.toList,∀y,b[0]?=V y->ρ y<ρ x)(f:∀S j,j<=1->∀x∈b.toList.take j,∀y∈a.toList.take S,ρ x<=ρ y)(G:rB ρ a b e R c d):dX 2#0 A E s (Ec a b t c) (of (rB ρ a b e R)<|uZ ρ a b e R) d:=by
 obtain⟨H,S,j,h,Q,I,K,rfl,l,m⟩:=G;have L:=l.c;have M:=l.d;obtain⟨y,P⟩:=jQ (xs:=b) (i:=j-1) ω;have k:∀g,dX 2#0 A E s (zN a b h S j g I K) (of (rB ρ a b e R)<|uZ ρ a b e R) d:=λg=>TF (N:=R) C n q r u v H l P z D f m;unfold Ec;dsimp only;split
 ·exact k _
 ·exact k _
def Tx(C:ic prog w A s κ a₀ ρ)(z:cV κ a₀ g){a b:Array ay}{x:Nat}(D:∀p∈a.toList,p∈a₀.toList)(G:∀p∈b.toList,p∈a₀.toList)(H:dL ρ a.toList)(K:dL ρ b.toList)(e0:b[0]?=V X)(h0:∀x∈a.toList,∀y,b[0]?=V y->ρ y<ρ x)(n:∀i j,j<=1->∀x∈b.toList.take j,∀y∈a.toList.take i,ρ x<=ρ y)(o:Ee ρ a b g x c f):dX 2#0 A E s (DW a b x c) (of (Ee ρ a b g<|x+1)<|KR ρ a b g) f:=by
 obtain⟨L,M,P,k,mg,rfl,a6,hp⟩:=o;have a0:=a6.e;have a1:=a6.c;have a2:=a6.g;have a3:=a6.d;unfold DW;dsimp only;refine bE<|iO (lP (I:=Eg ρ a b f<|M+P) (Q:=KU ρ a b g f<|M+P) (λt c d _ ht o=>iO (TC C z D G H K L n o) λr d h=>by cases r<;>exact h) ?ifin (O,_,_,_,_,_,O,a6,ω)) ?ipost
 case ifin=>
  rintro c d ⟨rfl,l,m,k,R,S,rfl,u,v⟩;exact(O,.inr (_,_,_,_,_,O,u,ω))
 case ipost=>
  rintro⟨c1,c2⟩ d ⟨rfl,⟨r,e,q⟩|⟨l,m,k,R,S,e,u,v⟩⟩
  ·dsimp only at e ⊢
   subst e;exact ca (r,O,q)
  ·cases e
   dsimp only;refine bE<|wH<|mD (O,?_);refine bE<|iO (lP (I:=λ_=>rB ρ a b g<|l+m) (Q:=uZ ρ a b g<|l+m) (λt c d _ ht o=>iO (TH C z D G H K e0 h0 n o) λr d h=>by cases r<;>exact h) ?gfin (L,_,_,_,_,_,_,O,u,aV _)) ?gpost
   case gfin=>
    rintro c d q;exact .inr q
   case gpost=>
    rintro⟨c1,c2⟩ d (⟨r,e,q⟩|⟨S2,T,U,k,mg,R,S,e,J2,a4⟩)
    ·dsimp only at e ⊢
     subst e;exact ca (r,O,q)
    ·cases e
     dsimp only;exact bE<|zI λa5 S3=>ca (S2.B S3,_,_,_,_,O,J2,ω)
def TA(C:ic prog w A s κ a₀ ρ)(S:cV κ a₀ f){a b:Array ay}{Q:Array ay->be->Prop}(T:∀p∈a.toList,p∈a₀.toList)(U:∀p∈b.toList,p∈a₀.toList)(K:dL ρ a.toList)(L:dL ρ b.toList)(M:1<=a.size)(X:1<=b.size)(P:∀x∈a.toList,∀y,b[0]?=V y->ρ y<ρ x)(hz:∀z,a[a.size-1]?=V z->∀y∈b.toList,ρ y<ρ z)(h:∀r d,pE ρ a b f r d->Q r d):dX 2#0 A E s (KG a b) Q f:=by
 obtain⟨y0,n⟩:=jQ (xs:=b) (i:=0) X;have g:∀i j,j<=1->∀x∈b.toList.take j,∀y∈a.toList.take i,ρ x<=ρ y:=λi j hj x o y t=>by
  obtain⟨k,k1,k2,R⟩:=tm o;rw[show k=0 from ω,n] at R;cases R;exact nY<|P y (wO t) _ n
 rw[TS];unfold KJ;refine bE<|wH<|mD (O,?_);obtain⟨z,u⟩:=jQ (xs:=a) (i:=a.size-1) ω;refine bE<|iq u ?_;have v:jc ρ a b #[z] (a.size-1) b.size:=by
  have q:jc ρ a b #[] a.size b.size:=by
   have e1:a.toList.take a.size=a.toList:=eV 0#0;have e2:b.toList.take b.size=b.toList:=eV 0#0;unfold jc;rw[e1,e2];exact(by simp,by simp,K,L,by simp,by simp)
  exact rA.F (out:=#[]) q M u λy t=>nY<|hz z u y<|wO t
 by_cases l:(a.size-1==0)=ae
 ·rw[av l]
  have D:a.size-1=0:=by simpa using l
  exact ca<|h _ _ (.refl,rA.fin v (û (å D) ú))
 rw[am l];have D:a.size-1≠0:=by simpa using l
 by_cases m:(b.size==1)=ae
 ·rw[av m]
  have G:b.size=1:=by simpa using m
  exact ca<|h _ _ (.refl,rA.B v<|g _ _ (å G))
 rw[am m];have G:b.size≠1:=by simpa using m
 refine bE<|nN ?_;refine bE<|iO (lP (I:=Ee ρ a b f) (Q:=KR ρ a b f) (λx c a0 _ o hI=>iO (Tx C S T U K L n P g hI) λr d h=>by cases r<;>exact h) ?fin (.refl,_,_,_,_,O,(v,ω,(ÿ X G),ω,ß),ω)) ?post
 case post=>
  rintro⟨l,m⟩ d ⟨r,e,q⟩;dsimp only at e ⊢;subst e;exact ca<|h _ _ q
 case fin=>
  rintro c d ⟨_,M,X,H,mg,_,a1,o⟩;have:=a1.e;have:=a1.c;omega
end
noncomputable def qk(b:Array ay)(c:Nat)(m:List ay)(d:Nat):Array ay:=ti (λa x=>a.setIfInBounds (c+x.snd) x.fst) b<|m.zipIdx d
def DU:∀(m:List ay)(c:Array ay)(a b:Nat),a+b+m.length<=c.size->∀k,(qk c a m b)[k]?=if a+b<=k/\k<a+b+m.length then m[k-(a+b)]? else c[k]?
 |[],c,a,b,_,k=>by
  show c[k]?=_;rw[am (by rw[nq];omega)]
 |p::m,c,a,b,h,k=>by
  rw[dj] at h;have f:=DU m (c.setIfInBounds (a+b) p) a (b+1) (by rw[ajj];omega) k;show(qk (c.setIfInBounds (a+b) p) a m<|b+1)[k]?=_;rw[f,dj]
  by_cases g:k=a+b
  ·subst g
   rw[am ω,av ω,ajm (ê h)];simp
  ·by_cases e:a+(b+1)<=k/\k<a+(b+1)+m.length
   ·rw[av e,av ω]
    obtain⟨d,i⟩:∃d,k-(a+b)=d+1:=(k-(a+b)-1,ω);rw[i,JX]
    congr 1
    omega
   ·rw[am e,am ω,ajn ω]
def TP{m:List ay}{b:Array ay}{a:Nat}(h:a+m.length<=b.size):(qk b a m 0).toList=b.toList.take a++(m++b.toList.drop (a+m.length)):=by
 apply DG;intro k;have e:=DU m b a 0 h k;rw[ki,e]
 by_cases c:k<a
 ·rw[am ω,ph (by rw[dR,gJ];omega),uL c]
  simp
 ·rw[pg (by rw[dR,gJ];omega)]
  rw[show(b.toList.take a).length=a by rw[dR,gJ];omega]
  by_cases d:k<a+m.length
  ·rw[av (ô c,d),ph ω,zp]
  ·rw[am ω,pg ω,ait]
   rw[show a+m.length+(k-a-m.length)=k from ω];simp
def fT(c:ay->Int)(d:Array ay):Nat->List (Nat×Nat×Nat)->Nat->Prop
 |a,[],b=>a=b
 |a,(aez s (aez n _))::r,b=>s=a/\1<=n/\Srt c d a (a+n)/\fT c d (a+n) r b
def fT.F:∀{l:List (Nat×Nat×Nat)}{a b:Nat},fT c d a l b->a+l.length<=b
 |[],_,_,h=>by have:_=_:=h;simp;exact å this
 |(aez s (aez n p))::r,a,b,h=>by
  obtain⟨_,f,_,e⟩:=h;have:=fT.F e;rw[dj];omega
def fT.congr{m o:Array ay}:∀{l:List (Nat×Nat×Nat)}{d e:Nat},fT g m d l e->(∀k,d<=k->k<e->o[k]?=m[k]?)->fT g o d l e
 |[],_,_,h,_=>h
 |(aez s (aez n p))::r,d,e,h,f=>by
  obtain⟨t,u,v,q⟩:=h;have:=fT.F q;refine(t,u,λi j a b c=>?_,q.congr λk a b=>f k (è a) b);rw[pD<|f i a (à (à (ï b) c) (è this)),pD<|f j (à a b) (à c (è this))];exact v i j a b c
noncomputable def fT.B:∀{l r:List (Nat×Nat×Nat)}{a d:Nat},fT f g a (l++r) d↔∃m,fT f g a l m/\fT f g m r d
 |[],r,a,d=>(λh=>(a,O,h),λ(m,b,c)=>by have e:a=m:=b;subst e;exact c)
 |(aez s (aez n p))::l,r,a,d=>by
  constructor
  ·rintro⟨i,b,c,o⟩
   obtain⟨m,j,k⟩:=fT.B.mp o;exact(m,(i,b,c,j),k)
  ·rintro⟨m,⟨i,b,c,j⟩,k⟩
   exact(i,b,c,fT.B.mpr (m,j,k))
def TN{b:Type}{l:List b}{i:Nat}{x y:b}(c:l[i]?=V x)(d:l[i+1]?=V y):∃a post,l=a++x::y::post/\a.length=i:=by
 obtain⟨e,f⟩:=bY.mp c;obtain⟨g,h⟩:=bY.mp d;refine(l.take i,l.drop<|i+2,?_,by rw[dR];omega)
 conv=>lhs;rw[<-uH i l]
 rw[pn e,pn g,f,h]
def TQ{b:Type}{c:Array b}{i:Nat}{x y z:b}{a post:List b}(h:c.toList=a++x::y::post)(d:a.length=i):((c.setIfInBounds i z).eraseIdxIfInBounds<|i+1).toList=a++z::post:=by
 subst d;rw[Array.toList_eraseIdxIfInBounds,Array.toList_setIfInBounds,h,List.set_append_right _ _<|aV _,wM,List.set_cons_zero,List.eraseIdx_append_of_length_le ü];rw[show a.length+1-a.length=1 from ω]
 rfl
section
variable{prog:bu}{w:bf}{A:bO}{E:Ω}{s:ak}{κ:lQ}{a₀:Array ay}{ρ:ay->Int}
def TM{M:zc}{b:Type}{c a:b}{Q:PUnit->b->Prop}(h:Q ⟨⟩ a):dX M A E s (set a:StateT b eA PUnit) Q c:=by
 unfold dX;rw[StateT.run_set];exact aG (O,h)
def KD{b:Array ay}(h:Srt ρ b a c)(g:c<=b.size):dL ρ (b.extract a c).toList:=by
 rw[dL,pc];intro i j d e f;rw[gJ,rx] at d e;have q:=h (a+i) (a+j) ü ω ω;rw[fU<|h_ b (a+i) ω,fU<|h_ b (a+j) ω] at q
 simpa using q
def KO{a:Array ay}{b c i:Nat}(h:b+i<c)(d:c<=a.size):(a.extract b c)[i]?=a[b+i]?:=by
 rw[ajo,av ω]
def DR(C:ic prog w A s κ a₀ ρ)(hB:cV κ a₀ g){i hi:Nat}{Q:Bool->be->Prop}(hS:fT ρ (aJ g) 0 (dE g).toList hi)(hz:hi<=a₀.size)(b6:i+1<(dE g).size)(h:∀o,cV κ a₀ o->fT ρ (aJ o) 0 (dE o).toList hi->(dE o).size+1=(dE g).size->(∀k,hi<=k->(aJ o)[k]?=(aJ g)[k]?)->Q ae o):dX 2#0 A E s (mergeAt' i) Q g:=by
 obtain⟨⟨c,f,p⟩,g1⟩:∃x,(dE g)[i]?=V x:=(_,h_ _ i ω);obtain⟨⟨sb,M,q⟩,g2⟩:∃x,(dE g)[i+1]?=V x:=(_,h_ _ (i+1) b6);obtain⟨c5,c4,el,a7⟩:=TN (l:=(dE g).toList) (by rw[ki];exact g1) (by rw[ki];exact g2);have a8:=hS;rw[el] at a8;obtain⟨m,S1,e1,n1,r1,e2,n2,r2,S2⟩:=fT.B.mp a8;subst e1 e2;have c6:=S2.F;have c7:=hB.F;have a9:∀o,cV κ a₀ o->dE o=((dE g).setIfInBounds i (aez c (aez (f+M) p))).eraseIdxIfInBounds (i+1)->(∀k,(k<c\/c+f+M<=k)->(aJ o)[k]?=(aJ g)[k]?)->
   Srt ρ (aJ o) c (c+f+M)->Q ae o:=λo b7 hP hk hs=>by
  have hl:=TQ (z:=(aez c (aez (f+M) p))) el a7;refine h o b7 ?_ ?_ λk c8=>hk k<|.inr (à (è c6) c8)
  ·rw[hP,hl]
   refine fT.B.mpr (c,S1.congr λk _ b=>hk k<|.inl b,O,(í n1),by rw[<-SG];exact hs,?_);rw[<-SG];exact S2.congr λk a _=>hk k<|.inr a
  ·rw[hP,<-gJ,hl,<-gJ,el]
   simp;exact û ß ß
 refine bE<|nN ?_;rw[g1,g2];dsimp only;refine bE<|TM ?_;show dX _ _ _ _ _ _ (zm (Dn g) (aJ g) (((dE g).setIfInBounds i (aez c (aez (f+M) p))).eraseIdxIfInBounds<|i+1) (gallopOf g)<|nO g);generalize e2:((zm (Dn g) (aJ g) (((dE g).setIfInBounds i (aez c (aez (f+M) p))).eraseIdxIfInBounds<|i+1) (gallopOf g)<|nO g):be)=P;have a2:aJ P=aJ g:=by rw[<-e2]
 have p2:dE P=((dE g).setIfInBounds i (aez c (aez (f+M) p))).eraseIdxIfInBounds (i+1):=by rw[<-e2]
 have H:cV κ a₀ P:=(by rw[a2];exact hB.a,by rw[<-e2];exact hB.c,by rw[<-e2];exact hB.b);have pt:∀k,k<(aJ g).size->∃x,(aJ g)[k]?=V x/\x∈a₀.toList:=λk hk=>by
  obtain⟨x,e,m⟩:=DZ hk;exact(x,e,hB.M m)
 obtain⟨y0,ey,my⟩:=pt (c+f) ω;refine bE<|iq ey ?_;refine bE<|uU (base:=c) (n:=f) (hint:=0) (arr:=aJ g) C H my (λk hk=>pt _ ω) (λk l I G=>r1 _ _ ü (ñ I) (ñ G)) n1 λk k1 k2 k3=>?_;dsimp only;have b0:∀d,d<k->R ρ (aJ g) (c+d)<=ρ y0:=λd hd=>by
  have j:=k2 d hd;simp[dS] at j;exact j
 have b1:∀d,k<=d->d<f->ρ y0<R ρ (aJ g) (c+d):=λd I G=>by
  have j:=k3 d I G;simp[dS] at j;exact j
 by_cases c1:(f-k==0)=ae
 ·rw[av c1]
  have b8:f-k=0:=by simpa using c1
  refine ca<|a9 P H p2 (λk _=>by rw[a2]) ?_;rw[a2];intro x y I G S
  by_cases U:y<c+f
  ·exact r1 x y I G U
  ·by_cases D:c+f<=x
   ·exact r2 x y D G S
   ·have j:=b0 (x-c) ω
    rw[show c+(x-c)=x from ω] at j;have T:=r2 (c+f) y ß (ô U) S;rw[fU ey] at T;omega
 rw[am c1];have b8:f-k≠0:=by simpa using c1
 obtain⟨z,ez,mz⟩:=pt (c+k+(f-k)-1) ω;refine bE<|iq ez ?_;refine bE<|uU (base:=c+f) (n:=M) (hint:=M-1) (arr:=aJ g) C H mz (λl hl=>pt _ ω) (λl l' I G=>r2 _ _ ü (ñ I) (ñ G)) ω λl l1 l2 l3=>?_;dsimp only;have a1:(aJ g)[c+f-1]?=V z:=by rw[show c+f-1=c+k+(f-k)-1 from ω];exact ez
 have b9:∀d,d<l->R ρ (aJ g) (c+f+d)<ρ z:=λd hd=>by
  have j:=l2 d hd;simp[dS] at j;exact j
 have b2:∀d,l<=d->d<M->ρ z<=R ρ (aJ g) (c+f+d):=λd I G=>by
  have j:=l3 d I G;simp[dS] at j;exact j
 have yz:ρ y0<ρ z:=by
  have j:=b1 (f-1) ω ω;rw[show c+(f-1)=c+f-1 from ω,fU a1] at j;exact j
 have lz:1<=l:=by
  rcases kX 0 l with j|j
  ·exact j
  ·have T:=b2 0 j n2
   rw[zp,fU ey] at T;omega
 rw[am (show ¬(l==0)=ae by simp;exact ö lz)];have sA:(( aJ g).extract (c+k)<|c+f).size=f-k:=by rw[rx];omega
 have a4:(( aJ g).extract (c+f)<|c+f+l).size=l:=by rw[rx];omega
 have K:∀x∈((aJ g).extract (c+k)<|c+f).toList,x∈a₀.toList/\ρ y0<ρ x/\ρ x<=ρ z:=λx D=>by
  obtain⟨d,d1,d2,d3,d4⟩:=zL D;have j:=b1 (d-c) ω ω;rw[show c+(d-c)=d from ω,fU d4] at j;have T:=r1 d (c+f-1) (è d1) ω ω;rw[fU d4,fU a1] at T;exact(hB.M<|kG d4,j,T)
 have L:∀x∈((aJ g).extract (c+f)<|c+f+l).toList,x∈a₀.toList/\ρ y0<=ρ x/\ρ x<ρ z:=λx D=>by
  obtain⟨d,d1,d2,d3,d4⟩:=zL D;have j:=b9 (d-(c+f)) ω;rw[show c+f+(d-(c+f))=d from ω,fU d4] at j;have T:=r2 (c+f) d ß d1 (à d2 (ñ l1));rw[fU d4,fU ey] at T;exact(hB.M<|kG d4,T,j)
 have lA:dL ρ ((aJ g).extract (c+k)<|c+f).toList:=KD (λx y I G S=>r1 x y (è I) G S) ω;have lB:dL ρ ((aJ g).extract (c+f)<|c+f+l).toList:=KD (λx y I G S=>r2 x y I G (à S (ñ l1))) ω;have b3:∀x∈((aJ g).extract (c+k)<|c+f).toList,∀y,((aJ g).extract (c+f)<|c+f+l)[0]?=V y->ρ y<ρ x:=λx D y U=>by
  rw[KO ω ω,zp,ey] at U;cases U;exact(K x D).2.1
 have b4:∀z',((aJ g).extract (c+k)<|c+f)[((aJ g).extract (c+k)<|c+f).size-1]?=V z'->∀y∈((aJ g).extract (c+f)<|c+f+l).toList,ρ y<ρ z':=λz' b5 y U=>by
  rw[sA,KO ω ω,show c+k+(f-k-1)=c+f-1 from ω,a1] at b5;cases b5;exact(L y U).2.2
 have X:∀(r:Array ay)(t:be),pE ρ ((aJ g).extract (c+k)<|c+f) ((aJ g).extract (c+f)<|c+f+l) P r t->
   Q ae (zk t<|qk (aJ t) (c+k) r.toList 0):=λr t (S3,pm,ls)=>by
  have a3:aJ t=aJ g:=S3.arr.trans a2;have rl:r.toList.length=f-k+l:=by
   have:=pm.length_eq;rw[c_] at this;simp only[gJ] at this ⊢;rw[sA,a4] at this;exact this
  have a5:∀x,(qk (aJ g) (c+k) r.toList 0)[x]?=if c+k<=x/\x<c+f+l then r.toList[x-(c+k)]? else(aJ g)[x]?:=λx=>by
   have:=DU r.toList (aJ g) (c+k) 0 ω x;rw[this,zp,rl,show c+k+(f-k+l)=c+f+l from ω]
  have rm:∀x∈r.toList,ρ y0<=ρ x/\ρ x<=ρ z:=λx D=>by
   rcases dt.mp (pm.mem_iff.mp D) with j|j
   ·exact(nY (K x j).2.1,(K x j).2.2)
   ·exact((L x j).2.1,nY (L x j).2.2)
  rw[a3];refine a9 _ ?_ (S3.a.trans p2) (λx D=>?_) ?_
  ·have c0:=S3.b H
   refine c0.J ?_;rw[Tn,TP ω,a3];have e4:(aJ g).toList=(aJ g).toList.take (c+k)++((((aJ g).extract (c+k)<|c+f).toList++((aJ g).extract (c+f)<|c+f+l).toList)++(aJ g).toList.drop (c+k+r.toList.length)):=by
    conv=>lhs;rw[<-uH (c+k) (aJ g).toList]
    rw[zR (c+k)<|f-k,zR (c+k+(f-k)) l,show c+k+(f-k)=c+f from ω,show c+k+r.toList.length=c+f+l from ω,lV]
   conv=>rhs;rw[e4]
   exact Kc _<|DK _ pm
  ·show(qk (aJ g) (c+k) r.toList 0)[x]?=_
   rw[a5,am ω]
  ·show Srt ρ (qk (aJ g) (c+k) r.toList 0) c (c+f+M)
   have RO:∀x,¬(c+k<=x/\x<c+f+l)->R ρ (qk (aJ g) (c+k) r.toList 0) x=R ρ (aJ g) x:=λx D=>pD (by rw[a5,am D]);have RI:∀x,c+k<=x->x<c+f+l->∃u,r.toList[x-(c+k)]?=V u/\u∈r.toList/\R ρ (qk (aJ g) (c+k) r.toList 0) x=ρ u:=λx I G=>by
    have a6:x-(c+k)<r.toList.length:=ω
    exact(r.toList[x-(c+k)],h_ r.toList _ a6,mK a6,fU (by rw[a5,av (I,G)];exact h_ r.toList _ a6))
   have c2:∀x,c<=x->x<c+k->R ρ (aJ g) x<=ρ y0:=λx I G=>by
    have j:=b0 (x-c) ω;rw[show c+(x-c)=x from ω] at j;exact j
   have a0:∀x,c+f+l<=x->x<c+f+M->ρ z<=R ρ (aJ g) x:=λx I G=>by
    have j:=b2 (x-(c+f)) ω ω;rw[show c+f+(x-(c+f))=x from ω] at j;exact j
   intro x y I G S
   by_cases x1:x<c+k
   ·rw[RO x ω]
    have j:=c2 x I x1
    by_cases y1:y<c+k
    ·rw[RO y ω]
     exact r1 x y I G (à y1 (ñ k1))
    ·by_cases y2:y<c+f+l
     ·obtain⟨u,_,mu,eu⟩:=RI y (ô y1) y2
      rw[eu];exact nW j (rm u mu).1
     ·rw[RO y ω]
      have:=a0 y (ô y2) S;omega
   ·by_cases x2:x<c+f+l
    ·obtain⟨u,gu,mu,eu⟩:=RI x (ô x1) x2
     rw[eu]
     by_cases y2:y<c+f+l
     ·obtain⟨v,gv,mv,ev⟩:=RI y (à (ô x1) G) y2
      rw[ev];exact pB ls (by rw[<-ki];exact gu) (by rw[<-ki];exact gv) ω
     ·rw[RO y ω]
      exact nW (rm u mu).2<|a0 y (ô y2) S
    ·rw[RO x ω,RO y ω]
     exact r2 x y (è (ô x2)) G S
 by_cases c3:f-k<=l
 ·rw[av c3]
  refine bE<|Tz C H (λx D=>(K x D).1) (λx D=>(L x D).1) lA lB (show 1<=((aJ g).extract (c+k)<|c+f).size by rw[sA];omega) (show 1<=((aJ g).extract (c+f)<|c+f+l).size by rw[a4];exact lz) (λx D y U=>nY<|b3 x D y U) b4 λr t hr=>?_;refine bE<|uE<|bE<|nN<|ca ?_;have hf:nO t=Y:=(hr.1.b H).b;show Q (nO t).isNone _;rw[hf];exact X r t hr
 ·rw[am c3]
  refine bE<|TA C H (λx D=>(K x D).1) (λx D=>(L x D).1) lA lB (show 1<=((aJ g).extract (c+k)<|c+f).size by rw[sA];exact à lz (ì (ó c3))) (show 1<=((aJ g).extract (c+f)<|c+f+l).size by rw[a4];exact lz) b3 b4 λr t hr=>?_;refine bE<|uE<|bE<|nN<|ca ?_;have hf:nO t=Y:=(hr.1.b H).b;show Q (nO t).isNone _;rw[hf];exact X r t hr
end
def fT.pow:∀{l a:List (Nat×Nat×Nat)}{b c:Nat},fT d f b l c->a.map (λx=>(aez x.1 x.2.1))=l.map (λx=>(aez x.1 x.2.1))->fT d f b a c
 |[],[],_,_,h,_=>h
 |[],_::_,_,_,_,e=>by simp at e
 |_::_,[],_,_,_,e=>by simp at e
 |(aez s (aez n p))::l,(aez g (aez i j))::a,b,c,h,e=>by
  simp only[cY,ai5,Prod.mk.injEq] at e;obtain⟨⟨rfl,rfl⟩,e⟩:=e;exact(h.1,h.2.1,h.2.2.1,h.2.2.2.pow e)
def KE(a:Array (Nat×Nat×Nat))(i b:Nat):(a.modify i λx=>(aez x.1 (aez x.2.1 b))).toList.map (λx=>(aez x.1 x.2.1))=a.toList.map (λx=>(aez x.1 x.2.1)):=by
 rw[Array.toList_modify];apply DG;intro k;rw[bV,bV,List.getElem?_modify];cases e:a.toList[k]? with
 |none=>simp
 |some x=>
  simp only[nj];split<;>rfl
noncomputable def fT.J{b:ay->Int}(h:fT b c 0 l a)(d:l.length<=1):Srt b c 0 a:=by
 match l,h,d with
 |[],h,_=>
  have e:0=a:=h;subst e;intro i j _ _ k;omega
 |[(aez s (aez n p))],h,_=>
  obtain⟨_,_,f,g⟩:=h;have e:0+n=a:=g;subst e;exact f
section
variable{prog:bu}{w:bf}{A:bO}{E:Ω}{s:ak}{κ:lQ}{a₀:Array ay}{ρ:ay->Int}
def Tv(C:ic prog w A s κ a₀ ρ){st:be}{Q:Unit->be->Prop}(hB:cV κ a₀ st)(hp:dE st=#[])(h:∀d,cV κ a₀ d->Srt ρ (aJ d) 0 a₀.size->Q () d):dX 2#0 A E s JA Q st:=by
 rw[sortRuns'_eq];refine bE<|nN ?_;dsimp only;simp only[hB.F];refine bE (iO (lP
  (I:=λx c d=>∃o,c=(aez Y o)/\cV κ a₀ d/\fT ρ (aJ d) 0 (dE d).toList o/\o<=a₀.size/\x<=o)
  (Q:=λc d=>c=(aez Y a₀.size)/\cV κ a₀ d/\fT ρ (aJ d) 0 (dE d).toList a₀.size) ?step ?fin (0,O,hB,by rw[hp];exact O,ú,ß)) ?post)
 case fin=>
  rintro c d ⟨o,rfl,p,hS,h1,h2⟩;have e:o=a₀.size:=ω
  subst e;exact(O,p,hS)
 case step=>
  rintro x c a9 _ hx ⟨o,rfl,a3,a4,h1,h2⟩;dsimp only
  by_cases a5:o ≥ a₀.size
  ·rw[av a5]
   have e:o=a₀.size:=(û h1 a5)
   subst e;exact ca (O,a3,a4)
  rw[am a5];refine bE<|TK C ω ω a3 λm K r P2 m1 m2 S=>?_;dsimp only;have u:fT ρ (aJ K) 0 (dE K).toList o:=by rw[P2.a];exact a4.congr λk _ b=>P2.arr k b
  have M:∀(n:Nat)(l:be)(U:ForInStep (Option Unit×Nat)->be->Prop),cV κ a₀ l->fT ρ (aJ l) 0 (dE l).toList o->1<=n->o+n<=a₀.size->Srt ρ (aJ l) o (o+n)->
    (∀d,cV κ a₀ d->fT ρ (aJ d) 0 (dE d).toList (o+n)->U (.yield (aez Y (o+n))) d)->
    (∀d,cV κ a₀ d->fT ρ (aJ d) 0 (dE d).toList o->Srt ρ (aJ d) o (o+n)->dX 2#0 A E s (do
     modify λs=>setPending s<|(dE s).push (aez o (aez n 0))
     aX (hW (aez Y (o+n)))) U d):=by
   intro n l U _ _ n1 n2 _ hq d p t X;refine bE<|uE<|ca<|hq _ (p.a,p.c,p.b) ?_;show fT ρ (aJ d) 0 ((dE d).push (aez o (aez n 0))).toList (o+n);rw[zG];exact fT.B.mpr (o,t,O,n1,X,O)
  have T:∀(n pw:Nat)(l:be)(f:Nat->Option Unit×Unit->StateT be eA (ForInStep<|Option Unit×Unit)),cV κ a₀ l->fT ρ (aJ l) 0 (dE l).toList o->Srt ρ (aJ l) o (o+n)->o+n<=a₀.size->
    (∀x d(U:ForInStep (Option Unit×Unit)->be->Prop),cV κ a₀ d->fT ρ (aJ d) 0 (dE d).toList o->U (.done (aez Y (()))) d->
     (∀g,cV κ a₀ g->fT ρ (aJ g) 0 (dE g).toList o->(∀k,o<=k->(aJ g)[k]?=(aJ d)[k]?)->U (.yield (aez Y (()))) g)->dX 2#0 A E s (f x (aez Y (()))) U d)->
    dX 2#0 A E s (mN [0:a₀.size] (aez Y (())) f) (λc d=>c=(aez Y (()))/\cV κ a₀ d/\fT ρ (aJ d) 0 (dE d).toList o/\Srt ρ (aJ d) o (o+n)) l:=by
   intro n pw l f v z R hz hf;refine lP (I:=λ_ c d=>c=(aez Y (()))/\cV κ a₀ d/\fT ρ (aJ d) 0 (dE d).toList o/\Srt ρ (aJ d) o (o+n)) ?_ (λ_ _ q=>q) (O,v,z,R);rintro x c d _ _ ⟨rfl,p,t,X⟩;refine hf x d _ p t (O,p,t,X) λg D G hk=>(O,D,G,λi j a b c=>?_);rw[pD<|hk i a,pD<|hk j (à a b)];exact X i j a b c
  have a7:∀(n:Nat)(l:be),cV κ a₀ l->fT ρ (aJ l) 0 (dE l).toList o->1<=n->o+n<=a₀.size->Srt ρ (aJ l) o (o+n)->True:=λ_ _ _ _ _ _ _=>trivial;have P:∀n d,1<=n->o+n<=a₀.size->cV κ a₀ d->fT ρ (aJ d) 0 (dE d).toList (o+n)->∃a0,((aez Y (o+n)):Option Unit×Nat)=(aez Y a0)/\cV κ a₀ d/\fT ρ (aJ d) 0 (dE d).toList a0/\a0<=a₀.size/\x+1<=a0:=
   λn d n1 n2 b sg=>(_,O,b,sg,n2,ω)
  by_cases a6:m<minRun' a₀.size a₀.size 0
  ·rw[av a6]
   refine bE<|wH<|mD (O,?_);refine bE<|TL C ω ω r S λl v P3 R=>?_;simp only[nZ,dK,da];have z:fT ρ (aJ l) 0 (dE l).toList o:=by rw[P3.a];exact u.congr λk _ b=>P3.arr k b
   refine bE<|nN ?_;cases hb:(dE l).back? with
   |none=>
    dsimp only;exact M _ l _ v z ω ω R (λd b sg=>P _ d ω ω b sg) l v z R
   |some y=>
    obtain⟨s1,n1,p1⟩:=y;dsimp only;refine bE<|iO (T _ 0 l _ v z R ω ?_) ?_
    ·intro x d U p t q1 q2
     refine bE<|nN ?_
     by_cases H:(dE d).size>1
     ·rw[av H]
      obtain⟨⟨o1,o2,o3⟩,eo⟩:∃y,(dE d)[(dE d).size-2]?=V y:=(_,h_ _ _ ω);rw[eo];dsimp only;split
      ·exact ca q1
      ·refine bE<|DR C p t h1 ω λg D G _ hk=>?_
       simp only[nZ,dK,da];exact ca<|q2 g D G hk
     ·rw[am H]
      exact ca q1
    ·rintro c a8 ⟨rfl,L,a1,a2⟩
     dsimp only;refine bE<|uE ?_;refine M _ l _ v z ω ω R (λd b sg=>P _ d ω ω b sg) _ (L.a,L.c,L.b) ?_ a2;exact a1.pow<|KE _ _ _
  ·rw[am a6]
   refine bE<|nN ?_;cases hb:(dE K).back? with
   |none=>
    dsimp only;exact M _ K _ r u m1 ω S (λd b sg=>P _ d m1 ω b sg) K r u S
   |some y=>
    obtain⟨s1,n1,p1⟩:=y;dsimp only;refine bE<|iO (T _ 0 K _ r u S ω ?_) ?_
    ·intro x d U p t q1 q2
     refine bE<|nN ?_
     by_cases H:(dE d).size>1
     ·rw[av H]
      obtain⟨⟨o1,o2,o3⟩,eo⟩:∃y,(dE d)[(dE d).size-2]?=V y:=(_,h_ _ _ ω);rw[eo];dsimp only;split
      ·exact ca q1
      ·refine bE<|DR C p t h1 ω λg D G _ hk=>?_
       simp only[nZ,dK,da];exact ca<|q2 g D G hk
     ·rw[am H]
      exact ca q1
    ·rintro c a8 ⟨rfl,L,a1,a2⟩
     dsimp only;refine bE<|uE ?_;refine M _ K _ r u m1 ω S (λd b sg=>P _ d m1 ω b sg) _ (L.a,L.c,L.b) ?_ a2;exact a1.pow<|KE _ _ _
 case post=>
  rintro c d ⟨rfl,p,t⟩;dsimp only;refine bE (iO (lP (I:=λx c g=>c=(aez Y (()))/\cV κ a₀ g/\fT ρ (aJ g) 0 (dE g).toList a₀.size/\((dE g).size<=1\/(dE g).size+x<=a₀.size))
   (Q:=λc g=>c=(aez Y (()))/\cV κ a₀ g/\Srt ρ (aJ g) 0 a₀.size) ?fstep ?ffin (O,p,t,.inr ?_)) ?fpost)
  case ffin=>
   rintro c g ⟨rfl,r,u,hh⟩;exact(O,r,u.J (by rw[gJ];omega))
  case fpost=>
   rintro c g ⟨rfl,r,sr⟩;exact ca<|h _ r sr
  case fstep=>
   rintro x c g _ hx ⟨rfl,r,u,hh⟩;refine bE<|nN ?_
   by_cases H:(dE g).size<=1
   ·rw[av H]
    exact ca (O,r,u.J (by rw[gJ];exact H))
   ·rw[am H]
    refine bE<|DR C r u (aV _) ?_ λl v z b0 _=>?_
    ·repeat' split
     all_goals omega
    ·simp only[nZ,dK,da]
     exact ca (O,v,z,ω)
  ·have:=t.F
   rw[gJ] at this;omega
end
def Em:∀a:List Int,bJ a a=aB
 |[]=>O
 |x::a=>by rw[lL,av O];exact Em a
def El:∀{a b c:List Int},bJ a b=ae->bJ b c=ae->bJ a c=ae
 |[],[],_,h,_=>by cases h
 |[],_::_,[],_,h=>by cases h
 |[],_::_,_::_,_,_=>O
 |_::_,[],_,h,_=>by cases h
 |_::_,_::_,[],_,h=>by cases h
 |x::a,y::b,z::c,e,d=>by
  rw[lL] at e d ⊢
  by_cases g:x=y
  ·rw[av g] at e
   by_cases f:y=z
   ·rw[av f] at d
    rw[av<|g.trans f];exact El e d
   ·rw[am f] at d
    rw[am ω];have:=fc d;exact bT ω
  ·rw[am g] at e
   have i:=fc e
   by_cases f:y=z
   ·rw[am ω]
    exact bT ω
   ·rw[am f] at d
    have j:=fc d;rw[am ω];exact bT ω
def La:∀{a b:List Int},bJ a b=aB->bJ b a=aB->a=b
 |[],[],_,_=>O
 |[],_::_,h,_=>by cases h
 |_::_,[],_,h=>by cases h
 |x::a,y::b,c,d=>by
  rw[lL] at c d
  by_cases e:x=y
  ·subst e
   rw[av O] at c d;rw[La c d]
  ·rw[am e] at c
   rw[am<|dp e] at d;have:=oe c;have:=oe d;omega
noncomputable def zU(a:Ξ)(l:List Int):Int:=((a.filter λm=>bJ m l).length:Nat)
def KZ{ls:Ξ}{l m:List Int}(n:l∈ls)(p:m∈ls):aE (zU ls l<zU ls m)=bJ l m:=by
 have f:∀{a b:List Int},(∀x,bJ x a=ae->bJ x b=ae)->∀k:Ξ,(k.filter λx=>bJ x a).length<=(k.filter λx=>bJ x b).length:=by
  intro a b c k
  induction k with
  |nil=>exact aV _
  |cons x k i=>
   rw[DD,DD]
   by_cases q:bJ x a=ae
   ·rw[av q,av<|c x q,dj,dj];exact ð i
   ·rw[am q]
    split
    ·rw[dj];exact í i
    ·exact i
 have d:∀{a b:List Int},(∀x,bJ x a=ae->bJ x b=ae)->bJ a b=ae->∀k:Ξ,a∈k->(k.filter λx=>bJ x a).length<(k.filter λx=>bJ x b).length:=by
  intro a b c h k
  induction k with
  |nil=>intro q;cases q
  |cons x k i=>
   intro o;rw[DD,DD];rcases cz.mp o with e|e
   ·subst e
    rw[am (by rw[Em];exact dY),av h,dj];have:=f c k;exact ï this
   ·have:=i e
    by_cases q:bJ x a=ae
    ·rw[av q,av<|c x q,dj,dj];exact ï this
    ·rw[am q]
     split
     ·rw[dj];exact í this
     ·exact this
 unfold zU;cases q:bJ l m with
 |true=>
  have:=d (a:=l) (b:=m) (λx g=>El g q) q ls n;exact bT ω
 |false=>
  have:=f (a:=m) (b:=l) (λx g=>by
   cases z:bJ x l with
   |true=>rfl
   |false=>
    cases j:bJ l x with
    |true=>rw[El j g] at q;cases q
    |false=>rw[La z j] at g;rw[g] at q;cases q) ls
  exact cw ω
structure rD(prog:bu)(w:bf)(A:bO)(good:aW->Prop)(us:List aa)(ls:Ξ):Prop where
 a:us.length=ls.length
 b:∀(i j:Nat) u l m,us[i]?=V u->us[j]?=V u->ls[i]?=V l->ls[j]?=V m->l=m
 c:2<=us.length->∃κ:lQ,(∀(s:ak)(Q:lQ->ak->Prop)(E:Ω),good s.heap->Q κ s->ax 2#0 A (keyKind' us.toArray) Q E s)/\
  ∀(i j:Nat) u v l m,us[i]?=V u->us[j]?=V v->ls[i]?=V l->ls[j]?=V m->∀(s:ak)(Q:Bool->ak->Prop)(E:Ω),good s.heap->Q (bJ l m) s->ax 2#0 A (JD κ u v) Q E s
open Classical in
noncomputable def lof(us:List aa)(ls:Ξ)(u:aa):List Int:=if h:∃l,∃i:Nat,us[i]?=V u/\ls[i]?=V l then h.choose else []
def xi{a:List aa}{b:Ξ}(e:∀(i j:Nat) u l m,a[i]?=V u->a[j]?=V u->b[i]?=V l->b[j]?=V m->l=m){i:Nat}(c:a[i]?=V u)(d:b[i]?=V l):lof a b u=l:=by
 unfold lof;have h:∃l,∃i:Nat,a[i]?=V u/\b[i]?=V l:=(l,i,c,d);rw[dif_pos h];obtain⟨j,f,g⟩:=h.choose_spec;exact e j i u _ l f c g d
noncomputable def vb(b:List aa)(a:Ξ)(p:ay):Int:=zU a<|lof b a p.1
section
variable{prog:bu}{w:bf}{A:bO}{E:Ω}{s:ak}{good:aW->Prop}{us vs:List aa}{ls:Ξ}
def zT(h:us.length=vs.length){p:ay}(b:p∈(us.toArray.zip vs.toArray).toList):∃i:Nat,us[i]?=V p.1/\vs[i]?=V p.2:=by
 have e:(us.toArray.zip vs.toArray).toList=us.zip vs:=by simp
 rw[e] at b;obtain⟨i,c,a⟩:=np.mp b;rw[List.getElem_zip] at a;rw[uK] at c;refine(i,?_,?_)
 ·rw[cB ω,<-a]
 ·rw[cB ω,<-a]
def TW(L:rD prog w A good us ls)(g:us.length=vs.length)(q:good s.heap)(K:2<=us.length)(r:us.length<1000)(t:∀(i j:Nat) u v l m,us[i]?=V u->us[j]?=V v->ls[i]?=V l->ls[j]?=V m->∀(s:ak)(Q:Bool->ak->Prop)(E:Ω),good s.heap->Q (bJ l m) s->ax 2#0 A (JD c u v) Q E s){Q:Unit->be->Prop}(h:∀a,(aJ a).Perm (us.toArray.zip vs.toArray)->nO a=Y->Srt (vb us ls) (aJ a) 0 vs.length->Q () a):dX 2#0 A E s JA Q (zm c (us.toArray.zip vs.toArray) #[] 7 Y):=by
 have z:(us.toArray.zip vs.toArray).size=vs.length:=by simp;omega
 refine Tv (κ:=c) (a₀:=us.toArray.zip vs.toArray) (ρ:=vb us ls) ⟨λx y C D G H d=>?_⟩ (Array.Perm.refl _,O,O) O λa b I=>h a b.a b.b (by rw[<-z];exact I);obtain⟨i,e,_⟩:=zT g C;obtain⟨j,f,_⟩:=zT g D;have k:i<ls.length:=by rw[<-L.a];exact(bY.mp e).1
 have n:j<ls.length:=by rw[<-L.a];exact(bY.mp f).1
 have o:ls[i]?=V ls[i]:=cB k;have p:ls[j]?=V ls[j]:=cB n;refine t i j _ _ _ _ e f o p s G H q ?_;unfold vb at d;rw[xi L.b e o,xi L.b f p,KZ (mK k)<|mK n] at d;exact d
def pF{a b:Type}:∀(l:List a)(m:List b)(i:Nat),(l.zip m)[i]?=(l[i]?).bind λx=>(m[i]?).map λy=>(aez x y)
 |[],m,i=>by simp
 |x::l,[],i=>by cases h:(x::l)[i]?<;>simp
 |x::l,y::m,0=>O
 |x::l,y::m,i+1=>by
  rw[SH,JX,JX,JX];exact pF l m i
def TZ(K:rD prog w A good us ls)(s:us.length=vs.length){c:Array ay}(z:c.Perm (us.toArray.zip vs.toArray))(C:Srt (vb us ls) c 0 vs.length):∃l:List (List Int×aa),l.Perm (ls.zip vs)/\c.toList.map (·.2)=l.map (·.2)/\l.Pairwise λ(a b:List Int×aa)=>bJ b.1 a.1=aB:=by
 have g:c.toList.Perm (us.zip vs):=by
  have:=Tn.mp z
  simpa using this
 refine(c.toList.map λL=>(aez (lof us ls L.1) L.2),?_,by rw[bN];rfl,?_)
 ·have e:(us.zip vs).map (λL:ay=>(aez (lof us ls L.1) L.2))=ls.zip vs:=by
   apply DG;intro i;rw[bV,pF,pF];cases m:us[i]? with
   |none=>
    have:ls[i]?=Y:=sY (by rw[<-K.a];exact JW.mp m);rw[this];rfl
   |some u=>
    have h:i<ls.length:=by rw[<-K.a];exact(bY.mp m).1
    have k:ls[i]?=V ls[i]:=cB h;rw[k];cases I:vs[i]? with
    |none=>rfl
    |some v=>
     show V (aez (lof us ls u) v)=V (aez (ls[i]) v);rw[xi K.b m k]
  rw[<-e];exact g.map _
 ·rw[ip,pc]
  intro i j h t n;have D:c.size=vs.length:=by
   have:=g.length_eq;rw[gJ,uK] at this;omega
  rw[gJ] at h t;have q:=C i j (eY _) (qe n) (à t (å D));have E:c[i]?=V c[i]:=h_ c i h;have G:c[j]?=V c[j]:=h_ c j t;rw[fU E,fU G] at q;simp only[Array.getElem_toList];obtain⟨o,x,_⟩:=zT s (p:=c[i]) (by
   have:=g.mem_iff.mp (show c[i]∈c.toList by simp)
   simpa using this)
  obtain⟨r,y,_⟩:=zT s (p:=c[j]) (by
   have:=g.mem_iff.mp (show c[j]∈c.toList by simp)
   simpa using this)
  have d:o<ls.length:=by rw[<-K.a];exact(bY.mp x).1
  have f:r<ls.length:=by rw[<-K.a];exact(bY.mp y).1
  have k:ls[o]?=V ls[o]:=cB d;have H:ls[r]?=V ls[r]:=cB f;unfold vb at q;rw[xi K.b x k,xi K.b y H] at q ⊢;have:=KZ (ls:=ls) (mK f)<|mK d;rw[<-this];exact cw ω
end
section
variable{prog:bu}{w:bf}{A:bO}{E:Ω}{s:ak}{good:aW->Prop}{us vs:List aa}{ls:Ξ}
def Lc(f:fC us d):rD prog w A (λ_=>True) us (d.map λn=>[n]):=by
 have g:=f.length;have b:∀(i:Nat) u l,us[i]?=V u->(d.map λn=>[n])[i]?=V l->∃n t,u=.int n t/\l=[n]:=λi u l h a=>by
  obtain⟨t,e⟩:=IntsAre.int_at f i u h;rw[bV] at a;cases c:d[i]? with
  |none=>rw[c] at a;cases a
  |some n=>
   rw[c] at a;have z:d.getD i 0=n:=by rw[wP,c];rfl
   rw[z] at e;exact(n,t,e,(bM a).symm)
 refine(by rw[au,g],λi j u l m h a p q=>?_,λa=>(oneType',λs Q E _ k=>?_,λi j u v l m h a p q s Q E _ k=>?_))
 ·obtain⟨n,t,C,rfl⟩:=b i u l h p
  obtain⟨o,D,c,rfl⟩:=b j u m a q;rw[C] at c;cases c
  rfl
 ·match us,f,a with
  |[],_,a=>simp at a
  |[_],_,a=>simp at a
  |r::x::y,f,_=>
   rw[keyKind_ints f];exact aG k
 ·obtain⟨n,t,rfl,rfl⟩:=b i u l h p
  obtain⟨o,D,rfl,rfl⟩:=b j v m a q;refine kat_lt_int ?_;have:bJ [n] [o]=aE (n<o):=by
   rw[lL]
   by_cases e:n=o
   ·rw[av e,Qt];exact(cw ω).symm
   ·rw[am e]
  rw[this] at k;exact k
def oh(h:aW)(u:aa)(l:List Int):Prop:=∃(a b:W)(n:Int)(t:hU)(c:List aa)(d:List Int),u=.ref a/\l=n::d/\kW h a #[.int n t,.ref b]/\kW h b c.toArray/\fC c d
def Ld{b c:Array aa}(i:kW h a b)(j:kW h a c):b=c:=by
 obtain⟨o,e,_,n,d⟩:=i;obtain⟨k,f,_,l,g⟩:=j;rw[e] at f;cases f;rw[d] at g;injection g
def T_{vs:List aa}{b a:List Int}(h:fC vs b)(g:fC vs a):b=a:=by
 induction h generalizing a with
 |nil=>cases g;rfl
 |cons n t h c=>cases g with|cons _ _ d=>rw[c d]
noncomputable def oh.B{l m:List Int}(j:oh h u l)(k:oh h u m):l=m:=by
 obtain⟨a,b,n,t,d,w,rfl,rfl,o,p,q⟩:=j;obtain⟨x,y,z,A,c,r,e,rfl,f,g,i⟩:=k;cases e;have:=Ld o f;cases this;have s:=Ld p g;have v:d=c:=by simpa using s
 subst v;rw[T_ q i]
def TX{l m:List Int}{Q:Bool->ak->Prop}(h1:oh s.heap x l)(h2:oh s.heap y m)(M:A.units<dB)(p:Q (bJ l m) s):ax 2#0 A (JD (tuples' ae) x y) Q E s:=by
 obtain⟨a,b,n,t,a0,P,rfl,rfl,t1,R,S⟩:=h1;obtain⟨a',T,g,C,U,r,rfl,rfl,H,u,v⟩:=h2;obtain⟨o,e,X,k,d⟩:=id t1;obtain⟨o',e',a1,k',d'⟩:=id H;refine kat_lt e d e' d' ?_;show KatLex prog w A ae (aE<|2<2) Q [(aez (.int n t) (.int g C)),(aez 5#b 5#T)] 0 s;rw[lL] at p;refine kat_cons<|kB (RS n t g C prog w (λ_ _=>False) _ (O,O):ax 2#0 A (eqBool (.int n t)<|.int g C) (λe s'=>e=(n==g)/\s'=s) (λ_ _=>False) s) (λe1 D he=>?_) λ_ _ z=>z;obtain⟨rfl,rfl⟩:=he
 by_cases G:n=g
 ·have I:(n==g)=ae:=by simpa using G
  rw[I];rw[av G] at p;refine kat_yes<|kat_cons ?_;have i:∀{c:W}{j:List aa}{q:List Int},kW D.heap c j.toArray->fC j q->gb (ff prog w) D.heap (q.map aN) c:=λ{c j q} X K=>by
   obtain⟨o,e,L,k,d⟩:=X;refine(o,j.toArray,k,e,L,d,?_);have:∀{j:List aa}{q:List Int},fC j q->C' (ff prog w) (q.map aN) j:=by
    intro j q K
    induction K with
    |nil=>exact .nil
    |cons n t h ih=>exact .cons (Fg prog w n t) ih
   simpa using this K
  refine IK (knd:=ff prog w) M (i R S) (i u v) ?_
  by_cases ep:P=r
  ·subst ep
   rw[bT O];rw[Em] at p;exact kat_yes<|kat_nil p
  ·have:¬(P.map aN:List aK)=r.map aN:=λz=>ep<|Dz (f:=(aN:Int->aK)) (λx y h=>Cx h)|>.mp z
   rw[cw this];refine kat_no ?_;show ax 2#0 A (oneLt' aB 5#b<|.ref T) Q (λ_ _=>False) D;exact kat_one _ _<|adj R u 6#S 6#v M p
 ·have I:(n==g)=aB:=by simpa using G
  rw[I];rw[am G] at p;refine kat_no ?_;show ax 2#0 A (oneLt' ae (.int n t)<|.int g C) Q (λ_ _=>False) D;exact oneLt_int p
def K_:∀{us:List aa}{ls:Ξ},us.length=ls.length->(∀(i:Nat) u l,us[i]?=V u->ls[i]?=V l->oh h u l)->∃c,KatTups h us c/\c.length=us.length/\∀f∈c,∃n t,f=aQ n t
 |[],[],_,_=>([],.nil,O,λf g=>nomatch g)
 |u::us,l::ls,m,j=>by
  obtain⟨c,p,q,r⟩:=K_ (us:=us) (ls:=ls) 6#m λi u l s v=>j (i+1) u l 6#s 6#v;obtain⟨a,b,n,t,w,z,rfl,rfl,x,A,C⟩:=j 0 u l O O;obtain⟨o,e,y,k,d⟩:=id x;refine(.int n t::c,.cons e y d O p,by simp[q],λf g=>?_);rcases cz.mp g with rfl|g
  ·exact(n,t,O)
  ·exact r f g
 |[],_::_,h,_=>by simp at h
 |_::_,[],h,_=>by simp at h
def Lb(o:us.length=ls.length)(q:A.units<dB)(r:∃h,good h)(a:∀h,good h->∀(i:Nat) u l,us[i]?=V u->ls[i]?=V l->oh h u l):rD prog w A good us ls:=by
 refine(o,λi j u l m d b e g=>?_,λb=>(tuples' ae,λs Q E c k=>?_,λi j u v l m d b e g s Q E c k=>?_))
 ·obtain⟨h,p⟩:=r
  exact(a h p i u l d e).B<|a h p j u m b g
 ·obtain⟨C,x,D,y⟩:=K_ o<|a _ c
  refine kat_kind (T:=.type "int") x (à (ã b) (æ D)) (λf z=>?_) ξ k;obtain⟨n,t,rfl⟩:=y f z;exact Looks.of_pure O
 ·exact TX (a _ c i u l d e) (a _ c j v m b g) q k
end
def rC(e:Ξ)(f c:List aa):Prop:=∃d:List (List Int×aa),d.Perm (e.zip f)/\c=d.map (·.2)/\d.Pairwise λ(a b:List Int×aa)=>bJ b.1 a.1=aB
section
variable{prog:bu}{w:bf}{A:bO}{E:Ω}{s:ak}{good:aW->Prop}{us vs:List aa}{ls:Ξ}
def TY(b:ls.length=vs.length)(c:us.length=vs.length)(d:vs.length<2):rC ls vs ((us.toArray.zip vs.toArray).map (·.2)).toList:=by
 have e:((us.toArray.zip vs.toArray).map (·.2)).toList=vs:=by
  rw[aji,show(us.toArray.zip vs.toArray).toList=us.zip vs by simp,SL (æ c)]
 rw[e];refine(ls.zip vs,DJ _,by rw[SL (æ b)],?_);have a:(ls.zip vs).length<2:=by rw[uK];omega
 match ls.zip vs,a with
 |[],_=>exact Kd
 |[x],_=>simp
 |_::_::_,h=>simp only[dj] at h;omega
def KY(v:rD prog w A good us ls)(f:us.length=vs.length)(m:vs.length<1000)(k:good s.heap){G:Unit×be->eA Da}(h:∀a,rC ls vs ((aJ a).map (·.2)).toList->(aJ a).size=vs.length->nO a=Y->ax 2#0 A (G (aez PUnit.unit a)) P E s):ax 2#0 A (if vs.toArray.size<2 then(aX general' >>= λb=>(if vs.toArray.size<2 then aX () else JA).run (zm b (us.toArray.zip vs.toArray) #[] 7 Y) >>= G)
   else(keyKind' us.toArray >>= λb=>(if vs.toArray.size<2 then aX () else JA).run (zm b (us.toArray.zip vs.toArray) #[] 7 Y) >>= G)) P E s:=by
 have d:(us.toArray.zip vs.toArray).size=vs.length:=by rw[Array.size_zip,cP,cP];omega
 by_cases c:vs.toArray.size<2
 ·rw[av c]
  refine ag<|aG ?_;rw[av c];rw[StateT.run_pure];refine ag<|aG ?_
  try dsimp only
  rw[cP] at c;exact h (zm general' (us.toArray.zip vs.toArray) #[] 7 Y) (TY (by rw[<-v.a];exact f) f c) d O
 ·rw[am c,am c]
  rw[cP] at c;obtain⟨t,n,o⟩:=v.c (à (ô c) (æ f));refine ag<|n s _ E k ?_;refine ag<|kB (TW (Q:=λ_ a=>(aJ a).Perm (us.toArray.zip vs.toArray)/\nO a=Y/\Srt (vb us ls) (aJ a) 0 vs.length) v f k (à (ô c) (æ f)) (à (ï (å f)) m) o λa g i j=>(g,i,j)) ?_ λ_ _ e=>e;rintro⟨⟨⟩,a⟩ u ⟨rfl,l,p,q⟩
  try dsimp only
  exact h a (by
   obtain⟨r,g,i,j⟩:=TZ v f l q;exact(r,g,by rw[aji];exact i,j)) (by rw[l.size_eq];exact d) p
def K'{n:Nat}{P:Da->ak->Prop}(c:s.heap.get? a=V (cj "list" vs.toArray n))(v:rD prog w A good vs ls)(q:∀m,(∀b o,b≠a->s.heap.get? b=V o->m.get? b=V o)->good m)(i:vs.length<=bD)(j:vs.length<1000)(h:∀d:Array aa,rC ls vs d.toList->P (.done<|.ret .none) {s with heap:=sortedHeap s.heap a vs d}):ax 2#0 A (Builtin.«list.sort» ([.ref a],[])) P E s:=by
 rw[list_sort_plain];have p:a<s⁻¹:=cy c;refine ag<|So c O ?_;refine ag<|zl c O ?_ (by rw[cP];exact i)<|eY _;obtain⟨k,f⟩:∃k,(s.heap.update a<|cD λ_=>#[]).get? a=V (cj "list" #[] k):=(_,sP c (λ_=>#[]));refine ag<|JB f O ?_;refine ag<|IF ?_ (by show vs.length<=_;exact i);refine ag<|wp ?_<|eY _;refine fO ?_;have g:(((s.heap.update a<|cD λ_=>#[]).push<|cj "tuple" vs.toArray 0).push<|cj "list" #[] 0).get? a=V (cj "list" #[] k):=by
  rw[zd _ _ _ (by rw[wJ,wC];exact cM<|lR p),zd _ _ _ (by rw[wC];exact cM p)];exact f
 show ax 2#0 A _ P E {s with heap:=((s.heap.update a<|cD λ_=>#[]).push<|cj "tuple" vs.toArray 0).push<|cj "list" #[] 0};dsimp only;refine KY (s:={s with heap:=((s.heap.update a<|cD λ_=>#[]).push<|cj "tuple" vs.toArray 0).push<|cj "list" #[] 0}) v O j (q _ λb o r e=>bQ _<|bQ _ (by rw[Jk _ _ _ _ r];exact e)) λt c l u=>?_;dsimp only;refine ag<|JB g O ?_;refine ag<|zl g O ?_ (eY _)<|dq (JN<|(n_ ..).trans l)<|Dt i;rw[u];simp only[bne_self_eq_false,dK,da];exact aG<|h _ c
def KW{Q:Ω}(k:s.heap.IsList l vs.toArray)(t:rD prog w A.in1.in1 good vs ls)(n:∀g,(∀b o,s.heap.get? b=V o->g.get? b=V o)->good g)(i:vs.length<=bD)(j:vs.length<1000)(h:∀a:Array aa,rC ls vs a.toList->Q (.ref<|s⁻¹+1) {s with heap:=sortedAll s.heap vs a}):ax 2#0 A (im (.builtin "sorted") [.ref l]) Q E s:=by
 refine Sh Sq Sm Sr (args_sorted1 _) ?_;unfold Builtin.«sorted»;refine ag (m:=Rz "sorted" 1 1 _)<|aG ?_;refine ag<|collect_list k ?_ i;refine ag<|wp ?_ i;have c:((s.heap.push<|cj "list" #[] 0).update s⁻¹ (cD (·++vs.toArray))).objs.size=s⁻¹+1:=by
  rw[wC,wJ]
 have e:(((s.heap.push<|cj "list" #[] 0).update s⁻¹ (cD (·++vs.toArray))).push<|cj "list" vs.toArray 0).get? (s⁻¹+1)=V (cj "list" vs.toArray 0):=by
  rw[<-c];exact dg _ O
 have f:∀b o,s.heap.get? b=V o->(((s.heap.push<|cj "list" #[] 0).update s⁻¹ (cD (·++vs.toArray))).push<|cj "list" vs.toArray 0).get? b=V o:=λb o q=>by
  have d:b<s⁻¹:=cy q;rw[zd _ _ _ (by rw[c];exact cM<|lR d),Jk _ _ _ _<|cM d,zd _ _ _<|cM d];exact q
 show ax _ _ _ _ _ {s with heap:=((s.heap.push<|cj "list" #[] 0).update s⁻¹ (cD (·++vs.toArray))).push<|cj "list" vs.toArray 0};rw[c];refine ag (fO (mE Sl (_,e,O) Ss (K' (s:={s with heap:=((s.heap.push<|cj "list" #[] 0).update s⁻¹ (cD (·++vs.toArray))).push<|cj "list" vs.toArray 0}) e t (λg p=>n g λb o q=>p b o (cM<|lR<|cy q)<|f b o q) i j λa r=>(_,O,?_))<|args_list_sort _));exact aG (_,O,h a r)
def TV{f:Array aa}{P:Da->ak->Prop}(u:s.heap.get? d=V (cj "list" f e))(y:s.heap.get? a=V (cj "list" #[] e1))(j:d≠a)(m:f.size<=bD)(z:rC ls vs ((aJ g).map (·.2)).toList)(n:(aJ g).size=vs.length)(C:vs.length<=bD)(p:nO g=Y)(h:∀k l c,(∀b o,b≠d->b≠a->s.heap.get? b=V o->k.get? b=V o)->k.get? a=V (cj "list" l c)->(∃o,k.get? d=V o)->rC ls vs l.toList->k.objs.size=s⁻¹->P (.done<|.ret .none) {s with heap:=k}):ax 2#0 A (ksk_tail a aB e1 5#d g) P E s:=by
 have v:=jw s.heap d<|cD λ_=>(#[]:Array aa);have i:(s.heap.update d<|cD λ_=>(#[]:Array aa)).get? a=V (cj "list" #[] e1):=(v.2 a j.symm).trans y;have x:=jw (s.heap.update d<|cD λ_=>(#[]:Array aa)) a (cD λ_=>(aJ g).map (·.2));obtain⟨r,t⟩:∃r,((s.heap.update d<|cD λ_=>(#[]:Array aa)).update a (cD λ_=>(aJ g).map (·.2))).get? a=V (cj "list" ((aJ g).map (·.2)) r):=
  (_,sP i λ_=>(aJ g).map (·.2))
 unfold ksk_tail
 try dsimp only
 simp only[dK,da];refine ag<|zl u O ?_ m<|eY _;refine ag<|kf ?_;refine ag<|JB i O ?_;refine ag<|zl i O ?_ (eY _)<|dq (JN<|(n_ ..).trans n)<|Dt C;rw[p];simp only[bne_self_eq_false,dK,da];refine aG<|h _ _ r (λb o D G q=>(x.2 b G).trans<|(v.2 b D).trans q) t (_,(x.2 d j).trans<|sP u λ_=>#[]) z (by rw[wC,wC])
end
noncomputable def gK(a:List (aq×W)):List (aq×lO)->List (aq×W)->List (aq×W)
 |[],b=>b
 |(aez n k)::r,b=>if(k==.free)=ae then gK a r ((aez n ((a.lookup n).getD 0))::b) else gK a r b
def Nt{env:gm}:∀(b:List (aq×lO))(d:List (aq×W)),(∀x∈b,x.2=.free->∃c,env.cells.lookup x.1=V c)-> (mN b d λx(r:List (aq×W))=>if(x.2==.free)=ae then do let c <-cellOf env x.1;aX (hW<|(aez x.1 c)::r) else aX (hW r):eA (List<|aq×W))=aX (gK env.cells b d)
 |[],d,_=>O
 |(aez n k)::r,d,h=>by
  rw[JY];have g:=λa=>Nt (env:=env) r a λx i=>h x<|gd _ i;unfold gK
  by_cases e:(k==bK)=ae
  ·have f:k=.free:=by cases k<;>first|rfl|cases e
   obtain⟨c,j⟩:=h (aez n k) fE f;simp only[e,eD];unfold cellOf;rw[j];simp only[pure_bind,sR];exact g _
  ·simp only[e,dK,da,pure_bind]
   exact g _
def Xz{a:fw}{b:gm}(h:∀x∈a.names,x.2=.free->∃c,b.cells.lookup x.1=V c):IV a b=aX (gK b.cells a.names []):=by
 rw[<-Nt a.names [] h];unfold IV;simp
def Fj:∀{l:List (aq×W)},(aez x c)∈l->∃d,l.lookup x=V d
 |[],h=>nomatch h
 |(aez y d)::l,h=>by
  rw[kY]
  by_cases e:x=y
  ·subst e;exact(d,by simp)
  ·have a:(x==y)=aB:=by simpa using e
   rw[a];rcases cz.mp h with q|q
   ·cases q;exact bh O e
   ·exact Fj q
def Av{cells:List (aq×W)}:∀{a:List (aq×lO)}{acc:List (aq×W)},((aez x bK)∈a\/∃c,(aez x c)∈acc)->∃c,(aez x c)∈gK cells a acc
 |[],acc,h=>h.elim (λq=>nomatch q) id
 |(aez n k)::r,acc,h=>by
  unfold gK
  by_cases b:(k==bK)=ae
  ·rw[av b]
   refine Av ?_;rcases h with h|⟨c,h⟩
   ·rcases cz.mp h with q|q
    ·cases q;exact .inr (_,fE)
    ·exact .inl q
   ·exact .inr (c,gd _ h)
  ·rw[am b]
   refine Av ?_;rcases h with h|h
   ·rcases cz.mp h with q|q
    ·cases q;exact bh O b
    ·exact .inl q
   ·exact .inr h
noncomputable def kq(X:a_)(a:fw)(f:List aq)(d:List (aq×W))(C:W)(b:ak)(c:ab)(e:List W):a_ where
 prog:=X.prog
 w:=X.w
 K:=X.K
 mg:=X.mg
 base:=X.base
 A:=X.A
 N:=f
 d:=b
 h:=c
 env:=CH a d C X.env
 outer:=X.c
 c:=X.c
 e:=e
 f:=λ_=>aB
 b:=X.b
 g:=X.g
 a:=λ_ _=>False
def oD(X:a_)(b:List bz)(t:dO):Prop:=
 ∀(a:Ψ)(s:ak)(d:aR)(H:ab)(Q:Bool->ab->Prop),aA X a d H s->t d H Q->
  ax 3#0 X.A (mN b ae λc r=>if r=ae then do let e <-IS c X.env (dN c X.env);aX (hW e) else aX (hW r)) (FM X a d Q) X.a s
def ie:dO:=λ_ H Q=>Q ae H
def iu:oD X [] ie:=λ_ _ _ H _ I h=>wpAny_tests_nil (H,I,h)
def lq{t:dO}(h:lF X c t):oD X [c] t:=λa s b H Q I d=>wpAny_tests_one<|h a s b H Q I d
noncomputable def xI(a:List (Option Nat))(b:aR):aR:=a.map λc=>match c with
 |none=>Y
 |some j=>(b[j]?).getD Y
def dU(r:jh)(g:gD)(l:dO)(n:bd)(o:aR)(p:ab)(D:W)(Q:aU):Prop:=
 ∃s:Nat->Nat->aR->ab->Prop,(∃m,s 0 m o (aD p D<|.lst []))/\
 ∀i m c d,s i m c d->(r.a i d/\Q 5#D d)\/(r.b i d/\∀x h,r.c i d x h->g x c h λa q=>l a q λb j=>
  if b=ae then n a j λy k=>∃f e,k D=V (.lst f)/\f.length<bD/\e<m/\s (i+1) e a (aD k D<|.lst<|f++[y])
  else ∃e,e<m/\s (i+1) e a j)
def on(d:jE)(a:List (Option Nat))(g:gD)(e:dO)(f:bd):bd:=λb H Q=>d b H λh c=>∀D,c D=Y->dU h g e f (xI a b) c D Q
def vG(d c:List aq)(a:List (Option Nat))(b:fw):Prop:=
 a.length=c.length/\∀i j:Nat,a[i]?=V (V j)->∃x:aq,c[i]?=V x/\d[j]?=V x/\b.names.lookup x=V .free
def Au{b:List (aq×W)}:∀{a:List (aq×lO)}{e:List (aq×W)},(∀y∈a,y.2=.free->∃d,b.lookup y.1=V d)->(∀p∈e,False)->(aez x c)∈gK b a e->b.lookup x=V c/\(aez x bK)∈a:=by
 have l:∀{a:List (aq×lO)}{e:List (aq×W)},(∀y∈a,y.2=.free->∃d,b.lookup y.1=V d)->(aez x c)∈gK b a e->(aez x c)∈e\/(b.lookup x=V c/\(aez x bK)∈a):=by
  intro a
  induction a with
  |nil=>intro e _ h;exact .inl h
  |cons y r t=>
   intro e j h;obtain⟨n,k⟩:=y;unfold gK at h;have f:∀y∈r,y.2=.free->∃d,b.lookup y.1=V d:=λy u=>j y<|gd _ u
   by_cases m:(k==bK)=ae
   ·have g:k=.free:=by cases k<;>first|rfl|cases m
    obtain⟨d,v⟩:=j (aez n k) fE g;rw[av m] at h;rcases t f h with q|⟨o,s⟩
    ·rcases cz.mp q with q|q
     ·refine .inr (?_,?_)
      ·have i:b.lookup n=V d:=v
       rw[i] at q;cases q;exact i
      ·cases q
       rw[g];exact fE
     ·exact .inl q
    ·exact .inr (o,gd _ s)
   ·rw[am m] at h
    rcases t f h with q|⟨o,s⟩
    ·exact .inl q
    ·exact .inr (o,gd _ s)
 intro a e j w h;rcases l j h with q|q
 ·exact(w _ q).elim
 ·exact q
def Fz:∀(a:List (aq×lO))(h:aW)(b:List (aq×W))(x:aq)(c:W),(aez x c)∈iX h.objs.size a b->(aez x c)∈b\/((aez x cE)∈a/\h.objs.size<=c/\(CG h a).IsCell c Y)
 |[],h,b,x,c,d=>.inl d
 |(aez n k)::r,h,b,x,c,d=>by
  rw[cellsFrom.eq_2] at d;have l:CG h ((aez n k)::r)=if(k==cE)=ae then CG (h.push {cls:=aC "cell",data:=uB Y}) r else CG h r:=O
  by_cases e:(k==cE)=ae
  ·have g:k=.cell:=by cases k<;>first|rfl|cases e
   rw[av e] at d;rw[l,av e];have m:(h.push {cls:=aC "cell",data:=uB Y}).objs.size=h.objs.size+1:=rf ..;rw[<-m] at d;rcases Fz r _ _ x c d with q|⟨i,f,j⟩
   ·rcases cz.mp q with q|q
    ·cases q
     refine .inr (by rw[g];exact fE,aV _,_,Rl r _ _ _<|dg _ O,O)
    ·exact .inl q
   ·rw[m] at f
    exact .inr (gd _ i,SC f,j)
  ·rw[am e] at d
   rw[l,am e];rcases Fz r h b x c d with q|⟨i,f,j⟩
   ·exact .inl q
   ·exact .inr (gd _ i,f,j)
def FA:∀(b:List (aq×lO))(n:Nat)(a:List (aq×W)),(∀x y c,(aez x c)∈a->(aez y c)∈a->x=y)->(∀p∈a,p.2<n)->∀x y c,(aez x c)∈iX n b a->(aez y c)∈iX n b a->x=y
 |[],n,a,f,_,x,y,c,d,e=>f x y c d e
 |(aez m k)::r,n,a,f,g,x,y,c,d,e=>by
  rw[cellsFrom.eq_2] at d e
  by_cases i:(k==cE)=ae
  ·rw[av i] at d e
   refine FA r (n+1) ((aez m n)::a) (λx y c p q=>?_) (λp h=>?_) x y c d e
   ·rcases cz.mp p with p|p<;>rcases cz.mp q with q|q
    ·cases p;cases q;rfl
    ·cases p
     have:n<n:=g _ q;omega
    ·cases q
     have:n<n:=g _ p;omega
    ·exact f x y c p q
   ·rcases cz.mp h with rfl|h
    ·exact zn _
    ·exact lR<|g p h
  ·rw[am i] at d e
   exact FA r n a f g x y c d e
def Ws{M:zc}{A:bO}{E:Ω}{s:ak}{a:fw}{d:W}{i:List (aq×W)}{g:aq}{j:gm}{Q:gm->ak->Prop}(h:∀f:aW,(f.Ns s⁻¹ λ_=>Y)->(∀b o,s.heap.get? b=V o->f.get? b=V o)->
   (∀x c,(aez x c)∈iX (s⁻¹+1) a.names i->(aez x c)∈i\/((aez x cE)∈a.names/\s⁻¹+1<=c/\f.IsCell c Y))->
   Q (newEnv a s⁻¹ d (iX (s⁻¹+1) a.names i) g Y .none (V j) uq) {s with heap:=f}):
  ax M A (newFunctionEnv a d i [] g Y bP<|V j) Q E s:=by
 unfold newFunctionEnv;refine ag<|wpAny_alloc ?_;refine ag<|wpAny_layCells _ (λl m k=>O) a.names i _ _ ?_;have n:(s.heap.push {cls:=aC "dict",data:=kE #[]}).objs.size=s⁻¹+1:=rf ..;have:=h (CG (s.heap.push {cls:=aC "dict",data:=kE #[]}) a.names) ((Heap.Ns.new s.heap<|.type "dict").keeps λb o e=>Rl _ _ _ _ e) (λb o e=>Rl _ _ _ _<|bQ _ e) (λx c p=>by
  rw[<-n] at p ⊢;exact Fz a.names _ i x c p)
 show ax M A _ _ _ _;refine ag<|aG ?_;refine aG ?_;rw[<-n] at this;exact this
noncomputable def jf(X:a_)(a:fw)(f:List aq)(d:List (aq×W))(C:W)(b:ak)(c:ab)(e:List W):a_:={kq X a f d C b c e with f:=λx=>aE<|a.names.lookup x=V .cell}
section
variable{X:a_}{scope:fw}{N':List aq}{caps:List (Option Nat)}{tg iter elt:bz}{ifs:List bz}{wi:jE}{g:gD}{tc:dO}{te:bd}{pos:ci}
def EK{scope:fw}{env:gm}{x:aq}:∀{names:List (aq×lO)},(names.lookup x=V .free\/names.lookup x=V .cell)-> ((names.map λ|aez n k=>if(k==bK&&env.scope.kind==.function&&env.kindOf n==V .cell) then(aez n cE) else(aez n k)).lookup x=V .free \/
   (names.map λ|aez n k=>if(k==bK&&env.scope.kind==.function&&env.kindOf n==V .cell) then(aez n cE) else(aez n k)).lookup x=V .cell)
 |[],h=>by simp at h
 |(aez n k)::r,h=>by
  have c:=@EK scope env x r;show nU x ((if(k==bK&&env.scope.kind==.function&&env.kindOf n==V .cell)=ae then(aez n cE) else(aez n k))::_)=_\/nU x ((if(k==bK&&env.scope.kind==.function&&env.kindOf n==V .cell)=ae then(aez n cE) else(aez n k))::_)=_;cases a:x==n with
  |true=>
   simp only[kY,a] at h
   by_cases b:(k==bK&&env.scope.kind==.function&&env.kindOf n==V .cell)=ae
   ·rw[av b];simp[kY,a]
   ·rw[am b];simp only[kY,a];exact h
  |false=>
   simp only[kY,a] at h
   by_cases b:(k==bK&&env.scope.kind==.function&&env.kindOf n==V .cell)=ae
   ·rw[av b];simp only[kY,a];exact c h
   ·rw[am b];simp only[kY,a];exact c h
def EB{a:gm}{x:aq}{f:lO}:∀{c:List (aq×lO)},(c.map λ|aez n k=>if(k==bK&&a.scope.kind==.function&&a.kindOf n==V .cell) then(aez n cE) else(aez n k)).lookup x=V f->
  ∃g,c.lookup x=V g/\(f=g\/(g=.free/\f=.cell))
 |[],h=>by simp at h
 |(aez n k)::r,h=>by
  have i:=@EB a x f r;have b:nU x ((if(k==bK&&a.scope.kind==.function&&a.kindOf n==V .cell)=ae then(aez n cE) else(aez n k))::_)=V f:=h;cases e:x==n with
  |true=>
   simp only[kY,e]
   by_cases d:(k==bK&&a.scope.kind==.function&&a.kindOf n==V .cell)=ae
   ·rw[av d] at b
    simp only[kY,e] at b;cases b;have j:k=.free:=by
     rw[jP,jP] at d;cases k<;>first|rfl|exact bh d.1.1 ξ
    exact(k,O,.inr (j,O))
   ·rw[am d] at b
    simp only[kY,e] at b;cases b;exact(_,O,.inl O)
  |false=>
   simp only[kY,e]
   by_cases d:(k==bK&&a.scope.kind==.function&&a.kindOf n==V .cell)=ae
   ·rw[av d] at b;simp only[kY,e] at b;exact i b
   ·rw[am d] at b;simp only[kY,e] at b;exact i b
structure NR(X:a_)(pins:Ψ)(σ:aR)(H':ab)(s4:ak)(C:W):Prop where
 ns:∃m,s4.heap.Ns C m
 g:X.d⁻¹<=C
 d:C≠X.env.locals
 b:∀x c,X.env.cells.lookup x=V c->c≠C
 f:∀p∈X.g++pins,p.1≠C
 a:H' C=Y
 e:∀h',i_ C s4.heap h'->aA X pins σ H' {s4 with heap:=h'}
def Ns{R:Ω}(hc:X.b=ae)(hk:scope.kind=.function)(b5:∀y∈scope.names,y.2=.cell->scope.names.lookup y.1=V .cell)(b6:∀y∈scope.names,y.2=.free->scope.names.lookup y.1=V .free)(b7:∀y∈scope.names,y.2=.local->scope.names.lookup y.1=V .local)(c6:∀y∈scope.names,y.2=.free->X.env.kindOf y.1=V .cell\/X.env.kindOf y.1=V .free)(c4:vG X.N N' caps scope)(hi:jU X tg iter wi)(hg:∀cl C a6 a7 ex,lH (jf X scope N' cl C a6 a7 ex) tg g)(ht:∀cl C a6 a7 ex,oD (jf X scope N' cl C a6 a7 ex) ifs tc)(he:∀cl C a6 a7 ex,bG (jf X scope N' cl C a6 a7 ex) elt te)(hs:∀x,sB iter X.env x=aX x){s:ak}(I:aA X l σ H s)(h:on wi caps g tc te σ H Q)(fin:∀(D C:W)(A:ab)(s4:ak)(f:Flow),NR X l σ A s4 C->Q 5#D A->Ry 3#0 X.A X.a use R 5#D C (.ok f) s4):ax 3#0 X.A (Rx (.ListComp elt [(tg,iter,ifs,0)] scope pos) scope X.env pp (IR []) (Ru [(tg,iter,ifs,0)]) (Rt [(tg,iter,ifs,0)] X.env) use) R X.a s:=by
 have a9:∀y∈scope.names,y.2=.free->∃c,X.env.cells.lookup y.1=V c:=λy hy e=>I.b.has y.1<|c6 y hy e;refine wpAny_comprehension_free (use:=use) O hs (Xz a9) hk b7 ?_;refine bH (hi l s σ H _ I h) λxv s1 h1=>bH h1 λi9 s2 h2=>?_;obtain⟨it,fp,tn,j2,H2,e,I2,T,c7,f2,q⟩:=h2;subst e;have b8:H2 s2⁻¹=Y:=I2.a.B<|aV _;obtain⟨j3,⟨m0,w0⟩,d5⟩:=q s2⁻¹ b8;refine nc<|Ws λE a0 K L=>?_;dsimp only at a0 K L ⊢;generalize hD:s2⁻¹=D at *;obtain⟨k,e3⟩:∃k:ak,k={s2 with heap:=s2.heap.push {cls:=.type "list",dict:=Y,data:=.seq ([]:List aa).toArray}}:=(_,O);have h3:k.heap=s2.heap.push {cls:=.type "list",dict:=Y,data:=.seq ([]:List aa).toArray}:=by rw[e3]
 rw[<-h3] at a0 K L ⊢;have b0:k⁻¹=D+1:=by rw[h3,rf,hD]
 have I3:aA X l σ (aD H2 D<|.lst []) k:=by
  rw[e3,<-hD];exact I2.C1 (t':=s2.toks) (ys:=[]) .nil<|eY _
 obtain⟨Xc,M⟩:∃Xc,Xc=jf X scope N' (iX (k⁻¹+1) scope.names<|gK X.env.cells scope.names []) k⁻¹ k (aD H2 D<|.lst []) fp:=(_,O);have f9:lH Xc tg g:=by rw[M];exact hg _ _ _ _ _
 have g0:oD Xc ifs tc:=by rw[M];exact ht _ _ _ _ _
 have g1:bG Xc elt te:=by rw[M];exact he _ _ _ _ _
 have xP:Xc.prog=X.prog:=by rw[M];rfl
 have xw:Xc.w=X.w:=by rw[M];rfl
 have xK:Xc.K=X.K:=by rw[M];rfl
 have xA:Xc.A=X.A:=by rw[M];rfl
 have xc:Xc.b=ae:=by rw[M];exact hc
 have xe:Xc.env=CH scope (iX (k⁻¹+1) scope.names<|gK X.env.cells scope.names []) k⁻¹ X.env:=by rw[M];rfl
 have xE:Xc.a=λ_ _=>False:=by rw[M];rfl
 have U:∀x c,(iX (k⁻¹+1) scope.names<|gK X.env.cells scope.names []).lookup x=V c->(X.env.cells.lookup x=V c/\scope.names.lookup x=V .free)\/(scope.names.lookup x=V .cell/\k⁻¹+1<=c/\E.IsCell c Y):=λx c e=>by
  rcases L x c (oV e) with q|⟨q1,q2,q3⟩
  ·obtain⟨q4,q5⟩:=Au a9 (λp hp=>bh hp 0#0) q
   exact .inl (q4,b6 _ q5 O)
  ·exact .inr (b5 _ q1 O,q2,q3)
 have d6:∀p∈gK X.env.cells scope.names [],p.2<k⁻¹+1:=λp hp=>by
  obtain⟨q4,_⟩:=Au a9 (λp hp=>bh hp 0#0) (x:=p.1) (c:=p.2) hp;obtain⟨v,o,ho,_⟩:=I3.g p.1 p.2 q4;exact lR<|cy ho
 have b1:∀b∈fp,b≠D/\b<D:=λb w=>by
  obtain⟨ob,eb,_⟩:=T.a 0 _ c7 b w;have:=cy eb;rw[hD] at this;exact(cM this,this)
 have j0:∀b∈l_ X.c,b<D:=λb w=>by
  obtain⟨_,ob,eb,_⟩:=I2.B6.mem w;have:=cy eb;rw[hD] at this;exact this
 have P:∀b o,k.heap.get? b=V o->E.get? b=V o:=K;have g2:(aD H2 D<|.lst []) k⁻¹=Y:=I3.a.B<|aV _;have Ic:aA Xc l (xI caps σ) (aD H2 D<|.lst []) {k with heap:=E}:=by
  have g3:Xc.F:=by
   rw[M];refine(I.b.e,hk,I.b.g,I.b.p,aV _,λx y c a b=>FA scope.names _ _ (λx y c p q=>I.b.q x y c (Au a9 (λp hp=>bh hp 0#0) p).1 (Au a9 (λp hp=>bh hp 0#0) q).1) d6 x y c (oV a)<|oV b,λx hx=>?_,(λx c a e=>by
    rcases U x c e with ⟨_,q⟩|⟨_,q,_⟩
    ·have a':=fc a
     rw[q] at a';cases a'
    ·exact SC q),I.b.a,I.b.m,.inl O,λb w=>(?_,λx c e=>?_),λb o e=>?_,?_,λb o e z=>?_,λb w z=>?_,?_,λb w=>?_)
   ·have g4:(relabel scope X.env).names.lookup x=V .cell\/(relabel scope X.env).names.lookup x=V .free:=hx
    have g5:∃k',scope.names.lookup x=V k'/\(k'=.free\/k'=.cell):=by
     rcases g4 with q|q
     ·obtain⟨k',e1,G⟩:=EB q
      rcases G with G|⟨G,_⟩
      ·exact(k',e1,.inr G.symm)
      ·exact(k',e1,.inl G)
     ·obtain⟨k',e1,G⟩:=EB q
      rcases G with G|⟨G,_⟩
      ·exact(k',e1,.inl G.symm)
      ·exact(k',e1,.inl G)
    obtain⟨k',e1,G⟩:=g5;have hm:=oV e1;rcases G with rfl|rfl
    ·obtain⟨c,g6⟩:=Av (cells:=X.env.cells) (acc:=[])<|.inl hm
     obtain⟨d,hd⟩:=Fj g6;exact Dq.mp<|CP scope.names (k⁻¹+1) _<|.inr (by rw[hd];rfl)
    ·exact Dq.mp<|CP scope.names (k⁻¹+1) _<|.inl e1
   ·show b≠k⁻¹
    exact cM (by rw[b0];exact lR (b1 b w).2)
   ·rcases U x c e with ⟨q,_⟩|⟨_,q,_⟩
    ·exact(f2 b w).2.2.2.2.1 x c q
    ·have h1:b<k⁻¹+1:=by rw[b0];exact lR<|lR (b1 b w).2
     exact jx<|fI h1 q
   ·exact I3.bs b o e
   ·exact dq I.b.h I3.sz
   ·obtain⟨f,_,_,fx,_,_⟩:=f2 b z
    rcases fx with fx|fx
    ·exact I.b.i b o e fx
    ·have:=fI (cy e) I.b.h
     exact ø this fx
   ·rcases cz.mp (I2.A7 b z) with r|r
    ·exact(f2 b w).2.1 r
    ·exact(f2 b w).2.2.1 r
   ·exact I3.B6
   ·exact I3.C3 b w
  refine(g3,(by rw[M];rfl),I3.d,?_,?_,λx c e=>?_,?_,λx c e=>?_,λp hp=>?_,?_,?_)
  ·rw[M]
   exact oC.B P
  ·rw[xe]
   refine(_,a0,λi x v e1 G e3=>?_);obtain⟨c1,c2⟩:=c4;unfold xI at G;rw[bV] at G;cases e4:caps[i]? with
   |none=>rw[e4] at G;cases G
   |some cc=>
    rw[e4] at G;cases cc with
    |none=>cases G
    |some j=>
     obtain⟨y,d1,d2,d3⟩:=c2 i j e4;have d7:N'[i]?=V x:=by rw[M] at e1;exact e1
     rw[d1] at d7;have g7:y=x:=bM d7;subst g7;have e5:σ[j]?=V (V v):=by
      simp only[nj,oZ] at G;cases e6:σ[j]? with
      |none=>rw[e6] at G;cases G
      |some ov=>rw[e6] at G;simp only[sR] at G;rw[G]
     have hm:=oV d3;have g8:Ay X.env.scope y:=by
      rcases c6 _ hm O with q|q
      ·exact .inr<|.inl q
      ·exact .inr<|.inr q
     obtain⟨m,_,hl⟩:=I3.e;obtain⟨u,ru,lk⟩:=hl j y v d2 e5 g8;refine(u,ru,?_);have g9:∃c,X.env.cells.lookup y=V c/\k.heap.IsCell c (V u):=by
      rcases lk with ⟨k1,_⟩|⟨_,c,k2,k3⟩
      ·rcases c6 _ hm O with q|q
       ·rw[k1] at q;cases q
       ·rw[k1] at q;cases q
      ·exact(c,k2,k3)
     obtain⟨c,k2,k3⟩:=g9;obtain⟨d,h0⟩:=Av (cells:=X.env.cells) (acc:=[])<|.inl hm;obtain⟨d',h5⟩:=Fj h0;obtain⟨d2,d8⟩:=Dq.mp<|CP scope.names (k⁻¹+1) (gK X.env.cells scope.names []) (x:=y)<|.inr (by rw[h5];rfl);have:c=d2:=by
      rcases U y d2 d8 with ⟨q,_⟩|⟨q,_⟩
      ·rw[k2] at q
       exact bM q
      ·rw[d3] at q;cases q
     subst this;refine .inr (?_,c,d8,k3.keeps P);have rl:=EK (scope:=scope) (env:=X.env) (x:=y) (names:=scope.names)<|.inl d3;rcases rl with q|q
     ·exact .inr q
     ·exact .inl q
  ·rw[xe] at e
   rcases U x c e with ⟨q,_⟩|⟨_,_,q⟩
   ·obtain⟨v,k3⟩:=I3.g x c q
    exact(v,k3.keeps P)
   ·exact(_,q)
  ·rw[xe];exact g2
  ·rw[xe] at e
   rcases U x c e with ⟨q,_⟩|⟨_,q,_⟩
   ·exact I3.j x c q
   ·exact I3.a.B<|SC q
  ·have i0:p∈X.g++l:=by rw[M] at hp;exact hp
   obtain⟨a1,a2,a3,a4,a5⟩:=I3.f p i0;refine(P _ _ a1,a2,?_,?_,a5)
   ·rw[xe]
    show p.1≠k⁻¹;exact cM<|cy a1
   ·rw[M]
    intro z;rcases cz.mp (I3.A7 p.1 z) with r|r
    ·exact a3 r
    ·exact a4 r
  ·rw[xP,xw]
   exact I3.a.J P
  ·unfold xI
   rw[au,c4.1,M]
   rfl
 have c8:∀{t:aR}{A:ab}{s4:ak}{h':aW},aA Xc l t A s4->i_ k⁻¹ s4.heap h'->aA X l σ A {s4 with heap:=h'}:=λ{t A s4 h'} I4 a8=>by
  have b9:∀b o,s2.heap.get? b=V o->b≠D/\b≠k⁻¹:=λb o e=>by
   have w:=cy e;rw[hD] at w;exact(cM w,cM (by rw[b0];exact lR w))
  have c0:∀b o,s2.heap.get? b=V o->k.heap.get? b=V o:=λb o e=>by rw[h3];exact bQ _ e
  have S:oC (l_ X.c) fp (aD H2 D<|.lst []) A k.heap s4.heap:=by
   have:=I4.base;rw[M] at this;exact this
  have d9:A k⁻¹=Y:=by
   have:=I4.h;rw[xe] at this;exact this
  have i1:s4.os=s2.os:=by
   have:=I4.k;rw[M] at this;rw[this];show k.os=s2.os;rw[e3]
  refine I2.A8 (s':={s4 with heap:=h'}) (ch:=fp) i1 (λb o q n w hx=>?_,λb o q n w hx=>?_,λb o q n hx=>?_,λb o q hx=>?_,λb xs q=>?_,λb o u q=>?_,λb ps q=>?_) ?_ I4.d λb w=>?_
  ·obtain⟨n1,n2⟩:=b9 b o q
   exact(a8.2 b n2).trans<|S.a b o (c0 b o q) (by rw[aZ n1];exact n) w hx
  ·obtain⟨n1,n2⟩:=b9 b o q
   obtain⟨sl,e⟩:=S.d b o (c0 b o q) (by rw[aZ n1];exact n) w hx;exact(sl,(a8.2 b n2).trans e)
  ·obtain⟨n1,n2⟩:=b9 b o q
   exact S.c b o (c0 b o q) (by rw[aZ n1];exact n) hx
  ·obtain⟨n1,n2⟩:=b9 b o q
   obtain⟨o',e⟩:=S.f b o (c0 b o q) hx;exact(o',(a8.2 b n2).trans e)
  ·exact S.i b xs (by rw[aZ<|cN q b8];exact q)
  ·exact S.g b o u (by rw[aZ<|cN q b8];exact q)
  ·exact S.e b ps (by rw[aZ<|cN q b8];exact q)
  ·intro b u e
   have e0:=I4.a b u e;rw[xP,xw] at e0;refine e0.B (λc v hc q=>(a8.2 c ?_).trans q) (λ_ q=>q) λ_ _ q=>q;rintro rfl;rcases hc with z|z
   ·rw[<-z,d9] at e;cases e
   ·rw[d9] at z;cases z
  ·obtain⟨f0,f1,f3,f4,f5,f6⟩:=f2 b w
   exact(f4,f1,f5,f6)
 have b2:∀{A:ab},(∀b∈fp,A b=Y)->∀b∈fp,fF Xc l A b:=λ{A} hn b w=>by
  obtain⟨f0,f1,f3,f4,f5,f6⟩:=f2 b w;refine(hn b w,?_,?_,.inl (by rw[M];exact w),λx c e=>?_,λp hp=>?_)
  ·rw[xe]
   show b≠k⁻¹;exact cM (by rw[b0];exact lR (b1 b w).2)
  ·rw[M]
   intro z;rcases cz.mp (I2.A7 b z) with r|r
   ·exact f1 r
   ·exact f3 r
  ·rw[xe] at e
   rcases U x c e with ⟨q,_⟩|⟨_,q,_⟩
   ·exact f5 x c q
   ·have h1:b<k⁻¹+1:=by rw[b0];exact lR<|lR (b1 b w).2
    exact jx<|fI h1 q
  ·rw[M] at hp
   exact f6 p hp
 subst M;have c5:∀n s',(∃i t A,aA (jf X scope N' (iX (k⁻¹+1) scope.names<|gK X.env.cells scope.names []) k⁻¹ k (aD H2 D<|.lst []) fp) l t A s'/\tn i s'.heap/\(∀b∈fp,A b=Y)/\j3 i n t A)->
   iD 3#0 X.A (.compLoop (.ListComp elt [(tg,iter,ifs,0)] scope pos) 0 5#it 5#D<|CH scope (iX (k⁻¹+1) scope.names<|gK X.env.cells scope.names []) k⁻¹ X.env) (Ry 3#0 X.A X.a use R 5#D k⁻¹) s':=by
  intro n0 j1 i2;refine codeAny_loop O (λn s'=>∃i t A,aA (jf X scope N' (iX (k⁻¹+1) scope.names<|gK X.env.cells scope.names []) k⁻¹ k (aD H2 D<|.lst []) fp) l t A s'/\tn i s'.heap/\(∀b∈fp,A b=Y)/\j3 i n t A) (λn s' hI=>?_) n0 i2;obtain⟨i,t,A,I',e7,e8,w'⟩:=hI;show ax _ X.A ((compTurn (.ListComp elt [(tg,iter,ifs,0)] scope pos) 0 5#it 5#D<|CH scope (iX (k⁻¹+1) scope.names<|gK X.env.cells scope.names []) k⁻¹ X.env).onRaise (λx=>do noteFrame x (CH scope (iX (k⁻¹+1) scope.names<|gK X.env.cells scope.names []) k⁻¹ X.env);theTreesLotGoes x)) _ _ s';refine wpAny_noted ?_;rw[compTurn_list];refine ag<|QU<|ag ?_;rcases d5 i n t A w' with ⟨f7,qn⟩|⟨go,f8⟩
  ·refine bH (T.done (jf X scope N' (iX (k⁻¹+1) scope.names<|gK X.env.cells scope.names []) k⁻¹ k (aD H2 D<|.lst []) fp) O O O hc i l s' t A _ I' (b2 e8) e7 f7) λr s4 (hr,I4)=>?_
   subst hr;refine aG ?_;obtain⟨m,hn,_⟩:=id I4.e;refine fin D _ A s4 _ ((m,hn),I3.sz,λe=>?_,λx c e=>?_,λp hp=>cM<|cy (I3.f p hp).1,I4.h,λh' a8=>c8 I4 a8) qn
   ·obtain⟨m3,i3,_⟩:=I3.e
    obtain⟨o3,_,_,c9,_⟩:=i3;exact bh e.symm<|cM<|cy c9
   ·obtain⟨v,hv⟩:=I3.g x c e
    obtain⟨o3,c9,_⟩:=hv;exact cM<|cy c9
  ·refine bH (T.d (jf X scope N' (iX (k⁻¹+1) scope.names<|gK X.env.cells scope.names []) k⁻¹ k (aD H2 D<|.lst []) fp) O O O hc i l s' t A _ I' (b2 e8) e7 go) λr s4 (u,hr,h4)=>?_
   subst hr;refine ag<|bH h4 λ_ s5 (x,H5,I5,r5,y5,d0,i4)=>?_;have i5:=I5.C6 (b2 i4)<|T.a _ _ d0;refine ag<|kB (f9 _ s5 t H5 x u _ i5 r5<|f8 x H5 y5) (λ_ s6 h6=>?_) λ_ _ z=>z.elim;obtain⟨d4,H6,I6,q6⟩:=h6;refine ag<|kB (g0 _ s6 d4 H6 _ I6 q6) (λok s7 h7=>?_) λ_ _ z=>z.elim;obtain⟨H7,I7,q7⟩:=h7;have b3:∀{c3:aR}{H8:ab}{s8:ak}{m':Nat},aA (jf X scope N' (iX (k⁻¹+1) scope.names<|gK X.env.cells scope.names []) k⁻¹ k (aD H2 D<|.lst []) fp) (l++xt fp s5.heap) c3 H8 s8->m'<n->j3 (i+1) m' c3 H8->
     ∃m,m<n/\∃i t A,aA (jf X scope N' (iX (k⁻¹+1) scope.names<|gK X.env.cells scope.names []) k⁻¹ k (aD H2 D<|.lst []) fp) l t A s8/\tn i s8.heap/\(∀b∈fp,A b=Y)/\j3 i m t A:=λ{c3 H8 s8 m'} I8 hm w8=>by
    refine(m',hm,i+1,c3,H8,I8.B4,T.c _ _ _ d0 λb w o e=>(I8.f (aez b o)<|jO _<|jO _<|Am w e).1,λb w=>?_,w8);obtain⟨o,e,d⟩:=T.a _ _ d0 b w;exact(I8.f (aez b o)<|jO _<|jO _<|Am w e).2.1
   cases ok with
   |false=>
    obtain⟨m',hm,w7⟩:=q7;exact aG (O,b3 I7 hm w7)
   |true=>
    refine ag<|ag<|kB (g1 _ s7 d4 H7 _ I7 q7) (λv s8 h8=>?_) λ_ _ z=>z.elim;obtain⟨y,H8,I8,r8,ys,m',i6,i7,i8,w8⟩:=h8;refine ag<|kB (rI (X:=jf X scope N' (iX (k⁻¹+1) scope.names<|gK X.env.cells scope.names []) k⁻¹ k (aD H2 D<|.lst []) fp) _ s8 d4 H8 5#D [y] 5#D [v] (λ_ H9=>H9=aD H8 D (.lst<|ys++[y])) I8 O (.cons r8 .nil) (D,ys,y,O,O,i6,i7,O)) (λ_ s9 h9=>?_) λ_ _ z=>z.elim;obtain⟨_,H9,I9,_,e9⟩:=h9;subst e9;exact aG<|aG (O,b3 I9 i8 w8)
 have b4:∃i t A,aA (jf X scope N' (iX (k⁻¹+1) scope.names<|gK X.env.cells scope.names []) k⁻¹ k (aD H2 D<|.lst []) fp) l t A {k with heap:=E}/\tn i ({k with heap:=E}:ak).heap/\(∀b∈fp,A b=Y)/\j3 i m0 t A:=by
  refine(0,xI caps σ,aD H2 D<|.lst [],Ic,T.c 0 _ _ c7 λb w o e=>P b o (by rw[h3];exact bQ _ e),λb w=>?_,w0);rw[aZ (b1 b w).1];exact(f2 b w).1
 have es:({s2 with heap:=E}:ak)={k with heap:=E}:=by rw[e3]
 show iD 3#0 X.A _ _ ({s2 with heap:=E}:ak);rw[es];refine codeAny_compStart_list (c5 m0 _ b4)<|T.e _ 0 _ _ _ ?_<|c5 m0 _ b4;exact T.c 0 _ _ c7 λb w o e=>P b o (by rw[h3];exact bQ _ e)
def vB(c:∀y∈scope.names,y.2≠.cell)(d:List (aq×W))(C:W)(a:ak)(b:ab)(f:List W):kq X scope N' d C a b f=jf X scope N' d C a b f:=by
 unfold jf;have:(λx=>aE<|scope.names.lookup x=V cE)=λ_=>aB:=by
  funext x
  exact cw λe=>c _ (oV e) O
 rw[this]
 rfl
def Xw{R:Ω}(t:X.b=ae)(u:scope.kind=.function)(c:∀y∈scope.names,y.2≠.cell)(j:∀y∈scope.names,y.2=.free->scope.names.lookup y.1=V .free)(k:∀y∈scope.names,y.2=.local->scope.names.lookup y.1=V .local)(n:∀y∈scope.names,y.2=.free->X.env.kindOf y.1=V .cell\/X.env.kindOf y.1=V .free)(m:vG X.N N' caps scope)(v:jU X tg iter wi)(w:∀d C a b i,lH (kq X scope N' d C a b i) tg g)(z:∀d C a b i,oD (kq X scope N' d C a b i) ifs tc)(A:∀d C a b i,bG (kq X scope N' d C a b i) elt te)(E:∀x,sB iter X.env x=aX x){s:ak}(I:aA X l o H s)(h:on wi caps g tc te o H Q)(fin:∀(D C:W)(p:ab)(q:ak)(f:Flow),NR X l o p q C->Q 5#D p->Ry 3#0 X.A X.a use R 5#D C (.ok f) q):ax 3#0 X.A (Rx (.ListComp elt [(tg,iter,ifs,0)] scope pos) scope X.env r (IR []) (Ru [(tg,iter,ifs,0)]) (Rt [(tg,iter,ifs,0)] X.env) use) R X.a s:=
 Ns t u (λy G e=>bh e<|c y G) j k n m v (λd C a b i=>vB (X:=X) (N':=N') c d C a b i▸w d C a b i) (λd C a b i=>vB (X:=X) (N':=N') c d C a b i▸z d C a b i) (λd C a b i=>vB (X:=X) (N':=N') c d C a b i▸A d C a b i) E I h fin
def Wh(p:X.b=ae)(r:scope.kind=.function)(e:∀y∈scope.names,y.2≠.cell)(c:∀y∈scope.names,y.2=.free->scope.names.lookup y.1=V .free)(d:∀y∈scope.names,y.2=.local->scope.names.lookup y.1=V .local)(l:∀y∈scope.names,y.2=.free->X.env.kindOf y.1=V .cell\/X.env.kindOf y.1=V .free)(i:vG X.N N' caps scope)(t:jU X tg iter wi)(u:∀j C a b k,lH (kq X scope N' j C a b k) tg g)(v:∀j C a b k,oD (kq X scope N' j C a b k) ifs tc)(w:∀j C a b k,bG (kq X scope N' j C a b k) elt te)(z:∀x,sB iter X.env x=aX x:=by intro _;rfl):bG X (.ListComp elt [(tg,iter,ifs,0)] scope pos) (on wi caps g tc te):=by
 intro o s K H Q I h;rw[eval_ListComp];refine Xw (use:=Y) p r e c d l i t u v w z I h λD C A M f L q=>?_;obtain⟨m,E⟩:=L.ns;exact(m,E,λG n=>(.ref D,A,L.e G n,O,q))
end
section
variable{prog:bu}{w:bf}{A:bO}{E:Ω}{s:ak}
def Ts{c t:W}{i:Nat}{Q:Ω}(b:s.heap.IsTupleIter c t i)(j:s.heap.IsTuple t a)(k:a[i]?=V x)(l:∀f,f.IsTupleIter c t (i+1)->i_ c s.heap f->Q x {s with heap:=f}):ax 2#0 A (sO<|.ref c) Q E s:=by
 obtain⟨o,e,m,d⟩:=id b;obtain⟨n,g,_,p,h⟩:=j;unfold sO;refine ag<|pY (name:=jv "__next__") b.typeIs Jq<|mE Jq b.typeIs ags ?_<|agy _;show ax _ _ (qW 5#c 0 >>= _) _ _ s;refine ag<|jJ e d (x:=.ref t) O ?_;show ax _ _ (if(Z t==bP)=ae then _ else _) _ _ s;rw[am<|show ¬((Z t==bP)=ae) from dY];show ax _ _ (qW 5#c 1 >>= _) _ _ s;refine ag<|jJ e d (x:=.int i 0) O ?_;show ax _ _ (um 5#t >>= _) _ _ s;refine ag<|iU g h ?_;simp only[tj,k];refine ag<|Cz e d 0#0<|aG (x,O,aG<|l _ ?_<|jw ..);exact(_,rh _ e<|af9<|Jh d _,(aga ..).trans m,by
  rw[Jh d];simp[fP])
def Tt{d t:W}{i:Nat}{b:Array aa}(l:A.handled=Y)(c:s.heap.IsTupleIter d t i)(n:s.heap.IsTuple t b)(p:b[i]?=Y)(q:∀f e,Jn d s.heap f->(∃o,f.get? e=V o/\o.cls=.type "StopIteration")->E 5#e {s with heap:=f}):ax 2#0 A (sO<|.ref d) Q E s:=by
 obtain⟨o,g,r,h⟩:=id c;obtain⟨u,j,_,v,k⟩:=n;unfold sO;refine ag<|pY (name:=jv "__next__") c.typeIs Jq<|mE Jq c.typeIs ags ?_<|agy _;show ax _ _ (qW 5#d 0 >>= _) _ _ s;refine ag<|jJ g h (x:=.ref t) O ?_;show ax _ _ (if(Z t==bP)=ae then _ else _) _ _ s;rw[am<|show ¬((Z t==bP)=ae) from dY];show ax _ _ (qW 5#d 1 >>= _) _ _ s;refine ag<|jJ g h (x:=.int i 0) O ?_;show ax _ _ (um 5#t >>= _) _ _ s;refine ag<|iU j k ?_;simp only[tj,p];refine ag<|mD<|ag<|Cz g h 0#0 ?_;show ax _ _ (yS (.type "StopIteration") [] >>= _) _ _ _;refine ag ?_;simp only[yS,Ro];refine ag<|nc ?_ (by size_fits);refine ag (m:=Rv _ _)<|oU (a:=bP) (by first|rfl|(simp only[firstArgMember];rfl)) ?_;refine nc ?_ (by size_fits);simp only[Rk];refine ag<|Q_ ?_
 first|rw[show A.in1.handled=Y from l]|rw[l]
 refine ag<|aG<|QT ?_;exact q _ _ (((jw ..).extBut.push _).push _) (_,dg _ O,O)
end
def Tu{h c:aW}{b:Array aa}(x:h.IsTuple a b)(e:∀o,h.get? a=V o->c.get? a=V o):c.IsTuple a b:=let ⟨o,d,r⟩:=x;(o,e o d,r)
def Kt{A:bO}(m:A.handled=Y)(d t:W)(j:t≠d)(a:Array aa):wF c w A d [d,t] a.size (λi v=>a[i]?=V v) (λi h=>h.IsTupleIter d t i/\h.IsTuple t a) where
 live:=λ_ _ b=>let ⟨o,n,_⟩:=b.1;(o,n)
 frame:=λ_ _ _ b k=>(b.1.at λo e=>k d 0#0 o e,Tu b.2 λo e=>k t 0#0 o e)
 item:=λi s Q E l b p=>by
  refine Ts b.1 b.2 (x:=a[i]) (by simp[l]) λq f g=>?_;exact p _ q s.toks (by simp[l]) (f,b.2.extBut g.extBut j) g
 done:=λs Q E b r=>Tt m b.1 b.2 0#0 r
structure zH(z TI TO i1 i2:W)(fp1 fp2:List W):Prop where
 e:z∉fp1
 d:z∉fp2
 g:TO∉fp1
 f:TO∉fp2
 b:i1∈fp1
 c:i2∈fp2
 i:i1∉fp2
 m:i2∉fp1
 h:TI≠z
 a:TO≠z
 l:TI≠TO
 k:TI≠i1
 j:TI≠i2
section
variable{prog:bu}{w:bf}{A:bO}{E:Ω}{s:ak}{z TI TO i1 i2:W}{fp1 fp2:List W}{n1 n2 i:Nat}{P1 P2:Nat->aa->Prop}{S1 S2:Nat->aW->Prop}{a b:aa}
def Tp{Q:Ω}(P:wF prog w A i1 fp1 n1 P1 S1)(R:wF prog w A i2 fp2 n2 P2 S2)(D:zH z TI TO i1 i2 fp1 fp2)(p:mG s.heap z TI TO .none)(a0:jL s.heap TI 5#i1 5#i2)(a1:jL s.heap TO a b)(h1:S1 i s.heap)(h2:S2 i s.heap)(l1:i<n1)(l2:i<n2)(hQ:∀x y g tk,P1 i x->P2 i y->mG g z TI TO (fP s⁻¹)->jL g TO x y->S1 (i+1) g->S2 (i+1) g->jL g s⁻¹ x y->g.objs.size=s⁻¹+1->
   (∀c o,c≠z->c≠TO->c≠i1->c≠i2->s.heap.get? c=V o->g.get? c=V o)->Q (.ref s⁻¹) {s with heap:=g,toks:=tk}):
  ax 2#0 A (Builtin.«zip.__next__» ([.ref z],[])) (λfin s'=>∃v,fin=.done (.ret v)/\Q v s') E s:=by
 have h:∀c∈fp1,c≠z:=λc d e=>D.e<|e▸d;have j:∀c∈fp2,c≠z:=λc d e=>D.d<|e▸d;have k:∀c∈fp1,c≠TO:=λc d e=>D.g<|e▸d;have l:∀c∈fp2,c≠TO:=λc d e=>D.f<|e▸d;have a2:∀c∈fp2,c≠i1:=λc d e=>D.i<|e▸d;have a3:∀c∈fp1,c≠i2:=λc d e=>D.m<|e▸d;have a4:i1≠z:=h _ D.b;have a5:i2≠z:=j _ D.c;have q:TO≠i1:=(k _ D.b).symm;have r:TO≠i2:=(l _ D.c).symm;show ax _ _ (qW 5#z 2 >>= _) _ _ _;refine ag<|jJ p O (x:=.bool aB) O ?_;show ax _ _ (qW 5#z 3 >>= _) _ _ _;refine ag<|jJ p O (x:=.ref TI) O ?_;refine ag<|iU a0 O ?_;show ax _ _ (Jx 5#z >>= _) _ _ _;refine ag ?_;unfold Jx;refine ag<|jJ p O (x:=.none) O<|aG ?_;simp only[eD];refine ag<|mD ?_;refine ag<|jJ p O (x:=.ref TO) O ?_;refine ag<|oT p 0#0 λg1 m t=>?_;replace m:mG g1 z TI TO .ellipsis:=m;refine ag ?_;simp only[ah8,ah7,JY,SR];refine ag<|ag<|ID ?_;show ax _ _ (sO 5#i1 >>= _) _ _ _;refine ag<|P.item i _ _ _ l1 (P.frame _ _ _ h1 λc d o e=>t.extBut c o (h c d) e) λx g2 a6 px s2 u=>aG ?_;have t2:jL g2 TO a b:=u.extBut _ _ q<|t.extBut _ _ D.a a1;refine ag<|iU t2 O ?_;refine ag<|QS t2 λg3 t3 C=>?_;replace t3:jL g3 TO x b:=t3;refine ag<|kf<|aG ?_;refine ag<|ag<|ID ?_;show ax _ _ (sO 5#i2 >>= _) _ _ _;refine ag<|R.item i _ _ _ l2 (R.frame _ _ _ h2 λc d o e=>C.extBut c o (l c d)<|u.extBut c o (a2 c d)<|t.extBut c o (j c d) e) λy g4 a7 py s4 G=>aG ?_;have t4:jL g4 TO x b:=G.extBut _ _ r t3;refine ag<|iU t4 O ?_;refine ag<|QS t4 λf S H=>?_;replace S:jL f TO x y:=S;refine ag<|kf<|aG<|aG ?_;refine ag<|iU S O ?_;refine ag<|IF ?_;have I:f.objs.size=s⁻¹:=by rw[H.1,G.1,C.1,u.1,t.1]
 have z5:mG f z TI TO .ellipsis:=H.extBut _ _ D.a.symm<|G.extBut _ _ a5.symm<|C.extBut _ _ D.a.symm<|u.extBut _ _ a4.symm m;have kk:∀c o,c≠z->c≠TO->c≠i1->c≠i2->s.heap.get? c=V o->f.get? c=V o:=λc o n T c3 c4 e=>
  H.extBut _ _ T<|G.extBut _ _ c4<|C.extBut _ _ T<|u.extBut _ _ c3<|t.extBut _ _ n e
 have d1:S1 (i+1) f:=P.frame _ _ _ s2 λc d o e=>H.extBut c o (k c d)<|G.extBut c o (a3 c d)<|C.extBut c o (k c d) e;have d2:S2 (i+1) f:=R.frame _ _ _ s4 λc d o e=>H.extBut c o (l c d) e;have K:z<f.objs.size:=cy z5;have e1:∀c∈fp1,∀o,f.get? c=V o->c<f.objs.size:=λc _ o e=>cy e;show ax _ _ (ag9 5#z (.ref f.objs.size) >>= _) _ _ _;refine ag ?_;unfold ag9;have z6:mG (f.push {cls:=.type "tuple",data:=.seq #[x,y]}) z TI TO .ellipsis:=bQ _ z5;refine ag<|oT z6 0#0 λg7 z7 k7=>?_;replace z7:mG g7 z TI TO (fP f.objs.size):=z7;refine oT z7 0#0 λL U k8=>?_;replace U:mG L z TI TO (fP f.objs.size):=U;have X:∀c o,c≠z->f.get? c=V o->L.get? c=V o:=λc o n e=>k8.extBut _ _ n<|k7.extBut _ _ n<|bQ _ e;have T8:jL L f.objs.size x y:=k8.extBut _ _ (jx K)<|k7.extBut _ _ (jx K)<|dg _ O;have M:L.objs.size=f.objs.size+1:=by rw[k8.1,k7.1,rf]
 rw[I] at U T8 M;refine aG (_,O,?_);show Q (.ref f.objs.size) _;rw[I];exact hQ x y L _ px py U (X _ _ D.a S) (P.frame _ _ _ d1 λc d o e=>X c o (h c d) e) (R.frame _ _ _ d2 λc d o e=>X c o (j c d) e) T8 M λc o n T c3 c4 e=>X c o n<|kk c o n T c3 c4 e
def Tq(v:wF prog w A i1 fp1 n1 P1 S1)(D2:wF prog w A i2 fp2 n2 P2 S2)(D:zH z TI TO i1 i2 fp1 fp2)(l:mG s.heap z TI TO .none)(y:jL s.heap TI 5#i1 5#i2)(C:jL s.heap TO a b)(h1:S1 i s.heap)(h2:S2 i s.heap)(m:i=n1\/(i<n1/\i=n2))(hE:∀G e tk,(∀c o,c≠z->c≠TO->c≠i1->c≠i2->s.heap.get? c=V o->G.get? c=V o)->(∃o,G.get? e=V o/\o.cls=.type "StopIteration")->E 5#e {s with heap:=G,toks:=tk}):ax 2#0 A (Builtin.«zip.__next__» ([.ref z],[])) Q E s:=by
 have n:∀c∈fp1,c≠z:=λc d e=>D.e<|e▸d;have p:∀c∈fp2,c≠z:=λc d e=>D.d<|e▸d;have H:∀c∈fp1,c≠TO:=λc d e=>D.g<|e▸d;have I:∀c∈fp2,c≠TO:=λc d e=>D.f<|e▸d;have K:∀c∈fp2,c≠i1:=λc d e=>D.i<|e▸d;have q:i1≠z:=n _ D.b;have L:i2≠z:=p _ D.c;have r:TO≠i1:=(H _ D.b).symm;show ax _ _ (qW 5#z 2 >>= _) _ _ _;refine ag<|jJ l O (x:=.bool aB) O ?_;show ax _ _ (qW 5#z 3 >>= _) _ _ _;refine ag<|jJ l O (x:=.ref TI) O ?_;refine ag<|iU y O ?_;show ax _ _ (Jx 5#z >>= _) _ _ _;refine ag ?_;unfold Jx;refine ag<|jJ l O (x:=.none) O<|aG ?_;simp only[eD];refine ag<|mD ?_;refine ag<|jJ l O (x:=.ref TO) O ?_;refine ag<|oT l 0#0 λg1 h t=>?_;replace h:mG g1 z TI TO .ellipsis:=h;refine ag ?_;simp only[ah8,ah7,JY,SR];refine ag<|ag<|ID ?_;have f1:=v.frame _ _ _ h1 λc d o e=>t.extBut c o (n c d) e;rcases m with M|⟨l1,M⟩
 ·show ax _ _ (sO 5#i1 >>= _) _ _ _
  refine ag<|v.done _ _ _ (M▸f1) λP e j R=>?_;obtain⟨S,f,g⟩:=R;have z2:mG P z TI TO .ellipsis:=j _ _ q.symm h;have T:e≠z:=λx=>by subst x;rw[z2] at f;cases f;simp at g
  refine oT z2 0#0 λU _ k=>hE U e _ (λc o u _ X _ x=>k.extBut _ _ u<|j _ _ X<|t.extBut _ _ u x) (S,k.extBut _ _ T f,g)
 ·show ax _ _ (sO 5#i1 >>= _) _ _ _
  refine ag<|v.item i _ _ _ l1 f1 λx P a0 px s2 j=>aG ?_;have t2:jL P TO a b:=j.extBut _ _ r<|t.extBut _ _ D.a C;refine ag<|iU t2 O ?_;refine ag<|QS t2 λU t3 k=>?_;refine ag<|kf<|aG ?_;refine ag<|ag<|ID ?_;have f2:S2 i U:=D2.frame _ _ _ h2 λc d o e=>k.extBut c o (I c d)<|j.extBut c o (K c d)<|t.extBut c o (p c d) e;show ax _ _ (sO 5#i2 >>= _) _ _ _;refine ag<|D2.done _ _ _ (M▸f2) λg4 e k4 R=>?_;obtain⟨S,f,g⟩:=R;have z4:mG g4 z TI TO .ellipsis:=k4 _ _ L.symm<|k.extBut _ _ D.a.symm<|j.extBut _ _ q.symm h;have T:e≠z:=λx=>by subst x;rw[z4] at f;cases f;simp at g
  refine oT z4 0#0 λg5 _ k5=>hE g5 e _ (λc o u c2 X c4 x=>k5.extBut _ _ u<|k4 _ _ c4<|k.extBut _ _ c2<|j.extBut _ _ X<|t.extBut _ _ u x) (S,k5.extBut _ _ T f,g)
end
def Tr{A:bO}{z v p K L:W}{H M:Nat}(P:wF prog w A.in1 K C H P1 S1)(R:wF prog w A.in1 L G M P2 S2)(D:zH z v p K L C G):WalksT prog w A z (z::v::p::(C++G)) [z,p,K,L] (gc H M) (λi S=>∃x y,P1 i x/\P2 i y/\S=#[x,y])
   (λi h=>mG h z v p .none/\jL h v 5#K 5#L/\(∃a b,jL h p a b)/\S1 i h/\S2 i h)
   (λi T h=>mG h z v p (fP T)/\jL h v 5#K 5#L/\(∃a b,jL h p a b)/\S1 (i+1) h/\S2 (i+1) h/\T≠z/\T≠p/\T≠K/\T≠L) where
 sub:=λc d=>by
  simp at d ⊢;rcases d with rfl|rfl|rfl|rfl
  ·simp
  ·simp
  ·exact .inr<|.inr<|.inr<|.inl D.b
  ·exact .inr<|.inr<|.inr<|.inr D.c
 frame:=λi h U j m=>by
  obtain⟨n,f,⟨a,b,g⟩,r,t⟩:=j;exact(m z 0#0 _ n,m v 0#0 _ f,(a,b,m p 0#0 _ g),P.frame _ _ _ r λc d o e=>m c (by simp[d]) o e,R.frame _ _ _ t λc d o e=>m c (by simp[d]) o e)
 item:=λi s Q E hi j I=>by
  obtain⟨n,f,⟨a,b,g⟩,r,t⟩:=j;have u:s.TypeIs 5#z "zip":=(_,n,O);unfold iV;refine ag (uk (pY (name:=jv "__next__") u Jp (mE Jp u agq
   (Tp P R D n f g r t (fI hi<|ah4 ..) (fI hi<|JJ ..) λx y U tk px py a1 a2 a3 a4 a5 a6 m=>aG ?_)<|agx _)))
  have lt:∀{c o},s.heap.get? c=V o->s⁻¹≠c:=λe=>jx<|cy e;obtain⟨o1,l1⟩:=P.live _ _ r;obtain⟨o2,l2⟩:=R.live _ _ t;exact I s⁻¹ #[x,y] U tk (_,_,px,py,O) (aV _) (_,a5,O,_,O) (a1,m _ _ D.h D.l D.k D.j f,(_,_,a2),a3,a4,lt n,lt g,lt l1,lt l2)
   λc o d e=>m c o (λx=>d (by simp[x])) (λx=>d (by simp[x])) (λx=>d (by simp[x])) (λx=>d (by simp[x])) e
 go:=λa7 k a8 i T s Q E hm I=>by
  obtain⟨n,f,⟨a,b,g⟩,r,t,_⟩:=hm;refine wpAny_letOwnedTupleGo_zip n λU a0 l=>I U (a0,l.extBut _ _ D.h f,(a,b,l.extBut _ _ D.a g),
   P.frame _ _ _ r λc d o e=>l.extBut c o (λq=>D.e<|q▸d) e,R.frame _ _ _ t λc d o e=>l.extBut c o (λq=>D.d<|q▸d) e) λc o d e=>l.extBut _ _ (λx=>d (by simp[x])) e
 apart:=λi T h hm u=>by
  obtain⟨_,_,_,_,_,t1,t2,t3,t4⟩:=hm;simp at u;rcases u with rfl|rfl|rfl|rfl
  ·exact t1 O
  ·exact t2 O
  ·exact t3 O
  ·exact t4 O
 done:=λs Q E j I=>by
  obtain⟨n,f,⟨a,b,g⟩,r,t⟩:=j;have u:s.TypeIs 5#z "zip":=(_,n,O);have X:gc H M=H\/(gc H M<H/\gc H M=M):=ω
  unfold iV;refine ag (uk (pY (name:=jv "__next__") u Jp
  <|mE Jp u agq (Tq P R D n f g r t X λU e tk m he=>?_)<|agx _))
  obtain⟨o,ho,d⟩:=he;refine ag<|CA (T:="StopIteration") (b:=ae) (o,ho,d) Rs ?_;exact aG<|I _ tk λc o d e=>m c o (λx=>d (by simp[x])) (λx=>d (by simp[x])) (λx=>d (by simp[x])) (λx=>d (by simp[x])) e
 self:=λi s Q E j I=>QW j.1 I
section
variable{X:a_}{pins:Ψ}{σ:aR}{H:ab}{s:ak}{h':aW}
noncomputable def aA.M{t':Nat}{ch:List W}(I:aA X pins σ H s)(f:∀b∈ch,fF X pins H b)(k:∀b o,b∉ch->s.heap.get? b=V o->h'.get? b=V o):aA X pins σ H {s with heap:=h',toks:=t'}:=by
 have d:∀b u,H b=V u->b∉ch:=λb u e z=>by have:=(f b z).1;rw[this] at e;cases e
 refine I.step (g':=s.gens) (d':=s.drawn) (ch:=ch) (λb g=>?_) (λb o _ _ a e _=>k b o a e) (λb o _ _ a e _=>(o.slots,k b o a e)) (λ_ _ _ _ n=>n)
  (λb o a e=>(o,k b o a e)) (λ_ _ e=>e) (λ_ _ _ e=>e) (λb y e=>(#[],by rw[e];simp)) (λm h=>?_) (λb u e=>?_) I.d
 ·obtain⟨A,i,C,j,l,p⟩:=f b g
  exact(j,i,l,p)
 ·obtain⟨o,t,w,x,r⟩:=h
  exact(o,t,w,k _ o (λz=>(f _ z).2.1 O) x,r)
 ·refine(I.a b u e).B (λc v a q=>k c v ?_ q) (λ_ q=>q) λ_ _ q=>q
  rcases a with z|z
  ·rw[z];exact d b u e
  ·exact d c _ z
def aA.B7{a:W}(I:aA X pins σ H s)(d:H a=Y)(i:X.d⁻¹<=a)(j:a≠X.env.locals)(k:∀x c,X.env.cells.lookup x=V c->c≠a)(l:∀p∈X.g++pins,p.1≠a)(h:di X.prog X.w (aD H a o) s.heap a o):aA X pins σ (aD H a o) s:=by
 refine I.step (h':=s.heap) (g':=s.gens) (t':=s.toks) (d':=s.drawn) (ch:=[a]) (λb f=>?_) (λb o _ _ g e _=>e) (λb o _ _ g e _=>(o.slots,e)) (λb o g e n=>?_)
  (λb o g e=>(o,e)) (λb r e=>?_) (λb o u e=>?_) (λb v e=>(#[],?_)) (λm t=>t) (λb u e=>?_) I.d
 ·have e:b=a:=by simpa using f
  subst e;exact(.inr i,j,k,l)
 ·rw[aZ (λz=>g (by simp[z]))];exact n
 ·rw[aZ<|cN e d];exact e
 ·rw[aZ<|cN e d];exact e
 ·rw[aZ<|cN e d,e];simp
 ·by_cases f:b=a
  ·subst f;rw[az] at e;cases e;exact h
  ·rw[aZ f] at e
   exact(I.a b u e).B (λ_ _ _ q=>q) (λc q=>by rw[aZ<|cN q d];exact q) λc r q=>by rw[aZ<|cN q d];exact q
def aA.D1{e:Nat}{ch:List W}{a:W}{o:df}(I:aA X pins σ H s)(f:∀b∈ch,fF X pins H b)(k:∀b o,b∉ch->s.heap.get? b=V o->h'.get? b=V o)(c:s⁻¹<=a)(d:di X.prog X.w (aD H a o) h' a o):aA X pins σ (aD H a o) {s with heap:=h',toks:=e}:=by
 have g:aA X pins σ H {s with heap:=h',toks:=e}:=I.M f k;obtain⟨h,i,m,n,j,l⟩:=I.A0 c<|I.a.B c;exact g.B7 h (dq I.sz c) i j l d
def MW{b t:W}(I:aA X pins σ H s)(f:fF X pins H b)(a:X.K.lookup t=V o):t≠b:=by
 intro z;subst z;have e:=I.b.e.b t o a;rcases f.2.2.2.1 with q|q
 ·exact I.b.i t o e q
 ·exact bh (fI (cy (I.b.bs t o e).1) q)<|nQ _
def MV{b t:W}(I:aA X pins σ H s)(f:fF X pins H b)(h:fg X.K H t a):t≠b:=by
 rcases h with (h|⟨o,h⟩)|⟨o,_,_,c,_⟩
 ·exact cN h f.1
 ·exact cN h f.1
 ·exact MW I f c
def Xk{b t:W}(I:aA X pins σ H s)(f:fF X pins H b)(h:bI X.K H t a):t≠b:=by
 rcases h with (h|⟨o,h⟩)|⟨o,_,_,c,_⟩
 ·exact cN h f.1
 ·exact cN h f.1
 ·exact MW I f c
end
def Lw{P:bu}{w:bf}{K:aY}{a8:jh}{l wr:List W}{G:W}{u:Nat->aW->Prop}{m:List bz}{k:Nat}{L:ci}(a5:G∈l)(M:∀i h,u i h->∀b∈l,∃o,h.get? b=V o/\∀v,o.data≠.cell v)(R:∀i h r,u i h->(∀b∈l,∀o,h.get? b=V o->r.get? b=V o)->u i r)(hw:∀b∈wr,b∈l)(a9:∀(X:a_),X.prog=P->X.w=w->X.K=K->X.b=ae->∀(i:Nat)(a:Ψ)(s:ak)(x:aR)(H:ab),aA X a x H s->(∀b∈l,fF X a H b)->u i s.heap->(a8.b i H\/a8.a i H)->
   ∃(y:List W)(n:Nat)(Pt:Nat->Array aa->Prop)(S:Nat->aW->Prop)(z:Nat->W->aW->Prop),WalksT P w X.A G y wr n Pt S z/\S i s.heap/\(∀j h,S j h->u j h)/\
    (a8.b i H->i<n/\∀c,Pt i c->∃t:List af,co t c.toList/\t.length<=bD/\∀p,H p=Y->a8.c i H 5#p (aD H p<|.tup t))/\(a8.a i H->i=n))
  (U:∀(A:bO)(i:Nat)(s:ak)(Q:Ω)(E:Ω),u i s.heap->Q 5#G s->ax (aH P w) A (qU<|.ref G) Q E s) :
  pL P w K (.Tuple m k L) a8 l G u where
 f:=a5
 a:=M
 c:=R
 d:=by
  intro X hP f hK hc i a s x H E I D st hg;obtain⟨y,n,Pt,S,z,WT,C,a0,g,_⟩:=a9 X hP f hK hc i a s x H I D st<|.inl hg;obtain⟨hi,hv⟩:=g hg;subst hP f hK;refine WT.item i s _ _ hi C λT c r tk hp hT a1 hm hk=>(.ref T,O,?_);obtain⟨t,rv,hz,hy⟩:=hv c hp;have I1:aA X a x (aD H T<|.tup t) {s with heap:=r,toks:=tk}:=I.D1 (ch:=wr) (λb d=>D b<|hw b d) hk hT<|show di X.prog X.w _ r T (.tup t) from(hz,c.toList,rv,by have q:kW r T c:=a1;simpa using q);have a6:∀b∈l,b≠T:=λb d=>by
   obtain⟨o,e,_⟩:=M i _ st b d;exact cM<|fI (cy e) hT
  have a2:∀b∈l,fF X a (aD H T<|.tup t) b:=λb d=>by
   obtain⟨f0,fr⟩:=D b d;exact(by rw[aZ<|a6 b d];exact f0,fr)
  refine WT.go m k L i T _ _ _ hm λa7 a3 a4=>?_;have I2:aA X a x (aD H T<|.tup t) {s with heap:=a7,toks:=tk}:=I1.M (s:={s with heap:=r,toks:=tk}) (t':=tk) (ch:=wr) (λb d=>a2 b<|hw b d) a4;exact(.ref T,_,I2,O,hy T<|I.a.B hT,a0 _ _ a3,λb d=>(a2 b d).1)
 done:=by
  intro X hP f hK hc i a s x H E I D st hg;obtain⟨y,n,Pt,S,z,WT,C,a0,_,g⟩:=a9 X hP f hK hc i a s x H I D st<|.inr hg;subst hP f hK;have e:=g hg;subst e;exact WT.done s _ _ C λr tk hk=>(O,I.M (ch:=wr) (λb d=>D b<|hw b d) hk)
 e:=U
noncomputable def FR(K:aY)(c d:W):jh:=
 (λi H=>∃a b,fg K H c a/\fg K H d b/\i<gc a.length b.length,
  λi H v e=>∃p x y,v=.ref p/\H p=Y/\e=aD H p (.tup [x,y])/\(∀a,fg K H c a->a[i]?=V x)/\∀b,fg K H d b->b[i]?=V y,
  λi H=>∃a b,fg K H c a/\fg K H d b/\i=gc a.length b.length)
def Lu:(2:Nat)<=bD:=by rw[jt];decide
def Vb{K:aY}{M:List bz}{k:Nat}(R S z r m c d:W)(hd:r≠z/\m≠z/\r≠m/\r≠c/\r≠d/\z≠c/\z≠d/\m≠c/\m≠d/\c≠d):pL P w K (.Tuple M k a7) (FR K R S) [z,r,m,c,d] z (λi h=>mG h z r m .none/\jL h r 5#c 5#d/\(∃a b,jL h m a b)/\h.IsTupleIter c R i/\h.IsTupleIter d S i):=by
 obtain⟨d1,d2,d3,d4,d5,d6,d7,d8,d9,T⟩:=hd;refine Lw (wr:=[z,m,c,d]) 0#0 (λi h l b t=>?_) (λi h h' l U=>?_) (λb t=>?_) (λX hP hw hK hc i b2 s σ H I hf l a8=>?_) λA i s Q E l h=>QW l.1 h
 ·obtain⟨a1,a2,⟨a,b',a3⟩,⟨o4,a4,_,e4⟩,⟨o5,a5,_,e5⟩⟩:=l
  simp at t;rcases t with rfl|rfl|rfl|rfl|rfl
  ·exact(_,a1,λv z=>by cases z)
  ·exact(_,a2,λv z=>by cases z)
  ·exact(_,a3,λv z=>by cases z)
  ·exact(_,a4,λv z=>by rw[e4] at z;cases z)
  ·exact(_,a5,λv z=>by rw[e5] at z;cases z)
 ·obtain⟨a1,a2,⟨a,b',a3⟩,a4,a5⟩:=l
  exact(U z 0#0 _ a1,U r 0#0 _ a2,(a,b',U m 0#0 _ a3),a4.at λo e=>U c 0#0 o e,a5.at λo e=>U d 0#0 o e)
 ·simp at t ⊢
  rcases t with rfl|rfl|rfl|rfl<;>simp
 ·subst hP hw hK
  have hd:∃G L,fg X.K H R G/\fg X.K H S L:=by
   rcases a8 with ⟨G,L,a,b,_⟩|⟨G,L,a,b,_⟩
   ·exact(G,L,a,b)
   ·exact(G,L,a,b)
  obtain⟨G,L,q1,q2⟩:=hd;obtain⟨us,r1,p1,_⟩:=I.B q1;obtain⟨ws,r2,p2,_⟩:=I.B q2;have a0:=r1.B;have a6:=r2.B;have hh:=I.b.a hc;obtain⟨a1,a2,a3,a4,a5⟩:=l;have f:=λb t=>MV I (hf b t) q1;have f':=λb t=>MV I (hf b t) q2;have AP:zH z r m c d [c,R] [d,S]:=by
   refine(?_,?_,?_,?_,by simp,by simp,?_,?_,d1,d2,d3,d4,d5)
   ·simp;exact(d6,(f z 0#0).symm)
   ·simp;exact(d7,(f' z 0#0).symm)
   ·simp;exact(d8,(f m 0#0).symm)
   ·simp;exact(d9,(f' m 0#0).symm)
   ·simp;exact(T,(f' c 0#0).symm)
   ·simp;exact(T.symm,(f d 0#0).symm)
  have WZ:=Tr (prog:=X.prog) (w:=X.w) (A:=X.A) (Kt (A:=X.A.in1) hh c R (f c 0#0) us.toArray) (Kt (A:=X.A.in1) hh d S (f' d 0#0) ws.toArray) AP;refine(_,_,_,_,_,WZ,(a1,a2,a3,(a4,p1),(a5,p2)),λj h l=>(l.1,l.2.1,l.2.2.1,l.2.2.2.1.1,l.2.2.2.2.1),λg=>?_,λg=>?_)
  ·obtain⟨n,q,C,D,hi⟩:=g
   have e1:=I.A6 C q1;have e2:=I.A6 D q2;subst e1 e2;refine(by simpa[<-a0,<-a6] using hi,λb3 hp=>?_);obtain⟨x,y,px,py,rfl⟩:=hp;have a9:us[i]?=V x:=by simpa using px
   have b0:ws[i]?=V y:=by simpa using py
   have lx:i<n.length:=ω
   have ly:i<q.length:=ω
   have gx:n[i]?=V n[i]:=by simp[lx]
   have gy:q[i]?=V q[i]:=by simp[ly]
   obtain⟨u,e3,ru⟩:=r1.F gx;obtain⟨u',e4,b1⟩:=r2.F gy;rw[a9] at e3;cases e3;rw[b0] at e4;cases e4;refine([n[i],q[i]],.cons ru<|.cons b1 .nil,Lu,λp hp=>(p,_,_,O,hp,O,λzs hz=>?_,λzs hz=>?_))
   ·rw[I.A6 hz q1];exact gx
   ·rw[I.A6 hz q2];exact gy
  ·obtain⟨n,q,C,D,hi⟩:=g
   have e1:=I.A6 C q1;have e2:=I.A6 D q2;subst e1 e2
   simpa[<-a0,<-a6] using hi
def U_(b f:W)(m n:Array aa):C_ (Builtin.«zip.__new__» ([.type "zip",.ref b,.ref f],[])) (λ_ R s=>s.heap.IsTuple b m/\s.heap.IsTuple f n/\
   ∀a,mG a (s⁻¹+4) (s⁻¹+2) (s⁻¹+3) .none->jL a (s⁻¹+2) (.ref s⁻¹) (.ref<|s⁻¹+1)->
   jL a (s⁻¹+3) .none .none->a.IsTupleIter s⁻¹ b 0->a.IsTupleIter (s⁻¹+1) f 0->
   (∀c o,s.heap.get? c=V o->a.get? c=V o)->R (.ok<|.ret<|.ref<|s⁻¹+4) {s with heap:=a}):=
 .of_wp λp w A R s h=>by
  obtain⟨q,g,d,r,t⟩:=s;obtain⟨i,j,h⟩:=h;have u:=sub_zip;have k:agc (RQ (q,g,d,r,t)) b m:=i;have l:agc (RQ (q.push {cls:=.type "tuple_iterator",data:=.fields #[.ref b,.int 0 0]},g,d,r,t)) f n:=akf j _
  wp_walk using QX k,QX l
  refine(_,O,?_);dsimp only at h ⊢;have e:∀(h:aW)(o:bg),(h.push o).objs.size=h.objs.size+1:=λh o=>rf ..;simp only[e,SG,Nat.reduceAdd];refine h _ ?_ ?_ ?_ ?_ ?_ λc o x=>bQ _<|bQ _<|bQ _<|bQ _<|bQ _ x
  ·exact Jl (by simp only[e]) O
  ·exact bQ _<|bQ _<|Jl (by simp only[e]) O
  ·exact bQ _<|Jl (by simp only[e]) O
  ·exact(_,bQ _<|bQ _<|bQ _<|bQ _<|dg _ O,O,O)
  ·exact(_,bQ _<|bQ _<|bQ _<|Jl (by simp only[e]) O,O,O)
section
variable{X:a_}{elts:List bz}{k:Nat}{tpos:ci}
def WW(K:aY)(d:fY):jE:=λe H R=>d e H λf a=>∃b c,f=[.ref b,.ref c]/\(∃g,fg K a b g)/\(∃h,fg K a c h)/\R (FR K b c) a
def V_{a b:bz}{p f:ci}(D:lI X "zip")(E:X.mg "zip"=Y)(G:iY "zip"=V (.type "zip"))(K:ku X [a,b] v)(L:fu [a,b] X.env=[(aez aB (dN a X.env)),(aez aB (dN b X.env))]:=by rfl)(g:fu [b] X.env=[(aez aB (dN b X.env))]:=by rfl):jU X (.Tuple elts k tpos) (.Call (.Name "zip" p) [a,b] [] f) (WW X.K v):=by
 intro d s w H R I h;refine Call_<|qr I D E G<|Do (bH (K f d s w H _ I h) λus c (vs,x,i,M,l)=>?_) (by rw[L,g]) (by rw[g];rfl);obtain⟨y,A,e,⟨xs,l⟩,⟨ys,P⟩,q⟩:=l;subst e;obtain⟨u,u',rfl,Q,m⟩:=Lp M;cases Q;cases m;obtain⟨n,_,S,_⟩:=i.B l;obtain⟨o,_,T,_⟩:=i.B P;refine callType_new F.called_zip ξ (F.typeCall_zip_2 _ _) (F.newCall_zip_2 _ _) (λr=>F.args_object_init_3 r _ _) F.entry_zip_new (U_ y A n.toArray o.toArray) (S,T,λU t a2 a3 a4 a5 kk=>?_);refine((_,t,O),QW t ?_);have I2:aA X d w x {c with heap:=U}:=i.J (t':=c.toks) kk;refine(c⁻¹+4,[c⁻¹+4,c⁻¹+2,c⁻¹+3,c⁻¹,c⁻¹+1],_,_,x,O,I2,Vb y A _ _ _ _ _ (by refine(?_,?_,?_,?_,?_,?_,?_,?_,?_,?_)<;>(intro z;have z':(_:Nat)=_:=z;omega)),(t,a2,(_,_,a3),a4,a5),λb C=>?_,q);have j:c⁻¹<=b:=by
  simp only[cz,sV,rz] at C;rcases C with rfl|rfl|rfl|rfl|rfl
  ·exact zo _ _
  ·exact zo _ _
  ·exact zo _ _
  ·exact aV _
  ·exact zo _ _
 exact i.A0 j<|i.a.B j
end
noncomputable def vE(K:aY)(a:W):jh:=
 (λi H=>∃b,bI K H a b/\i<b.length,
  λi H v c=>∃p x,v=.ref p/\H p=Y/\c=aD H p (.tup [.int i,x])/\∀b,bI K H a b->b[i]?=V x,
  λi H=>∃b,bI K H a b/\i=b.length)
def Vg{K:aY}{k:Nat}(a e m:W)(hd:e≠m):pL P w K (.Tuple D k S) (vE K a) [e,m] e (λi h=>(∃c,IsEnum h e m i c)/\h.IsListIter m a i):=by
 refine Lw (wr:=[e,m]) 0#0 (λi h d b y=>?_) (λi h h' d kk=>?_) (λb y=>y) (λX hP hw hK hc i a2 s σ H I hf d T=>?_) λA i s Q E d h=>?_
 ·obtain⟨⟨c,n⟩,⟨o4,G,_,e4⟩⟩:=d
  simp at y;rcases y with rfl|rfl
  ·exact(_,n,λv z=>by cases z)
  ·exact(_,G,λv z=>by rw[e4] at z;cases z)
 ·obtain⟨⟨c,n⟩,G⟩:=d
  exact((c,kk e 0#0 _ n),G.at λo q=>kk m 0#0 o q)
 ·subst hP hw hK
  have U:∃C,bI X.K H a C:=by
   rcases T with ⟨C,q,_⟩|⟨C,q,_⟩
   ·exact(C,q)
   ·exact(C,q)
  obtain⟨C,L⟩:=U;obtain⟨us,r1,p1,_⟩:=I.list L;have M:=r1.B;have hh:=I.b.a hc;obtain⟨n,G⟩:=d;have f:=λb y=>Xk I (hf b y) L;have WZ:=WalksT.enumerateD (prog:=X.prog) (w:=X.w) (A:=X.A) (Draws.list (A:=X.A.in1) hh m a (f m 0#0) us.toArray) e hd (by simp;exact(hd,(f e 0#0).symm)) 0#0;refine(_,_,_,_,_,WZ,(n,G,p1.isList),λj h d=>(d.1,d.2.1),λg=>?_,λg=>?_)
  ·obtain⟨l,r,R⟩:=g
   have e1:=I.A9 r L;subst e1;refine(by simpa[<-M] using R,λa3 hp=>?_);obtain⟨t,x,px,rfl⟩:=hp;have a0:us[i]?=V x:=by simpa using px
   have gx:l[i]?=V l[i]:=by simp[R]
   obtain⟨u,e3,ru⟩:=r1.F gx;rw[a0] at e3;cases e3;refine([.int i,l[i]],.cons (_,O)<|.cons ru .nil,Lu,λp hp=>(p,_,O,hp,O,λzs hz=>?_));rw[I.A9 hz L];exact gx
  ·obtain⟨l,r,R⟩:=g
   have e1:=I.A9 r L;subst e1
   simpa[<-M] using R
 ·obtain⟨⟨c,n⟩,_⟩:=d
  exact ae1 n h
section
variable{X:a_}{elts:List bz}{k:Nat}{tpos:ci}
def Xb(K:aY)(c:fY):jE:=λd H R=>c d H λe b=>∃a,e=[.ref a]/\(∃f,bI K b a f)/\R (vE K a) b
def EY{a:bz}{p f:ci}(t:lI X "enumerate")(v:X.mg "enumerate"=Y)(w:iY "enumerate"=V (.type "enumerate"))(x:ku X [a] l)(y:fu [a] X.env=[(aez aB (dN a X.env))]:=by rfl):jU X (.Tuple elts k tpos) (.Call (.Name "enumerate" p) [a] [] f) (Xb X.K l):=by
 intro c s m H R I h;refine Call_<|qr I t v w<|Do (bH (x f c s m H _ I h) λQ d (S,n,i,A,j)=>?_) y O;obtain⟨C,e,⟨T,j⟩,q⟩:=j;subst e;obtain⟨u,rfl,D⟩:=ir A;cases D;obtain⟨E,_,G,_⟩:=i.list j;refine call_enumerate_list G.isList λK o L U M=>?_;refine ae1 o ?_;have P:aA X c m n {d with heap:=K}:=i.J (t':=d.toks) M;refine(d⁻¹+1,[d⁻¹+1,d⁻¹],_,_,n,O,P,Vg C _ _ (by intro z;have z':(_:Nat)=_:=z;exact ù ß (å z')),((_,o),L),λb r=>?_,q);have g:d⁻¹<=b:=by
  simp only[cz,sV,rz] at r;rcases r with rfl|rfl
  ·exact zo _ _
  ·exact aV _
 exact i.A0 g<|i.a.B g
def MZ{K:aY}{xs:List af}{g:gD}{l:gC}{D:oE}{b:aR}(c:Nat->aR->ab->Prop)(o:c 0 b H)(r:∀i b H,i<=xs.length->c i b H->bI K H a xs)(s:∀i x p b H,xs[i]?=V x->c i b H->H p=Y->g 5#p b (aD H p<|.tup [.int i,x]) λd k=>l {D with a:=c<|i+1,c:=c<|i+1,b:=D.a} d k)(t:∀b H,c xs.length b H->D.a b H):∃C:Nat->Nat->aR->ab->Prop,(∃m,C 0 m b H)/\∀i m b H,C i m b H->
   ((vE K a).a i H/\D.a b H)\/((vE K a).b i H/\∃E:aR->ab->Prop,(∀f h,E f h->∃n,n<m/\C (i+1) n f h)/\∀x h,(vE K a).c i H x h->g x b h λd k=>l {D with a:=E,c:=E,b:=D.a} d k):=by
 refine(λi m b H=>m=xs.length-i/\i<=xs.length/\c i b H,(xs.length,by simp,eY _,o),?_);rintro i m b H ⟨rfl,u,p⟩;have q:=r i b H u p
 by_cases j:i<xs.length
 ·refine .inr ((xs,q,j),c<|i+1,λf h v=>(xs.length-(i+1),ω,O,j,v),λx h y=>?_)
  obtain⟨w,z,rfl,A,rfl,y⟩:=y;exact s i z w b _ (y xs q) p A
 ·have e:i=xs.length:=(û u (ô j))
  subst e;exact .inl ((xs,q,O),t b H p)
def Ny:∀{a:List Bool}{c:List aa},co (a.map af.c) c->LSm.BoolsAre c a
 |[],_,.nil=>.nil
 |b::a,_,.cons r t=>by cases r;exact .cons b<|Ny t
def FG(n:X.b=ae):iS X (.builtin "all") (λg H Q=>∃(l:W)(a:List Bool),g=[.ref l]/\bI X.K H l (a.map af.c)/\Q (.c<|a.all id) H):=by
 intro j s C H g D Q I r h;obtain⟨l,a,rfl,o,q⟩:=h;obtain⟨u,rfl,p⟩:=ir r;cases p;obtain⟨c,t,w,_⟩:=I.list o;have x:=I.b.a n;have d:=w.isList;have k:=Ny t;have f:l<s⁻¹:=by obtain⟨_,e,_⟩:=d;exact cy e
 refine call_all_walk<|ui d ?_;refine(s⁻¹,[s⁻¹,l],[s⁻¹],c.toArray.size,_,_,λi=>(a[i]?).getD ae,O,qZ (A:=X.A.in1) x _ l (cM f) c.toArray,
  ((_,dg _ O,O,O),d.push _),λi v E G K y m=>?_,λL M z=>?_)
 ·obtain⟨b,e,rfl⟩:=k.get i v 6#y
  simp only[e,sR] at m;exact sw m
 ·have e:((cr c.toArray.size).all λi=>(a[i]?).getD ae)=a.all id:=by
   rw[cP,k.length];exact LSm.range_all a
  rw[e];exact(.c _,H,I.J<|JG z,O,q)
end
section
variable{K:aY}{a:W}{xs:List af}{g:gD}{tc:dO}{te:bd}{σ:aR}{H1:ab}{Q:aU}{D:W}
def FT(n:Nat)(b:Nat->aR->List af->ab->Prop)(i m:Nat)(σ:aR)(H:ab):Prop:=m=n-i/\i<=n/\∃a,a.length<=i/\b i σ a H
def rN(n:Nat)(e:Nat->aR->List af->ab->Prop)(D:W)(i:Nat)(a:aR):aU:=λy c=>∃b d,c D=V (.lst b)/\b.length<bD/\d<n-i/\FT n e (i+1) d a (aD c D<|.lst<|b++[y])
def tO(n:Nat)(c:Nat->aR->List af->ab->Prop)(i:Nat)(a:aR)(d:ab):Prop:=∃b,b<n-i/\FT n c (i+1) b a d
def fz{n:Nat}{c:Nat->aR->List af->ab->Prop}{i:Nat}{a:aR}{ys:List af}{y:af}{b:ab}(f:n<=bD)(d:i<n)(g:ys.length<=i)(e:b D=V (.lst ys))(p:c (i+1) a (ys++[y]) (aD b D<|.lst<|ys++[y])):rN n c D i a y b:=
 (ys,n-(i+1),e,(à (à (ï g) d) f),ω,O,d,ys++[y],by simp;exact g,p)
def oB{n:Nat}{c:Nat->aR->List af->ab->Prop}{i:Nat}{a:aR}{b:List af}(e:i<n)(f:b.length<=i)(p:c (i+1) a b d):tO n c i a d:=
 (n-(i+1),ω,O,e,b,(í f),p)
def tH{A:jh}(n:Nat)(f:Nat->aR->List af->ab->Prop)(r:f 0 σ [] (aD H1 D<|.lst []))(h:∀σ a H,f n σ a H->A.a n H)(l:∀i σ a H,i<n->f i σ a H->A.b i H)(s:∀i σ a H x o,i<n->a.length<=i->f i σ a H->A.c i H x o->g x σ o λc t=>tc c t λb q=>if b=ae then te c q (rN n f D i c) else tO n f i c q)(u:∀σ a H,f n σ a H->Q 5#D H):dU A g tc te σ H1 D Q:=by
 refine(FT n f,(n,by simp,eY _,[],aV _,r),?_);rintro i m d k ⟨rfl,z,a,v,p⟩
 by_cases j:i<n
 ·exact .inr (l i d a k j p,λx w y=>s i d a k x w j v p y)
 ·have e:i=n:=(û z (ô j))
  subst e;exact .inl (h d a k p,u d a k p)
def jT(f:Nat->aR->List af->ab->Prop)(l:f 0 σ [] (aD H1 D<|.lst []))(h:∀i σ c H,f i σ c H->bI K H a xs)(m:∀i σ c H x,xs[i]?=V x->i<xs.length->c.length<=i->f i σ c H->g x σ H λd n=>tc d n λb k=>if b=ae then te d k (rN xs.length f D i d) else tO xs.length f i d k)(o:∀σ c H,f xs.length σ c H->Q 5#D H):dU (gY K a) g tc te σ H1 D Q:=by
 refine tH xs.length f l (λσ c H p=>(xs,h _ _ _ _ p,aV _)) (λi σ c H j p=>(xs,xs[i],h _ _ _ _ p,by simp[j])) (λi σ c H x r j q p y=>?_) o;obtain⟨e,y⟩:=y;subst e;exact m i σ c _ x (y xs<|h _ _ _ _ p) j q p
def Xu(f:Nat->aR->List af->ab->Prop)(l:f 0 σ [] (aD H1 D<|.lst []))(h:∀i σ c H,f i σ c H->fg K H a xs)(m:∀i σ c H x,xs[i]?=V x->i<xs.length->c.length<=i->f i σ c H->g x σ H λd n=>tc d n λb k=>if b=ae then te d k (rN xs.length f D i d) else tO xs.length f i d k)(o:∀σ c H,f xs.length σ c H->Q 5#D H):dU (tM K a) g tc te σ H1 D Q:=by
 refine tH xs.length f l (λσ c H p=>(xs,h _ _ _ _ p,aV _)) (λi σ c H j p=>(xs,xs[i],h _ _ _ _ p,by simp[j])) (λi σ c H x r j q p y=>?_) o;obtain⟨e,y⟩:=y;subst e;exact m i σ c _ x (y xs<|h _ _ _ _ p) j q p
def qw{h:Int}{n:Nat}(d:Nat->aR->List af->ab->Prop)(k:d 0 σ [] (aD H1 D<|.lst []))(l:∀i σ c H,i<n->c.length<=i->d i σ c H->g (.int<|h+i) σ H λa m=>tc a m λb j=>if b=ae then te a j (rN n d D i a) else tO n d i a j)(o:∀σ c H,d n σ c H->Q 5#D H):dU (jX h n) g tc te σ H1 D Q:=by
 refine tH n d k (λσ c H p=>aV _) (λi σ c H f p=>f) (λi σ c H x r f q p y=>?_) o;obtain⟨e,y⟩:=y;subst e y;exact l i σ c _ f q p
def Xt{h j:W}(d:Nat->aR->List af->ab->Prop)(l:d 0 σ [] (aD H1 D<|.lst []))(e:∀i σ a H,d i σ a H->fg K H h xs/\fg K H j ys)(m:∀i σ a H p x y,xs[i]?=V x->ys[i]?=V y->i<gc xs.length ys.length->a.length<=i->d i σ a H->H p=Y->g 5#p σ (aD H p<|.tup [x,y]) λc n=>tc c n λb k=>if b=ae then te c k (rN (gc xs.length ys.length) d D i c) else tO (gc xs.length ys.length) d i c k)(o:∀σ a H,d (gc xs.length ys.length) σ a H->Q 5#D H):dU (FR K h j) g tc te σ H1 D Q:=by
 refine tH (gc xs.length ys.length) d l (λσ a H p=>(xs,ys,(e _ _ _ _ p).1,(e _ _ _ _ p).2,O)) (λi σ a H f p=>(xs,ys,(e _ _ _ _ p).1,(e _ _ _ _ p).2,f)) (λi σ a H v z f q p y=>?_) o;obtain⟨r,x,s,rfl,t,rfl,u,w⟩:=y;exact m i σ a H r x s (u xs (e _ _ _ _ p).1) (w ys (e _ _ _ _ p).2) f q p t
end
def ik(h:aW)(d:W)(a:Array oX)(b:Nat):Prop:=∃o,h.get? d=V o/\o.ExactDict/\o.data=.dict a b
noncomputable def ik.B{h a:aW}{b:Array oX}(x:ik h d b c)(k:∀o,h.get? d=V o->a.get? d=V o):ik a d b c:=let ⟨o,e,r⟩:=x;(o,k o e,r)
def ik.F{b:Nat}(x:ik h d a b):d<h.objs.size:=let ⟨_,c,_⟩:=x;cy c
section
variable{prog:bu}{w:bf}{A:bO}{E:Ω}{s:ak}{it d:W}{i ep:Nat}{es:Array oX}
def ik.typeIs(x:ik s.heap d es ep):s.TypeIs 5#d "dict":=let ⟨o,a,r⟩:=x;(o,a,r.1.1)
def Ih{Q:Ω}(f:(d==jK)=aB)(c:ik s.heap d es ep)(g:Q (.ref s⁻¹) {s with heap:=s.heap.push {cls:=.type "dict_keyiterator",data:=.fields #[.ref d,.int 0 0,.int es.size 0,.int ep 0]}}):ax 2#0 A (qU<|.ref d) Q E s:=by
 have b:=c.typeIs;obtain⟨o,e,h,a⟩:=id c;refine ae0 b agl<|mE agl b PySem.F.entry_dict_iter ?_<|PySem.F.args_dict_iter_1 _;unfold Builtin.«dict.__iter__»;refine ag ?_;unfold alh;refine ag<|IE b ?_;show ax _ _ (aX<|Z d) _ _ s;refine aG ?_;show ax _ _ (zh d >>= _) _ _ s;unfold zh;rw[am (by rw[f];exact dY)];refine ag<|aG ?_;refine ag<|nJ e a ?_;refine ag<|uj e a ?_;refine ag<|nc<|aG (_,O,"dict_keyiterator",_,(_,dg _ O,O),Db.lookup,?_)
 simpa[fP] using g
def Ii{Q:Option aa->ak->Prop}(a:s.heap.IsKeyIter it d i es.size ep)(k:ik s.heap d es ep)(l:i<es.size)(m:∀h,h.IsKeyIter it d (i+1) es.size ep->i_ it s.heap h->Q (V es[i].key) {s with heap:=h}):ax 2#0 A (iV<|.ref it) Q E s:=by
 obtain⟨o,j,n,g⟩:=id a;obtain⟨q,c,p,e⟩:=id k;unfold iV;refine ag (uk (pY (name:=jv "__next__") a.typeIs Db
 <|mE Db a.typeIs agu ?_<|agz _))
 refine ag<|aG ?_;refine ag ?_;refine ag ?_
 first|refine ag<|IB a.typeIs<|aG ?_|refine wpAny_bind<|wpAny_typeNameOf_keyiter a.typeIs<|wpAny_pure ?_
 refine ag<|II j g ?_;have f:Dh "dict_keyiterator"=aB:=ξ
 simp only[f,dK,da];show ax _ _ (if(Z d==bP)=ae then _ else _) _ _ s;rw[am<|show ¬((Z d==bP)=ae) from dY];refine ag<|aG ?_;refine ag<|nJ c e ?_;rw[am 0#0];refine ag<|aG ?_;refine ag<|uj c e ?_;rw[am 0#0];refine aG ?_;simp only[show ¬((i:Int)<0) from ω,da,tj,DP l];refine ag ?_
 first|refine ag<|IB a.typeIs<|aG ?_|refine wpAny_bind<|wpAny_typeNameOf_keyiter a.typeIs<|wpAny_pure ?_
 refine ag<|ae4 a.typeIs ?_;show ax _ _ (ul 5#it 1 (fP<|(i:Int)+1) >>= _) _ _ s;refine ag<|Cz j g 0#0 ?_;have b:(s.heap.update it (af8 (·.setIfInBounds 1<|fP<|(i:Int)+1))).IsKeyIter it d (i+1) es.size ep:=
  (_,rh _ j<|af9<|Jh g _,(aga ..).trans n,by rw[Jh g];simp[fP])
 refine ag<|fO ?_;refine ag (ae4 (s:={s with heap:=s.heap.update it (af8 (·.setIfInBounds 1<|fP<|(i:Int)+1))}) b.typeIs ?_);show ax _ _ (aX es[i].key) _ _ _;exact aG<|aG (_,O,aG<|m _ b<|jw ..)
def done{Q:Option aa->ak->Prop}(k:A.handled=Y)(c:s.heap.IsKeyIter it d es.size es.size ep)(l:ik s.heap d es ep)(n:∀h,Jn it s.heap h->Q Y {s with heap:=h}):ax 2#0 A (iV<|.ref it) Q E s:=by
 obtain⟨o,i,q,j⟩:=id c;obtain⟨r,e,p,f⟩:=id l;unfold iV;refine ag (uk (pY (name:=jv "__next__") c.typeIs Db
 <|mE Db c.typeIs agu ?_<|agz _))
 refine ag<|aG ?_;refine ag ?_;refine ag ?_
 first|refine ag<|IB c.typeIs<|aG ?_|refine wpAny_bind<|wpAny_typeNameOf_keyiter c.typeIs<|wpAny_pure ?_
 refine ag<|II i j ?_;have g:Dh "dict_keyiterator"=aB:=ξ
 simp only[g,dK,da];show ax _ _ (if(Z d==bP)=ae then _ else _) _ _ s;rw[am<|show ¬((Z d==bP)=ae) from dY];refine ag<|aG ?_;refine ag<|nJ e f ?_;rw[am 0#0];refine ag<|aG ?_;refine ag<|uj e f ?_;rw[am 0#0];refine aG ?_;simp only[show ¬((es.size:Int)<0) from ω,da,tj,To (aV es.size)];refine ag ?_
 first|refine ag<|IB c.typeIs<|aG ?_|refine wpAny_bind<|wpAny_typeNameOf_keyiter c.typeIs<|wpAny_pure ?_
 show ax _ _ (ul 5#it 0 .none >>= _) _ _ s;refine ag<|Cz i j 0#0 ?_;show ax _ _ (yS (.type "StopIteration") [] >>= _) _ _ _;refine ag ?_;simp only[yS,Ro];refine ag<|nc ?_ (by size_fits);refine ag (m:=Rv _ _)<|oU (a:=bP) (by first|rfl|(simp only[firstArgMember];rfl)) ?_;refine nc ?_ (by size_fits);simp only[Rk];refine ag<|Q_ ?_;rw[show A.in1.handled=Y from k];refine ag<|aG<|QT ?_;refine ag<|CA (T:="StopIteration") (b:=ae) (_,dg _ O,O) Rs ?_;exact aG<|n _<|((jw ..).extBut.push _).push _
def adq(p:A.handled=Y)(I d:W)(j:d≠I)(es:Array oX)(ep:Nat):ww prog w A I [I,d] [I] es.size (λi v=>∃e,es[i]?=V e/\v=e.key) (λi h=>h.IsKeyIter I d i es.size ep/\ik h d es ep) where
 sub:=λb c=>by simp at c ⊢;exact .inl c
 frame:=λi h g a k=>(let ⟨o,q,r⟩:=a.1;(o,k I 0#0 o q,r),a.2.B λo e=>k d 0#0 o e)
 item:=λi s Q E m a f=>Ii a.1 a.2 m λg l n=>f _ g s.toks (es[i],by simp[m],O) (l,a.2.B λo e=>(n.2 d j).trans e) λb o c e=>(n.2 b (λz=>c (by simp[z]))).trans e
 done:=λs Q E a f=>done p a.1 a.2 λg t=>f g s.toks λb o c e=>t b o (λz=>c (by simp[z])) e
 self:=λi s Q E a f=>QY a.1 f
def Qw(c:(d==jK)=aB):RM prog w "dict" d d es.size (λi v=>∃e,es[i]?=V e/\v=e.key) (λh=>ik h d es ep) where
 type:=λ_ a=>a.typeIs
 there:=λ_ a=>(a.F,a.F)
 keep:=λ_ _ a f=>a.B λo e=>f d (.inl O) o e
 notList:=ξ
 notTuple:=ξ
 hint:=λ_ _ _ _ a b=>PySem.W.kdl_hint_dict a.typeIs b
 iter:=λ_ s g a=>(_,_,(λ_ _ b=>Ih c a b),adq g _ d (cM a.F) es ep,((_,dg _ O,O,O),a.B λo e=>bQ _ e))
end
section
variable{X:a_}
def Fu{k:aK}(h:(ff P w).is k u=ae):cg (cR k) u:=by
 rcases pI h with ⟨i,t,rfl,rfl⟩|⟨x,t,rfl,rfl⟩
 ·exact(t,O)
 ·exact(t,O)
def Nx(R:X.b=ae):iS X (.type "list") (λD H Q=>∃a d,D=[.ref a]/\H a=V (.a d)/\
  ∀(j:List W),eI (λ(p:List aK×af) b=>H b=V (.tup<|p.1.map cR)) d j->∀l,H l=Y->Q 5#l (aD H l<|.lst<|j.map af.ref)):=by
 intro E s σ H D us Q I r h;obtain⟨a,d,rfl,v,q⟩:=h;obtain⟨u,rfl,S⟩:=ir r;cases S;obtain⟨z,y,f,g,o,k,G,T,U,h3,K,h5⟩:=(show di X.prog X.w H s.heap a (.a d) from I.a a _ v);have L:k.size=d.length:=by
  have:=fj ar K;rw[au,<-iM g] at this
  simpa using this
 refine IX (Qw (ep:=G) (es:=k) y) (I.b.a R) (o,T,U,h3) (by rw[L];exact z) λh' tk c c' kk e it=>?_;obtain⟨n1,n2⟩:=it;have pb:eI (λ(p:List aK×af) b=>H b=V (.tup<|p.1.map cR)) d (f.map (·.2.1)):=by
  have:∀{l:List (List aK×af)}{m:List (List aK×W×aa)},jW H l m->eI (λ(p:List aK×af) b=>H b=V (.tup<|p.1.map cR)) l (m.map (·.2.1)):=by
   intro l m q
   induction q with
   |nil=>exact .nil
   |cons v t w=>exact .cons v.2.1 w
  exact this g
 have ea:c.toList=(f.map (·.2.1)).map Z:=by
  apply DG;intro i;have M:f.length=c.size:=by rw[n1,L];exact(iM g).symm
  by_cases x:i<c.size
  ·obtain⟨e',A,C⟩:=n2 i c[i] (by simp[x])
   have n:k.toList[i]?=V e':=by simpa using A
   rw[K,bV] at n;have P:f[i]?=V f[i]:=by simp[M,x]
   rw[P] at n;simp only[nj,oZ] at n;simp only[bV,P,nj,ki,DP x];rw[C,<-n]
   rfl
  ·have A:c.toList.length<=i:=by simp;exact ô x
   have C:((f.map (·.2.1)).map Z).length<=i:=by simp[M];exact ô x
   rw[sY A,sY C]
 have vv:co ((f.map (·.2.1)).map af.ref) c.toList:=by
  rw[ea];generalize f.map (·.2.1)=j
  induction j with
  |nil=>exact .nil
  |cons b j w=>exact .cons O w
 refine(.ref s⁻¹,_,I.F kk (aV _) (show di X.prog X.w _ h' _ (.lst ((f.map (·.2.1)).map af.ref)) from(?_,c.toList,c',vv,by simpa using e)),O,q _ pb _<|I.a.B<|aV _);simp only[au];rw[<-iM g];exact z
def XH(K:X.b=ae):iS X (.type "list") (λA H Q=>∃a b,A=[.ref a]/\H a=V (.b b)/\∀l,H l=Y->Q 5#l (aD H l<|.lst<|b.map λd=>cR d.1)):=by
 intro C s σ H A us Q I r h;obtain⟨a,b,rfl,n,q⟩:=h;obtain⟨u,rfl,L⟩:=ir r;cases L;obtain⟨z,y,M,f,o⟩:=tG I.a n;obtain⟨D,o⟩:=o.dictAt;have P:=f.B;refine IX (afw (knd:=ff X.prog X.w) (kvs:=M) (ep:=D) y) (I.b.a K) o (by rw[<-P];exact z) λR tk g S T e U=>?_;obtain⟨n1,n2⟩:=U;have vv:co (b.map λd=>cR d.1) g.toList:=by
  have w:∀{l:List (aK×af)}{m:List (aK×aa)}{c:List aa},jV l m->c.length=m.length->(∀(i:Nat) v,c[i]?=V v->∃k x,m[i]?=V (aez k x)/\(ff X.prog X.w).is k v=ae)->co (l.map λd=>cR d.1) c:=by
   intro l m c q
   induction q generalizing c with
   |nil=>intro j _;cases c with
    |nil=>exact .nil
    |cons _ _=>simp at j
   |@cons p q' ps qs n t ih=>
    intro j E;cases c with
    |nil=>simp at j
    |cons v c=>
     obtain⟨k,x,G,g2⟩:=E 0 v O;simp only[SQ,oZ] at G;refine .cons ?_ (ih 6#j λi v e=>by simpa using E (i+1) v 6#e);have:p.1=k:=by rw[n.1,G]
     show cg (cR p.1) v;rw[this];exact Fu g2
  exact w f 6#n1 λi v e=>n2 i v 6#e
 refine(.ref s⁻¹,_,I.F T (aV _)<|show di X.prog X.w _ R _ (.lst<|b.map λd=>cR d.1) from(?_,g.toList,S,vv,by simpa using e),O,q _<|I.a.B<|aV _)
 simpa using z
end
def de(H:ab)(a:W)(b:List Int):Prop:=H a=V (.tup<|b.map af.int)
abbrev bA(H:ab)(c:List W)(b:Ξ):Prop:=eI (λa d=>de H a d) c b
noncomputable def aL.J{H b:ab}(e:aL H b)(h:de H a c):de b a c:=e _ _ h
noncomputable def aL.M{H b:ab}(e:aL H b)(h:bA H c a):bA b c a:=jF h λ_ _ q=>e.J q
noncomputable def aL.B{H:ab}(h:H a=Y):aL H (aD H a o):=λb u e=>by rw[aZ<|cN e h];exact e
def aL.N(e:aL H c)(h:H a=Y):aL H (aD c a o):=λb u q=>by rw[aZ<|cN q h];exact e b u q
noncomputable def bA.B{b:List W}(h:bA H b a):b.length=a.length:=iM h
def bA.F:∀{c:List W}{b:Ξ}{i:Nat}{a:W},bA H c b->c[i]?=V a->∃d,b[i]?=V d/\de H a d
 |_,_,_,_,.nil,e=>by simp at e
 |_,_,0,_,.cons r _,e=>by simp at e;subst e;exact(_,O,r)
 |_,_,i+1,a,.cons _ t,e=>by
  obtain⟨u,f,g⟩:=bA.F (i:=i) (a:=a) t 6#e;exact(u,by simpa using f,g)
noncomputable def bA.J{b:Ξ}(h:bA H c b)(q:de H a d):bA H (c++[a]) (b++[d]):=by
 induction h with
 |nil=>exact .cons q .nil
 |cons r t e=>exact .cons r e
def bA.N{a b:Ξ}(h:bA H c a)(q:bA H d b):bA H (c++d) (a++b):=by
 induction h with
 |nil=>exact q
 |cons r t e=>exact .cons r e
def bA.A0:∀{b:List W}{a:Ξ}(n:Nat),bA H b a->bA H (b.take n) (a.take n)
 |_,_,0,_=>.nil
 |_,_,_+1,.nil=>.nil
 |_,_,n+1,.cons r t=>.cons r (bA.A0 n t)
noncomputable def bA.M:∀{b:List W}{a:Ξ}(n:Nat),bA H b a->bA H (b.drop n) (a.drop n)
 |_,_,0,r=>r
 |_,_,_+1,.nil=>.nil
 |_,_,n+1,.cons _ t=>bA.M n t
def nw:∀{b:List W}{c:List aa},co (b.map af.ref) c->c=b.map Z
 |[],_,.nil=>O
 |a::b,_,.cons r t=>by cases r;rw[nw t];rfl
def EL{b:Type}(f:b->W):∀l:List b,co (l.map λq=>af.ref<|f q) (l.map λq=>Z<|f q)
 |[]=>.nil
 |a::l=>.cons O (EL f l)
section
variable{X:a_}
def ML{b:List aa}(j:kW h c b.toArray)(g:fC b f):gb (ff a w) h (f.map aN) c:=by
 obtain⟨o,e,i,k,d⟩:=j;refine(o,b.toArray,k,e,i,d,?_);have:∀{b:List aa}{f:List Int},fC b f->C' (ff a w) (f.map aN) b:=by
  intro b f g
  induction g with
  |nil=>exact .nil
  |cons n t h l=>exact .cons (Fg a w n t) l
 simpa using this g
def nA{a b:List Int}:(a.map aN:List aK)=b.map aN↔a=b:=
 (λz=>(Dz (f:=(aN:Int->aK)) (λx y h=>Cx h)).mp z,λz=>by rw[z])
def Xl{i:aR}{s:ak}{A:bO}{a b:W}(I:aA X c i H s)(j:de H a e)(k:de H b f)(l:A.units<dB):zb A s 5#a 5#b (aE<|e=f):=by
 intro d w E Q h;obtain⟨m,n,o,_⟩:=I.B<|fg.B j;obtain⟨g,p,q,_⟩:=I.B<|fg.B k;refine IK (knd:=ff d w) l (ML o<|pJ n) (ML q<|pJ p) ?_;rw[show aE ((e.map aN:List aK)=f.map aN)=aE (e=f) from by simp only[nA]];exact h
inductive Ah(x:af)(y:af)(H:ab)(Q:aU):Prop
 |c:∀a b xs ys,(x=.ref a)->(y=.ref b)->(H a=V (.tup xs))->(H b=V (.tup ys))->(xs.length+ys.length<=bD)->(∀p H',aL H H'->H' p=V (.tup<|xs++ys)->Q 5#p H')->Ah x y H Q
def xC:fZ X (qX .Add) Ah:=by
 intro m s σ H x y v u Q I P R h;obtain⟨a,b,p,S,rfl,rfl,r,t,w,q⟩:=h;cases P;cases R;obtain⟨T,g,A,_⟩:=I.B<|fg.B r;obtain⟨c,i,C,_⟩:=I.B<|fg.B t
 by_cases D:p=[]
 ·subst D
  have U:=g.A1.mpr O;subst U;obtain⟨⟨a0,dd,E,sl⟩,G,K,n,L⟩:=id A;obtain⟨⟨M,j,k,l⟩,d,e,n2,f⟩:=id C;simp only at K L e f;subst K L e f;exact Rw (_,G,O) (_,d,O) Rn Rg RV R' (Sc _ _)
   (tuple_addW0 a b (cK []) c.toArray n n2 dd j sl l 0#0) (G,d,.ref b,H,I,O,q b H (aL.refl H) 6#t)
 ·refine adn A C (λz=>D<|g.A1.mp z) (λz=>(.ref a,H,I,O,q a H (aL.refl H) ?_)) (λz=>?_) (by rw[<-g.B,<-i.B];exact w)
  ·rw[i.A1.mp z,jy];exact r
  ·have hf:=I.a.B<|aV s⁻¹
   refine(.ref s⁻¹,_,I.F (t':=s.toks) (o:=.tup<|p++S) (λb ob q=>bQ _ q) (aV _) ?_,O,q _ _ (aL.B hf) az);exact(by rw[c_];exact w,_,g.J i,Sv _ _)
inductive vl(neg:Bool)(K:aY)(x:af)(y:af)(H:ab)(Q:aU):Prop
 |b:∀a l ps as pss,(x=.ref a)->(y=.ref l)->(de H a ps)->(bI K H l<|as.map af.ref)->(bA H as pss)->(Q (.c<|if neg then !aE (ps∈pss) else aE (ps∈pss)) H)->vl neg K x y H Q
noncomputable def rL(H:ab)(a:List Int)(u:aa):Bool:=match u with
 |.ref b=>(match H b with|some (.tup c)=>aE (c=a.map af.int)|_=>aB)
 |_=>aB
def WV{a b:List Int}:(a.map af.int:List af)=b.map af.int↔a=b:=
 (λz=>(Dz (f:=af.int) (λx y h=>af.int.inj h)).mp z,λz=>by rw[z])
def Fy{b:W}(h:de H b c):rL H a 5#b=aE (c=a):=by
 show(match H b with|some (.tup d)=>aE (d=a.map af.int)|_=>aB)=_;rw[show H b=V (.tup<|c.map af.int) from h];simp only[WV]
def XM{b:Ξ}(h:bA H d b):(d.map Z).any (rL H c)=aE (c∈b):=by
 induction h with
 |nil=>simp
 |@cons a f d b r t g=>
  rw[cY,zB,g,Fy r]
  by_cases e:f=c
  ·subst e;simp
  ·have:¬c=f:=λz=>e z.symm
   simp[e,this]
def MH{j:aR}{s:ak}{A:bO}{i:List Int}(I:aA X d j H s)(k:de H a i)(g:A.units<dB):∀{e:List W}{c:Ξ},bA H e c->∀u∈e.map Z,zb A s u 5#a (rL H i u):=by
 intro e c h
 induction h with
 |nil=>intro u g;simp at g
 |@cons b m e c r t l=>
  intro u f;rw[cY] at f;rcases cz.mp f with rfl|f
  ·rw[Fy r];exact Xl I r k g
  ·exact l u f
def Mz(f:X.A.in1.units<dB):fZ X (iW .NotIn) (vl ae X.K):=by
 intro c s t H x y v u Q I g i h;obtain⟨a,l,b,d,j,rfl,rfl,k,m,e,q⟩:=h;cases g;cases i;obtain⟨n,r,o,z⟩:=I.list m;obtain rfl:=nw r;refine af3 (rL H b) o.isList (λw p=>MH I k f e w 6#p) (.c _,H,I,O,?_);rw[show(d.map Z).toArray.any (rL H b)=(d.map Z).any (rL H b) by simp,XM e];exact q
def EM{b:Ψ}{s:ak}(I:aA X b d H s)(e:de H a c):Reads s.heap 5#a (.tuple<|c.map iL) []:=by
 obtain⟨f,r,p,_⟩:=I.B<|fg.B e;obtain⟨o,g,h,n,i⟩:=id p;exact .tuple g h i<|(afu<|pJ r).reads s.heap
def VP{b:Ψ}{s:ak}(I:aA X b d H s):∀{c:List W}{a:Ξ},bA H c a->ReadsAll s.heap (c.map Z) (a.map λe=>kD<|e.map iL) []:=by
 intro c a h
 induction h with
 |nil=>exact .nil
 |cons r t f=>exact .cons (as:=[]) (bs:=[]) (EM I r) f
def LO{s:ak}{c:List W}{b:Ξ}(I:aA X a d H s)(e:bI X.K H l (c.map af.ref))(h:bA H c b):Reads s.heap 5#l (.list<|b.map λf=>kD<|f.map iL) [l]:=by
 obtain⟨g,r,p,_⟩:=I.list e;obtain rfl:=nw r;obtain⟨o,i,j,n,k⟩:=p.isList;exact .list i j k (by simpa using VP I h)
def Nv(a:List Int):Jf (.tuple<|a.map iL)=ae:=by simp[Jf,afv]
def Ni(a:List Int):CZ (.tuple<|a.map iL)=1:=by simp[CZ,aft]
def LI(a:List Int):za (.tuple<|a.map iL)=ae:=by
 simp[za,Nv,Ni]
def Nw:∀a:Ξ,af7 (a.map λb=>kD<|b.map iL)=ae
 |[]=>O
 |b::r=>by rw[cY,af7,Nv,Nw r];rfl
def Nj:∀a:Ξ,af6 (a.map λb=>kD<|b.map iL)<=1
 |[]=>eY _
 |b::r=>by rw[cY,af6,Ni];exact Nat.max_le.mpr (aV _,Nj r)
def LJ(a:Ξ):za (.list<|a.map λb=>kD<|b.map iL)=ae:=by
 have:=Nj a;have e:CZ (.list<|a.map λb=>kD<|b.map iL)<=64:=by rw[CZ];exact â (ð this)
 unfold za;rw[bT e,Jf,Nw]
 rfl
def LN:∀c d:Ξ,CS (c.map λe=>kD<|e.map iL) (d.map λe=>kD<|e.map iL)=aE (c=d)
 |[],[]=>by simp[CS]
 |[],_::_=>by simp[CS]
 |_::_,[]=>by simp[CS]
 |a::r,b::t=>by
  simp only[cY,CS,wy,RH,LN r t]
  by_cases h:a=b<;>by_cases f:r=t<;>simp[h,f]
def MS(a:List Int):(Ja .int).has (.tuple<|a.map iL)=ae:=by simp[yY]
def MT(a:Ξ):(Jb<|.tuples .int).has (.list<|a.map λb=>kD<|b.map iL)=ae:=by simp[yY]
def EQ(e:Bool)(K:aY):lE:=λx y H Q=>(∃a b f g,x=.ref a/\y=.ref b/\de H a f/\de H b g/\Q (.c<|if e then !aE (f=g) else aE (f=g)) H) \/
 (∃l m h i c d,x=.ref l/\y=.ref m/\bI K H l (h.map af.ref)/\bA H h c/\bI K H m (i.map af.ref)/\bA H i d/\Q (.c<|if e then !aE (c=d) else aE (c=d)) H)
def Fd(g:X.A.units+64<dB):fZ X (iW .NotEq) (EQ ae X.K):=by
 intro i s z H x y v u Q I j k h;rcases h with ⟨a,b,c,f,rfl,rfl,n,o,q⟩|⟨l,m,A,C,d,e,rfl,rfl,p,r,t,w,q⟩
 ·cases j
  cases k;refine Sn (EM I n) (EM I o) (LI _) (LI _) g (RR (.tuples .int) O _ _ (MS _)<|MS _) ?_;rw[show wy (.tuple<|c.map iL) (.tuple<|f.map iL)=aE (c=f) from by simp only[wy];exact RH c f];exact(.c _,H,I,O,q)
 ·cases j
  cases k;refine Sn (LO I p r) (LO I t w) (LJ _) (LJ _) g (RR (.list<|.tuples .int) O _ _ (MT _)<|MT _) ?_;rw[show wy (.list<|d.map λc=>kD<|c.map iL) (.list<|e.map λc=>kD<|c.map iL)=aE (d=e) from by simp only[wy];exact LN d e];exact(.c _,H,I,O,q)
inductive Mb(x:af)(vs:List af)(H:ab)(Q:aU):Prop
 |a:∀l xs i y,(x=.ref l)->(vs=[.int i,y])->(H l=V (.lst xs))->(0<=i)->(i<=xs.length)->(xs.length<bD)->(Q .non<|aD H l<|.lst<|xs.take i.toNat++y::xs.drop i.toNat)->Mb x vs H Q
def Wy:vC X "list.insert" Mb:=by
 intro c s w H x A v C Q I g j h;obtain⟨l,D,i,y,rfl,rfl,d,E,G,K,q⟩:=h;cases g;obtain⟨u,f,rfl,k,b⟩:=j.A2;obtain⟨t,rfl⟩:=k;obtain⟨z,a,n,r,L,e⟩:=I.A4 d;have m:bD<2 ^ 62:=by rw[jt];decide
 have o:ahe i=ae:=by
  unfold ahe;simp only[jP,iE];constructor<;>omega
 refine sC agf (_,e,O) F.entry_list_insert (F.args_list_insert_3 _ _ _) (alk l a.toArray n i t f (by simp[o]) (by rw[cP];exact à (æ L) z)) (e,?_);refine(.non,_,I.B2 (its':=a.take i.toNat++f::a.drop i.toNat) (t':=s.toks) d e ?_ ((r.A0 _).J<|.cons b<|r.N _) ?_,O,q)
 ·have p:(if i<0 then(i+(a.toArray.size:Int)).toNat else gc i.toNat a.toArray.size)=i.toNat:=by
   rw[am ω,cP];omega
  dsimp only;rw[p];simp;exact eV (by rw[pd];exact aV _)
 ·rw[c_,dj,dR,pd]
  omega
def XJ:iS X (.type "int") (λa H Q=>∃x n,a=[.str x]/\IT x=V n/\x.length<=640/\Q (.int n) H):=by
 intro b s e H a f Q I r h;obtain⟨x,n,rfl,c,d,q⟩:=h;obtain⟨u,rfl,t,rfl⟩:=ir r;exact aj0 c d (.int n,H,I.N _,(_,O),q)
end
section
variable{X:a_}{pins:Ψ}{σ:aR}{H:ab}{s:ak}
def MQ{A:bO}(h:A.units+64<dB):A.in1.in1.units<dB:=by show A.units+1+1<dB;omega
def Fv{A:bO}(h:A.units+64<dB):A.in1.units<dB:=by show A.units+1<dB;omega
def XB:iS X (.builtin "sorted") (λA H Q=>∃(l:W)(b:List Int),A=[.ref l]/\bI X.K H l (b.map af.int)/\b.length<1000/\∀(D:W)(v:List Int),v.Perm b->v.Pairwise (·<=·)->H D=Y->Q 5#D (aD H D<|.lst<|v.map af.int)):=by
 intro pins s σ H A us Q I r h;obtain⟨l,b,rfl,w,M,q⟩:=h;obtain⟨u,rfl,P⟩:=ir r;cases P;obtain⟨d,C,R,E⟩:=I.list w;have G:fC d b:=pJ C;have j:=C.B;rw[au] at j E;refine KW (ls:=b.map λn=>[n]) (good:=λ_=>True) R.isList (Lc G) (λ_ _=>trivial) (à (æ j) E) (à (ï (æ j)) M) λk x=>?_;obtain⟨a,K,x,S⟩:=x;have f:∀p∈a,∃n t,p.1=[n]/\p.2=aQ n t:=λp y=>by
  obtain⟨i,e⟩:=gW.mp<|K.mem_iff.mp y;rw[pF,bV] at e;cases c:b[i]? with
  |none=>rw[c] at e;simp at e
  |some n=>
   obtain⟨t,g⟩:=G.get i n c;rw[c,g] at e;simp only[nj,ah2,oZ] at e;subst e;exact(n,t,O,O)
 have T:∀a:List (List Int×aa),(∀p∈a,∃n t,p.1=[n]/\p.2=aQ n t)->co ((a.map λp=>p.1.headD 0).map af.int) (a.map (·.2)):=by
  intro a
  induction a with
  |nil=>intro _;exact .nil
  |cons p a U=>
   intro h;obtain⟨n,t,c,g⟩:=h p fE;refine .cons ?_<|U λq w=>h q<|gd _ w;show cg (af.int<|p.1.headD 0) p.2;rw[c,g];exact(t,O)
 have L:(a.map λp=>p.1.headD 0).Perm b:=by
  have o:=K.map (λp:List Int×aa=>p.1.headD 0);have e:((b.map λn=>[n]).zip d).map (λp:List Int×aa=>p.1.headD 0)=b:=by
   rw[show(λp:List Int×aa=>p.1.headD 0)=(λl:List Int=>l.headD 0) ∘ ni from O,<-bN,zx (by rw[au];exact å j),bN];exact zw b
  rw[e] at o;exact o
 have pw:(a.map λp=>p.1.headD 0).Pairwise (·<=·):=by
  rw[ip];refine S.imp_of_mem λ{p q} o h2 z=>?_;obtain⟨n,t,c,_⟩:=f p o;obtain⟨m,t',g,_⟩:=f q h2;rw[c,g,lL] at z;rw[c,g];show n<=m
  by_cases e:m=n
  ·omega
  ·rw[am e] at z
   have:=oe z;omega
 obtain⟨e,he⟩:=sortedAll_at s.heap d k;refine(.ref<|s⁻¹+1,_,I.F (t':=s.toks) (λ_ _=>sortedAll_old) (nR _)<|show di X.prog X.w _ _ _ (.lst<|(a.map λp=>p.1.headD 0).map af.int) from(?_,k.toList,e,?_,?_),O,q _ _ L pw<|I.a.B<|nR _)
 ·rw[au,L.length_eq];exact E
 ·rw[x];exact T a f
 ·simpa using he
def NM(H:ab)(p:W)(l:List Int):Prop:=∃n b a,l=n::a/\H p=V (.tup [.int n,.ref b])/\de H b a
def Mp(I:aA X pins σ H s)(h:NM H p l):oh s.heap 5#p l:=by
 obtain⟨n,b,d,rfl,e,f⟩:=h;obtain⟨g,i,j,_⟩:=I.B<|fg.B (K:=X.K) e;obtain⟨u,o,rfl,⟨t,rfl⟩,c⟩:=Lp i;cases c;obtain⟨a,k,m,_⟩:=I.B<|fg.B (K:=X.K) f;exact(p,b,n,t,a,d,O,O,j,m,pJ k)
def VT{h f:aW}(k:∀b o,h.get? b=V o->f.get? b=V o)(x:oh h u l):oh f u l:=by
 obtain⟨a,b,n,t,c,g,j,m,⟨o,p,q⟩,⟨r,d,e⟩,i⟩:=x;exact(a,b,n,t,c,g,j,m,(o,k _ _ p,q),(r,k _ _ d,e),i)
def ox{c d:Type}{R:c->d->Prop}{l:List c}{m:List d}(p:eI R l m):∀(i:Nat) x y,l[i]?=V x->m[i]?=V y->R x y:=by
 induction p with
 |nil=>intro i x y h;simp at h
 |cons r t e=>
  intro i x y a b;cases i with
  |zero=>simp at a b;subst a b;exact r
  |succ i=>exact e i x y 6#a 6#b
noncomputable def mV:aa->W
 |.ref a=>a
 |_=>0
def XA(L:X.A.units+64<dB):iS X (.builtin "sorted") (λA H Q=>∃(l:W)(c:List W)(d:Ξ),A=[.ref l]/\bI X.K H l (c.map af.ref)/\eI (NM H) c d/\d.length<1000/\
  ∀(D:W)(t:List (List Int×W)),t.Perm (d.zip c)->t.Pairwise (λa b=>bJ b.1 a.1=aB)->H D=Y->Q 5#D (aD H D<|.lst<|t.map λq=>af.ref q.2)):=by
 intro pins s σ H A us Q I r h;obtain⟨l,c,d,rfl,M,C,P,q⟩:=h;obtain⟨u,rfl,R⟩:=ir r;cases R;obtain⟨S,E,T,G⟩:=I.list M;have k:=E.B;obtain rfl:=nw E;rw[au] at k G;have v:=iM C;have w:∀h:aW,(∀b o,s.heap.get? b=V o->h.get? b=V o)->∀(i:Nat) u l,(c.map Z)[i]?=V u->d[i]?=V l->oh h u l:=λh x i u l f U=>by
  rw[bV] at f;cases e:c[i]? with
  |none=>rw[e] at f;simp at f
  |some a=>
   rw[e] at f;obtain rfl:=bM f;exact VT x<|Mp I<|ox C i a l e U
 refine KW (ls:=d) (good:=λh=>∀b o,s.heap.get? b=V o->h.get? b=V o) T.isList (Lb (by rw[au];exact v) (MQ L) (s.heap,λ_ _ e=>e) w) (λh' x=>x) (by rw[au];exact G) (by rw[au];exact à (ï (å v)) P) λg y=>?_;obtain⟨n,m,y,hs⟩:=y;have z:∀p∈n,p.2=Z (mV p.2):=λp j=>by
  have:=(zt (m.mem_iff.mp j:(aez p.1 p.2)∈d.zip (c.map Z))).2;obtain⟨a,_,e⟩:=aO.mp this;rw[<-e];rfl
 have K:(n.map λp=>(aez p.1 (mV p.2))).Perm (d.zip c):=by
  have f:=m.map (λp:List Int×aa=>(aez p.1 (mV p.2)));have e:(d.zip<|c.map Z).map (λp:List Int×aa=>(aez p.1 (mV p.2)))=d.zip c:=by
   rw[List.zip_map_right,bN];exact(fS λp _=>O).trans<|zw _
  rw[e] at f;exact f
 obtain⟨e,he⟩:=sortedAll_at s.heap (c.map Z) g;have ex:g.toList=((n.map λp=>(aez p.1 (mV p.2))).map λq=>Z q.2):=by
  rw[y,bN];exact fS λp j=>z p j
 refine(.ref<|s⁻¹+1,_,I.F (t':=s.toks) (λ_ _=>sortedAll_old) (nR _)<|show di X.prog X.w _ _ _ (.lst<|(n.map λp=>(aez p.1 (mV p.2))).map λq=>af.ref q.2) from(?_,g.toList,e,?_,?_),O,q _ _ K ?_<|I.a.B<|nR _)
 ·rw[au,K.length_eq,uK];omega
 ·rw[ex]
  exact EL (λq:List Int×W=>q.2) _
 ·simpa using he
 ·rw[ip];exact hs
def VH(c:ab->W->List Int->Prop)(d:W->List Int->List af):lD:=λe H Q _=>∃a b,e=[.ref a]/\c H a b/\∀p,H p=Y->Q 5#p (aD H p<|.tup<|d a b)
def Ae:lD:=λc H Q _=>∃a b,c=[.ref a]/\de H a b/\∀p,H p=Y->Q 5#p (aD H p<|.tup [.int b.length,.ref a])
def Mt{a c:Type}{R:a->c->Prop}{l:List a}{m:List c}{i:Nat}{x:a}(h:eI R l m)(e:l[i]?=V x):∃y,m[i]?=V y/\R x y:=by
 have b:=(bY.mp e).1;rw[iM h] at b;exact(m[i],cB b,ox h i _ _ e<|cB b)
def md{b:W}(h:fF X pins H b):∀c∈[b],fF X pins H c:=λc a=>by rw[cT.mp a];exact h
def xG{a:ab}{b:W}(f:fF X pins H b)(c:a b=Y):fF X pins a b:=(c,f.2)
def vu{b:W}(I:aA X pins σ H s)(f:fF X pins H b):b∉l_ X.c:=λa=>by
 rcases cz.mp (I.A7 b a) with e|e
 ·exact f.2.1 e
 ·exact f.2.2.1 e
def VI{At:ab->W->List Int->Prop}{Kf:W->List Int->List af}{Is:aW->aa->List Int->Prop}{rk un:List Int->List Int}(b1:∀{H H':ab}{a:W}{n:List Int},aL H H'->At H a n->At H' a n)(a3:∀n,un (rk n)=n)(c4:∀{pins:Ψ}{σ:aR}{H:ab}{s:ak}{p a:W}{n:List Int},aA X pins σ H s->At H a n->H p=V (.tup<|Kf a n)->Is s.heap 5#p (rk n))(c5:∀(A:bO)(E:aW->Prop)(us:List aa)(ls:Ξ),us.length=ls.length->A.units<dB->(∃h,E h)->(∀h,E h->∀(i:Nat) u l,us[i]?=V u->ls[i]?=V l->Is h u l)->rD X.prog X.w A E us ls){k:Nat}{t:List W}{x:aq}{Q:Ω}(F:ce X.prog X.w X.K X.mg X.base bx k f fd [x] (VH At Kf))(hr:fM (k+2) X.A)(T:eQ X.K fd [x] [])(I:aA X pins σ H s)(hl:bI X.K H l (t.map af.ref))(ht:eI (At H) t w)(e7:w.length<1000)(h:∀D H'(qs:List (List Int×W)) y,aA X pins σ H' y->aL H H'->H D=Y->H' D=V (.lst<|qs.map λq=>af.ref q.2)->qs.Perm (w.zip t)->
   qs.Pairwise (λa b=>bJ (rk b.1) (rk a.1)=aB)->Q 5#D y):
  ax 3#0 X.A (im (.builtin "sorted") [.ref l] [(aez (jv "key") 5#f)]) Q X.a s:=by
 have hu:X.A.units+64<dB:=hr.units;obtain⟨e8,r1,p1,hz⟩:=I.list hl;have b2:=r1.B;obtain rfl:=nw r1;have c6:=iM ht;rw[au] at b2 hz;have K:(t.map Z).length<=bD:=by rw[au];exact hz
 generalize a4:t.map Z=g at p1 K;have b3:g.length=t.length:=by rw[<-a4,au]
 refine call_function_entry_kw Sq Sm Sr (ksk_s1 _ _) ?_;unfold Builtin.«sorted»;refine ag (m:=Rz "sorted" 1 1 _)<|aG ?_;refine ag<|collect_list p1.isList ?_ K;refine ag<|wp ?_ K;have a5:((s.heap.push<|cj "list" #[] 0).update s⁻¹ (cD (·++g.toArray))).objs.size=s⁻¹+1:=by
  rw[wC,wJ]
 have C:(((s.heap.push<|cj "list" #[] 0).update s⁻¹ (cD (·++g.toArray))).push<|cj "list" g.toArray 0).get? (s⁻¹+1)=V (cj "list" g.toArray 0):=by
  rw[<-a5];exact dg _ O
 have a2:∀b o,s.heap.get? b=V o->(((s.heap.push<|cj "list" #[] 0).update s⁻¹ (cD (·++g.toArray))).push<|cj "list" g.toArray 0).get? b=V o:=λb o q=>by
  have a6:b<s⁻¹:=cy q;rw[zd _ _ _ (by rw[a5];exact cM<|lR a6),Jk _ _ _ _<|cM a6,zd _ _ _<|cM a6];exact q
 show ax _ _ _ _ _ {s with heap:=((s.heap.push<|cj "list" #[] 0).update s⁻¹ (cD (·++g.toArray))).push<|cj "list" g.toArray 0};rw[a5];generalize hA:((s.heap.push<|cj "list" #[] 0).update s⁻¹ (cD (·++g.toArray))).push (cj "list" g.toArray 0)=d at C a2 ⊢;have I1:aA X pins σ H {s with heap:=d}:=I.J (t':=s.toks) a2;have L:fF X pins H (s⁻¹+1):=I.A0 (nR _)<|I.a.B<|nR _;generalize hD:s⁻¹+1=D at C L ⊢;have e5:D<d.objs.size:=cy C;refine ag<|fO<|wpAny_call_entry_kw Sl (_,C,O) Ss ?body<|ksk_l1 _ _
 case body=>
  show ax 3#0 X.A.in1.in1 (Builtin.«list.sort» ([.ref D],[(aez (jv "key") 5#f)])) _ _ _;rw[ksk_t1];unfold ksk_tree;refine ag<|So C O ?_;refine ag<|zl C O ?_ (by rw[cP];exact K)<|eY _;obtain⟨e1,b4⟩:∃e1,(d.update D<|cD λ_=>(#[]:Array aa)).get? D=V (cj "list" #[] e1):=(_,sP C λ_=>#[]);refine ag<|JB b4 O ?_;refine ag<|IF ?_ (by show g.length<=_;exact K);refine ag<|wp ?_<|eY _;refine fO ?_;have I2:aA X pins σ H {s with heap:=d.update D<|cD λ_=>(#[]:Array aa)}:=
   aA.M (s:={s with heap:=d}) (t':=s.toks) (ch:=[D]) I1 (md L) λb o T q=>by rw[Jk _ _ _ _ (λz=>T (by simp[z]))];exact q
  have I3:aA X pins σ H {s with heap:=((d.update D<|cD λ_=>(#[]:Array aa)).push<|cj "tuple" g.toArray 0)}:=I2.J (t':=s.toks) λb u q=>bQ _ q;have a0:fF X pins H ((d.update D<|cD λ_=>(#[]:Array aa)).push<|cj "tuple" g.toArray 0).objs.size:=I3.A0 (aV _)<|I3.a.B<|aV _;have b5:((d.update D<|cD λ_=>(#[]:Array aa)).push<|cj "tuple" g.toArray 0).objs.size≠D:=by
   rw[wJ,wC];exact ö (í e5)
  have I4:aA X pins σ H {s with heap:=(((d.update D<|cD λ_=>(#[]:Array aa)).push<|cj "tuple" g.toArray 0).push<|cj "list" #[] 0)}:=I3.J (t':=s.toks) λb u q=>bQ _ q;have c7:(((d.update D<|cD λ_=>(#[]:Array aa)).push<|cj "tuple" g.toArray 0).push<|cj "list" #[] 0).get? ((d.update D<|cD λ_=>(#[]:Array aa)).push<|cj "tuple" g.toArray 0).objs.size=V (cj "list" #[] 0):=dg _ O;have c8:(((d.update D<|cD λ_=>(#[]:Array aa)).push<|cj "tuple" g.toArray 0).push<|cj "list" #[] 0).get? D=V (cj "list" #[] e1):=bQ _<|bQ _ b4;show ax 3#0 X.A.in1.in1 (ksk_rest D 5#f aB g.toArray e1<|.ref ((d.update D<|cD λ_=>(#[]:Array aa)).push<|cj "tuple" g.toArray 0).objs.size) _ _ {s with heap:=((d.update D<|cD λ_=>(#[]:Array aa)).push<|cj "tuple" g.toArray 0).push<|cj "list" #[] 0};generalize ((d.update D<|cD λ_=>(#[]:Array aa)).push<|cj "tuple" g.toArray 0).objs.size=kS at *;generalize ((d.update D<|cD λ_=>(#[]:Array aa)).push<|cj "tuple" g.toArray 0).push (cj "list" #[] 0)=e9 at *;unfold ksk_rest;refine ag<|mD ?_
  first
   |rw[List.forIn_toArray]
   |(rw[<-Array.forIn_toList];simp only[List.toList_toArray])
  refine ag (ksk_fold (λi y=>∃G kA e M,aA X pins σ G y/\aL H G/\G D=Y/\G kS=Y/\y.heap.get? kS=V (cj "list" kA e)/\y.heap.get? D=V (cj "list" #[] e1)/\kA.toList=M.map Z/\M.length=i/\
    ∀(j:Nat) p,M[j]?=V p->∃a n,t[j]?=V a/\w[j]?=V n/\G p=V (.tup<|Kf a n)) g 0 _
   (H,#[],0,[],I4,aL.refl H,L.1,a0.1,c7,c8,O,O,λj p e=>by simp at e) ?step ?done)
  case step=>
   rintro j v y hv ⟨G,kA,e,M,Ik,sk,P,U,nk,na,a1,hj,a7⟩;simp only[uG] at hj ⊢;have c9:j<t.length:=by rw[<-b3];exact(bY.mp hv).1
   have ea:t[j]?=V t[j]:=cB c9;obtain⟨n,d0,d1⟩:=Mt ht ea;have ev:v=.ref t[j]:=by
    rw[<-a4,bV,ea] at hv;exact(bM hv).symm
   subst ev;refine ag (uk (yN (p_ (F.a X.A.in1.in1 X.c y G ([.ref t[j]],[]) [.ref t[j]] [.ref t[j]] (λv H'=>∃p,v=.ref p/\G p=Y/\H'=aD G p (.tup<|Kf t[j] n)) xS
    (fM.F<|fM.F hr) Ik.B5.B.B (T y [.ref t[j]] Ik.A5 O) (.cons O .nil) (t[j],n,O,b1 sk d1,λp hp=>(p,O,hp,O))) λr R hq=>?_)))
   cases r with
   |error e=>exact hX hq
   |ok fl=>
    cases fl with
    |next=>exact hX hq
    |brk=>exact hX hq
    |cont=>exact hX hq
    |ret u=>
     obtain⟨v,H',os,b6,un,d2,ru,p,rfl,hp,rfl⟩:=hq;cases ru;have I5:aA X pins σ (aD G p<|.tup<|Kf t[j] n) R:=Ik.A8 os un d2 b6 (λb z=>nomatch z);have fD:=xG L P;have fK:=xG a0 U;have d3:=un.a D _ na P (vu Ik fD) 0#0;have b7:=un.a kS _ nk U (vu Ik fK) 0#0;have d4:=un.c D _ na P 0#0;have b8:=un.c kS _ nk U 0#0
     try dsimp only
     have f6:kA.size=j:=by rw[<-gJ,a1,au,hj]
     obtain⟨c2,d5⟩:∃c2,(R.heap.update kS (cD (·.push<|.ref p))).get? kS=V (cj "list" (kA.push<|.ref p) c2):=(_,sP b7 (·.push<|.ref p));have s1:=jw R.heap kS (cD (·.push<|.ref p));have d6:=xG a0 b8;have I6:aA X pins σ (aD G p<|.tup<|Kf t[j] n) {R with heap:=R.heap.update kS (cD (·.push<|.ref p))}:=
      I5.M (t':=R.toks) (ch:=[kS]) (md d6) λb o T q=>(s1.2 b (λz=>T (by simp[z]))).trans q
     refine ag<|zl b7 O ?_ (à (à (å f6) (ì c9)) hz)<|dq (JN<|Kr ..) (í (à (à (ï (å f6)) c9) hz));refine aG (O,_,kA.push<|.ref p,c2,M++[p],I6,sk.N (by exact sk.A0 hp),d4,b8,d5,(s1.2 D b5.symm).trans d3,by rw[zG,a1,bU];rfl,by rw[c_,hj];rfl,λi p' e'=>?_)
     by_cases hi:i<M.length
     ·rw[ph hi] at e'
      obtain⟨a,b9,x1,x2,x3⟩:=a7 i p' e';exact(a,b9,x1,x2,by rw[aZ<|cN x3 hp];exact x3)
     ·rw[pg (ô hi)] at e'
      have h0:i-M.length=0:=by
       rcases SF (i-M.length) with z|z
       ·exact z
       ·rw[sY (by simp only[dj,nq];exact z)] at e';cases e'
      rw[h0] at e';obtain rfl:p=p':=by simpa using e'
      have d7:i=j:=ω
      subst d7;exact(_,n,ea,d0,az)
  case done=>
   rintro y ⟨G,kA,e,M,Ik,sk,P,U,nk,na,a1,hj,a7⟩;simp only[uG] at hj
   try dsimp only
   refine ag<|So nk O ?_;unfold ksk_end
   try dsimp only
   simp only[dK,da];have d8:kA=(M.map Z).toArray:=by rw[<-a1,Array.toArray_toList]
   subst d8;have d9:∀(i:Nat) u l,(M.map Z)[i]?=V u->(w.map rk)[i]?=V l->Is y.heap u l:=λi u l S h2=>by
    rw[bV] at S h2;cases ek:M[i]? with
    |none=>rw[ek] at S;simp at S
    |some p=>
     obtain⟨a,n,x1,x2,x3⟩:=a7 i p ek;rw[ek] at S;rw[x2] at h2;obtain rfl:=bM S;obtain rfl:=bM h2;obtain⟨b9,y1,y2⟩:=Mt ht x1;rw[x2] at y1;obtain rfl:=bM y1;exact c4 Ik (b1 sk y2) x3
   refine KY (us:=M.map Z) (vs:=g) (ls:=w.map rk) (good:=λh=>h=y.heap) (c5 _ _ _ _ (by rw[au,au,hj,b3];exact c6) (MQ hu) (_,O) (by rintro h rfl;exact d9)) (by rw[au,hj]) (à (à (ï (å b3)) (ï (å c6))) e7) O λf7 ho e0 hf=>?_;refine TV (ls:=w.map rk) (vs:=g) nk na b5 (by rw[cP,au];exact à (å hj) K) ho e0 K hf λh' a8 c kk e3 f8 c0 e6=>(_,O,?_);refine aG (_,O,?_);obtain⟨n,c1,c3,hs⟩:=c0;subst a4;have I7:aA X pins σ G {y with heap:=h'}:=Ik.M (t':=y.toks) (ch:=[kS,D]) (λb T=>by
     simp only[cz,sV,rz] at T;rcases T with rfl|rfl
     ·exact xG a0 U
     ·exact xG L P) λb o T q=>kk b o (λz=>T (by simp[z])) (λz=>T (by simp[z])) q
   have a9:∀p∈n,∃a qs,p.2=Z a/\p.1=rk qs:=λp b0=>by
    obtain⟨S,h2⟩:=zt (c1.mem_iff.mp b0:(aez p.1 p.2)∈_);obtain⟨a,_,ea⟩:=aO.mp h2;obtain⟨qs,_,eq⟩:=aO.mp S;exact(a,qs,ea.symm,eq.symm)
   have pm:(n.map λp=>(aez (un p.1) (mV p.2))).Perm (w.zip t):=by
    have S:=c1.map (λp:List Int×aa=>(aez (un p.1) (mV p.2)));have e:((w.map rk).zip<|t.map Z).map (λp:List Int×aa=>(aez (un p.1) (mV p.2)))=w.zip t:=by
     rw[List.zip_map,bN];exact(fS λp _=>by show(aez (un<|rk p.1) p.2)=p;rw[a3]).trans<|zw _
    rw[e] at S;exact S
   have ex:a8.toList=((n.map λp=>(aez (un p.1) (mV p.2))).map λq=>Z q.2):=by
    rw[c3,bN];refine fS λp b0=>?_;obtain⟨a,qs,e1,_⟩:=a9 p b0;show p.2=Z (mV p.2);rw[e1];rfl
   have vv:co ((n.map λp=>(aez (un p.1) (mV p.2))).map λq=>af.ref q.2) a8.toList:=by
    rw[ex];exact EL (λq:List Int×W=>q.2) _
   obtain⟨f0,f1,f2,f3,f4,f5⟩:=L;have e4:X.d⁻¹<=D:=by rw[<-hD];exact dq I.sz<|nR _
   have I8:aA X pins σ (aD G D<|.lst<|(n.map λp=>(aez (un p.1) (mV p.2))).map λq=>af.ref q.2) {y with heap:=h'}:=by
    refine I7.B7 P e4 f1 f4 f5 (?_,a8.toList,c,vv,?_)
    ·rw[au,pm.length_eq,uK];omega
    ·simpa using e3
   refine h D _ _ _ I8 (sk.N f0) f0 az pm ?_;rw[ip];refine hs.imp_of_mem λ{p q} S h2 h3=>?_;obtain⟨_,qs,_,e1⟩:=a9 p S;obtain⟨_,f9,_,e2⟩:=a9 q h2;rw[e1,e2] at h3;show bJ (rk<|un q.1) (rk<|un p.1)=aB;rw[e1,e2,a3,a3];exact h3
def VJ{k:Nat}{j:List W}{x:aq}{Q:Ω}(F:ce X.prog X.w X.K X.mg X.base bx k f p [x] Ae)(t:fM (k+2) X.A)(u:eQ X.K p [x] [])(I:aA X pins σ H s)(v:bI X.K H l (j.map af.ref))(w:bA H j g)(m:g.length<1000)(h:∀D n(o:List (List Int×W)) r,aA X pins σ n r->aL H n->H D=Y->n D=V (.lst<|o.map λq=>af.ref q.2)->o.Perm (g.zip j)->
   o.Pairwise (λa b=>bJ ((b.1.length:Int)::b.1) ((a.1.length:Int)::a.1)=aB)->Q 5#D r):
  ax 3#0 X.A (im (.builtin "sorted") [.ref l] [(aez (jv "key") 5#f)]) Q X.a s:=
 VI (At:=de) (Kf:=λa i=>[.int i.length,.ref a]) (Is:=oh) (rk:=λi=>(i.length:Int)::i) (un:=zr) (λs h=>s.J h) (λ_=>O) (λI h e=>Mp I (_,_,_,O,e,h)) (λ_ _ _ _ a b c d=>Lb a b c d) F t u I v w m h
end
section
variable{X:a_}{a:bz}{ta:fY}{p p2 pos kpos:ci}{k:Nat}{f:W}{fd:cW}{x y:aq}
def Vl(K:aY)(ta:fY):bd:=λh H Q=>ta h H λi d=>∃(l:W)(e:List W)(c:Ξ),i=[.ref l]/\bI K d l (e.map af.ref)/\bA d e c/\c.length<1000/\
 ∀D f(g:List (List Int×W)),aL d f->d D=Y->f D=V (.lst<|g.map λq=>af.ref q.2)->g.Perm (c.zip e)->g.Pairwise (λa b=>bJ ((b.1.length:Int)::b.1) ((a.1.length:Int)::a.1)=aB)->Q 5#D f
def Wc(F:ce X.prog X.w X.K X.mg X.base bx k f fd [x] Ae)(o:fM (k+2) X.A)(r:eQ X.K fd [x] [])(t:lI X "sorted")(v:X.mg "sorted"=Y)(w:iY "sorted"=V (.builtin "sorted"))(c:lI X y)(d:X.mg y=V 5#f)(z:ku X [a] ta)(e:(y==("__debug__":aq))=aB:=by decide)(j:fu [a] X.env=[(aez aB (dN a X.env))]:=by rfl):bG X (.Call (.Name "sorted" p) [a] [(V "key",.Name y p2,kpos)] pos) (Vl X.K ta):=by
 intro b s A H Q I h;refine yO<|qr I t v w ?_;refine Su ?_ (by rw[j];rfl) (by rw[j];rfl) O O;refine bH (z pos b s A H _ I h) λus C (vs,H1,m,E,G)=>?_;obtain⟨l,as,K,rfl,L,M,g,q⟩:=G;obtain⟨u,rfl,P⟩:=ir E;cases P;refine Sp<|Fm m c d (kws_nil ?_) e;show ax 3#0 X.A (im (.builtin "sorted") [.ref l] [(aez (jv "key") 5#f)]) _ _ C;exact VJ F o r m L M g λD n R s' S T U i hp hs=>(.ref D,n,S,O,q D n R T U i hp hs)
end
section
open PySem.SetTable
def tB(c:Array Nat):Prop:=∀(i j a b:Nat),c[i]?=V a->c[j]?=V b->i<j->a<b
noncomputable def tB.B{b:Array Nat}(h:tB b){i j a:Nat}(c:b[i]?=V a)(d:b[j]?=V a):i=j:=by
 rcases Ds i j with q|q|q
 ·exact bh (h i j a a c d q)<|nQ _
 ·exact q
 ·exact bh (h j i a a d c q)<|nQ _
def Eu{j:Nat}(h:tB d):∀(fuel b c:Nat),c-b<=fuel->b<=c->c<=d.size->(∀i a,d[i]?=V a->i<b->a<j)->(∀i a,d[i]?=V a->c<=i->j<=a)->
  yZ d j fuel b c<=d.size/\(∀i a,d[i]?=V a->i<yZ d j fuel b c->a<j)/\(∀i a,d[i]?=V a->yZ d j fuel b c<=i->j<=a)
 |0,b,c,s,t,k,l,m=>by
  have e:b=c:=ω
  subst e;exact(k,l,m)
 |fuel+1,b,c,s,t,k,l,m=>by
  have p:yZ d j (fuel+1) b c=if b<c then(if d.getD ((b+c) / 2) j<j then yZ d j fuel ((b+c) / 2+1) c else yZ d j fuel b ((b+c) / 2)) else b:=O;rw[p]
  by_cases g:b<c
  ·rw[av g]
   have r:(b+c) / 2<d.size:=ω
   have n:d[(b+c) / 2]?=V d[(b+c) / 2]:=h_ d _ r;have u:d.getD ((b+c) / 2) j=d[(b+c) / 2]:=by simp[ajq,r]
   rw[u]
   by_cases o:d[(b+c) / 2]<j
   ·rw[av o]
    refine Eu h fuel _ _ ω ω k (λi a e f=>?_) m;rcases JL (ro.mp f) with q|q
    ·exact sU (h _ _ _ _ e n q) o
    ·subst q;rw[n] at e;cases e;exact o
   ·rw[am o]
    refine Eu h fuel _ _ ω ω (ì r) l (λi a e f=>?_);rcases JL f with q|q
    ·have:=h _ _ _ _ n e q
     exact à (ô o) (ì this)
    ·subst q;rw[n] at e;cases e;exact ô o
  ·rw[am g]
   have e:b=c:=(û t (ô g))
   subst e;exact(k,l,m)
def Ew{b:Array Nat}(c:tB b)(j:Nat):gU b j<=b.size/\(∀i a,b[i]?=V a->i<gU b j->a<j)/\(∀i a,b[i]?=V a->gU b j<=i->j<=a):=
 Eu c b.size 0 b.size ω ú (aV _) (λ_ _ _ h=>bh h<|Dr _) (λi a e h=>by have:=(uT.mp e).1;omega)
def UQ(b:tB a){i j:Nat}(e:a[i]?=V j):gU a j=i:=by
 obtain⟨h,d,f⟩:=Ew b j;rcases Ds (gU a j) i with q|q|q
 ·have g:gU a j<a.size:=sU q (uT.mp e).1
  have c:=h_ a (gU a j) g;have k:=f _ _ c<|aV _;have l:=b _ _ _ _ c e q;omega
 ·exact q
 ·exact bh (d i j e q)<|nQ _
def nv{c:Type}(a:Array c)(p:Nat)(j:c)(g:p<=a.size)(i:Nat):(gG a p j)[i]?=if i<p then a[i]? else if i=p then V j else a[i-1]?:=by
 unfold gG;have f:((a.extract 0 p).push j).size=p+1:=by rw[Kr,rx];omega
 by_cases b:i<p
 ·rw[av b,ajp (à b (ì (æ f))),Array.getElem?_push_lt (by rw[rx];omega)]
  simp[Array.getElem_extract,b]
 ·rw[am b]
  by_cases d:i=p
  ·subst d
   rw[av O,ajp (æ f)];have e:(a.extract 0 i).size=i:=by rw[rx];omega
   have:=Array.getElem?_push_size (xs:=a.extract 0 i) (x:=j);rw[e] at this;exact this
  ·rw[am d,Array.getElem?_append_right ω,f,ajo]
   by_cases h:i-(p+1)<a.size-p
   ·rw[av ω]
    congr 1
    omega
   ·rw[am ω]
    exact(To ω).symm
def zY{b:Type}(a:Array b)(p:Nat)(x:b)(c:p<=a.size):(gG a p x).size=a.size+1:=by
 unfold gG;rw[Array.size_append,Kr,rx,rx];omega
def Uy(f:tB e){j:Nat}(n:∀i:Nat,e[i]?≠V j):tB (gG e (gU e j) j):=by
 obtain⟨o,p,r⟩:=Ew f j;intro a b x y d c g;rw[nv _ _ _ o] at d c
 by_cases h:a<gU e j
 ·rw[av h] at d
  by_cases k:b<gU e j
  ·rw[av k] at c;exact f _ _ _ _ d c g
  ·rw[am k] at c
   by_cases l:b=gU e j
   ·rw[av l] at c;cases c;exact p _ _ d h
   ·rw[am l] at c;exact f _ _ _ _ d c ω
 ·rw[am h] at d
  rw[am (ù (à (ô h) (ì g)))] at c
  by_cases m:a=gU e j
  ·rw[av m] at d;cases d
   rw[am (ö (à (ï (ô h)) g))] at c;have:=r _ _ c ω;rcases JL this with q|q
   ·exact q
   ·subst q;exact bh c<|n _
  ·rw[am m] at d
   rw[am (ö (à (ï (ô h)) g))] at c;exact f _ _ _ _ d c ω
noncomputable def mO(a:Nat)(p:CW):CW:=
 if p.more>0 then {p with j:=p.j+1,more:=p.more-1} else
 {p with j:=(sG a p.i p.perturb).1,more:=f_ a (sG a p.i p.perturb).1-(sG a p.i p.perturb).1,i:=(sG a p.i p.perturb).1,perturb:=(sG a p.i p.perturb).2}
noncomputable def UD(a:Nat)(h:Int):CW:={j:=kU h%(a+1),more:=f_ a (kU h%(a+1))-kU h%(a+1),i:=kU h%(a+1),perturb:=kU h,dummy:=Y}
noncomputable def cQ(a:Nat)(h:Int):Nat->CW
 |0=>UD a h
 |n+1=>mO a (cQ a h n)
noncomputable def cm(a:Nat)(h:Int)(n:Nat):Nat:=(cQ a h n).j
def Lh(a:Nat)(h:Int):∀n,(cQ a h n).dummy=Y
 |0=>O
 |n+1=>by
  show(mO a<|cQ a h n).dummy=Y;unfold mO;split<;>exact Lh a h n
noncomputable def bL(a:Nat)(h:Int):Nat->Nat×Nat
 |0=>(kU h%(a+1),kU h)
 |r+1=>sG a (bL a h r).1 (bL a h r).2
def Un(a i:Nat):f_ a i-i<=9:=by unfold f_;split<;>omega
def zV(a:Nat)(h:Int){n r:Nat}(e:cQ a h n={j:=(bL a h r).1,more:=f_ a (bL a h r).1-(bL a h r).1,i:=(bL a h r).1,perturb:=(bL a h r).2,dummy:=Y}):∀k,k<=f_ a (bL a h r).1-(bL a h r).1->cQ a h (n+k)={j:=(bL a h r).1+k,more:=f_ a (bL a h r).1-(bL a h r).1-k,i:=(bL a h r).1,perturb:=(bL a h r).2,dummy:=Y}
 |0,_=>e
 |k+1,c=>by
  have b:=zV a h e k (ì c);show mO a (cQ a h<|n+k)=_;rw[b];unfold mO;rw[av (by show f_ a (bL a h r).1-(bL a h r).1-k>0;omega)]
  congr 1
def Lf(a:Nat)(h:Int):∀r,∃n,n<=10*r/\cQ a h n={j:=(bL a h r).1,more:=f_ a (bL a h r).1-(bL a h r).1,i:=(bL a h r).1,perturb:=(bL a h r).2,dummy:=Y}
 |0=>(0,aV _,O)
 |r+1=>by
  obtain⟨n,b,e⟩:=Lf a h r;have c:=Un a (bL a h r).1;refine(n+(f_ a (bL a h r).1-(bL a h r).1)+1,ω,?_);show mO a (cQ a h<|n+(f_ a (bL a h r).1-(bL a h r).1))=_;rw[zV a h e _<|aV _];unfold mO;rw[am (by show ¬(f_ a (bL a h r).1-(bL a h r).1-(f_ a (bL a h r).1-(bL a h r).1)>0);omega)]
  rfl
def UP(h:Int):kU h<2 ^ 64:=by
 unfold kU;have a:(0:Int)<=h%(2 ^ 64:Int):=qh _ ξ;have b:h%(2 ^ 64:Int)<2 ^ 64:=qi _ ξ;omega
def Lj(a:Nat)(h:Int):∀r,(bL a h r).2=kU h / 32 ^ r
 |0=>by simp[bL]
 |r+1=>by
  show(bL a h r).2 / 32=_;rw[Lj a h r,Nat.div_div_eq_div_mul,Sz]
def Ut(a:Nat)(h:Int){r:Nat}(b:13<=r):(bL a h r).2=0:=by
 rw[Lj];have c:=UP h;have d:32 ^ 13<=32 ^ r:=SA ξ b;exact Nat.div_eq_of_lt<|fI c<|dq ξ d
def Lk(a:Nat)(h:Int):∀r,(bL a h r).1<=a
 |0=>ro.mp (JI _<|JH _)
 |r+1=>ro.mp (JI _<|JH _)
noncomputable def oj(a x:Nat):Nat:=(x*5+1)%(a+1)
noncomputable def lX(a:Nat):Nat->Nat->Nat
 |0,x=>x
 |k+1,x=>oj a (lX a k x)
def Es(a:Nat)(h:Int):∀k,(bL a h<|13+k).1=lX a k (bL a h 13).1
 |0=>O
 |k+1=>by
  show((bL a h<|13+k).1*5+1+(bL a h<|13+k).2 / 32)%(a+1)=oj a (lX a k (bL a h 13).1);rw[Ut a h ü,Es a h k]
  rfl
def mP(a:Nat):Prop:=∀i s,i<=a->s<=a->∃k,k<=a/\lX a k i=s
noncomputable def ve(a:Nat):Nat->Nat->List Nat
 |0,_=>[]
 |n+1,x=>x::ve a n (oj a x)
def Li(a:Nat):∀(n x k:Nat),k<n->(ve a n x)[k]?=V (lX a k x)
 |0,_,_,h=>bh h (Dr _)
 |n+1,x,0,_=>O
 |n+1,x,k+1,h=>by
  have b:=Li a n (oj a x) k (ò h);show(ve a n<|oj a x)[k]?=_;rw[b]
  congr 1
  have c:∀k x,lX a k (oj a x)=oj a (lX a k x):=by
   intro k
   induction k with
   |zero=>intro x;rfl
   |succ k b=>intro x;show oj a (lX a k<|oj a x)=_;rw[b];rfl
  exact c k x
def Er(a:Nat):∀n x,(ve a n x).length=n
 |0,_=>O
 |n+1,x=>by show(ve a n<|oj a x).length+1=_;rw[Er a n]
def zX(c:Nat):∀(a b x:Nat),lX c (a+b) x=lX c a (lX c b x)
 |0,b,x=>by rw[uG];rfl
 |a+1,b,x=>by
  rw[Nat.add_right_comm];show oj c (lX c (a+b) x)=_;rw[zX c a b x]
  rfl
def xk{c:Nat}(h:((cr<|c+1).all λs=>(ve c (c+1) 0).contains s)=ae)(n:lX c (c+1) 0=0):mP c:=by
 have d:∀s,s<=c->∃k,k<=c/\lX c k 0=s:=λs g=>by
  have o:=pv.mp h s<|fJ.mpr (ï g);obtain⟨k,f,e⟩:=np.mp<|List.contains_iff_mem.mp o;rw[Er] at f;refine(k,(ò f),?_);have j:=Li c (c+1) 0 k f;rw[cB (by rw[Er];exact f),e] at j;exact(bM j).symm
 intro i s p g;obtain⟨a,r,l⟩:=d i p;obtain⟨b,t,m⟩:=d s g;rcases kX b a with q|q
 ·refine(c+1-a+b,ω,?_)
  rw[<-l,<-zX,show c+1-a+b+a=b+(c+1) from ω,zX,n,m]
 ·refine(b-a,ω,?_)
  rw[<-l,<-zX,show b-a+a=b from ω,m]
def UI:mP 7:=xk δ δ
def UK:mP 31:=xk δ δ
def UJ:mP 63:=xk δ δ
def UL:mP 255:=xk δ δ
def UM:mP 127:=xk δ δ
def Uo(b:mP a)(h:Int){x:Nat}(c:x<=a):∃n,n<10*mF a/\cm a h n=x:=by
 obtain⟨k,f,e⟩:=b (bL a h 13).1 x (Lk a h 13) c;obtain⟨n,g,d⟩:=Lf a h<|13+k;refine(n,by unfold mF;omega,?_);show(cQ a h n).j=x;rw[d];show(bL a h<|13+k).1=x;rw[Es,e]
def Eo(a:Nat)(h:Int)(n:Nat):cm a h n<=a:=by
 have b:∀n,(cQ a h n).i<=a/\(cQ a h n).j+(cQ a h n).more<=a:=by
  intro n;have c:∀f,f<=a->f+(f_ a f-f)<=a:=λf e=>by unfold f_;split<;>omega
  induction n with
  |zero=>
   have q:kU h%(a+1)<=a:=ro.mp<|JI _<|JH _;exact(q,c _ q)
  |succ n d=>
   show(mO a<|cQ a h n).i<=a/\(mO a<|cQ a h n).j+(mO a<|cQ a h n).more<=a;unfold mO;split
   ·exact(d.1,by show(cQ a h n).j+1+((cQ a h n).more-1)<=a;omega)
   ·have q:(sG a (cQ a h n).i (cQ a h n).perturb).1<=a:=ro.mp<|JI _<|JH _
    exact(q,c _ q)
 have:=(b n).2;unfold cm;exact è this
end
section
open PySem.SetTable
structure jR(t:ng)(hs:Array Int):Prop where
 c:tB t.place
 b:t.dummies=#[]
 a:t.place.size=hs.size
 e:∀(i j:Nat),t.place[i]?=V j->j<=t.mask
 l:mP t.mask
 f:t.mask%2=1
 g:hs.size<=t.mask
 d:∀(k j:Nat)(h:Int),hs[k]?=V h->t.place[k]?=V j->∃n,cm t.mask h n=j/\∀m,m<n->∃k':Nat,t.place[k']?=V (cm t.mask h m)
def lY(t:ng)(j:Nat):Prop:=∃i:Nat,t.place[i]?=V j
section
variable{t:ng}{hs:Array Int}
def vd(T:jR t hs){i j:Nat}(e:t.place[i]?=V j):t.slot j=.live i:=by
 show(if(t.place[gU t.place j]?==V j)=ae then ux (gU t.place j) else _)=_;rw[UQ T.c e,e,av 0#0]
def Uk(T:jR t hs){j:Nat}(e:¬lY t j):t.slot j=.empty:=by
 show(if(t.place[gU t.place j]?==V j)=ae then ux (gU t.place j) else if has t.dummies j=ae then Jd else y_)=_;have a:¬(t.place[gU t.place j]?==V j)=ae:=by
  intro q;exact e (_,DL q)
 have b:has t.dummies j=aB:=by
  unfold has;rw[T.b]
  rfl
 rw[am a,b]
 rfl
def UB(T:jR t hs):∃x,x<=t.mask/\¬lY t x:=by
 apply qj;intro d;have a:∀x,x<=t.mask->lY t x:=λx b=>qj λq=>d (x,b,q);have c:cr (t.mask+1) ⊆ t.place.toList:=λx b=>by
  obtain⟨i,e⟩:=a x<|ro.mp<|fJ.mp b;rw[<-ki] at e;exact dh e
 have:=(zu (n:=t.mask+1)).length_le_of_subset c;rw[lT,gJ,T.a] at this;have:=T.g;omega
def Et{P:Nat->Prop}(n:Nat)(h:P n):∃m,m<=n/\P m/\∀k,k<m->¬P k:=by
 induction n using Nat.strongRecOn with
 |ind n c=>
  by_cases q:∃k,k<n/\P k
  ·obtain⟨k,a,b⟩:=q
   obtain⟨m,f,d,e⟩:=c k a b;exact(m,(à f (ì a)),d,e)
  ·exact(n,aV _,h,λk a b=>q (k,a,b))
def UC(T:jR t hs)(h:Int):∃a,a<10*mF t.mask/\¬lY t (cm t.mask h a)/\∀m,m<a->lY t (cm t.mask h m):=by
 obtain⟨x,b,c⟩:=UB T;obtain⟨n,i,e⟩:=Uo T.l h b;obtain⟨m,j,d,f⟩:=Et (P:=λm=>¬lY t (cm t.mask h m)) n (by rw[e];exact c);exact(m,(à (ï j) i),d,λk g=>qj λq=>f k g q)
def Ev(T:jR t hs){a:Nat->Int}:∀(d fuel n:Nat),(∀m,n<=m->m<n+d->∃i:Nat,t.place[i]?=V (cm t.mask h m)/\a i≠h)->uw t a h (fuel+d) (cQ t.mask h n)=uw t a h fuel (cQ t.mask h<|n+d)
 |0,fuel,n,_=>O
 |d+1,fuel,n,b=>by
  obtain⟨i,c,e⟩:=b n (aV _) ω;have f:t.slot (cQ t.mask h n).j=.live i:=vd T c;have g:=Ev T d fuel (n+1) (λm k l=>b m (ì k) ω);rw[show fuel+(d+1)=(fuel+d)+1 from (û ß ß),show n+(d+1)=n+1+d from ω,<-g];show(match t.slot (cQ t.mask h n).j with
   |.empty=>V (CY (cQ t.mask h n).j (cQ t.mask h n).dummy)
   |.dummy=>uw t a h (fuel+d) (t.advance {(cQ t.mask h n) with dummy:=V (cQ t.mask h n).j})
   |.live i=>if a i==h then V (Je (cQ t.mask h n).j i<|t.advance<|cQ t.mask h n) else uw t a h (fuel+d) (t.advance<|cQ t.mask h n))=_
  rw[f];dsimp only;rw[am 6#e]
  rfl
def Uq(T:jR t hs){hashAt:Nat->Int}{g n:Nat}(w:g<10*mF t.mask)(x:¬lY t (cm t.mask h g))(s:∀m,m<g->lY t (cm t.mask h m))(C:n<=g):(t.probe hashAt h (cQ t.mask h n)=V (.empty (cm t.mask h g) Y)/\∀m i,n<=m->m<g->t.place[i]?=V (cm t.mask h m)->hashAt i≠h) \/
  ∃(E i:Nat),n<=E/\E<g/\t.place[i]?=V (cm t.mask h E)/\hashAt i=h/\t.probe hashAt h (cQ t.mask h n)=V (.candidate (cm t.mask h E) i<|cQ t.mask h<|E+1)/\∀m k,n<=m->m<E->t.place[k]?=V (cm t.mask h m)->hashAt k≠h:=by
 by_cases q:∃E,n<=E/\E<g/\∃i:Nat,t.place[i]?=V (cm t.mask h E)/\hashAt i=h
 ·right
  obtain⟨p,o⟩:=q;obtain⟨E,D,⟨y,z,i,u,v⟩,A⟩:=Et (P:=λE=>n<=E/\E<g/\∃i:Nat,t.place[i]?=V (cm t.mask h E)/\hashAt i=h) p o;have l:∀m k,n<=m->m<E->t.place[k]?=V (cm t.mask h m)->hashAt k≠h:=λm k a b c d=>A m b (a,(à b (ì z)),k,c,d);refine(E,i,y,z,u,v,?_,l);obtain⟨f,r⟩:∃f,10*mF t.mask=(f+1)+(E-n):=(10*mF t.mask-(E-n)-1,ω);unfold af1;rw[r,Ev T (E-n) (f+1) n (λm a b=>?_),show n+(E-n)=E from ω]
  ·show(match t.slot (cQ t.mask h E).j with
    |.empty=>V (CY (cQ t.mask h E).j (cQ t.mask h E).dummy)
    |.dummy=>uw t hashAt h f (t.advance {(cQ t.mask h E) with dummy:=V (cQ t.mask h E).j})
    |.live i=>if hashAt i==h then V (Je (cQ t.mask h E).j i<|t.advance<|cQ t.mask h E) else uw t hashAt h f (t.advance<|cQ t.mask h E))=_
   rw[show t.slot (cQ t.mask h E).j=.live i from vd T u];dsimp only;rw[av 6#v]
   rfl
  ·obtain⟨k,e⟩:=s m ω
   exact(k,e,l m k a ω e)
 ·left
  have l:∀m i,n<=m->m<g->t.place[i]?=V (cm t.mask h m)->hashAt i≠h:=λm i a b c d=>q (m,a,b,i,c,d);refine(?_,l);obtain⟨f,r⟩:∃f,10*mF t.mask=(f+1)+(g-n):=(10*mF t.mask-(g-n)-1,ω);unfold af1;rw[r,Ev T (g-n) (f+1) n (λm a b=>?_),show n+(g-n)=g from ω]
  ·show(match t.slot (cQ t.mask h g).j with
    |.empty=>V (CY (cQ t.mask h g).j (cQ t.mask h g).dummy)
    |.dummy=>uw t hashAt h f (t.advance {(cQ t.mask h g) with dummy:=V (cQ t.mask h g).j})
    |.live i=>if hashAt i==h then V (Je (cQ t.mask h g).j i<|t.advance<|cQ t.mask h g) else uw t hashAt h f (t.advance<|cQ t.mask h g))=_
   rw[show t.slot (cQ t.mask h g).j=.empty from Uk T x];dsimp only;rw[Lh]
   rfl
  ·obtain⟨k,e⟩:=s m ω
   exact(k,e,l m k a ω e)
def Ur(T:jR t hs){a k j:Nat}(b:¬lY t (cm t.mask h a))(d:hs[k]?=V h)(c:t.place[k]?=V j):∃g,g<a/\cm t.mask h g=j:=by
 obtain⟨n,e,f⟩:=T.d k j h d c;refine(n,?_,e);rcases Ds n a with q|q|q
 ·exact q
 ·subst q;exact bh (k,by rw[e];exact c) b
 ·exact bh (f a q) b
def Up(T:jR t hs)(x:¬lY t (cm t.mask h c))(y:∀m,m<c->lY t (cm t.mask h m))(z:hs.size+1<=t.mask):(t.put<|cm t.mask h c).2<=hs.size/\(t.put<|cm t.mask h c).1.mask=t.mask/\jR (t.put<|cm t.mask h c).1 (gG hs (t.put<|cm t.mask h c).2 h):=by
 have A:∀i:Nat,t.place[i]?≠V (cm t.mask h c):=λi e=>x (i,e);obtain⟨o,E,G⟩:=Ew T.c<|cm t.mask h c;have u:gU t.place (cm t.mask h c)<=hs.size:=by rw[<-T.a];exact o
 have p:(t.put<|cm t.mask h c).1.place=gG t.place (gU t.place<|cm t.mask h c) (cm t.mask h c):=O;have v:(t.put<|cm t.mask h c).1.mask=t.mask:=O;have l:∀j,lY t j->∃C:Nat,(t.put<|cm t.mask h c).1.place[C]?=V j:=λj (i,e)=>by
  by_cases q:i<gU t.place (cm t.mask h c)
  ·exact(i,by rw[p,nv _ _ _ o,av q];exact e)
  ·exact(i+1,by rw[p,nv _ _ _ o,am (ù (í (ô q))),am (ö (ï (ô q))),Du];exact e)
 refine(u,v,(?_,?_,?_,λi j e=>?_,T.l,T.f,?_,λk j w D g=>?_))
 ·rw[p];exact Uy T.c A
 ·show(if has t.dummies (cm t.mask h c)=ae then _ else t.dummies)=#[]
  rw[T.b]
  rfl
 ·rw[p,zY _ _ _ o]
  show _=(gG hs (gU t.place<|cm t.mask h c) h).size;rw[zY _ _ _ u,T.a]
 ·rw[p,nv _ _ _ o] at e
  rw[v]
  by_cases r:i<gU t.place (cm t.mask h c)
  ·rw[av r] at e;exact T.e _ _ e
  ·rw[am r] at e
   by_cases s:i=gU t.place (cm t.mask h c)
   ·rw[av s] at e;cases e;exact Eo _ _ _
   ·rw[am s] at e;exact T.e _ _ e
 ·show(gG hs (gU t.place<|cm t.mask h c) h).size<=t.mask
  rw[zY _ _ _ u];exact z
 ·have d:(gG hs (gU t.place<|cm t.mask h c) h)[k]?=V w:=D
  rw[nv _ _ _ u] at d;rw[p,nv _ _ _ o] at g;rw[v]
  by_cases r:k<gU t.place (cm t.mask h c)
  ·rw[av r] at d g
   obtain⟨n,a,b⟩:=T.d k j w d g;exact(n,a,λm f=>l _<|b m f)
  ·rw[am r] at d g
   by_cases s:k=gU t.place (cm t.mask h c)
   ·rw[av s] at d g
    cases d;cases g;exact(c,O,λm f=>l _<|y m f)
   ·rw[am s] at d g
    obtain⟨n,a,b⟩:=T.d (k-1) j w d g;exact(n,a,λm f=>l _<|b m f)
end
def Uh(c d:Nat)(f:Bool):jR (kT c d f) #[]:=
 (λi j a b h=>by simp[kT] at h,O,O,λi j h=>by simp[kT] at h,UI,show 7%2=1 from O,show 0<=7 from eY _,λk j h e=>by simp at e)
end
section
open PySem.SetTable
def om(a:Array (Option Nat))(j:Nat):Prop:=∃q,a[j]?=V (V q)
noncomputable def iR(a:Nat)(h:Int):Nat->Nat
 |0=>0
 |r+1=>iR a h r+(f_ a (bL a h r).1-(bL a h r).1)+1
def Ui(a:Nat)(h:Int){r R:Nat}(b:r<=R):iR a h r<=iR a h R:=by
 induction b with
 |refl=>exact aV _
 |step _ c=>exact dq c (by show _<=iR a h _+_+1;exact í ü)
def En(a:Nat)(h:Int):∀r,cQ a h (iR a h r)={j:=(bL a h r).1,more:=f_ a (bL a h r).1-(bL a h r).1,i:=(bL a h r).1,perturb:=(bL a h r).2,dummy:=Y}
 |0=>O
 |r+1=>by
  show mO a (cQ a h<|iR a h r+(f_ a (bL a h r).1-(bL a h r).1))=_;rw[zV a h (En a h r) _<|aV _];unfold mO;rw[am (by show ¬(f_ a (bL a h r).1-(bL a h r).1-(f_ a (bL a h r).1-(bL a h r).1)>0);omega)]
  rfl
def Ep{a:Array (Option Nat)}{b j:Nat}(i:a.size=b+1)(k:j<=b):(a.getD j<|V 0).isNone=ae↔¬om a j:=by
 have d:j<a.size:=(à (ï k) (æ i))
 have e:a.getD j (V 0)=a[j]:=by simp[ajq,d]
 have f:a[j]?=V a[j]:=h_ a j d;rw[e];constructor
 ·intro h (q,g)
  rw[f] at g;rw[bM g] at h;cases h
 ·intro h
  cases c:a[j] with
  |none=>rfl
  |some q=>exact bh (q,by rw[f,c]) h
def UA{a:Nat}{b:Array (Option Nat)}(i:b.size=a+1)(h:Int){d R:Nat}(n:¬om b (cm a h d))(l:∀m,m<d->om b (cm a h m))(hR:d<=iR a h R):∀(fuel y:Nat),iR a h y<=d->R<y+fuel->CT a b fuel (bL a h y).1 (bL a h y).2=V (cm a h d):=by
 intro fuel
 induction fuel with
 |zero=>
  intro y u v;have q:=Ui a h (r:=R+1) (R:=y) v;have:iR a h (R+1)=iR a h R+(f_ a (bL a h R).1-(bL a h R).1)+1:=O;omega
 |succ fuel o=>
  intro y w x;have g:=zV a h<|En a h y;have c:∀k,k<=f_ a (bL a h y).1-(bL a h y).1->cm a h (iR a h y+k)=(bL a h y).1+k:=λk f=>by
   unfold cm;rw[g k f]
  have p:(bL a h y).1<=f_ a (bL a h y).1:=by unfold f_;split<;>omega
  have e:∀k,k<=f_ a (bL a h y).1-(bL a h y).1->(bL a h y).1+k<=a:=λk f=>by rw[<-c k f];exact Eo _ _ _
  show(match (cr<|f_ a (bL a h y).1+1-(bL a h y).1).find? (λk=>(b.getD ((bL a h y).1+k)<|V 0).isNone) with
   |some k=>V ((bL a h y).1+k)
   |none=>CT a b fuel (sG a (bL a h y).1 (bL a h y).2).1 (sG a (bL a h y).1 (bL a h y).2).2)=_
  by_cases s:d<=iR a h y+(f_ a (bL a h y).1-(bL a h y).1)
  ·have j:(cr<|f_ a (bL a h y).1+1-(bL a h y).1).find? (λk=>(b.getD ((bL a h y).1+k)<|V 0).isNone)=V (d-iR a h y):=by
    rw[List.find?_range_eq_some];refine(?_,fJ.mpr ω,λk f=>?_)
    ·show(b.getD ((bL a h y).1+(d-iR a h y))<|V 0).isNone=ae
     rw[Ep i<|e _ ω,<-c _ ω,show iR a h y+(d-iR a h y)=d from ω];exact n
    ·have q:¬(b.getD ((bL a h y).1+k)<|V 0).isNone=ae:=by
      rw[Ep i<|e _ ω,<-c k ω];exact λz=>z<|l _ ω
     rw[Bool.not_eq_true] at q;rw[q]
     rfl
   rw[j];dsimp only;rw[<-c _ ω,show iR a h y+(d-iR a h y)=d from ω]
  ·have j:(cr<|f_ a (bL a h y).1+1-(bL a h y).1).find? (λk=>(b.getD ((bL a h y).1+k)<|V 0).isNone)=Y:=by
    rw[aiu];intro k f;have t:=fJ.mp f;rw[Ep i<|e _ ω,<-c k ω];exact λz=>z<|l _ ω
   rw[j];dsimp only;refine o (y+1) ?_ ω;show iR a h y+(f_ a (bL a h y).1-(bL a h y).1)+1<=d;exact ó s
structure rG(mask:Nat)(hashes:List Int)(owner:Array (Option Nat))(k:Nat):Prop where
 b:owner.size=mask+1
 all:∀q:Nat,q<k->∃j:Nat,owner[j]?=V (V q)
 a:∀j q:Nat,owner[j]?=V (V q)->q<k
 c:∀(i j q:Nat),owner[i]?=V (V q)->owner[j]?=V (V q)->i=j
 d:∀(j q:Nat)(h:Int),owner[j]?=V (V q)->hashes[q]?=V h->∃n,cm mask h n=j/\∀m,m<n->om owner (cm mask h m)
noncomputable def rG.B{d:Nat}{c:Array (Option Nat)}{k:Nat}(L:rG d f c k)(w:k<=d):∃x,x<=d/\¬om c x:=by
 apply qj;intro o;have g:∀x,x<=d->∃q,q<k/\c[x]?=V (V q):=λx i=>by
  have:om c x:=qj λq=>o (x,i,q);obtain⟨q,e⟩:=this;exact(q,L.a x q e,e)
 have j:((cr<|d+1).map λx=>(c.getD x Y).getD 0) ⊆ cr k:=λy r=>by
  obtain⟨x,i,e⟩:=aO.mp r;obtain⟨q,s,h⟩:=g x<|ro.mp<|fJ.mp i;rw[Ks,h] at e;subst e;exact fJ.mpr s
 have t:((cr<|d+1).map λx=>(c.getD x Y).getD 0).Nodup:=by
  refine uJ.mpr<|ip.mpr ?_;refine Ke ?_<|uJ.mp<|zu (n:=d+1);intro a b u v l e;obtain⟨q,_,m⟩:=g a<|ro.mp<|fJ.mp u;obtain⟨p,_,h⟩:=g b<|ro.mp<|fJ.mp v;simp only[Ks,m,h,sR] at e;subst e;exact l<|L.c a b q m h
 have:=t.length_le_of_subset j;rw[au,lT,lT] at this;exact ø this w
def Um{a:Array (Option Nat)}{b j k:Nat}(c:a.size=b+1)(d:j<=b)(i:Nat):(a.setIfInBounds j<|V k)[i]?=if i=j then V (V k) else a[i]?:=by
 by_cases q:i=j
 ·subst q
  rw[av O,ajm (à (ï d) (æ c))]
 ·rw[am q,ajn<|dp q]
def rG.step{c:Nat}(D:mP c)(L:rG c g f U)(E:U<=c)(G:g[U]?=V h):∃j,CT c f (mF c) (kU h%(c+1)) (kU h)=V j/\rG c g (f.setIfInBounds j<|V U) (U+1):=by
 obtain⟨x,H,I⟩:=L.B E;obtain⟨d,S,e⟩:=D (bL c h 13).1 x (Lk c h 13) H;have K:cm c h (iR c h<|13+d)=x:=by
  unfold cm;rw[En];show(bL c h<|13+d).1=x;rw[Es,e]
 obtain⟨l,M,v,Q⟩:=Et (P:=λm=>¬om f (cm c h m)) (iR c h<|13+d) (by rw[K];exact I);have y:∀m,m<l->om f (cm c h m):=λm q=>qj λz=>Q m q z;refine(cm c h l,UA L.b h v y M (mF c) 0 (eY _) (by unfold mF;omega),?_);have u:cm c h l<=c:=Eo _ _ _;have r:=Um (k:=U) L.b u;have s:∀i,om f i->om (f.setIfInBounds (cm c h l)<|V U) i:=λi (q,e)=>by
  by_cases z:i=cm c h l
  ·exact(U,by rw[r,av z])
  ·exact(q,by rw[r,am z];exact e)
 refine(by rw[ajj];exact L.b,λq T=>?_,λj q e=>?_,λi j q o p=>?_,λj q R o p=>?_)
 ·by_cases z:q=U
  ·exact(cm c h l,by rw[r,av O,z])
  ·obtain⟨j,A⟩:=L.all q (þ (ò T) z)
   refine(j,?_);rw[r,am λw=>v (q,by rw[<-w];exact A)];exact A
 ·rw[r] at e
  by_cases z:j=cm c h l
  ·rw[av z] at e;cases e;exact ß
  ·rw[am z] at e;have:=L.a j q e;exact í this
 ·rw[r] at o p
  by_cases C:i=cm c h l
  ·rw[av C] at o;cases o
   by_cases t:j=cm c h l
   ·exact û (à (å C) (æ t)) (à (å t) (æ C))
   ·rw[am t] at p;have:=L.a j U p;omega
  ·rw[am C] at o
   by_cases t:j=cm c h l
   ·rw[av t] at p;cases p;have:=L.a i U o;omega
   ·rw[am t] at p;exact L.c i j q o p
 ·rw[r] at o
  by_cases z:j=cm c h l
  ·rw[av z] at o;cases o
   rw[G] at p;cases p;exact(l,z.symm,λm q=>s _<|y m q)
  ·rw[am z] at o
   obtain⟨n,a,b⟩:=L.d j q R o p;exact(n,a,λm q=>s _<|b m q)
def rG.nil(a:Nat)(b:List Int):rG a b (ajk (a+1) Y) 0:=by
 have c:∀(j q:Nat),(ajk (a+1) (Y:Option Nat))[j]?=V (V q)->False:=λj q e=>by
  rw[Array.getElem?_replicate] at e;split at e<;>cases e
 exact(by simp,λq h=>bh h<|Dr _,λj q e=>(c j q e).elim,λi j q e=>(c i q e).elim,λj q h e=>(c j q e).elim)
def Uv(n:mP g)(c:Array Int)(x:c.size<=g+1):∃d,layClean g c=V d/\rG g c.toList d c.size:=by
 have p:∀(f:List Int)(d:Array (Option Nat))(k:Nat),rG g c.toList d k->c.toList.drop k=f->
   ∃i,(f.foldl (λm h=>do
    let (d,k) <-m
    let j <-CT g d (mF g) (kU h%(g+1)) (kU h)
    aX (aez (d.setIfInBounds j<|V k) (k+1)))<|V (aez d k))=V (aez i (k+f.length))/\rG g c.toList i (k+f.length):=by
  intro f
  induction f with
  |nil=>intro d k L _;exact(d,O,L)
  |cons h f r=>
   intro d k L e;have l:k<c.toList.length:=by
    rcases kX k c.toList.length with q|q
    ·exact q
    ·rw[SX q] at e;cases e
   have s:c.toList[k]?=V h:=by
    rw[pn l] at e;injection e with e1 _
    rw[cB l,e1]
   have t:c.toList.drop (k+1)=f:=by
    rw[pn l] at e;injection e
   rw[gJ] at l;obtain⟨j,u,v⟩:=L.step n ω s;obtain⟨w,a,b⟩:=r (d.setIfInBounds j<|V k) (k+1) v t;refine(w,?_,?_)
   ·rw[sZ]
    show ti _ (CT g d (mF g) (kU h%(g+1)) (kU h) >>= λj=>aX (aez (d.setIfInBounds j<|V k) (k+1))) f=_;rw[u];show ti _ (V (aez (d.setIfInBounds j<|V k) (k+1))) f=_;rw[a,dj,show k+1+f.length=k+(f.length+1) from ω]
   ·rw[dj,show k+(f.length+1)=k+1+f.length from ω]
    exact b
 obtain⟨o,a,b⟩:=p c.toList _ 0 (rG.nil g _) O;rw[uG,gJ] at a b;refine(o,?_,b);unfold layClean;rw[<-Array.foldl_toList,a]
 rfl
noncomputable def gX(a:Array (Option Nat))(n:Nat):List (Nat×Nat):=(cr n).filterMap λj=>(a.getD j Y).map (aez j ·)
def rE{n:Nat}{x:Nat×Nat}:x∈gX a n↔x.1<n/\a[x.1]?=V (V x.2):=by
 unfold gX;rw[JS];constructor
 ·rintro⟨j,d,e⟩
  rw[o_] at e;obtain⟨q,b,rfl⟩:=e;refine(fJ.mp d,?_);rw[Ks] at b;cases c:a[j]? with
  |none=>rw[c] at b;cases b
  |some v=>rw[c] at b;simp only[sR] at b;rw[b]
 ·rintro⟨f,g⟩
  refine(x.1,fJ.mpr f,?_);rw[Ks,g]
  rfl
def Ll(c:Array (Option Nat))(i:Nat):(gX c i).Pairwise λx y=>x.1<y.1:=by
 unfold gX;refine alp (S:=λx y:Nat×Nat=>x.1<y.1) _ ?_<|aig (n:=i);intro a f h b e g d;rw[o_] at e d;obtain⟨_,_,rfl⟩:=e;obtain⟨_,_,rfl⟩:=d;exact h
def Uu{k:Nat}(L:rG d f c k):(gX c<|d+1).length=k/\((gX c<|d+1).map (·.2)).Nodup:=by
 have h:((gX c<|d+1).map (·.2)).Nodup:=by
  refine uJ.mpr<|ip.mpr ?_;refine Ke ?_<|Ll c<|d+1;intro a b m o p e;have r:=(rE.mp m).2;have i:=(rE.mp o).2;rw[<-e] at i;have:=L.c _ _ _ r i;exact ø p (æ this)
 refine(?_,h);have s:(gX c<|d+1).map (·.2) ⊆ cr k:=λq g=>by
  obtain⟨x,t,rfl⟩:=aO.mp g;exact fJ.mpr<|L.a _ _ (rE.mp t).2
 have u:cr k ⊆ (gX c<|d+1).map (·.2):=λq g=>by
  obtain⟨j,l⟩:=L.all q<|fJ.mp g;have v:j<d+1:=by rw[<-L.b];exact(uT.mp l).1
  exact aO.mpr ((aez j q),rE.mpr (v,l),O)
 have w:=h.length_le_of_subset s;have y:=(zu (n:=k)).length_le_of_subset u;rw[au,lT] at w;rw[lT,au] at y;exact û w y
def Uw(P:mP d)(R:d%2=1)(o p:Nat)(u l:Bool)(f:Array Int)(S:f.size<=d):∃t g,laid d o p u l f=V (aez t g)/\t.mask=d/\t.led=u/\t.plain=l/\g.size=f.size/\g.toList.Nodup/\(∀q∈g.toList,q<f.size)/\
   jR t (g.map λq=>(f[q]?).getD 0):=by
 obtain⟨c,e,L⟩:=Uv P f (í S);obtain⟨Q,T⟩:=Uu L;refine(_,_,by unfold laid;rw[e];exact O,O,O,O,?_,?_,?_,?_)
 ·show((gX c<|d+1).map (·.2)).toArray.size=_
  rw[cP,au,Q]
 ·exact T
 ·intro q A
  obtain⟨x,w,rfl⟩:=aO.mp (show q∈(gX c<|d+1).map (·.2) from A);exact L.a _ _ (rE.mp w).2
 ·have v:∀i:Nat,(((gX c<|d+1).map (·.1)).toArray)[i]?=((gX c<|d+1)[i]?).map (·.1):=λi=>by
   rw[SP,bV]
  have U:∀i:Nat,(((gX c<|d+1).map (·.2)).toArray)[i]?=((gX c<|d+1)[i]?).map (·.2):=λi=>by
   rw[SP,bV]
  have C:∀j,om c j->∃i:Nat,(((gX c<|d+1).map (·.1)).toArray)[i]?=V j:=λj (q,z)=>by
   have D:j<d+1:=by rw[<-L.b];exact(uT.mp z).1
   obtain⟨i,E,X⟩:=np.mp (rE.mpr (D,z):(aez j q)∈gX c (d+1));exact(i,by rw[v,cB E,X];rfl)
  refine(λi j a b ha hb G=>?_,O,?_,λi j z=>?_,P,R,?_,λk j h e1 e2=>?_)
  ·have H:((gX c<|d+1)[i]?).map (·.1)=V a:=by rw[<-v];exact ha
   have I:((gX c<|d+1)[j]?).map (·.1)=V b:=by rw[<-v];exact hb
   obtain⟨x,s,rfl⟩:=o_.mp H;obtain⟨y,ey,rfl⟩:=o_.mp I;obtain⟨E,rfl⟩:=bY.mp s;obtain⟨D,rfl⟩:=bY.mp ey;exact pc.mp (Ll c<|d+1) i j E D G
  ·show((gX c<|d+1).map (·.1)).toArray.size=(nu _ ((gX c<|d+1).map (·.2)).toArray).size
   rw[n_,cP,cP,au,au]
  ·have K:((gX c<|d+1)[i]?).map (·.1)=V j:=by rw[<-v];exact z
   obtain⟨x,s,rfl⟩:=o_.mp K;exact ro.mp (rE.mp<|dh s).1
  ·show(nu _ ((gX c<|d+1).map (·.2)).toArray).size<=d
   rw[n_,cP,au,Q];exact S
  ·have M:((gX c<|d+1)[k]?).map (·.1)=V j:=by rw[<-v];exact e2
   obtain⟨x,s,rfl⟩:=o_.mp M;have r:(nu (λq=>(f[q]?).getD 0) ((gX c<|d+1).map (·.2)).toArray)[k]?=V h:=e1;rw[wW,U,s] at r;have w:=(rE.mp<|dh s).2;have A:=L.a _ _ w;have eh:f.toList[x.2]?=V h:=by
    rw[ki];have:f[x.2]?=V f[x.2]:=h_ f x.2 A;simp only[nj,this,sR] at r;rw[this,bM r]
   obtain⟨n,a,b⟩:=L.d x.1 x.2 h w eh;exact(n,a,λm hm=>C _<|b m hm)
end
section
open PySem.SetTable
section
variable{prog:bu}{w:bf}{K:Type}[DecidableEq K]{knd:sI prog w K}{A:bO}{E:Ω}{s:ak}
def z_{t:ng}{a:Array (Int×aa)}(T:jR t (a.map (·.1))):t.fits a.size=ae:=by
 have b:=T.a;have c:=T.g;rw[n_] at b c;unfold SetTable.fits af2;rw[T.b,b];simp;exact c
def Us(n:Nat)(h:RB v=ae):Rm n v=aX aB:=by
 cases v with
 |ref a=>simp[RB] at h
 |_=>cases n<;>rfl
def Le{j:List K}{b:W}{Q:Bool->ak->Prop}(i:gb knd s.heap j b)(h:Q aB s):ax 2#0 A (Rm 8<|.ref b) Q E s:=by
 have k:=i.typeIs;obtain⟨o,d,n,l,_,m,p⟩:=i;unfold Rm;refine ag<|uh k ?_;show ax _ _ ((if("tuple" == "tuple")=ae then aX ae else isSubtype (.type "tuple") (.type "tuple")) >>= _) _ _ s;rw[av ξ];refine ag<|aG ?_;simp only[nZ,dK,da];refine ag<|iU l m ?_;refine ag ?_;show ax _ _ (mN d _ _) _ _ s;rw[<-ajr];refine yM _ (λa r e=>r.1=Y/\e=s/\∀v∈a,RB v=ae) _ ?_ ?_ _ _ (O,O,p.byValue)
 ·rintro v a r e ⟨f,rfl,c⟩
  rw[Us _<|c v fE];refine ag<|aG ?_;simp only[dK,da];exact aG (O,O,λu g=>c u<|gd _ g)
 ·rintro⟨q,t⟩ e ⟨f,rfl,_⟩
  simp only at f;subst f;exact aG h
def Ua{n:List K}{b:W}{j:List aa}{Q:Bool->ak->Prop}(k:gb knd s.heap n b)(o:∀y∈j,∃e c,y=.ref c/\gb knd s.heap e c)(h:Q aB s):ax 2#0 A (aff 5#b j) Q E s:=by
 unfold aff;refine ag ?_;refine yM _ (λa r f=>r.1=Y/\f=s/\∀y∈a,∃e c,y=.ref c/\gb knd s.heap e c) _ ?_ ?_ _ _ (O,O,o)
 ·rintro v a r f ⟨g,rfl,d⟩
  obtain⟨e,c,rfl,l⟩:=d v fE;have m:∀u∈a,∃e c,u=.ref c/\gb knd f.heap e c:=λu i=>d u<|gd _ i;dsimp only;split
  ·exact aG (O,O,m)
  ·refine ag<|ae7 k ?_
   simp only[nZ,dK,da];refine ag<|ae7 l ?_;simp only[nZ,dK,da];refine ag<|Le k ?_;simp only[dK,da];refine ag<|Le l ?_;simp only[dK,da];exact aG (O,O,m)
 ·rintro⟨p,q⟩ f ⟨g,rfl,_⟩
  simp only at g;subst g;exact aG h
structure ln(knd:sI prog w K)(h:aW)(S:W)(o:bg)(es:Array (Int×aa))(ep:Nat)(t:ng)(ks:List (List K))(B:List W):Prop where
 a:h.get? S=V o
 f:o.ExactSet
 c:o.data=.set es ep t
 i:jR t (es.map (·.1))
 l:es.size=ks.length
 m:ks.Nodup
 g:∀e∈es.toList,∃k b,k∈ks/\e=(aez (du knd k) (Z b))/\gb knd h k b
 j:∀k∈ks,∃b,(aez (du knd k) (Z b))∈es.toList/\gb knd h k b
 d:(t.mask=7/\es.size<=4)\/(t.mask=31/\es.size<=18)\/(t.mask=127/\es.size<=76)\/(t.mask=15/\es.size<=8)\/(t.mask=63/\es.size<=37)\/(t.mask=255/\es.size<=152)
 n:∀e∈es.toList,∃b∈B,e.2=Z b
 p:w.params.followText "set-order"=ae\/(t.led=ae/\t.plain=ae)
def Ub{t:ng}{R:List (List K)}(X:ln knd s.heap S o d ep t R b9)(hu:A.units<dB){k:List K}{b:W}(U:gb knd s.heap k b){p:Nat}(a0:p<10*mF t.mask)(he:¬lY t (cm t.mask (du knd k) p))(hm:∀m,m<p->lY t (cm t.mask (du knd k) m)){g:Bool}{Q:SetFound->ak->Prop}(H:k∈R->∀r:Option Nat,(g=aB->r.isSome=ae)->Q (.there r) s)(h2:k∉R->Q (.free (cm t.mask (du knd k) p) aB) s):∀(fuel n:Nat)(a:Option CW),p<n+fuel->n<=p->a.getD (t.probeStart<|du knd k)=cQ t.mask (du knd k) n->
   (∀(m i:Nat)(c:W),m<n->t.place[i]?=V (cm t.mask (du knd k) m)->d[i]?=V (aez (du knd k) (Z c))->¬gb knd s.heap k c)->
   ax 2#0 A (Rf S 5#b (du knd k) g fuel a) Q E s:=by
 have T:=X.i;have u:=z_ T;have hA:∀i:Nat,(d.map (·.1))[i]?=(d[i]?).map (·.1):=λi=>wW ..;intro fuel
 induction fuel with
 |zero=>intro n a a1 a2 _ _;omega
 |succ fuel ih=>
  intro n a a1 a2 a3 a4;unfold Rf;refine ag<|yL X.a X.c u ?_;dsimp only;have gw:t.gaveWay=aB:=by
   unfold SetTable.gaveWay;rw[T.f]
   rfl
  rw[gw];simp only[dK,da];rw[a3];rcases Uq T (hashAt:=λi=>((d[i]?).map (·.1)).getD 0) a0 he hm a2 with ⟨a5,v⟩|⟨c0,i,b1,b2,C,b4,b5,b6⟩
  ·have D:t.probe (λi=>((d[i]?).map (·.1)).getD 0) (du knd k) (cQ t.mask (du knd k) n)=V (.empty (cm t.mask (du knd k) p) Y):=a5
   show ax _ _ (match t.probe (λi=>((d[i]?).map (·.1)).getD 0) (du knd k) (cQ t.mask (du knd k) n) with|some a6=>_|_=>_) _ _ s;rw[D];dsimp only;refine aG<|h2 λa7=>?_;obtain⟨c,a8,a9⟩:=X.j k a7;obtain⟨i,I,f⟩:=np.mp a8;have x:d[i]?=V (aez (du knd k) 5#c):=by
    rw[<-ki,cB I,f]
   have b0:i<t.place.size:=by rw[T.a,n_];simpa using I
   have ej:t.place[i]?=V t.place[i]:=h_ t.place i b0;obtain⟨c0,hN,eN⟩:=Ur T he (k:=i) (by rw[hA,x];rfl) ej;rcases kX c0 n with q|q
   ·exact a4 c0 i c q (by rw[eN];exact ej) x a9
   ·exact v c0 i q hN (by rw[eN];exact ej) (by show((d[i]?).map (·.1)).getD 0=_;rw[x];rfl)
  ·show ax _ _ (match t.probe (λi=>((d[i]?).map (·.1)).getD 0) (du knd k) (cQ t.mask (du knd k) n) with|some a6=>_|_=>_) _ _ s
   rw[b5];dsimp only;have I:i<d.size:=by
    have:=(uT.mp C).1;rw[T.a,n_] at this;exact this
   have f:d[i]?=V d[i]:=h_ d i I;obtain⟨L,c,h,ee,hc⟩:=X.g d[i] 0#0;rw[ee] at f;have eh:du knd L=du knd k:=by
    have:((d[i]?).map (·.1)).getD 0=du knd k:=b4;rw[f] at this;exact this
   rw[eh] at f;have M:t.sameMemory t.moves t.mask=V ae:=by unfold SetTable.sameMemory;rw[av 0#0]
   have l:L≠k->ax 2#0 A (Rf S 5#b (du knd k) g fuel<|V<|cQ t.mask (du knd k)<|c0+1) Q E s:=λj=>by
    refine ih (c0+1) _ ω b2 O λm i2 c2 q1 q2 P q4=>?_;rcases kX m n with z|z
    ·exact a4 m i2 c2 z q2 P q4
    ·rcases kX m c0 with z2|z2
     ·exact b6 m i2 z z2 q2 (by show((d[i2]?).map (·.1)).getD 0=_;rw[P];rfl)
     ·have:m=c0:=(û (ò q1) z2)
      subst this;have:=T.c.B q2 C;subst this;rw[f] at P;cases P;exact j<|IsTupleKey.inj hc q4
   cases b8:t.led
   all_goals simp only[nZ,Ti,dK,eD,da]
   ·refine ag<|Ua U (λy hy=>?_) ?_
    ·obtain⟨e,G,rfl⟩:=aO.mp hy
     rw[Array.toList_filter] at G;obtain⟨k2,c2,_,e2,b7⟩:=X.g e (eW.mp G).1;exact(k2,c2,by rw[e2],b7)
    simp only[dK,da];rw[f];refine ag<|fO<|IK hu hc U ?_;refine ag<|yL X.a X.c u ?_
    by_cases j:L=k
    ·subst j
     cases g
     ·simp only[decide_true,Ko,dK,da]
      rw[M];simp only[eD];rw[vd T C];dsimp only;rw[f];refine ag<|IH<|ag<|aG ?_;simp only[eD];exact aG<|H h _ λ_=>O
     ·simp only[decide_true,Tl,eD]
      exact aG (H h _ λz=>by cases z)
    ·rw[cw j]
     simp only[wV,dK,da];rw[M];simp only[eD];rw[vd T C];dsimp only;rw[f];refine ag<|IH<|ag<|aG ?_;simp only[eD];exact l j
   ·rw[f]
    refine ag<|fO<|IK hu hc U ?_;refine ag<|yL X.a X.c u ?_
    by_cases j:L=k
    ·subst j
     cases g
     ·simp only[decide_true,Ko,dK,da]
      rw[M];simp only[eD];rw[vd T C];dsimp only;rw[f];refine ag<|IH<|ag<|aG ?_;simp only[eD];exact aG<|H h _ λ_=>O
     ·simp only[decide_true,Tl,eD]
      exact aG (H h _ λz=>by cases z)
    ·rw[cw j]
     simp only[wV,dK,da];rw[M];simp only[eD];rw[vd T C];dsimp only;rw[f];refine ag<|IH<|ag<|aG ?_;simp only[eD];exact l j
end
end
section
open PySem.SetTable
section
variable{prog:bu}{w:bf}{K:Type}[DecidableEq K]{knd:sI prog w K}{A:bO}{E:Ω}{s:ak}
def tz{S b:W}{k:List K}{i j t}(l:gb knd h k b)(m:h.get? S=V o)(p:o.data=.set i j t)(q:i_ S h f):gb knd f k b:=by
 obtain⟨g,a,n,d,r,c,s⟩:=l;have e:b≠S:=by
  rintro rfl;obtain rfl:g=o:=bM<|d.symm.trans m;rw[p] at c;exact nomatch c
 exact(g,a,n,(q.2 b e).trans d,r,c,s)
def Ud{j:List K}{b:W}{Q:Bool->ak->Prop}(m:∀k v n,knd.is k v=ae->uo n v=aX ae)(l:gb knd s.heap j b)(h:Q ae s):ax 2#0 A (uo 8<|.ref b) Q E s:=by
 have p:=l.typeIs;obtain⟨o,c,n,q,_,t,u⟩:=l;unfold uo;refine ag<|QV p F.slot_tuple_hash.lookup ?_;dsimp only;refine ag<|iU q t ?_;refine ag ?_;show ax _ _ (mN c _ _) _ _ s;rw[<-ajr];refine yM _ (λa r f=>r.1=Y/\f=s/\∃d,C' knd d a) _ ?_ ?_ _ _ (O,O,j,u)
 ·rintro v a r f ⟨g,rfl,d,i⟩
  cases i with
  |@cons k _ e _ x y=>
   rw[m k v 7 x];refine ag<|aG ?_;simp only[nZ,dK,da];exact aG (O,O,e,y)
 ·rintro⟨z,C⟩ f ⟨g,rfl,_⟩
  simp only at g;subst g;exact aG h
def Lg{h:aW}{t:ng}{b:ng}(f:h.get? S=V o)(d:o.data=.set e c t):(h.update S<|RT a b).get? S=V {o with data:=.set a (c+1) b}:=by
 have:=rh (RT a b) f (by rw[putSet_of a b d];rfl);rw[putSet_of a b d] at this;exact this
def Lm{c:Type}{es:Array c}:∀{l:List Nat},(∀q∈l,q<es.size)->∃b:List c,l.filterMap (es[·]?)=b/\b.length=l.length/\(∀x∈b,x∈es.toList)/\(∀(i q:Nat),l[i]?=V q->b[i]?=es[q]?)
 |[],_=>([],O,O,(λx a=>by cases a),(λi q e=>by cases i<;>simp at e))
 |q::l,h=>by
  obtain⟨b,f,g,j,k⟩:=Lm (l:=l) λx a=>h x<|gd _ a;have d:=h q fE;refine(es[q]::b,?_,by rw[dj,dj,g],λx a=>?_,λi p e=>?_)
  ·rw[DF,h_ es q d,f]
  ·rcases cz.mp a with rfl|a
   ·simp
   ·exact j x a
  ·cases i with
   |zero=>simp at e;subst e;simp[h_ es q d]
   |succ i=>simp at e ⊢;exact k i p e
def Uc{a4:List W}{t:ng}{ks:List (List K)}{d f:Nat}(g:s.heap.get? S=V o)(y:o.ExactSet)(l:o.data=.set c v t)(T:jR t (c.map (·.1)))(C:c.size=ks.length)(nd:ks.Nodup)(ad:∀e∈c.toList,∃b∈a4,e.2=Z b)(el:∀e∈c.toList,∃k b,k∈ks/\e=(aez (du knd k) (Z b))/\gb knd s.heap k b)(ke:∀k∈ks,∃b,(aez (du knd k) (Z b))∈c.toList/\gb knd s.heap k b)(hw:Jc d-1=f)(D:Jc d<=bD)(hc:mP f)(ho:f%2=1)(hr:c.size<=f)(hz:c.size<=1000)(G:(f=7/\c.size<=4)\/(f=31/\c.size<=18)\/(f=127/\c.size<=76)\/(f=15/\c.size<=8)\/(f=63/\c.size<=37)\/(f=255/\c.size<=152))(wk:w.params.followText "set-order"=ae\/(t.led=ae/\t.plain=ae)){Q:Unit->ak->Prop}(h:∀H o' I L t',ln knd H S o' I L t' ks a4->i_ S s.heap H->Q () {s with heap:=H}):ax 2#0 A (CF S d) Q E s:=by
 have M:=z_ T;unfold CF;refine ag<|yL g l M ?_;dsimp only;rw[am<|Nat.not_lt.mpr D];obtain⟨m,a,e1,e2,e3,e4,P,e6,r,e8⟩:=Uw hc ho t.finger (t.movedTo f) t.led t.plain (c.map (·.1)) (by rw[n_];exact hr);have er:t.relaid (c.map (·.1)) d=V (aez m a):=by
  unfold SetTable.relaid;rw[hw];exact e1
 rw[n_] at P r;obtain⟨j,f1,f2,f3,f4⟩:=Lm (es:=c) r;have eo:a.filterMap (c[·]?)=j.toArray:=by
  apply Array.toList_inj.mp;rw[Array.toList_filterMap,f1]
 have u:j.length=c.size:=by rw[f2,gJ,P]
 rw[er];refine ag ?_;show ax _ _ (ite (((a.filterMap (c[·]?)).size != c.size)=ae) _ _) _ _ _;rw[am (by rw[eo,cP,u];simp),eo];refine aG ?_;dsimp only;have R:(j.toArray.map (·.1))=a.map λq=>((c.map (·.1))[q]?).getD 0:=by
  apply ajs;intro i;rw[wW,wW,SP];cases q:a[i]? with
  |none=>
   have:a.toList.length<=i:=by rw[gJ];exact Array.getElem?_eq_none_iff.mp q
   rw[sY (à (å f2) this)]
   rfl
  |some p=>
   have e:=f4 i p (by rw[ki];exact q);have hp:=r p (by rw[<-ki] at q;exact dh q);rw[e,h_ c p hp];simp[hp]
 have T2:jR m (j.toArray.map (·.1)):=by rw[R];exact e8
 have U:∀q,q<c.size->q∈a.toList:=λq n=>qj λz=>by
  have X:(q::a.toList).Nodup:=jM.mpr (z,e6);have a0:(q::a.toList) ⊆ cr c.size:=λx hx=>by
   rcases cz.mp hx with rfl|hx
   ·exact fJ.mpr n
   ·exact fJ.mpr<|r x hx
  have:=X.length_le_of_subset a0;rw[dj,gJ,P,lT] at this;exact ù ß this
 refine aex g l ?_ (by rw[cP,u,jt];exact â hz);refine h _ {o with data:=.set j.toArray (v+1) m} j.toArray (v+1) m ?_<|jw ..;have sb:i_ S s.heap (s.heap.update S<|RT j.toArray m):=jw ..;refine(Lg g l,y,O,T2,by rw[cP,u];exact C,nd,λe he=>?_,λk hk=>?_,?_,λe he=>ad e<|f3 e he,by rw[e3,e4];exact wk)
 ·obtain⟨k,b,a1,a2,a3⟩:=el e<|f3 e he
  exact(k,b,a1,a2,tz a3 g l sb)
 ·obtain⟨b,a1,a2⟩:=ke k hk
  refine(b,?_,tz a2 g l sb);obtain⟨q,n,eq⟩:=np.mp a1;rw[gJ] at n;obtain⟨i,hi,ei⟩:=np.mp<|U q n;have e:=f4 i q (by rw[cB hi,ei]);refine dh (i:=i) ?_;rw[e,<-eq];simp[n]
 ·rw[e2,cP,u]
  exact G
def Uz{c g:Type}(f:c->g)(d:Array c)(p:Nat)(x:c)(e:p<=d.size):(gG d p x).map f=gG (d.map f) p (f x):=by
 apply ajs;intro i;rw[wW,nv _ _ _ e,nv _ _ _ (by rw[n_];exact e),wW,wW]
 by_cases a:i<p
 ·rw[av a,av a]
 ·rw[am a,am a]
  by_cases b:i=p
  ·rw[av b,av b];rfl
  ·rw[am b,am b]
def zZ{g:Type}{b:Array g}{p:Nat}{x y:g}(c:p<=b.size):y∈(gG b p x).toList↔y=x\/y∈b.toList:=by
 constructor
 ·intro h
  obtain⟨k,f,e⟩:=np.mp h;have a:(gG b p x)[k]?=V y:=by rw[<-ki,cB f,e]
  rw[nv _ _ _ c] at a
  by_cases d:k<p
  ·rw[av d,<-ki] at a;exact .inr<|dh a
  ·rw[am d] at a
   by_cases j:k=p
   ·rw[av j] at a;exact .inl (bM a).symm
   ·rw[am j,<-ki] at a;exact .inr<|dh a
 ·rintro(rfl|h)
  ·refine dh (i:=p) ?_
   rw[ki,nv _ _ _ c,am<|nQ _,av O]
  ·obtain⟨k,f,e⟩:=np.mp h
   have a:b[k]?=V y:=by rw[<-ki,cB f,e]
   by_cases d:k<p
   ·refine dh (i:=k) ?_
    rw[ki,nv _ _ _ c,av d];exact a
   ·refine dh (i:=k+1) ?_
    rw[ki,nv _ _ _ c,am (ù (í (ô d))),am (ö (ï (ô d))),Du];exact a
def Ue{t:ng}(X:ln knd s.heap S o d ep t D d6)(hu:A.units<dB)(hv:∀k v n,knd.is k v=ae->uo n v=aX ae){k:List K}{b:W}(hk:gb knd s.heap k b)(c5:b∈d6)(hn:D.length<60){Q:Bool->ak->Prop}(h:∀(r:Bool) f o' c6 c7 t',ln knd f S o' c6 c7 t' (if k∈D then D else D++[k]) d6->i_ S s.heap f->Q r {s with heap:=f}):ax 2#0 A (setAddHashed S 5#b<|du knd k) Q E s:=by
 unfold setAddHashed;refine fO ?_;have T:=X.i;have a8:=z_ T;have X':ln knd s.heap S o d ep t D d6:=X;unfold setAddHashedIn;refine ag<|yL (s:=s) X.a X.c a8 ?_;dsimp only;have nb:byScan 5#b d=aB:=O;rw[nb];simp only[dK,da];obtain⟨ne,a9,R,hm⟩:=UC T<|du knd k;refine ag ?_;unfold setSearch;refine Ub (s:=s) X' hu hk a9 R hm (λc8 r0 _=>?_) (λb0=>?_) 100000 0 Y ?_ (eY _) O (λm i c c9=>bh c9<|Dr _)
 ·dsimp only
  refine aG<|h aB s.heap o d ep t ?_<|Jm ..;rw[av c8];exact X
 ·dsimp only
  refine ag<|yL (s:=s) X.a X.c a8 ?_;dsimp only;have a6:(d.map (·.1)).size+1<=t.mask:=by
   rw[n_];rcases X.d with ⟨a,b⟩|⟨a,b⟩|⟨a,b⟩|⟨a,b⟩|⟨a,b⟩|⟨a,b⟩<;>exact à (ï b) (ã (æ a))
  obtain⟨p1,p2,p3⟩:=Up T R hm a6;rw[n_] at p1;obtain⟨G,p,a4⟩:∃G p,t.put (cm t.mask (du knd k) ne)=(aez G p):=(_,_,O);rw[a4] at p1 p2 p3 ⊢;dsimp only at p1 p2 p3 ⊢;have H:k∉D:=b0;have g:(gG d p (aez (du knd k) (Z b))).size=d.size+1:=zY _ _ _ p1;have b1:=X.l;have d4:d.size<60:=(à (ï (å b1)) hn)
  have b2:∀j:ng,jR j (gG (d.map (·.1)) p<|du knd k)->j.mask=t.mask->ax 2#0 A (storeSet S (gG d p (aez (du knd k) (Z b))) j)
    (λ_ s'=>∃f,s'={s with heap:=f}/\f.get? S=V {o with data:=.set (gG d p (aez (du knd k) (Z b))) (ep+1) j}/\i_ S s.heap f) E s:=λj T2 m2=>
   aex (s:=s) X.a X.c (_,O,Lg X.a X.c,jw ..) (by rw[g,jt];exact â d4)
  have b3:(gG d p (aez (du knd k) (Z b))).map (·.1)=gG (d.map (·.1)) p (du knd k):=Uz (·.1) d p _ p1;have a5:(D++[k]).Nodup:=by
   rw[kg];refine(X.m,by simp,λx hx y hy=>?_);rw[cT.mp hy];exact λz=>H<|z▸hx
  have b4:∀f,i_ S s.heap f->∀e∈(gG d p (aez (du knd k) (Z b))).toList,∃U I,U∈D++[k]/\e=(aez (du knd U) (Z I))/\gb knd f U I:=λf l e R=>by
   rcases(zZ p1).mp R with rfl|R
   ·exact(k,b,by simp,O,tz hk X.a X.c l)
   ·obtain⟨U,I,a1,a2,a3⟩:=X.g e R
    exact(U,I,kF _ a1,a2,tz a3 X.a X.c l)
  have b5:∀f,i_ S s.heap f->∀U∈D++[k],∃I,(aez (du knd U) (Z I))∈(gG d p (aez (du knd k) (Z b))).toList/\gb knd f U I:=λf l U L=>by
   rcases dt.mp L with L|L
   ·obtain⟨I,a1,a2⟩:=X.j U L
    exact(I,(zZ p1).mpr<|.inr a1,tz a2 X.a X.c l)
   ·rw[cT.mp L]
    exact(b,(zZ p1).mpr<|.inl O,tz hk X.a X.c l)
  have b6:∀e∈(gG d p (aez (du knd k) (Z b))).toList,∃I∈d6,e.2=Z I:=λe R=>by
   rcases(zZ p1).mp R with rfl|R
   ·exact(b,c5,O)
   ·exact X.n e R
  have M:∀(j:ng)(f:aW),jR j (gG (d.map (·.1)) p<|du knd k)->j.mask=t.mask->(w.params.followText "set-order"=ae\/(j.led=ae/\j.plain=ae))->f.get? S=V {o with data:=.set (gG d p (aez (du knd k) (Z b))) (ep+1) j}->i_ S s.heap f->
    ax 2#0 A (if(!aB&&j.tooFull)=ae then(CF S (CU<|d.size+1) >>= λ_=>aX ae) else aX ae) Q E {s with heap:=f}:=λj f T2 m2 b7 hg l=>by
   have a0:jR j ((gG d p (aez (du knd k) (Z b))).map (·.1)):=by rw[b3];exact T2
   have fl:j.fill=d.size+1:=by
    unfold af2;rw[a0.b,a0.a,n_,g]
    rfl
   have tf:j.tooFull=aE ((d.size+1)*5 ≥ t.mask*3):=by unfold SetTable.tooFull;rw[fl,m2]
   have lk:d.size+1=(D++[k]).length:=by rw[c_,b1];rfl
   have u:((d.size+1)*5<t.mask*3)->((j.mask=7/\d.size+1<=4)\/(j.mask=31/\d.size+1<=18)\/(j.mask=127/\d.size+1<=76)\/(j.mask=15/\d.size+1<=8)\/(j.mask=63/\d.size+1<=37)\/(j.mask=255/\d.size+1<=152))->ax 2#0 A (if(!aB&&j.tooFull)=ae then(CF S (CU<|d.size+1) >>= λ_=>aX ae) else aX ae) Q E {s with heap:=f}:=λq mk=>by
    rw[tf,cw (ø q)];simp only[wV,dK,da];refine aG<|h ae f {o with data:=.set (gG d p (aez (du knd k) (Z b))) (ep+1) j} (gG d p (aez (du knd k) (Z b))) (ep+1) j ?_ l;rw[am H];exact(hg,X.f,O,a0,by rw[g];exact lk,a5,b4 f l,b5 f l,by rw[g];exact mk,b6,b7)
   have C:∀P n,d.size+1=n->((d.size+1)*5 ≥ t.mask*3)->Jc (CU n)-1=P->Jc (CU n)<=1000->mP P->P%2=1->d.size+1<=P->((P=7/\d.size+1<=4)\/(P=31/\d.size+1<=18)\/(P=127/\d.size+1<=76)\/(P=15/\d.size+1<=8)\/(P=63/\d.size+1<=37)\/(P=255/\d.size+1<=152))->
     ax 2#0 A (if(!aB&&j.tooFull)=ae then(CF S (CU<|d.size+1) >>= λ_=>aX ae) else aX ae) Q E {s with heap:=f}:=λP n en q w1 w2 c1 c2 c3 mk=>by
    rw[tf,bT q];simp only[Ti,Tl,eD];subst en;refine ag<|Uc (s:={s with heap:=f}) (ks:=D++[k]) hg X.f O a0 (by rw[g];exact lk) a5 b6 (b4 f l) (b5 f l) w1 (by rw[jt];exact â w2) c1 c2 (by rw[g];exact c3) (by rw[g];exact â d4) (by rw[g];exact mk) b7 λd0 d1 b8 b9 d2 d3 c0=>?_;refine aG<|h ae d0 d1 b8 b9 d2 ?_<|l.trans c0;rw[am H];exact d3
   rcases X.d with ⟨a,c⟩|⟨a,c⟩|⟨a,c⟩|⟨a,c⟩|⟨a,c⟩|⟨a,c⟩
   ·by_cases q:d.size+1<=4
    ·exact u ω<|.inl ((û (à (å m2) (å a)) (à (æ a) (æ m2))),q)
    ·exact C 31 5 (û (ï c) (ó q)) ω δ δ UK O (â (ð c))<|.inr<|.inl (O,(â (ð c)))
   ·by_cases q:d.size+1<=18
    ·exact u ω<|.inr<|.inl ((û (à (å m2) (å a)) (à (æ a) (æ m2))),q)
    ·exact C 127 19 (û (ï c) (ó q)) ω δ δ UM O (â d4)<|.inr<|.inr<|.inl (O,(â d4))
   ·exact u ω<|.inr<|.inr<|.inl ((û (à (å m2) (å a)) (à (æ a) (æ m2))),(â d4))
   ·by_cases q:d.size+1<=8
    ·exact u ω<|.inr<|.inr<|.inr<|.inl ((û (à (å m2) (å a)) (à (æ a) (æ m2))),q)
    ·exact C 63 9 (û (ï c) (ó q)) ω δ δ UJ O (â d4)<|.inr<|.inr<|.inr<|.inr<|.inl (O,(â (ð c)))
   ·by_cases q:d.size+1<=37
    ·exact u ω<|.inr<|.inr<|.inr<|.inr<|.inl ((û (à (å m2) (å a)) (à (æ a) (æ m2))),q)
    ·exact C 255 38 (û (ï c) (ó q)) ω δ δ UL O (â d4)<|.inr<|.inr<|.inr<|.inr<|.inr (O,(â d4))
   ·exact u ω<|.inr<|.inr<|.inr<|.inr<|.inr ((û (à (å m2) (å a)) (à (æ a) (æ m2))),(â d4))
  have c4:w.params.followText "set-order"=ae\/(G.led=ae/\G.plain=ae):=by
   have e1:G=(t.put<|cm t.mask (du knd k) ne).1:=by rw[a4]
   have e2:G.led=t.led:=by rw[e1];rfl
   have e3:G.plain=t.plain:=by rw[e1];rfl
   rw[e2,e3];exact X.p
  cases d5:G.plain with
  |true=>
   simp only[eD];refine ag<|Ud (s:=s) hv hk ?_;simp only[eD];refine ag<|kB (b2 G p3 p2) (λ_ s' a7=>?_) λ_ _ e=>e;obtain⟨f,rfl,g1,g2⟩:=a7;exact M G f p3 p2 c4 g1 g2
  |false=>
   simp only[dK,da];refine ag<|aG ?_;simp only[eD];refine ag<|kB (b2 G p3 p2) (λ_ s' a7=>?_) λ_ _ e=>e;obtain⟨f,rfl,g1,g2⟩:=a7;exact M G f p3 p2 c4 g1 g2
 ·have:t.mask<=255:=by rcases X.d with ⟨a,_⟩|⟨a,_⟩|⟨a,_⟩|⟨a,_⟩|⟨a,_⟩|⟨a,_⟩<;>omega
  unfold mF at a9;omega
def Uf{j:Array (Int×aa)}{t:ng}(X:ln knd s.heap S o j l t a x)(g:A.units<dB)(m:∀k v n,knd.is k v=ae->uo n v=aX ae){k:List K}{b:W}(i:gb knd s.heap k b)(c:b∈x)(p:a.length<60){Q:Bool->ak->Prop}(h:∀(r:Bool) d q e f u,ln knd d S q e f u (if k∈a then a else a++[k]) x->i_ S s.heap d->Q r {s with heap:=d,toks:=s.toks+(k.length+1)}):ax 2#0 A (setAdd S<|.ref b) Q E s:=by
 unfold setAdd;exact fO<|ag<|wpAny_pyHash_tuple g i<|Ue (s:={s with toks:=s.toks+(k.length+1)}) X g m i c p h
end
end
noncomputable def cb{b:Type}[DecidableEq b](l:List b):List b:=l.foldl (λa x=>if x∈a then a else a++[x]) []
def xj{a:Type}[DecidableEq a](l:List a)(x:a):cb (l++[x])=if x∈cb l then cb l else cb l++[x]:=by unfold cb;rw[s_];rfl
def rF{b:Type}[DecidableEq b](l:List b):(cb l).length<=l.length:=by
 have:∀(l a:List b),(l.foldl (λa x=>if x∈a then a else a++[x]) a).length<=a.length+l.length:=by
  intro l
  induction l with
  |nil=>intro a;simp
  |cons x l c=>
   intro a;rw[sZ];refine dq (c _) ?_;split
   ·rw[dj];exact ñ ü
   ·rw[c_,dj,dj,nq];omega
 simpa[cb] using this l []
def qm{b:Type}[DecidableEq b](l:List b)(x:b):x∈cb l↔x∈l:=by
 have:∀(l a:List b),x∈(l.foldl (λa x=>if x∈a then a else a++[x]) a)↔x∈a\/x∈l:=by
  intro l
  induction l with
  |nil=>intro a;simp
  |cons y l c=>
   intro a;rw[sZ,c]
   by_cases h:y∈a
   ·rw[av h,cz]
    constructor
    ·rintro(q|q)
     ·exact .inl q
     ·exact .inr<|.inr q
    ·rintro(q|q|q)
     ·exact .inl q
     ·subst q;exact .inl h
     ·exact .inr q
   ·rw[am h,dt,cT,cz]
    constructor
    ·rintro((q|q)|q)
     ·exact .inl q
     ·exact .inr<|.inl q
     ·exact .inr<|.inr q
    ·rintro(q|q|q)
     ·exact .inl<|.inl q
     ·exact .inl<|.inr q
     ·exact .inr q
 simpa[cb] using this l []
def zW{d:Type}[DecidableEq d](l:List d):(cb l).Nodup:=by
 have:∀(l c:List d),c.Nodup->(l.foldl (λc x=>if x∈c then c else c++[x]) c).Nodup:=by
  intro l
  induction l with
  |nil=>intro c h;exact h
  |cons y l f=>
   intro c h;rw[sZ]
   by_cases q:y∈c
   ·rw[av q];exact f c h
   ·rw[am q]
    refine f _ ?_;rw[kg];refine(h,by simp,λa i b g e=>?_);rw[cT] at g;subst g;subst e;exact q i
 exact this l [] lS
def UH{b:Type}[DecidableEq b](l m:List b):(cb<|l++m).length<=(cb l).length+m.length:=by
 have:∀(m a:List b),(m.foldl (λa x=>if x∈a then a else a++[x]) a).length<=a.length+m.length:=by
  intro m
  induction m with
  |nil=>intro a;simp
  |cons x l c=>
   intro a;rw[sZ];refine dq (c _) ?_;split
   ·rw[dj];exact ñ ü
   ·rw[c_,dj,dj,nq];omega
 unfold cb;rw[s_];exact this m _
def UG{a:Type}[DecidableEq a](l:List a)(h:∀(k:Nat) x,l[k]?=V x->x∉l.take k):cb l=l:=by
 have:∀k,k<=l.length->cb (l.take k)=l.take k:=by
  intro k
  induction k with
  |zero=>intro _;rfl
  |succ k c=>
   intro d;have b:l[k]?=V l[k]:=cB d;rw[zq,b];show cb (l.take k++[l[k]])=_;rw[xj,c (ì d),am<|h k _ b]
   rfl
 have q:=this l.length<|aV _;rw[eV<|aV _] at q;exact q
def UE{a:Type}[DecidableEq a](l:List a){k:Nat}{x:a}(h:l[k]?=V x)(c:x∈l.take k):(cb l).length<l.length:=by
 have f:k<l.length:=(bY.mp h).1;have e:l=(l.take k++[x])++l.drop (k+1):=by
  have:=uH (k+1) l;rw[zq,h] at this;exact this.symm
 have b:=UH (l.take k++[x])<|l.drop<|k+1;rw[<-e,xj,av<|(qm _ _).mpr c] at b;have d:=rF<|l.take k;rw[dR] at d;rw[pd] at b;omega
def UF{a:Type}[DecidableEq a](l:List a):(cb l).length<l.length↔∃(k:Nat)(x:a),l[k]?=V x/\x∈l.take k:=by
 constructor
 ·intro h
  apply qj;intro n;have:=UG l λk x e b=>n (k,x,e,b);rw[this] at h;exact nQ _ h
 ·rintro⟨k,x,e,b⟩
  exact UE l e b
section
set_option maxHeartbeats 3200000
section
open PySem.SetTable
section
variable{prog:bu}{w:bf}{K:Type}[DecidableEq K]{knd:sI prog w K}{A:bO}{R:sH->ak->Prop}{I:W}{fp wr:List W}{G:Array Jo->Array Jo->Prop}{n:Nat}{P:Nat->aa->Prop}{St:Nat->ak->Prop}
def ln.F{h a:aW}{g:Array (Int×aa)}{i:Nat}{t:ng}{j:List (List K)}(X:ln knd h S o g i t j q)(m:a.get? S=V o)(l:∀k b,gb knd h k b->gb knd a k b):ln knd a S o g i t j q:=
 (m,X.f,X.c,X.i,X.l,X.m,λe n=>let ⟨k,b,c,d,p⟩:=X.g e n;(k,b,c,d,l k b p),λk f=>let ⟨b,c,d⟩:=X.j k f;(b,c,l k b d),X.d,X.n,X.p)
def Ux{h c:aW}{k:List K}{b:W}(d:gb knd h k b)(e:∀o,h.get? b=V o->c.get? b=V o):gb knd c k b:=by
 obtain⟨o,a,n,f,r⟩:=d;exact(o,a,n,e o f,r)
def Ug{a9:List W}(b0:WalksS prog w A.in1 I fp wr G n P St)(hu:A.in1.units<dB)(hv:∀k v n,knd.is k v=ae->uo n v=aX ae)(S:W)(L:S∉fp)(a:List (List K))(l:Nat->W)(hn:a.length=n)(hB:∀i,i<n->l i∈a9)(hz:n<=59)(M:∀i v,P i v->v=.ref (l i))(hna:∀b o,(∃c m,o.cls=aC "tuple"/\o.data=.seq c m)->∀s i,St i s->s.heap.get? b=V o->b∉wr):∀(k i:Nat)(s:ak),n-i=k->i<=n->St i s->(∃o y z t,ln knd s.heap S o y z t (cb<|a.take i) a9)->(∀(j:Nat)(x:List K),a[j]?=V x->gb knd s.heap x (l j))->
   (∀g,Moved (S::wr) G s g->(∃o y z t,ln knd g.heap S o y z t (cb a) a9)->R (.ok<|.ret .none) g)->iD 2#0 A (.builtin "set.update.loop" ([.ref S,.ref I],[])) R s:=by
 have Q:S∉wr:=λh=>L<|b0.sub _ h;have u:∀b∈wr,b∈S::wr:=λb T=>gd _ T;have d:∀{i:Nat}{s g:ak}{x:List K}{b:W},St i s->Moved wr G s g->gb knd s.heap x b->gb knd g.heap x b:=λ{i s g x b} f p C=>by
  obtain⟨o,c,m,ho,hc,hd,hi⟩:=id C;exact(o,c,m,p.heap b o (hna b o (c,m,hc,hd) s i f ho) ho,hc,hd,hi)
 intro k
 induction k with
 |zero=>
  intro i s C hi f hS hT hR;have a6:i=n:=ω
  subst a6;refine iC ahz ?_;rw[ja Sw _];show ax _ A.in1 (iV 5#I >>= _) _ _ s;refine ag<|b0.done s _ _ f λg p=>?_;show ax _ A.in1 (ret bP) _ _ g;refine aG<|hR g (p.mono u) ?_;obtain⟨o,y,z,t,X⟩:=hS;rw[eV (å hn)] at X;exact(o,y,z,t,X.F (p.heap S _ Q X.a) λk b C=>d f p C)
 |succ k ih=>
  intro i s C hi f hS hT hR;have D:i<n:=ω
  refine iC ahz ?_;rw[ja Sw _];show ax _ A.in1 (iV 5#I >>= _) _ _ s;refine ag<|b0.item i s _ _ D f λv g hP U p=>?_;obtain rfl:=M i v hP;obtain⟨o,y,z,t,X⟩:=hS;have X':ln knd g.heap S o y z t (cb<|a.take i) a9:=X.F (p.heap S _ Q X.a) λk b C=>d f p C;have hx:a[i]?=V a[i]:=cB (à D (æ hn));have a0:=rF<|a.take i;rw[dR] at a0;show ax _ A.in1 (sy [Z<|l i] (setAdd S<|.ref<|l i) >>= _) _ _ g;refine ag<|fO<|Uf X' hu hv (d f p<|hT i _ hx) (hB i D) ω λr h' o' a1 a2 t' X2 E=>?_;have a3:g.toks<=g.toks+(a[i].length+1):=zo _ _;have a7:St (i+1) {g with heap:=h',toks:=g.toks+(a[i].length+1)}:=b0.frame _ g _ _ U a3 λb T o2 e=>by
   rw[E.2 b (λh:b=S=>L (by rw[<-h];exact T))];exact e
  have H:a.take (i+1)=a.take i++[a[i]]:=by rw[zq,hx];rfl
  have X3:ln knd h' S o' a1 a2 t' (cb<|a.take<|i+1) a9:=by
   rw[H,xj]
   by_cases q:a[i]∈cb (a.take i)
   ·rw[av q] at X2 ⊢;exact X2
   ·rw[am q] at X2 ⊢;exact X2
  refine aG (iK Sw _,ih (i+1) _ ω D a7 (o',a1,a2,t',X3) (λj x hj=>tz (d f p<|hT j x hj) X'.a X'.c E) λa8 a4 a5=>?_);refine hR a8 (Moved.trans b0.gtrans ((p.mono u).then_heap a3 λb o2 T e=>?_) a4) a5;rw[E.2 b (λh:b=S=>T (by rw[h];exact fE))];exact e
end
end
end
section
open PySem.SetTable
section
variable{prog:bu}{w:bf}{K:Type}[DecidableEq K]{knd:sI prog w K}{A:bO}{E:Ω}{s:ak}
def Ul(a:aa){Q₁:Ω}(h:Q₁ (.ref s⁻¹) {s with heap:=s.heap.push {cls:=.type "set",dict:=Y,data:=.set #[] 0<|.fresh 0 0<|!w.params.followText "set-order"}}):iD 2#0 A (.call (.builtin "set.__new__") ([.type "set",a],[])) (CB Q₁ E) s:=by
 refine IU<|show ax _ A.in1 (do RA "set.__new__" ([.type "set",a],[]);again (.builtin "set.__new__" ([.type "set",a],[]))) _ _ s from ag (oU (F.newCall_set_1 a)<|aG (iK ago _,iC F.entry_set_new ?_));rw[ja ago _];unfold Builtin.«set.__new__» ala;have b:=sub_set_self;obtain⟨c,g,d,e,f⟩:=s;dsimp only;wp_walk;refine wpAny_askSetting<|aG ?_;dsimp only;simp only[newObj];exact ag<|wpAny_alloc<|aG<|aG h
def UO{B:List W}{vals:List (List K)}{adr:Nat->W}{Q:Ω}(hh:A.handled=Y)(hl:s.heap.IsList l a)(hu:A.units+64<dB)(hv:∀k v n,knd.is k v=ae->uo n v=aX ae)(hz:a.size<=59)(hn:vals.length=a.size)(hB:∀i,i<a.size->adr i∈B)(a2:∀(i:Nat) v,a[i]?=V v->v=.ref (adr i))(hT:∀(j:Nat) x,vals[j]?=V x->gb knd s.heap x (adr j))(h:∀g tk,(∃o es ep t,ln knd g s⁻¹ o es ep t (cb vals) B)->(∀b o,b<s⁻¹->s.heap.get? b=V o->g.get? b=V o)->Q (.ref s⁻¹) {s with heap:=g,toks:=tk}):ax 2#0 A (im (.type "set") [.ref l]) Q E s:=by
 obtain⟨c,tl,b4⟩:=uA.mro;have a3:=uA.made;have b5:=uA.sub;refine yN<|IU ?_;show ax _ _ (callAny (.type "set") _) _ _ _;refine aG (ag3 _ δ,iC agr ?_);rw[ahm (afd "set" [.ref l] []) O];have h1:=uA.notType;have h2:=uA.canCreate;have b9:=F.typeCall_set_1<|.ref l
 repeat(any_goals(first|assumption|wp_step))
 refine p_ (Ul 5#l (E:=E) (Q₁:=λH u=>∃d:Bool,(w.params.followText "set-order"=ae\/d=ae)/\H=.ref s⁻¹/\u={s with heap:=s.heap.push {cls:=.type "set",dict:=Y,data:=.set #[] 0<|.fresh 0 0 d}}) (_,by cases w.params.followText "set-order" <;> simp,O,O)) λr u hr=>?_;cases r with
 |error e=>exact hr
 |ok fl=>
  cases fl with
  |ret H=>
   obtain⟨d,I,rfl,rfl⟩:=hr;have hS:(s.heap.push {cls:=.type "set",dict:=Y,data:=.set #[] 0<|.fresh 0 0 d}).get? s⁻¹=V {cls:=.type "set",dict:=Y,data:=.set #[] 0<|.fresh 0 0 d}:=dg _ O;have a4:wz {s with heap:=s.heap.push {cls:=.type "set",dict:=Y,data:=.set #[] 0<|.fresh 0 0 d}} (.ref s⁻¹) "set":=(_,hS,O);have c0:=uA.init.lookup;have c1:=uA.init.bind<|.ref s⁻¹
   repeat(any_goals(first|assumption|wp_step))
   refine p_ (afn (R:=CB (λr y=>r=.none/\∃g tk,y={s with heap:=g,toks:=tk}/\
     (∃o es ep t,ln knd g s⁻¹ o es ep t (cb vals) B)/\
     (∀b o,b<s⁻¹->s.heap.get? b=V o->g.get? b=V o)) E) uA.init.plain F.entry_set_init<|check_set_init_1 a4 ?_) λL y f=>?_
   ·obtain⟨ol,M,P,nl,S⟩:=hl
    obtain⟨b6,C,a5,p⟩:=ol;simp only at P S;subst P;subst S;have T:(s.heap.push {cls:=.type "set",dict:=Y,data:=.set #[] 0<|.fresh 0 0 d}).get? l=V {cls:=.type "list",dict:=C,data:=.seq a nl,slots:=p}:=bQ _ M;have b7:=F.sub_list_set;have b8:=F.sub_list_frozenset;have c2:(aC "list" == aC "dict")=aB:=ξ
    have U:(s.heap.push {cls:=.type "set",dict:=Y,data:=.set #[] 0<|.fresh 0 0 d}).IsList l a:=(_,T,O,nl,O);unfold Builtin.«set.__init__» noKeywords ak9;generalize a6:qU=PI
    wp_walk
    subst a6;refine ui U ?_;refine ag<|wpAny_runValue ?_;have X:l<s⁻¹:=cy M;have a7:A.in1.in1.in1.handled=Y:=by simp[hh]
    have a0:l≠(s.heap.push {cls:=.type "set",dict:=Y,data:=.set #[] 0<|.fresh 0 0 d}).objs.size:=by
     rw[rf];exact cM<|lR X
    have a8:s⁻¹∉[(s.heap.push {cls:=.type "set",dict:=Y,data:=.set #[] 0<|.fresh 0 0 d}).objs.size,l]:=by
     rw[rf];simp only[cz,cT,sV,rz,not_or];exact(cM<|zn _,jx X)
    refine Ug (knd:=knd) ((qZ a7 _ l a0 a).toS) (by show A.units+1+1+1<dB;omega) hv s⁻¹ a8 vals adr hn hB hz (λi v q=>a2 i v q) (λb o ho s' i st e hb=>?hna)
     (a.size-0) 0 _ (û ß ß) (eY _) ((_,dg _ O,O,O),(U.push _)) ({cls:=.type "set",dict:=Y,data:=.set #[] 0<|.fresh 0 0 d},#[],0,.fresh 0 0 d,?hS0) (λj x hx=>Ux (hT j x hx) λo e=>bQ _<|bQ _ e) ?hR
    case hna=>
     obtain⟨⟨oi,e1,e2,_⟩,_⟩:=st;obtain⟨c3,m,hc,_⟩:=ho;simp only[cT] at hb;subst hb;have e3:=bM<|e1.symm.trans e;rw[<-e3,e2] at hc;exact bh hc ξ
    case hS0=>
     have a1:((s.heap.push {cls:=.type "set",dict:=Y,data:=.set #[] 0<|.fresh 0 0 d}).push {cls:=.type "list_iterator",data:=.fields #[.ref l,.int 0 0]}).get? s⁻¹
      =V {cls:=.type "set",dict:=Y,data:=.set #[] 0<|.fresh 0 0 d}:=bQ _ hS
     exact(a1,(O,O,O),O,(by simpa using Uh 0 0 d),O,lS,λe he=>by simp at he,λk hk=>by simp[cb] at hk,.inl (O,eY _),(λe he=>by simp at he),I.imp id λz=>(z,O))
    case hR=>
     intro s' hm D;obtain⟨g,g',d',a9,b0⟩:=s';have eg:g'=s.gens:=hm.gens;have ed:d'=s.drawn:=hm.drawn;have eo:b0=s.os:=hm.os;subst eg;subst ed;subst eo;show ax _ _ _ _ _ _;refine aG ?_;show ax _ _ (ret bP) _ _ _;refine aG (O,g,a9,O,D,λb o hb e=>?_);have b1:b≠s⁻¹:=cM hb;have b2:b≠(s.heap.push {cls:=.type "set",dict:=Y,data:=.set #[] 0<|.fresh 0 0 d}).objs.size:=by
      rw[rf];exact cM<|lR hb
     exact hm.heap b o (by simp only[cz,cT,sV,rz,not_or];exact(b1,b2))<|bQ _<|bQ _ e
   ·cases L with
    |error e=>exact f
    |ok G=>
     cases G with
     |ret r=>
      obtain⟨rfl,g,tk,rfl,D,b3⟩:=f
      repeat(any_goals(first|assumption|wp_step))
      exact h _ _ D b3
     |_=>exact f.elim
  |_=>exact hr.elim
end
end
noncomputable def xL(D:W)(n:Nat):df:=.ext λh=>∃o a b t,h.get? D=V o/\o.ExactSet/\o.data=.set a b t/\t.fits a.size=ae/\a.size=n/\n<=100
section
variable{X:a_}
def Xg:∀(k:Int)(v:aa)(n:Nat),(qV a w).is k v=ae->uo n v=aX ae:=by
 intro k v n h;obtain⟨t,rfl⟩:=af0 h;cases n<;>rfl
def MM{b:List aa}(j:kW h c b.toArray)(g:fC b f):gb (qV a w) h f c:=by
 obtain⟨o,e,i,k,d⟩:=j;refine(o,b.toArray,k,e,i,d,?_);have:∀{b:List aa}{f:List Int},fC b f->C' (qV a w) f b:=by
  intro b f g
  induction g with
  |nil=>exact .nil
  |cons n t h l=>exact .cons (by show I_ n (.int n t)=ae;simp[I_]) l
 simpa using this g
def XD(G:X.b=ae)(L:X.A.units+64<dB):iS X (.type "set") (λy H Q=>∃(l:W)(d:List W)(c:Ξ),y=[.ref l]/\bI X.K H l (d.map af.ref)/\bA H d c/\c.length<=59/\
  ∀D,H D=Y->Q 5#D (aD H D<|xL D (cb c).length)):=by
 intro z s σ H y us Q I r h;obtain⟨l,d,c,rfl,M,A,hz,q⟩:=h;obtain⟨u,rfl,P⟩:=ir r;cases P;obtain⟨k,R,S,_⟩:=I.list M;obtain rfl:=nw R;have m:=A.B;refine UO (B:=d) (knd:=qV X.prog X.w) (vals:=c) (adr:=λi=>d.getD i 0) (I.b.a G) S.isList L Xg (by rw[cP,au];exact à (å m) hz) (by rw[cP,au];exact û (æ m) (å m)) (λi n=>by rw[cP,au] at n;rw[wP,cB n];exact mK n)
  (λi v e=>?_) (λj x e=>?_) λh' tk (o,U,ep,t,T) kk=>?_
 ·have g:(d.map Z)[i]?=V v:=by simpa using e
  rw[bV] at g;cases f:d[i]? with
  |none=>rw[f] at g;simp at g
  |some a=>
   rw[f] at g;rw[<-bM g,wP,f]
   rfl
 ·have hj:j<d.length:=by rw[m];exact(bY.mp e).1
  have f:d[j]?=V d[j]:=cB hj;obtain⟨a0,C,e2⟩:=A.F f;rw[e] at C;obtain rfl:=bM C;obtain⟨k,r2,p2,_⟩:=I.B<|fg.B (K:=X.K) e2;rw[wP,f];exact MM p2<|pJ r2
 ·have E:=rF c
  refine(.ref s⁻¹,_,I.F (o:=xL s⁻¹ (cb c).length) (λb u e=>kk b u (cy e) e) (aV _) ?_,O,q _<|I.a.B<|aV _);refine((o,U,ep,t,T.a,T.f,T.c,z_ T.i,T.l,(â (à E hz))),(o,T.a),λh1 h2 (o',p,w,t',g1,g2) kp=>(o',p,w,t',kp _ g1,g2))
def XI:iS X (.builtin "len") (λa H Q=>∃D n,a=[.ref D]/\H D=V (xL D n)/\Q (.int n) H):=by
 intro b s k H a l Q I r h;obtain⟨D,n,rfl,c,q⟩:=h;obtain⟨u,rfl,d⟩:=ir r;cases d;obtain⟨⟨o,m,p,t,e,f,g,i,j,v⟩,_⟩:=(show di X.prog X.w H s.heap D (xL D n) from I.a D _ c);exact call_len_set e f g i ω (.int n,H,I.N _,(_,by rw[j]),q)
end
section
open PySem.Builtin PySem.Builtin.Str
section
variable{prog:bu}{w:bf}{A:bO}{E:Ω}{s:ak}{x y:aq}{t u:hU}{Q:Ω}
def T'(c:(y.length==0)=aB)(h:∀(l:List (aq×hU)) k,l.map (·.1)=CR x y->Q (.ref s⁻¹) {s with heap:=s.heap.push {cls:=.type "list",data:=.seq (Rd l).toArray},toks:=k})(d:x.length+2<=bD):ax 2#0 A (im (.builtin "str.split") [.str x t,.str y u]) Q E s:=by
 have e:(partsBetween x (Si x y 0 x.length<|x.length+1) y.length).length<=bD:=by
  have f:=StrLaws.occ_length_le x y 0 x.length<|x.length+1;rw[length_partsBetween];exact à (ï f) d
 cases a:(aE (x.length<y.length)|| decide (strKind x<strKind y))
 ·cases b:(Si x y 0 x.length<|x.length+1).isEmpty
  ·refine sC Jr (IM _ _ _) Sa (Sd _ _) (meets_str_split_sep x y t u a c b (è d) e) ?_
   show CB Q E _ {s with toks:=_,heap:=s.heap.push {cls:=.type "list",data:=.seq (strsFrom s.toks<|partsBetween x (Si x y 0 x.length<|x.length+1) y.length).toArray}};rw[strsFrom_eq];exact h (numbered s.toks _) _<|(numbered_texts _ _).trans ((am<|ne_true_of_eq_false a).trans<|am<|ne_true_of_eq_false b).symm
  ·exact sC Jr (IM _ _ _) Sa (Sd _ _) (meets_str_split_not_found x y t u a c b)
   <|h [(aez x t)] s.toks ((am<|ne_true_of_eq_false a).trans<|av b).symm
 ·exact sC Jr (IM _ _ _) Sa (Sd _ _) (meets_str_split_cannot_occur x y t u a)
  <|h [(aez x t)] s.toks (av a).symm
end
end
section
variable{X:a_}
def Ln:∀(l:List (aq×hU)),co ((l.map (·.1)).map af.str) (Rd l)
 |[]=>.nil
 |p::l=>.cons (p.2,O) (Ln l)
inductive LV(x:af)(vs:List af)(H:ab)(Q:aU):Prop
 |a:∀z y,(x=.str z)->(vs=[.str y])->((y.length==0)=aB)->(z.length+2<=bD)->((CR z y).length<=bD)->(∀D,H D=Y->Q 5#D (aD H D<|.lst<|(CR z y).map af.str))->LV x vs H Q
def Wu:vC X "str.split" LV:=by
 intro a s m H x n v p Q I c d h;obtain⟨z,y,rfl,rfl,f,g,i,q⟩:=h;obtain⟨t,rfl⟩:=c;obtain⟨u,rfl,j⟩:=d.M;obtain⟨t',rfl⟩:=j;refine T' f (λl k e=>?_) g;refine(.ref s⁻¹,_,I.F (t':=k) (o:=.lst<|(CR z y).map af.str) (λb r q=>bQ _ q) (aV _) ?_,O,q _<|I.a.B<|aV _);refine(by rw[au];exact i,Rd l,0,?_,dg _ O);rw[<-e];exact Ln l
noncomputable def AE(x:aq):jh:=(λi _=>i<x.cps.size,λi H v a=>a=H/\∃c,x.cps[i]?=V c/\v=.str ⟨#[c]⟩,λi _=>i=x.cps.size)
def Lv{K:aY}(x:aq)(a:W)(T:String)(hn:["enumerate","zip","dict_itemiterator","dict_reverseitemiterator","odict_iterator","itertools.zip_longest","itertools.pairwise"].contains T=aB)(t:hU)(a0:∀A':bO,A'.handled=Y->ww P w A' a [a] [a] x.cps.size (SignAt x) (λi h=>h.IsStrIter a T x t i))(p:∀(A:bO)(i:Nat)(s:ak)(Q:Ω)(E:Ω),s.heap.IsStrIter a T x t i->Q 5#a s->ax (aH P w) A (qU<|.ref a) Q E s):pL P w K tg (AE x) [a] a (λi h=>h.IsStrIter a T x t i) where
 f:=by simp
 a:=λi h g b j=>by
  have e:b=a:=by simpa using j
  subst e;obtain⟨o,e,c,d⟩:=g;exact(o,e,λv z=>by rw[d] at z;cases z)
 c:=λi h m g k=>by
  obtain⟨o,e,c⟩:=g;exact(o,k a 0#0 o e,c)
 d:=by
  intro X q r y C i f s σ H E I n g D;subst q r y;obtain⟨G,L,f2,M,R,S⟩:=n a 0#0;refine(a0 X.A<|I.b.a C).item i s _ _ D g λv m U hv l kk=>?_;obtain⟨c,u,hx,rfl⟩:=hv;have I1:aA X f σ H {s with heap:=m,toks:=U}:=I.A1 (λb o j e=>kk b o 6#j e) G L M R S;obtain⟨o,e1,e2,e3⟩:=id l;exact(_,O,vt (s:={s with heap:=m,toks:=U}) e1 e2 e3 hn (.str ⟨#[c]⟩,H,I1,(u,O),(O,c,hx,O),l,λb j=>(n b j).1))
 done:=by
  intro X q r y C i f s σ H E I n g D;subst q r y;obtain⟨G,L,f2,M,R,S⟩:=n a 0#0;have hi:i=x.cps.size:=D;subst hi;exact(a0 X.A<|I.b.a C).done s _ _ g λm U kk=>(O,I.A1 (λb o j e=>kk b o 6#j e) G L M R S)
 e:=p
def WY(a:bd):jE:=λb H R=>a b H λv c=>∃x,v=.str x/\R (AE x) c
def V'{m:bd}(w:bG X l m):jU X u l (WY m):=by
 intro a s n H R I h;refine bH (w a s n H _ I h) λv c (x,f,g,y,C)=>?_;obtain⟨z,e,q⟩:=C;subst e;obtain⟨t,rfl⟩:=y;have d:∀(o:bg),aA X a n f {c with heap:=c.heap.push o}:=λo=>g.J (t':=c.toks) λb o e=>bQ _ e;have p:∀b∈[c⁻¹],fF X a f b:=λb D=>by
  have e:b=c⁻¹:=by simpa using D
  subst e;exact g.A0 (aV _)<|g.a.B<|aV _
 cases r:z.cps.all (·<128)
 ·refine wpAny_pyIter_wide r ?_
  exact(c⁻¹,[c⁻¹],_,_,f,O,d _,Lv z _ "str_iterator" ξ t (λG j=>Walks.strWide j _ z t) (λA i s Q E k h=>wpAny_pyIter_striter_wide k h),(_,dg _ O,O,O),p,q)
 ·refine wpAny_pyIter_ascii r ?_
  exact(c⁻¹,[c⁻¹],_,_,f,O,d _,Lv z _ "str_ascii_iterator" ξ t (λG j=>Walks.strAscii j _ z t) (λA i s Q E k h=>wpAny_pyIter_striter_ascii k h),(_,dg _ O,O,O),p,q)
def Xv{g:gD}{k:dO}{l:bd}{m:ab}{Q:aU}{x:aq}(h:Nat->aR->List af->ab->Prop)(o:h 0 a [] (aD m D<|.lst []))(q:∀i a f H c,x.cps[i]?=V c->i<x.cps.size->f.length<=i->h i a f H->g (.str ⟨#[c]⟩) a H λd r=>k d r λb n=>if b=ae then l d n (rN x.cps.size h D i d) else tO x.cps.size h i d n)(s:∀a f H,h x.cps.size a f H->Q 5#D H):dU (AE x) g k l a m D Q:=by
 refine tH x.cps.size h o (λa f H p=>O) (λi a f H j p=>j) (λi a f H v w j t p y=>?_) s;obtain⟨e,c,u,rfl⟩:=y;subst e;exact q i a f _ c u j t p
end
noncomputable def lK(b:List Int):Ξ:=b.foldl (λa x=>a++a.map (·++[x])) [[]]
noncomputable def cH(a:List Int):Ξ:=(lK a).drop 1
def HU(a:List Int)(x:Int):lK (a++[x])=lK a++(lK a).map (·++[x]):=by unfold lK;rw[s_];rfl
def BR(b:List Int):(lK b).length=2 ^ b.length:=by
 have:∀(b:List Int)(c:Ξ),(b.foldl (λa x=>a++a.map (·++[x])) c).length=c.length*2 ^ b.length:=by
  intro b
  induction b with
  |nil=>intro c;simp
  |cons x b d=>
   intro c;rw[sZ,d,c_,au,dj,Sz];rw[<-Nat.two_mul,ah3 2,Nat.mul_assoc,ah3 2]
 simpa[lK] using this b [[]]
def HV(c:List Int):∃t,lK c=[]::t/\∀q∈t,q≠[]:=by
 have:∀(c:List Int)(b:Ξ),(∃t,b=[]::t/\∀q∈t,q≠[])->∃t,c.foldl (λa x=>a++a.map (·++[x])) b=[]::t/\∀q∈t,q≠[]:=by
  intro c
  induction c with
  |nil=>intro b h;exact h
  |cons x c e=>
   rintro b ⟨t,rfl,h⟩;rw[sZ];refine e _ (t++([]::t).map (·++[x]),O,λq d=>?_);rcases dt.mp d with d|d
   ·exact h q d
   ·obtain⟨r,_,rfl⟩:=aO.mp d
    simp
 exact this c [[]] ([],O,λq d=>nomatch d)
def acv(a:List Int):(lK a).filter (λq=>!aE (q=[]))=cH a:=by
 obtain⟨t,e,h⟩:=HV a;unfold cH;rw[e];show eZ _ ([]::t)=t;rw[DD,am 0#0];exact List.filter_eq_self.mpr λq b=>by simp[h q b]
def we(a:List Int):(cH a).length=2 ^ a.length-1:=by unfold cH;rw[pd,BR]
def P'(b:List Int):∀q∈lK b,q.length<=b.length:=by
 have:∀(b:List Int)(c:Ξ)(n:Nat),(∀q∈c,q.length<=n)->∀q∈b.foldl (λa x=>a++a.map (·++[x])) c,q.length<=n+b.length:=by
  intro b
  induction b with
  |nil=>intro c n h q e;simpa using h q e
  |cons x b f=>
   intro c n h q e;rw[sZ] at e;have:=f _ (n+1) (λr d=>by
    rcases dt.mp d with d|d
    ·exact Dt<|h r d
    ·obtain⟨u,g,rfl⟩:=aO.mp d
     rw[c_];exact Sx<|h u g) q e
   rw[dj];omega
 intro q e;have:=this b [[]] 0 (λr d=>by simp at d;subst d;exact aV _) q e;omega
noncomputable def ij:List Int->Bool
 |a::b::r=>aE (a<b)&&ij (b::r)
 |_=>ae
def Qa:∀c:List Int,((c.zip<|c.drop 1).map λp=>aE<|p.1<p.2).all id=ij c
 |[]=>O
 |[_]=>O
 |a::b::r=>by
  have:=Qa<|b::r;unfold ij;rw[<-this]
  rfl
def HX:∀e:List Int,ij e=ae↔∀(i:Nat) a b,e[i]?=V a->e[i+1]?=V b->a<b
 |[]=>by simp[ij]
 |[x]=>by simp[ij]
 |x::y::r=>by
  unfold ij;rw[jP,iE,HX<|y::r];constructor
  ·rintro⟨f,g⟩ i a b c d
   cases i with
   |zero=>simp at c d;subst c d;exact f
   |succ i=>exact g i a b 6#c 6#d
  ·intro h
   exact(h 0 x y O O,λi a b c d=>h (i+1) a b 6#c 6#d)
def Qb(c:List Int)(h:ij c=ae):∀(d i:Nat) a b,c[i]?=V a->c[i+d]?=V b->a<=b:=by
 intro d
 induction d with
 |zero=>intro i a b f e;rw[zp,f] at e;cases e;exact lW _
 |succ d j=>
  intro i a b f e;have k:i+(d+1)<c.length:=(bY.mp e).1;have g:c[i+d]?=V c[i+d]:=cB (ì k);have l:=j i a _ f g;have m:=(HX c).mp h (i+d) _ b g e;omega
noncomputable def iB(a:List Int):Bool:=aE (1<=a.length)&&aE (a.length<=5)&&!(aE<|a.headD 0<0)&&!(aE<|99<a.getLastD 0)&&ij a
noncomputable def iJ(a:List Int):Bool:=aE (1<=a.length)&&aE (a.length<=5)&&a.all (λp=>aE (0<=p)&&aE (p<=99))&&ij a
def BV(b:List Int):iB b=iJ b:=by
 unfold iB iJ;cases b with
 |nil=>rfl
 |cons x r=>
  by_cases a:ij (x::r)=ae
  ·rw[a,Tk,Tk]
   by_cases j:(x::r).length<=5
   ·have e:(x::r).getLastD 0=(x::r)[(x::r).length-1]:=by
     rw[aio,List.getLast?_eq_getElem?,cB 0#0];rfl
    have c:(!(aE<|(x::r).headD 0<0)&&!(aE<|99<(x::r).getLastD 0))=(x::r).all (λp=>aE (0<=p)&&aE (p<=99)):=by
     rw[uQ];rw[jP,Tj,Tj,decide_eq_false_iff_not,decide_eq_false_iff_not,pv];constructor
     ·rintro⟨k,l⟩ p m
      obtain⟨i,d⟩:=gW.mp m;have n:i<(x::r).length:=(bY.mp d).1;have f:=Qb (x::r) a i 0 x p O 6#d;have g:=Qb (x::r) a ((x::r).length-1-i) i p ((x::r)[(x::r).length-1]) d (by
       rw[show i+((x::r).length-1-i)=(x::r).length-1 from ω];exact cB 0#0)
      rw[e] at l;have o:¬x<0:=k;simp only[jP,iE];constructor<;>omega
     ·intro h
      have f:=h x fE;have g:=h ((x::r)[(x::r).length-1])<|mK _;rw[e];simp only[jP,iE] at f g;constructor
      ·show ¬x<0;omega
      ·omega
    rw[<-c];simp only[Bool.and_assoc]
   ·rw[cw j];simp
  ·have:ij (x::r)=aB:=by simpa using a
   rw[this,wV,wV]
noncomputable def jr(a:Ξ):Bool:=aE (a.length<=20)&&a.all iB&&!(aE<|(cb a).length<a.length)&&aE ((cb<|a.flatMap cH).length<=200)
def Ql(a:Ξ)(k:Nat):Prop:=∀(i:Nat) b,i<k->a[i]?=V b->b∉a.take i/\iJ b=ae
def acs(a:Ξ)(h:a.length<=20)(b:Ql a a.length):jr a=aE ((cb<|a.flatMap cH).length<=200):=by
 unfold jr;have d:a.all iB=ae:=pv.mpr λf g=>by
  obtain⟨i,c⟩:=gW.mp g;rw[BV];exact(b i f (bY.mp c).1 c).2
 have j:¬(cb a).length<a.length:=λz=>by
  obtain⟨k,x,e,l⟩:=(UF a).mp z;exact(b k x (bY.mp e).1 e).1 l
 rw[bT h,d,cw j]
 rfl
def acr(a:Ξ)(h:¬a.length<=20):jr a=aB:=by unfold jr;rw[cw h];rfl
noncomputable def xJ(d c:List aq)(a:List (Option Nat))(b:fw):Bool:=aE (a.length=c.length)&&(a.zip c).all λp=>match p.1 with
 |none=>ae
 |some j=>aE (d[j]?=V p.2)&&aE (b.names.lookup p.2=V .free)
def FB{b:fw}(h:xJ g c a b=ae):vG g c a b:=by
 unfold xJ at h;rw[jP,iE,pv] at h;refine(h.1,λi j e=>?_);have f:i<a.length:=(bY.mp e).1;have d:c[i]?=V c[i]:=cB (by rw[<-h.1];exact f);have:=h.2 (aez (V j) (c[i]))<|gW.mpr (i,by rw[pF,e,d];rfl);simp only[jP,iE] at this;exact(c[i],d,this.1,this.2)
section
variable{X:a_}{scope:fw}{caps:List (Option Nat)}{tg iter elt:bz}{ifs:List bz}{wi:jE}{g:gD}{tc:dO}{te:bd}{pos:ci}
def fe(s j:List aq)(caps:List (Option Nat))(k:jU X tg iter wi)(l:∀f C a b h,lH (kq X scope j f C a b h) tg g)(m:∀f C a b h,oD (kq X scope j f C a b h) ifs tc)(n:∀f C a b h,bG (kq X scope j f C a b h) elt te)(o:X.b=ae:=by rfl)(p:scope.kind=.function:=by rfl)(e:∀y∈scope.names,y.2≠.cell:=by decide +kernel)(c:∀y∈scope.names,y.2=.free->scope.names.lookup y.1=V .free:=by decide +kernel)(d:∀y∈scope.names,y.2=.local->scope.names.lookup y.1=V .local:=by decide +kernel)(hfr:∀y∈scope.names,y.2=.free->X.env.kindOf y.1=V .cell\/X.env.kindOf y.1=V .free)(q:X.N=s:=by rfl)(i:xJ s j caps scope=ae:=by decide +kernel)(r:∀x,sB iter X.env x=aX x:=by intro _;rfl):bG X (.ListComp elt [(tg,iter,ifs,0)] scope pos) (on wi caps g tc te):=
 Wh o p e c d hfr (FB (by rw[q];exact i)) k l m n r
end
def oy{b:gm}{a:fw}(h:a.names.all (λy=>aE<|y.2≠.free)=ae):∀y∈a.names,y.2=.free->b.kindOf y.1=V .cell\/b.kindOf y.1=V .free:=λy c e=>
 bh e<|fc<|pv.mp h y c
def ii{b:gm}{a:fw}(c:fw)(h:a.names.all (λy=>aE (y.2≠.free)|| decide (c.names.lookup y.1=V .cell)|| decide (c.names.lookup y.1=V .free))=ae)(d:b.scope=c:=by rfl):∀y∈a.names,y.2=.free->b.kindOf y.1=V .cell\/b.kindOf y.1=V .free:=λy f e=>by
 subst d;have:=pv.mp h y f;simp only[Th,iE] at this;rcases this with (q|q)|q
 ·exact bh e q
 ·exact .inl q
 ·exact .inr q
def eF(l:List aq)(h:l.Nodup:=by decide +kernel):l.Nodup:=h
def EA{c:bd}{S:ab->Prop}(h:c a H P):ie a H λb d=>if b=ae then c a d P else S d:=by
 show if ae=ae then c a H P else S H;rw[av O];exact h
def jD{i:Nat}{d:bd}{c:aR}{P:aR->aU}{S:aR->ab->Prop}(h:d (c.set i<|V v) H (P<|c.set i<|V v)):dw i v c H λa f=>ie a f λb e=>if b=ae then d a e (P a) else S a e:=EA (S:=S<|c.set i<|V v) h
def eP{b:bd}(h:dU e g a b c d D Q):dU e g a b c d D Q:=h
def NN{c d:Type}{R:c->d->Prop}:∀{l:List c}{m:List d},l.length=m.length->(∀(i:Nat) x y,l[i]?=V x->m[i]?=V y->R x y)->eI R l m
 |[],[],_,_=>.nil
 |x::l,y::m,h,f=>.cons (f 0 x y O O) (NN 6#h λi a b e g=>f (i+1) a b 6#e 6#g)
 |[],_::_,h,_=>by simp at h
 |_::_,[],h,_=>by simp at h
section
variable{prog:bu}{w:bf}{A:bO}{E:Ω}{s:ak}
def adk{t f:W}{k l:aa}{b e:Option Int}{Q:Ω}(c:kW s.heap t a)(m:s.heap.IsSliceOf f k l .none)(n:re k b)(o:re l e)(hw:cC a.size 0 b=0/\cC a.size a.size e=a.size)(h:Q 5#t s):ax 2#0 A (pZ 5#t<|.ref f) Q E s:=by
 obtain⟨p,g,i,q⟩:=id m;have j:s.TypeIs 5#f "slice":=(p,g,i);obtain⟨x,r,u,y,v⟩:=id c;unfold pZ
 try with_reducible refine fO ?_
 first|refine ag<|aG ?_|skip
 refine ag<|aey c.typeIs ξ ?_;refine ag (pY (name:=jv "__getitem__") c.typeIs wI
 <|mE wI c.typeIs ahw ?_<|ahx _ _)
 show ax _ _ (ag7 5#t >>= _) _ _ s;refine ag<|tupleItemsOf_ c ?_;refine ag<|uh j ?_;rw[av ξ];refine ag<|Qs m n o ?_;have d:((((cC a.size 0 b:Nat):Int)==0&&(1:Int)==1&&(cC a.size a.size e-cC a.size 0 b)==a.size)=ae):=by
  rw[hw.1,hw.2];simp
 show ax _ _ (if(((cC a.size 0 b:Nat):Int)==0&&(1:Int)==1&&(cC a.size a.size e-cC a.size 0 b)==a.size)=ae then _ else _) _ _ s;rw[av d];refine ag ?_;unfold ak3;refine ag<|uh c.typeIs<|aG ?_;rw[av ξ];refine ag<|mD ?_;exact aG (_,O,aG h)
end
section
variable{X:a_}
inductive Af(x:af)(lo:Option Int)(hi:Option Int)(H:ab)(Q:aU):Prop
 |b:∀a xs,(x=.ref a)->(H a=V (.tup xs))->(∀p H',aL H H'->H' p=V (.tup<|kr xs lo hi)->Q 5#p H')->Af x lo hi H Q
def vh:Az X Af:=by
 intro c s t H x v u w i j y Q I k l m n h;obtain⟨a,b,rfl,f,q⟩:=h
 by_cases e:cC b.length 0 i=0/\cC b.length b.length j=b.length
 ·cases k
  obtain⟨g,r,o,A⟩:=I.B<|fg.B (K:=X.K) f;have d:g.toArray.size=b.length:=by rw[cP];exact r.B.symm
  refine("tuple",_,wI.lookup,o.typeIs,adk o l m n (by rw[d];exact e) (.ref a,H,I,O,q a H (aL.refl H) ?_));rw[f];unfold kr;rw[e.1,e.2,aiz,Sy,eV<|aV _]
 ·exact EJ c s t H 5#a v u w i j y Q I k l m n (a,b,O,fg.B f,e,λp z=>q p _ (aL.B z) az)
end
noncomputable def dW(i:Nat):cJ:=PySem.Challenge.pw_seamwright_k68_whole_lasting_bars_are_ho.main.body.getD i<|.Pass (0,0,0,0)
noncomputable abbrev Bi:cJ:=dW 8
noncomputable abbrev vN:cJ:=dW 9
noncomputable abbrev vO:cJ:=dW 11
noncomputable abbrev yl:cJ:=dW 12
noncomputable abbrev yq:cJ:=dW 13
noncomputable abbrev Br:cJ:=dW 17
structure fN(mg:aq->Option aa):Prop where
 a:mg "len"=Y
 all:mg "all"=Y
 f:mg "zip"=Y
 d:mg "sorted"=Y
 set:mg "set"=Y
 list:mg "list"=Y
 c:mg "tuple"=Y
 b:mg "range"=Y
 e:mg "enumerate"=Y
 int:mg "int"=Y
 h:mg "isinstance"=Y
 i:mg "reversed"=Y
 g:mg "bool"=Y
def fq:iY "len"=V (.builtin "len"):=δ
def HN:iY "all"=V (.builtin "all"):=δ
def acd:iY "zip"=V (.type "zip"):=δ
def BL:iY "sorted"=V (.builtin "sorted"):=δ
def ace:iY "set"=V (.type "set"):=δ
def j_:iY "list"=V (.type "list"):=δ
def BK:iY "tuple"=V (.type "tuple"):=δ
def HL:iY "enumerate"=V (.type "enumerate"):=δ
def acf:iY "int"=V (.type "int"):=δ
def bR{n:Nat}(h:n<=100000):n<=bD:=by rw[jt];exact â h
def jm{n:Nat}(h:n<=100000):n<bD:=by rw[jt];exact â (ï h)
def acg(x:Int)(r:List Int):lC ((x::r).map af.int) (-1)=V (.int<|(x::r).getLastD 0):=by
 obtain⟨q,z,e⟩:∃q z,x::r=q++[z]:=((x::r).dropLast,(x::r).getLast<|ai4 x r,(ai1<|ai4 x r).symm);rw[e,bU,aio,List.getLast?_append];exact XK _ _
def yt{a:List Int}{i:Nat}(h:(a.map af.int)[i]?=V x):∃p,a[i]?=V p/\x=.int p:=by
 rw[bV] at h;cases e:a[i]? with
 |none=>rw[e] at h;cases h
 |some p=>rw[e] at h;exact(p,O,(bM h).symm)
def fG{b:List W}{i:Nat}(h:(b.map af.ref)[i]?=V x):∃a,b[i]?=V a/\x=.ref a:=by
 rw[bV] at h;cases e:b[i]? with
 |none=>rw[e] at h;cases h
 |some p=>rw[e] at h;exact(p,O,(bM h).symm)
def cG{a:Type}{l:List a}{i:Nat}{x:a}(h:l[i]?=V x):l.take (i+1)=l.take i++[x]:=by rw[zq,h];rfl
def gE{a:Type}(l:List a):l.take l.length=l:=eV<|aV _
def ab1(x:Int)(r:List Int):kr ((x::r).map af.int) (V 1) Y=r.map af.int:=by
 unfold kr;have e:cC ((x::r).map af.int).length 0 (V 1)=1:=by
  have:=yF ((x::r).map af.int).length 0 1;rw[show((1:Nat):Int)=1 from O] at this;rw[this,au,dj];omega
 rw[e,Ce];show cU _ (r.map af.int)=_;rw[eV 0#0]
section
variable{P:bu}{w:bf}{K:aY}{mg:aq->Option aa}{base:aW}
inductive AW(vs:List af)(H:ab)(Q:aU)(E':db):Prop
 |b:∀a ps,(vs=[.ref a])->(de H a ps)->(∀H',aL H H'->Q (.c<|iB ps) H')->AW vs H Q E'
def YO:dG ["numbers"] ["numbers"] (bX Bi):=(O,O,O,δ,O,δ,δ)
def OU{t5 M:hU}(F:b_ K "is_piece" "is_piece" Bi f fd)(a1:fN mg)(m5:mg "MOST_POINTS"=V (.int 5 t5))(R:mg "LAST_POINT"=V (.int 99 M)):ce P w K mg base bx 1 f fd ["numbers"] AW:=by
 refine F.B YO (λvs H Q E h=>?_) (λa0 A S s H vs Q E hr h=>?_)
 ·obtain⟨a,b,rfl,_⟩:=h;rfl
 ·obtain⟨a,b,rfl,t,k⟩:=h
  refine(_,bj (fL (vm<|VQ Fe Fe bb (dM fX O a1.a fq<|ao 7#0 aF)<|vn O m5 (v:=.int 5) (_,O)) (bF<|cX kn) fV)
   (bj (fL (tK.B<|ES (dD Aj (eK ig 7#0 bb (λ_ _=>O)) bb<|dF _)<|ER<|dD xB (eK ig 7#0 (EZ EC bb) (λ_ _=>O)) (vn O R (v:=.int 99) (_,O))<|dF _) (bF<|cX kn) fV)
   (bF (cX (dM (FG O) O a1.all HN (ao
    (fe ["numbers"] ["low","high"] [Y,Y] (V_ O a1.f acd<|ao 7#0<|ao (qq EJ 7#0 (ny bb) nz) aF)
     (λcl C m n ex=>xx O<|pG (cx (i:=0) (eF ["low","high"]) O<|ai O)<|pG (cx (i:=1) (eF ["low","high"]) O<|ai O) xu)
     (λcl C m n ex=>iu) (λcl C m n ex=>My Aj 7#0 7#1<|dF _) (hfr:=oy δ) (g:=Aq K 2<|tF (dw 0)<|tF (dw 1) Ar)) aF))))),?_)
  have I:iB b=aB->Q (.c aB) H:=λe=>by have:=k H<|aL.refl H;rw[e] at this;exact this
  refine(_,O,a,_,O,.inr<|fg.B t,_,_,O,O,_,O,?_);rw[au];refine oz (λT=>?_) (λT=>?_)
  ·refine(_,_,O,O,_,O,?_)
   have c:1<=b.length:=by have:=fc T;omega
   cases h5:aE ((b.length:Int)<=5) with
   |false=>
    have d:¬b.length<=5:=by have:=oe h5;omega
    exact eS<|I (by unfold iB;rw[cw d];simp)
   |true=>
    have d:b.length<=5:=by have:=fc h5;omega
    refine dT ?_;obtain⟨x,r,rfl⟩:∃x r,b=x::r:=by
     cases b with
     |nil=>simp at c
     |cons x r=>exact(x,r,O)
    refine(_,O,a,_,_,_,O,O,fg.B t,jg (j:=0) O,_,_,O,O,_,O,?_);refine oz (λU=>?_) (λU=>?_)
    ·refine eS<|I ?_
     unfold iB;rw[show aE ((x::r).headD 0<0)=ae from U];simp
    ·refine(_,O,_,O,a,_,_,_,O,O,fg.B t,acg x r,_,_,O,O,_,O,?_)
     cases hl:aE (99<(x::r).getLastD 0) with
     |true=>
      refine eS<|I ?_;unfold iB;rw[hl];simp
     |false=>
      refine dT ?_;refine(_,O,_,O,_,O,a,_,O,fg.B t,?_,λp hp=>?_)
      ·intro z
       have e:=yF ((x::r).map af.int).length 0 1;rw[show((1:Nat):Int)=1 from O,z.1,au,dj] at e;omega
      ·rw[ab1]
       have X:aL H (aD H p<|.tup<|r.map af.int):=aL.B hp;refine(a,p,O,(_,fg.B<|X.J t),(_,fg.B az),λD hD=>?_);have hm:gc ((x::r).map af.int).length (r.map af.int).length=r.length:=by simp
       refine eP (Xt (K:=K) (xs:=(x::r).map af.int) (ys:=r.map af.int) (λi L y u=>∃v1 v2,L=[v1,v2]/\aL (aD H p<|.tup<|r.map af.int) u/\u D=V (.lst y)/\y=((((x::r).zip r).map λq=>aE<|q.1<q.2).take i).map af.c)
        (Y,Y,O,aL.B hD,az,O) (λi L y u (_,_,_,o,_)=>(fg.B<|o.J<|X.J t,fg.B<|o _ _ az)) ?_ ?_)
       ·rintro i L y u p' y1 y2 e1 e2 hi hz ⟨v1,v2,rfl,o,l,rfl⟩ G
        obtain⟨q1,g1,rfl⟩:=yt e1;obtain⟨q2,g2,rfl⟩:=yt e2;refine(p',_,O,fg.B az,O,_,_,O,_,_,O,O,EA ?_);refine(_,O,_,O,_,_,O,O,fz (dq (JJ _ _) (by rw[au];exact bR (by simp at d;exact â d))) hi hz (by rw[aZ<|cN l G];exact l) (_,_,O,?_,az,?_))
        ·exact(o.N<|o.A0 G).N hD
        ·have e3:(((x::r).zip r).map λq=>aE<|q.1<q.2)[i]?=V (aE<|q1<q2):=by
          rw[bV,pF,g1,g2];rfl
         rw[cG e3,bU];rfl
       ·rintro L y u ⟨v1,v2,rfl,o,l,rfl⟩
        refine(D,(((x::r).zip r).map λq=>aE<|q.1<q.2),O,bI.B ?_,?_)
        ·rw[l,hm,eV 0#0]
        ·have:=k u<|X.F o
         have e4:=Qa<|x::r;rw[show(x::r).drop 1=r from O] at e4;rw[e4];have e5:iB (x::r)=ij (x::r):=by
          unfold iB;rw[bT c,bT d,hl];rw[show aE ((x::r).headD 0<0)=aB from by simpa using U]
          rfl
         rw[e5] at this;exact this
  ·refine(_,O,eS<|I ?_)
   have c:¬1<=b.length:=λz=>T<|bT ω;unfold iB;rw[cw c]
   rfl
end
section
variable{P:bu}{w:bf}{K:aY}{mg:aq->Option aa}{base:aW}
inductive xX(vs:List af)(H:ab)(Q:aU)(E':db):Prop
 |b:∀a ps,(vs=[.ref a])->(de H a ps)->(ps.length<=5)->(∀D as H',aL H H'->H D=Y->H' D=V (.lst<|as.map af.ref)->bA H' as (cH ps)->Q 5#D H')->xX vs H Q E'
def Bb:dG ["piece","found","point"] ["piece"] (bX vN):=(O,O,O,δ,O,δ,δ)
def vR{n:Nat}(h:n<=5):2 ^ n<=32:=by
 have:2 ^ n<=2 ^ 5:=SA ξ h;exact this
def OO{i:ab}{u:List W}{w:Ξ}{q:Int}{Q:aU}(S:i l=V (.lst<|u.map af.ref))(I:bA i u w)(hz:u.length<=100)(A:∀f∈w,f.length<=100)(L:i D=Y)(k:∀g b,aL i b->b D=V (.lst<|g.map af.ref)->bA b g (w.map (·++[q]))->Q 5#D b):dU (gY K l) (dw 0) ie (dk Ah (bw 0)<|mQ<|eR (bw 1) gg) [Y,V<|.int q] i D Q:=by
 have C:=I.B;refine jT (xs:=u.map af.ref) (λj y m b=>∃g v,y=[v,V<|.int q]/\aL i b/\b D=V (.lst m)/\m=g.map af.ref/\bA b g ((w.take j).map (·++[q]))) ?_ ?_ ?_ ?_
 ·exact([],Y,O,aL.B L,az,O,.nil)
 ·rintro j y m b ⟨g,v,rfl,n,d,rfl,o⟩
  exact bI.B<|n _ _ S
 ·rintro j y m b x T U X ⟨g,v,rfl,n,d,rfl,o⟩
  obtain⟨a,ea,rfl⟩:=fG T;obtain⟨f,M,hf⟩:=I.F ea;refine jD ?_;refine(_,O,_,O,bR 0#0,λt E=>?_);have G:=n.J hf;have P:aL b (aD b t<|.tup [.int q]):=aL.B E;refine(a,t,_,_,O,O,P _ _ G,az,?_,λp H s2 R=>?_)
  ·rw[au]
   exact bR (by have:=A f<|dh M;simp;exact â this)
  ·have r:aL b H:=P.F s2
   refine fz (ys:=g.map af.ref) (by rw[au];exact bR (â hz)) U X (r _ _ d) (g++[p],_,O,(n.F r).N L,az,by rw[bU];rfl,?_);rw[cG M,bU];have a0:p≠D:=fW R (r _ _ d) (by intro z;cases z);have h:∀c s,H c=V (.tup s)->aD H D (.lst<|g.map af.ref++[af.ref p]) c=V (.tup s):=λc s e=>by
    rw[aZ<|fW e (r _ _ d) (by intro z;cases z)];exact e
   refine bA.J (jF (r.M o) λc s e=>h c _ e)<|h p _ ?_;rw[R,bU];rfl
 ·rintro y m b ⟨g,v,rfl,n,d,rfl,o⟩
  rw[au,C,gE] at o;exact k g b n d o
def ZX(F:b_ K "parts_of" "parts_of" vN f U):ce P w K mg base bx 1 f U ["piece"] xX:=by
 refine F.B Bb (λvs H Q E h=>?_) (λa0 A G s H vs Q E hr h=>?_)
 ·obtain⟨a,o,rfl,_⟩:=h;rfl
 ·obtain⟨a,o,rfl,X,h5,k⟩:=h
  refine(_,bj (cq (i:=1) Bb.a O (ai O)<|je<|ao (jC aF) aF)
   (bj (gz ga O (EW<|ah 0) (cx (i:=2) Bb.a O<|aw O)
    (bF (cq (i:=1) Bb.a O (ai O) (bW vo 7#1 (fe ["piece","found","point"] ["part","point"] [Y,V 2] (eO<|ah 1) (λcl C g j ex=>cx (i:=0) (eF ["part","point"]) O<|ai O) (λcl C g j ex=>iu)
     (λcl C g j ex=>bW xC 7#0<|jC<|ao 7#1 aF) (hfr:=ii (bX vN) δ))))))
  <|bF<|cX<|qq VM 7#1 (ny bb) nz),?_)
  refine(bR 0#0,λe I=>(bR 0#0,λl c=>?_));have s1:aL H (aD (aD H e<|.tup []) l<|.lst [.ref e]):=(aL.B I).N<|(aL.B I).A0 c;have L:e≠l:=cN (H:=aD H e<|.tup []) az c;refine(_,O,a,O,(_,fg.B<|s1 _ _ X),MX (K:=K) (a:=a) (xs:=o.map af.int) (λi y p=>∃l b v,y=[V<|.ref a,V<|.ref l,v]/\aL H p/\H l=Y/\p l=V (.lst<|b.map af.ref)/\bA p b (lK<|o.take i))
   (l,[e],Y,O,s1,(aL.B I).A0 c,az,.cons (by show aD _ _ _ e=_;rw[aZ L];exact az) .nil) (λi y p _ (_,_,_,_,m,_)=>fg.B<|m _ _ X) ?_ ?_)
  ·rintro i x y p hx ⟨l,b,v,rfl,m,M,c,n⟩
   obtain⟨q,eq,rfl⟩:=yt hx;have hi:i<o.length:=(bY.mp eq).1;have R:=n.B;have hn:b.length<=32:=by
    rw[R,BR,dR];exact vR ω
   have hm:∀f∈lK (o.take i),f.length<=100:=λf hf=>by
    have:=P' _ f hf;rw[dR] at this;omega
   refine(_,O,_,O,l,O,(_,bI.B c),λD z=>eP<|OO c n (â hn) hm z λbs H3 d S hb=>?_);have T:=hb.B;rw[au] at T;refine(l,D,_,_,O,O,d _ _ c,S,by rw[au,au];exact bR ω,λl2 r=>?_);have u:H l2=Y:=(m.F d).A0 r;refine(l2,b++bs,_,O,(m.F d).N u,u,by rw[az,bU],?_);rw[cG eq,HU];exact(aL.B r).M<|(d.M n).N hb
  ·rintro y p ⟨l,b,v,rfl,m,M,c,n⟩
   rw[au,gE] at n;refine(_,O,_,O,l,_,O,bI.B c,λD z=>?_);have h0:H D=Y:=m.A0 z;obtain⟨t,et,_⟩:=HV o;refine k D (b.drop 1) _ (m.N h0) h0 ?_ ?_
   ·rw[az]
    unfold kr;have a1:1<=b.length:=by rw[n.B,et];simp
    have e1:cC (b.map af.ref).length 0 (V 1)=1:=by
     have:=yF (b.map af.ref).length 0 1;rw[show((1:Nat):Int)=1 from O] at this;rw[this,au];omega
    rw[e1,Ce,<-DB,eV 0#0]
   ·exact(aL.B z).M<|n.M 1
def YU:dG ["piece"] ["piece"] (bX vO):=(O,O,O,δ,O,δ,δ)
def υ(F:b_ K "order_key" "order_key" vO f c)(m:fN mg):ce P w K mg base bx 1 f c ["piece"] Ae:=by
 refine F.B YU (λd H Q E h=>?_) (λe A b s H d Q E l h=>?_)
 ·obtain⟨a,g,rfl,_⟩:=h;rfl
 ·obtain⟨a,g,rfl,i,k⟩:=h
  refine(_,bF<|cX<|jC<|ao (dM fX O m.a fq<|ao 7#0 aF)<|ao 7#0 aF,?_);refine(_,O,a,_,O,.inr<|fg.B i,_,O,bR 0#0,λp j=>?_);rw[au];exact k p j
inductive GB(K:aY)(vs:List af)(H:ab)(Q:aU)(E':db):Prop
 |c:∀l as pss,(vs=[.ref l])->(bI K H l<|as.map af.ref)->(bA H as pss)->(pss.length<1000)->(∀D H2(qs:List (List Int×W)),aL H H2->H D=Y->H2 D=V (.lst<|qs.map λq=>af.ref q.2)->qs.Perm (pss.zip as)->qs.Pairwise (λa b=>bJ ((b.1.length:Int)::b.1) ((a.1.length:Int)::a.1)=aB)->Q 5#D H2)->GB K vs H Q E'
def YP:dG ["some"] ["some"] (bX yl):=(O,O,O,δ,O,δ,δ)
def ZZ(F:b_ K "in_order" "in_order" yl f g)(v:fN mg)(j:b_ K "order_key" "order_key" vO c a)(m:eQ K a ["piece"] [])(n:mg "order_key"=V 5#c):ce P w K mg base bx 4 f g ["some"] (GB K):=by
 have o:ce P w K mg base bx 1 c a ["piece"] Ae:=υ j v;refine F.B YP (λp H Q E h=>?_) (λq A d s H p Q E r h=>?_)
 ·obtain⟨l,i,b,rfl,_⟩:=h;rfl
 ·obtain⟨l,i,b,rfl,t,u,e,k⟩:=h
  refine(_,bF<|cX<|Wc o r m O v.d BL O n<|ao 7#0 aF,?_);exact(_,O,l,i,b,O,t,u,e,k)
end
def ka{b:Ξ}(h:bA H f b)(g:H d=V c)(i:∀j,c≠.tup j):bA (aD H d o) f b:=
 jF h λa k e=>by
  show aD H d o a=_;rw[aZ<|fW (show H a=V _ from e) g λz=>i _ z.symm];exact e
noncomputable def kx(a:Ξ):List (List aK×af):=(cb a).map λb=>(aez ((b.map aN:List aK)) (af.c ae))
def Hz(a:Ξ):(kx a).length<=a.length:=by unfold kx;rw[au];exact rF a
def Hk(a:Ξ)(b:List Int):dZ (kx a) (b.map aN) (.c ae)=kx (a++[b]):=by
 unfold dZ kx;rw[xj];have d:(((cb a).map λb=>(aez ((b.map aN:List aK)) (af.c ae))).any λe=>aE<|e.1=b.map aN)=aE (b∈cb a):=by
  rw[SY]
  by_cases h:b∈cb a
  ·rw[bT h,wQ]
   exact(b,h,by simp)
  ·rw[cw h,Kb]
   intro q c;simp only[uP,iE,nA];rintro rfl;exact h c
 rw[d]
 by_cases h:b∈cb a
 ·rw[bT h,av O,av h,bN]
  refine fS λq c=>?_;simp only[uP];split<;>rfl
 ·rw[cw h,am 0#0,am h,bU]
  rfl
def Py{H:ab}(h:eI (λ(p:List aK×af) b=>H b=V (.tup<|p.1.map cR)) (kx a) c):bA H c (cb a):=by
 unfold kx at h;generalize cb a=l at h
 induction l generalizing c with
 |nil=>cases h;exact .nil
 |cons x l d=>
  rw[cY] at h;cases h with
  |cons r t=>
   refine .cons ?_<|d t;show H _=_;rw[r,bN]
   rfl
def PK(a:Ξ)(h:∀b∈a,b.length<=5):(a.flatMap cH).length<=31*a.length:=by
 induction a with
 |nil=>simp
 |cons x l c=>
  rw[nr,c_,we,dj];have:=c λb d=>h b<|gd _ d;have:=vR<|h x fE;omega
def PJ{a:Ξ}{i:Nat}{b:List Int}(h:a[i]?=V b):(a.take<|i+1).flatMap cH=(a.take i).flatMap cH++cH b:=by
 rw[cG h,SS];simp
def PX(H d:ab)(e:Ξ)(D:W)(c:List (List Int×W)):Prop:=
 aL H d/\H D=Y/\d D=V (.lst<|c.map λq=>af.ref q.2)/\(∀q∈c,de d q.2 q.1)/\(c.map (·.1)).Perm (cb<|e.flatMap cH)/\c.Pairwise (λa b=>bJ ((b.1.length:Int)::b.1) ((a.1.length:Int)::a.1)=aB)
section
variable{P:bu}{w:bf}{K:aY}{mg:aq->Option aa}{base:aW}
inductive vJ(K:aY)(vs:List af)(H:ab)(Q:aU)(E':db):Prop
 |a:∀l as pss,(vs=[.ref l])->(bI K H l<|as.map af.ref)->(bA H as pss)->((∀ps∈pss,ps.length<=5))->(pss.length<=200)->((cb<|pss.flatMap cH).length<1000)->(∀D H2 qs,PX H H2 pss D qs->Q 5#D H2)->vJ K vs H Q E'
def Bd:dG ["some","found","piece","part"] ["some"] (bX yq):=(O,O,O,δ,O,δ,δ)
def OV(F:b_ K "all_parts" "all_parts" yq f fd)(b5:fN mg)(Fp:b_ K "parts_of" "parts_of" vN fp C)(bp:eQ K C ["piece"] [])(mp:mg "parts_of"=V 5#fp)(Fo:b_ K "in_order" "in_order" yl fo G)(bo:eQ K G ["some"] [])(mo:mg "in_order"=V 5#fo)(Fk:b_ K "order_key" "order_key" vO fk X)(bk:eQ K X ["piece"] [])(mk:mg "order_key"=V 5#fk):ce P w K mg base bx 5 f fd ["some"] (vJ K):=by
 have Gp:ce P w K mg base bx 1 fp C ["piece"] xX:=ZX Fp;have Go:ce P w K mg base bx 4 fo G ["some"] (GB K):=ZZ Fo b5 Fk bk mk;refine F.B Bd (λvs H Q E h=>?_) (λb1 A a3 s H vs Q E hr h=>?_)
 ·obtain⟨l,as,e,rfl,_⟩:=h;rfl
 ·obtain⟨l,as,e,rfl,hl,ht,h5,b2,a4,k⟩:=h
  have hu:=ko hr;have a5:fM 1 _:=hr.B ξ;refine(_,bj (cq (i:=1) Bd.a O (ai O) pH)
   (bj (gz ga O (eO<|ah 0) (cx (i:=2) Bd.a O<|ai O)
    (bF (gz ga O (eO<|gB Gp a5 O mp Fp.a bp .nil cF<|ao 7#2 aF) (cx (i:=3) Bd.a O<|ai O)
    <|bF<|lZ hu 7#1 7#3 kn O)))
  <|bF<|cX<|gB Go hr O mo Fo.a bo .nil cF<|ao (gA (Nx O) O b5.list j_<|ao 7#1 aF) aF),?_)
  intro d hd;have a6:=ht.B;refine(_,O,l,O,(_,(aL.B hd).A1 hl),me (K:=K) (a:=l) (xs:=as.map af.ref) (λi r H2=>∃v I,r=[V<|.ref l,V<|.ref d,v,I]/\aL H H2/\H2 d=V (.a<|kx<|(e.take i).flatMap cH))
   (Y,Y,O,aL.B hd,az) (λi r H2 _ (_,_,_,t,_)=>t.A1 hl) ?_ ?_)
  ·rintro i x r H2 hx ⟨v,I,rfl,t,n⟩
   obtain⟨a,ea,rfl⟩:=fG hx;obtain⟨U,L,a7⟩:=ht.F ea;have u:=h5 U<|dh L;have hi:i<e.length:=(bY.mp L).1;refine(_,O,a,U,O,t.J a7,u,λD cs H3 g b3 hD a0=>(D,O,(_,bI.B hD),?_));have a8:=a0.B;have a9:D≠d:=fW hD (g _ _ n) (by intro z;cases z);refine me (K:=K) (a:=D) (xs:=cs.map af.ref) (λj r M=>∃I,r=[V<|.ref l,V<|.ref d,V<|.ref a,I]/\aL H M/\M D=V (.lst<|cs.map af.ref)/\bA M cs (cH U)/\M d=V (.a<|kx<|(e.take i).flatMap cH++(cH U).take j))
    (_,O,t.F g,hD,a0,by rw[Dv,jy];exact g _ _ n) (λj r M _ (_,_,_,q,_)=>bI.B q) ?_ ?_
   ·rintro j x r M hx ⟨I,rfl,R,a1,o,p⟩
    obtain⟨c,ec,rfl⟩:=fG hx;obtain⟨f,ef,hf⟩:=o.F ec;have a2:(kx<|(e.take i).flatMap cH++(cH U).take j).length<bD:=by
     refine jm<|dq (Hz _) ?_;rw[c_];have h1:=PK (e.take i) (λq hq=>h5 q<|wO hq);have h2:=we U;have h3:=vR u;rw[dR] at h1 ⊢;omega
    refine(_,O,_,O,d,_,O,AF.t (k:=f.map aN) p (by rw[bN];exact hf) a2,(_,O,R.N hd,?_,?_,?_))
    ·rw[aZ a9];exact a1
    ·exact ka o p (by intro xs z;cases z)
    ·rw[az,Hk,lV,<-cG ef]
   ·rintro r M ⟨I,rfl,R,a1,o,p⟩
    refine(_,_,O,R,?_);rw[au,a8,gE] at p;rw[PJ L];exact p
  ·rintro r H2 ⟨v,I,rfl,t,n⟩
   rw[au,a6,gE] at n;refine(_,O,d,_,O,n,λbs hb l2 S=>?_);have tb:=Py hb;have b4:=tb.B;refine(l2,bs,cb<|e.flatMap cH,O,bI.B az,(aL.B S).M tb,a4,λD H3 qs g hD b0 hp hs=>?_);have y:H l2=Y:=t.A0 S;refine k D H3 qs ((t.N y).F g,(t.N y).A0 hD,b0,λq hq=>?_,?_,hs)
   ·obtain⟨m,T⟩:=gW.mp<|hp.mem_iff.mp hq
    rw[pF] at T;cases e1:(cb<|e.flatMap cH)[m]? with
    |none=>rw[e1] at T;cases T
    |some f=>
     cases e2:bs[m]? with
     |none=>rw[e1,e2] at T;cases T
     |some b=>
      rw[e1,e2] at T;obtain rfl:(aez f b)=q:=bM T;exact g.J<|(aL.B S).J<|ox tb m b f e2 e1
   ·have:=hp.map (·.1)
    rw[zx (æ b4)] at this;exact this
inductive GL(K:aY)(vs:List af)(H:ab)(Q:aU)(E':db):Prop
 |a:∀l as pss,(vs=[.ref l])->(bI K H l<|as.map af.ref)->(bA H as pss)->((pss.all iB=ae->(cb<|pss.flatMap cH).length<1000))->(∀H',aL H H'->Q (.c<|jr pss) H')->GL K vs H Q E'
def YV:dG ["web"] ["web"] (bX Br):=(O,O,O,δ,O,δ,δ)
def χ{fd n o G I L:cW}{t5 a3 a4 M:hU}(F:b_ K "is_web" "is_web" Br f fd)(b3:fN mg)(m5:mg "MOST_POINTS"=V (.int 5 t5))(a5:mg "LAST_POINT"=V (.int 99 a3))(a6:mg "MOST_HANDED"=V (.int 20 a4))(R:mg "MOST_PIECES"=V (.int 200 M))(Fi:b_ K "is_piece" "is_piece" Bi fi n)(bi:eQ K n ["numbers"] [])(mi:mg "is_piece"=V 5#fi)(Fa:b_ K "all_parts" "all_parts" yq fa o)(ba:eQ K o ["some"] [])(ma:mg "all_parts"=V 5#fa)(Fp:b_ K "parts_of" "parts_of" vN fp G)(bp:eQ K G ["piece"] [])(mp:mg "parts_of"=V 5#fp)(Fo:b_ K "in_order" "in_order" yl fo I)(bo:eQ K I ["some"] [])(mo:mg "in_order"=V 5#fo)(Fk:b_ K "order_key" "order_key" vO fk L)(bk:eQ K L ["piece"] [])(mk:mg "order_key"=V 5#fk):ce P w K mg base bx 6 f fd ["web"] (GL K):=by
 have Gi:ce P w K mg base bx 1 fi n ["numbers"] AW:=OU Fi b3 m5 a5;have Ga:ce P w K mg base bx 5 fa o ["some"] (vJ K):=OV Fa b3 Fp bp mp Fo bo mo Fk bk mk;refine F.B YV (λvs H Q E h=>?_) (λb2 A a7 s H vs Q E hr h=>?_)
 ·obtain⟨l,T,b,rfl,_⟩:=h;rfl
 ·obtain⟨l,T,b,rfl,y,ht,a8,k⟩:=h
  have U:=hr.units;have a9:fM 1 _:=hr.B ξ;refine(_,bj (fL (dD xB (dM fX O b3.a fq<|ao 7#0 aF) (vn O a6 (v:=.int 20) (_,O))<|dF _) (bF<|cX kn) fV)
   (bj (fL (vm (xr (dM (FG O) O b3.all HN (ao
    (fe ["web"] ["numbers"] [Y] (eO<|ah 0) (λcl C j m ex=>cx (i:=0) (eF ["numbers"]) O<|ai O) (λcl C j m ex=>iu)
     (λcl C j m ex=>gB Gi a9 O mi Fi.a bi .nil cF<|ao 7#0 aF) (hfr:=oy δ)) aF)))) (bF<|cX kn) fV)
   (bj (fL (dD Aj (dM XI O b3.a fq<|ao (gA (XD O U) O b3.set ace<|ao 7#0 aF) aF) (dM fX O b3.a fq<|ao 7#0 aF)<|dF _) (bF<|cX kn) fV)
  <|bF<|cX<|My Fe (dM fX O b3.a fq<|ao (gB Ga hr O ma Fa.a ba .nil cF<|ao 7#0 aF) aF) (vn O R (v:=.int 200) (_,O))<|dF _)),?_)
  have X:=ht.B;refine(_,O,l,_,O,.inl y,_,_,O,O,_,O,?_);rw[au];refine oz (λh1=>?_) (λh1=>?_)
  ·have:=k H<|aL.refl H
   rw[acr b (by have:=fc h1;omega)] at this;exact this
  ·have a0:b.length<=20:=by
    have:¬((20:Int)<T.length):=λz=>h1<|bT z;omega
   refine(_,O,l,O,(_,y),λD hD=>eP (jT (K:=K) (a:=l) (xs:=T.map af.ref) (λi σ ys p=>∃v,σ=[v]/\aL H p/\p D=V (.lst ys)/\ys=((b.map iB).take i).map af.c)
    (Y,O,aL.B hD,az,O) (λi σ ys p (_,_,c,_)=>c.A1 y) ?_ ?_))
   ·rintro i σ ys p x hx hi hy ⟨v,rfl,c,d,rfl⟩
    obtain⟨a,ea,rfl⟩:=fG hx;obtain⟨ps,b0,r⟩:=ht.F ea;refine jD ?_;refine(_,O,a,ps,O,c.J r,λH4 g=>fz (by rw[au];exact bR (â (à (å X) a0))) hi hy (g _ _ d) (_,O,(c.F g).N hD,az,?_));have e:(b.map iB)[i]?=V (iB ps):=by rw[bV,b0];rfl
    rw[cG e,bU];rfl
   ·rintro σ ys p ⟨v,rfl,c,d,rfl⟩
    rw[au,X,eV 0#0] at d;refine(D,b.map iB,O,bI.B d,_,O,?_);have a1:(b.map iB).all id=b.all iB:=by rw[SZ];rfl
    rw[a1];cases hp:b.all iB with
    |false=>
     refine eS ?_;have:=k p c;rw[show jr b=aB from by unfold jr;rw[hp];simp] at this;exact this
    |true=>
     refine dT ?_;refine(_,O,l,T,b,O,c.A1 y,c.M ht,(â a0),λS hS=>?_);have sS:aL H (aD p S<|xL S (cb b).length):=c.N<|c.A0 hS;refine(S,_,O,az,_,O,l,_,O,.inl<|sS.A1 y,_,_,O,O,_,O,?_);rw[au,X];refine oz (λh2=>?_) (λh2=>?_)
     ·have t:(cb b).length<b.length:=by have:=fc h2;omega
      have:=k _ sS;rw[show jr b=aB from by unfold jr;rw[bT t];simp] at this;exact this
     ·have t:¬(cb b).length<b.length:=λz=>h2<|bT ω
      refine(_,O,l,T,b,O,sS.A1 y,sS.M ht,λps r=>?_,dq a0 ξ,a8 hp,λD2 H4 qs (g,_,b1,_,u,_)=>?_)
      ·have:=pv.mp hp ps r
       unfold iB at this;simp only[jP,iE] at this;exact this.1.1.1.2
      ·refine(D2,_,O,.inl<|bI.B b1,_,_,O,O,?_)
       have a2:(qs.map λq=>af.ref q.2).length=(cb<|b.flatMap cH).length:=by
        rw[au,<-u.length_eq,au]
       rw[a2];have:=k H4<|sS.F g;have e:jr b=aE (((cb<|b.flatMap cH).length:Int)<=200):=by
        unfold jr;rw[hp,bT a0,cw t]
        by_cases q:(cb<|b.flatMap cH).length<=200
        ·rw[bT q,bT (show((cb<|b.flatMap cH).length:Int)<=200 from ω)];rfl
        ·rw[cw q,cw (show ¬((cb<|b.flatMap cH).length:Int)<=200 from ω)];rfl
       rw[e] at this;exact this
end
noncomputable abbrev Hg:cJ:=dW 43
noncomputable abbrev Hh:cJ:=dW 44
noncomputable abbrev yh:cJ:=dW 45
def PZ(x y:Int):Prop:=0<=x/\(y=0\/(y=1/\x<4294967296))
def gl(H:ab)(p:W):Prop:=∃x y,H p=V (.lst [.int x,.int y])/\PZ x y
def eT(p:W)(H a:ab):Prop:=∀b o,b≠p->H b=V o->a b=V o
noncomputable def eT.B(a:eT p H d)(b:eT p d f):eT p H f:=λc o g e=>b c o g<|a c o g e
noncomputable def eT.J{H b:ab}(a:aL H b):eT p H b:=λc o _ e=>a c o e
def eT.N(e:eT p H a)(f:gl H p)(b:gl a p)(h:a l=Y):H l=Y:=by
 cases q:H l with
 |none=>rfl
 |some o=>
  obtain⟨x,y,c,_⟩:=b;have d:l≠p:=λz=>by rw[z,c] at h;cases h
  rw[e l o d q] at h;cases h
noncomputable def gl.B(b:gl H p)(e:aL H a):gl a p:=let ⟨x,y,h,o⟩:=b;(x,y,e _ _ h,o)
def gl.F{as:List W}(b:gl H p)(h:H l=V (.lst<|as.map af.ref)):l≠p:=by
 obtain⟨x,y,e,_⟩:=b;refine fW h e λc=>?_;injection c with c
 cases as with
 |nil=>cases c
 |cons a r=>rw[cY] at c;cases c
def gl.N{p t:W}(b:gl H p)(h:H t=V (.tup a)):t≠p:=by
 obtain⟨x,y,e,_⟩:=b;exact fW h e (by intro z;cases z)
def eT.tp(e:eT p H c)(b:gl H p)(h:de H a d):de c a d:=e _ _ (b.N h) h
def eT.F(e:eT p H c)(b:gl H p)(h:bA H d a):bA c d a:=jF h λ_ _ q=>e.tp b q
noncomputable def eT.M(e:eT p H c)(h:H a=Y):eT p H (aD c a o):=λb u d q=>by rw[aZ<|cN q h];exact e b u d q
noncomputable def gl.M{p l:W}(b:gl H p)(h:l≠p):gl (aD H l o) p:=let ⟨x,y,e,k⟩:=b;(x,y,by rw[aZ h.symm];exact e,k)
noncomputable def gl.J(b:gl H p)(h:H l=Y):gl (aD H l o) p:=b.B<|aL.B h
section
variable{P:bu}{w:bf}{K:aY}{mg:aq->Option aa}{base:aW}
inductive GP(K:aY)(vs:List af)(H:ab)(Q:aU)(E':db):Prop
 |a:∀(l:W)(ns:List Int),(vs=[.ref l,.int 0])->(bI K H l<|ns.map af.int)->(∀n,Q (.int n) H)->GP K vs H Q E'
def YX:dG ["script","k"] ["script","k"] (bX Hg):=(O,O,O,δ,O,δ,δ)
def aac(F:b_ K "_law_cell_at" "_law_cell_at" Hg f c)(o:fN mg):ce P w K mg base bx 1 f c ["script","k"] (GP K):=by
 refine F.B YX (λg H Q E h=>?_) (λi A a s H g Q E m h=>?_)
 ·obtain⟨l,b,rfl,_⟩:=h;rfl
 ·obtain⟨l,b,rfl,d,k⟩:=h
  refine(_,bj (fL (dD Aj 7#1 (dM fX O o.a fq<|ao 7#0 aF)<|dF _) (bF<|cX<|eK lw 7#0 7#1 (λ_ _=>O)) fV)<|bF<|cX bb,?_);refine(_,O,_,O,l,_,O,.inl d,_,_,O,O,_,O,?_);refine oz (λe=>?_) (λe=>?_)
  ·cases b with
   |nil=>have:=fc e;simp at this
   |cons n b=>exact(_,O,_,O,l,_,_,_,O,O,d,jg (j:=0) O,k n)
  ·exact k 0
inductive GQ(vs:List af)(H:ab)(Q:aU)(E':db):Prop
 |a:∀n,(vs=[.int n])->(∀p x y,H p=Y->PZ x y->Q 5#p (aD H p<|.lst [.int x,.int y]))->GQ vs H Q E'
def YY:dG ["cell"] ["cell"] (bX Hh):=(O,O,O,δ,O,δ,δ)
def aad(F:b_ K "_law_box" "_law_box" Hh f e):ce P w K mg base bx 1 f e ["cell"] GQ:=by
 refine F.B YY (λi H Q E h=>?_) (λj A a s H i Q E l h=>?_)
 ·obtain⟨n,rfl,_⟩:=h;rfl
 ·obtain⟨n,rfl,k⟩:=h
  refine(_,bj (fL (dD Wo 7#0 (bW Fc bb bb)<|dF _) (bF<|cX<|je<|ao (bW mS 7#0<|bW Fc bb bb)<|ao bb aF) fV)
  <|bF<|cX<|je<|ao (bW kH (bW iv (bW mT (bW kH 7#0<|bW Fc bb bb) bb) bb) bb)<|ao bb aF,?_)
  have b:NV 10 18:=(ξ,ξ,ξ);have c:(10:Int) ^ (18:Int).toNat=1000000000000000000:=ξ
  refine(_,O,_,_,O,O,b,_,_,O,O,_,O,?_);refine oz (λg=>?_) (λg=>?_)
  ·refine(_,O,_,_,O,O,b,_,_,O,O,bR 0#0,λp d=>k p _ 0 d (?_,.inl O))
   have:=fc g;omega
  ·refine(_,O,_,_,O,O,b,_,_,O,O,(by show(0:Int)<10 ^ (18:Int).toNat;rw[c];decide),_,_,O,O,.inr (ξ,ξ),_,_,O,O,_,_,O,O,(by show(0:Int)<2147483629;decide),bR 0#0,λp d=>k p _ 1 d (?_,.inr (O,?_)))
   ·exact qh _ ξ
   ·have:=qi (n%10 ^ (18:Int).toNat*69621+7001) (show(0:Int)<2147483629 from ξ)
    omega
inductive tS(vs:List af)(H:ab)(Q:aU)(E':db):Prop
 |a:∀p m,(vs=[.ref p,.int m])->(gl H p)->(0<m)->(m<1073741824)->(∀r H',0<=r->r<m->eT p H H'->gl H' p->Q (.int r) H')->tS vs H Q E'
def GV:dG ["box","most","found","mixed"] ["box","most"] (bX yh):=(O,O,O,δ,O,δ,δ)
def Hp{t:cW}(F:b_ K "_law_take" "_law_take" yh f t):ce P w K mg base bx 1 f t ["box","most"] tS:=by
 refine F.B GV (λM H Q E h=>?_) (λR A r s H M Q E hr h=>?_)
 ·obtain⟨p,m,rfl,_⟩:=h;rfl
 ·obtain⟨p,m,rfl,⟨x,y,c,v,d⟩,a,S,k⟩:=h
  refine(_,bj (fL (dD jS (eK lw 7#0 bb (λ_ _=>O)) bb<|dF _)
    (bj (cq (i:=2) GV.a O (ai O)<|bW kH (eK lw 7#0 bb (λ_ _=>O))<|ah 1)
    (bj (Mn (bW MD (eK lw 7#0 bb (λ_ _=>O))<|ah 1)<|Mu 7#0 bb LL)
   <|bF<|cX<|ah 2)) fV)
   (bj (cq (i:=3) GV.a O (ai O)<|bW kH (bW iv (bW iv (bW mT (eK lw 7#0 bb (λ_ _=>O))<|eK lw 7#0 bb (λ_ _=>O))<|bW mT bb<|eK lw 7#0 bb (λ_ _=>O)) bb) bb)
   (bj (Mn (bW kH (bW iv (bW iv (bW mT 7#3<|ah 3)<|bW mT bb<|ah 3) bb) bb)<|Mu 7#0 bb LL)
  <|bF<|cX<|bW kH (bW MD (eK lw 7#0 bb (λ_ _=>O)) bb)<|ah 1)),?_)
  have g:lC ([.int x,.int y]:List af) 0=V (.int x):=jg (j:=0) O;have T:lC ([.int x,.int y]:List af) 1=V (.int y):=jg (j:=1) O;refine(_,O,p,_,_,_,O,O,bI.B c,T,O,_,O,?_);refine oz (λC=>?_) (λC=>?_)
  ·refine(_,O,p,_,_,_,O,O,bI.B c,g,_,O,_,_,O,O,a,?_)
   refine(_,O,p,_,_,_,O,O,bI.B c,g,_,O,_,_,O,O,(a,S),_,O,p,_,_,0,O,O,c,O,?_);refine(_,O,k (x%m) _ (qh _ ω) (qi _ a) (λb o l e=>by rw[aZ l];exact e) (x / m,y,az,Int.ediv_nonneg v ω,?_));rcases d with q|⟨q,D⟩
   ·exact .inl q
   ·refine .inr (q,Int.lt_of_le_of_lt (Int.ediv_le_self _ v) D)
  ·have U:y=1/\x<4294967296:=by
    rcases d with q|q
    ·exact bh (by subst q;rfl) C
    ·exact q
   obtain⟨rfl,D⟩:=U;have l:rO x x:=.inl (ω,ω);refine(_,O,p,_,_,_,O,O,bI.B c,g,_,O,p,_,_,_,O,O,bI.B c,g,_,_,O,O,l,_,O,p,_,_,_,O,O,bI.B c,g,_,_,O,O,.inl (ξ,ξ),_,_,O,O,_,_,O,O,_,_,O,O,(by show(0:Int)<2147483647;decide),?_);have X:=qh (x*x+39373*x+12345) (show(2147483647:Int)≠0 from ξ);have m1:=qi (x*x+39373*x+12345) (show(0:Int)<2147483647 from ξ);obtain⟨z,G⟩:∃z,z=(x*x+39373*x+12345)%2147483647:=(_,O);rw[<-G] at X m1;show Ly _ _ _ ([V<|.ref p,V<|.int m,Y,V<|.int<|(x*x+39373*x+12345)%2147483647]:aR) H;rw[<-G];refine(_,O,_,O,_,_,O,O,.inl (ω,ω),_,O,_,_,O,O,.inl (ξ,ξ),_,_,O,O,_,_,O,O,_,_,O,O,(by show(0:Int)<2147483587;decide),_,O,p,_,_,0,O,O,c,O,?_);have I:=qh (z*z+16807*z+7) (show(2147483587:Int)≠0 from ξ);have g1:=qi (z*z+16807*z+7) (show(0:Int)<2147483587 from ξ);obtain⟨u,L⟩:∃u,u=(z*z+16807*z+7)%2147483587:=(_,O);rw[<-L] at I g1;have n:aD H p (.lst [.int<|(z*z+16807*z+7)%2147483587,.int 1]) p=V (.lst [.int u,.int 1]):=by rw[L];exact az
   refine(_,O,p,_,_,_,O,O,bI.B n,jg (j:=0) O,_,_,O,O,(ξ,ξ),_,O,_,_,O,O,a,?_);exact k _ _ (qh _ ω) (qi _ a) (λb o l e=>by rw[aZ l];exact e) (u,1,n,I,.inr (O,ω))
end
noncomputable abbrev yn:cJ:=dW 46
noncomputable abbrev Hf:cJ:=dW 47
section
variable{P:bu}{w:bf}{K:aY}{mg:aq->Option aa}{base:aW}
def abu{n:ab}{A:List W}{Q:aU}(S:n l=V (.lst<|A.map af.ref))(I:bA n A E)(hz:A.length<=100)(L:n D=Y)(k:∀g b,aL n b->b D=V (.lst<|g.map af.ref)->bA b g (E.filter λq=>!aE (q=[]))->Q 5#D b):dU (gY K l) (dw 0) (jd<|dk (EQ ae K) (bw 0)<|mQ gg) (bw 0) [Y] n D Q:=by
 have G:=I.B;refine jT (xs:=A.map af.ref) (λj C p b=>∃g v,C=[v]/\aL n b/\b D=V (.lst p)/\p=g.map af.ref/\bA b g ((E.take j).filter λq=>!aE (q=[]))) ?_ ?_ ?_ ?_
 ·exact([],Y,O,aL.B L,az,O,.nil)
 ·rintro j C p b ⟨g,v,rfl,r,d,rfl,s⟩
  exact bI.B<|r _ _ S
 ·rintro j C p b x T M P ⟨g,v,rfl,r,d,rfl,s⟩
  obtain⟨a,U,rfl⟩:=fG T;obtain⟨f,R,X⟩:=I.F U;refine(_,O,bR 0#0,λt H=>?_);have u:=r.J X;have i:aL b (aD b t<|.tup []):=aL.B H;refine .inl (a,t,f,[],O,O,i.J u,az,_,O,?_);have w:=r.F i;have m:∀(o:df) c y,aD b t (.tup []) c=V (.tup y)->aD (aD b t<|.tup []) D o c=V (.tup y):=λo c y e=>by
   rw[aZ<|fW e (i _ _ d) (by intro z;cases z)];exact e
  by_cases h:f=[]
  ·subst h
   refine dT<|oB M P (g,_,O,w,i _ _ d,O,?_);rw[cG R,jb]
   simpa using i.M s
  ·rw[av O,show(!aE (f=[]))=ae by simp[h]]
   refine eS (_,O,fz (ys:=g.map af.ref) (by rw[au];exact bR (â hz)) M P (i _ _ d) (g++[a],_,O,w.N L,az,by rw[bU];rfl,?_));rw[cG R,jb,show [f].filter (λq=>!aE (q=[]))=[f] by simp[h]];exact bA.J (jF (i.M s) λc y e=>m _ c _ e)<|m _ a _<|i.J u
 ·rintro C p b ⟨g,v,rfl,r,d,rfl,s⟩
  rw[au,G,gE] at s;exact k g b r d s
def Bc:dG ["piece","found","point"] ["piece"] (bX yn):=(O,O,O,δ,O,δ,δ)
def ι(F:b_ K "_law_parts" "_law_parts" yn f fd):ce P w K mg base bx 1 f fd ["piece"] xX:=by
 refine F.B Bc (λvs H Q E h=>?_) (λa1 A S s H vs Q E hr h=>?_)
 ·obtain⟨a,t,rfl,_⟩:=h;rfl
 ·obtain⟨a,t,rfl,ha,h5,k⟩:=h
  have u:=hr.units;refine(_,bj (cq (i:=1) Bc.a O (ai O)<|je<|ao (jC aF) aF)
   (bj (gz ga O (EW<|ah 0) (cx (i:=2) Bc.a O<|aw O)
    (bF (cq (i:=1) Bc.a O (ai O) (bW vo 7#1 (fe ["piece","found","point"] ["part","point"] [Y,V 2] (eO<|ah 1) (λy C b c z=>cx (i:=0) (eF ["part","point"]) O<|ai O) (λy C b c z=>iu)
     (λy C b c z=>bW xC 7#0<|jC<|ao 7#1 aF) (hfr:=ii (bX yn) δ))))))
   (bF (cX (fe ["piece","found","point"] ["part"] [Y] (eO<|ah 1) (λy C b c z=>cx (i:=0) (eF ["part"]) O<|ai O) (λy C b c z=>lq<|dD (Fd u) 7#0 (jC aF)<|dF _)
     (λy C b c z=>ah 0) (hfr:=oy δ) (tc:=jd<|dk (EQ ae K) (bw 0)<|mQ gg))))),?_)
  refine(bR 0#0,λe T=>(bR 0#0,λl g=>?_));have s1:aL H (aD (aD H e<|.tup []) l<|.lst [.ref e]):=(aL.B T).N<|(aL.B T).A0 g;have U:e≠l:=cN (H:=aD H e<|.tup []) az g;refine(_,O,a,O,(_,fg.B<|s1 _ _ ha),MX (K:=K) (a:=a) (xs:=t.map af.int) (λi M p=>∃l r v,M=[V<|.ref a,V<|.ref l,v]/\aL H p/\H l=Y/\p l=V (.lst<|r.map af.ref)/\bA p r (lK<|t.take i))
   (l,[e],Y,O,s1,(aL.B T).A0 g,az,.cons (by show aD _ _ _ e=_;rw[aZ U];exact az) .nil) (λi M p _ (_,_,_,_,j,_)=>fg.B<|j _ _ ha) ?_ ?_)
  ·rintro i x M p hx ⟨l,r,v,rfl,j,X,g,m⟩
   obtain⟨q,eq,rfl⟩:=yt hx;have hi:i<t.length:=(bY.mp eq).1;have n:=m.B;have hn:r.length<=32:=by
    rw[n,BR,dR];exact vR ω
   have hm:∀f∈lK (t.take i),f.length<=100:=λf hf=>by
    have:=P' _ f hf;rw[dR] at this;omega
   refine(_,O,_,O,l,O,(_,bI.B g),λD R=>eP<|OO g m (â hn) hm R λbs H3 d o G=>?_);have a0:=G.B;rw[au] at a0;refine(l,D,_,_,O,O,d _ _ g,o,by rw[au,au];exact bR ω,λl2 I=>?_);have L:H l2=Y:=(j.F d).A0 I;refine(l2,r++bs,_,O,(j.F d).N L,L,by rw[az,bU],?_);rw[cG eq,HU];exact(aL.B I).M<|(d.M m).N G
  ·rintro M p ⟨l,r,v,rfl,j,X,g,m⟩
   rw[au,gE] at m;have n:=m.B;refine(_,O,l,O,(_,bI.B g),λD R=>eP<|abu g m (by rw[n,BR];have:=vR h5;exact â this) R λbs H3 d o G=>?_);rw[acv] at G;exact k D bs H3 (j.F d) (j.A0 R) o G
def ZJ{p:ab}{n:List W}{Q:aU}(L:p l=V (.lst<|n.map af.ref))(E:bA p n A)(hz:n.length<=1000)(G:p D=Y)(k:∀(a:List W) d,aL p d->d D=V (.lst<|a.map af.ref)->a.length=n.length->(∀(i:Nat) c,a[i]?=V c->∃b f,n[i]?=V b/\A[i]?=V f/\d c=V (.tup [.int f.length,.ref b]))->Q 5#D d):dU (gY K l) (dw 0) ie (mQ<|eR (oq (xq K)<|eR (bw 0) gg)<|eR (bw 0) gg) [Y] p D Q:=by
 have M:=E.B;refine jT (xs:=n.map af.ref) (λj s q d=>∃(a:List W)(v:Option af),s=[v]/\aL p d/\d D=V (.lst q)/\q=a.map af.ref/\a.length=j/\∀(i:Nat) c,a[i]?=V c->∃b f,n[i]?=V b/\A[i]?=V f/\d c=V (.tup [.int f.length,.ref b])) ?_ ?_ ?_ ?_
 ·exact([],Y,O,aL.B G,az,O,O,λi c e=>by simp at e)
 ·rintro j s q d ⟨a,v,rfl,r,g,rfl,H,u⟩
  exact bI.B<|r _ _ L
 ·rintro j s q d x P H R ⟨a,v,rfl,r,g,rfl,h,u⟩
  obtain⟨b,I,rfl⟩:=fG P;obtain⟨f,S,T⟩:=E.F I;refine jD ?_;refine(_,O,b,_,O,.inr<|fg.B<|r.J T,_,O,bR 0#0,λt C=>?_);rw[show(f.map af.int).length=f.length from au _];have w:aL d (aD d t<|.tup [.int f.length,.ref b]):=aL.B C;have m:∀(o:df) c y,aD d t (.tup [.int f.length,.ref b]) c=V (.tup y)->aD (aD d t<|.tup [.int f.length,.ref b]) D o c=V (.tup y):=λo c y e=>by
   rw[aZ<|fW e (w _ _ g) (by intro z;cases z)];exact e
  refine fz (ys:=a.map af.ref) (by rw[au];exact bR (â hz)) H R (w _ _ g) (a++[t],_,O,(r.F w).N G,az,by rw[bU];rfl,by rw[c_,h];rfl,λi c e=>?_)
  by_cases U:i<a.length
  ·rw[ph U] at e
   obtain⟨X,f',e1,e2,e3⟩:=u i c e;exact(X,f',e1,e2,m _ c _<|w _ _ e3)
  ·rw[pg (ô U)] at e
   have h0:i-a.length=0:=by
    rcases SF (i-a.length) with z|z
    ·exact z
    ·rw[sY (by simp only[dj,nq];exact z)] at e;cases e
   rw[h0] at e;obtain rfl:t=c:=by simpa using e
   have:i=j:=ω
   subst this;exact(b,f,I,S,m _ t _ az)
 ·rintro s q d ⟨a,v,rfl,r,g,rfl,h,u⟩
  rw[au] at h;exact k a d r g h u
noncomputable def rS(H:ab)(c:W):W:=match H c with
 |some (.tup [_,.ref b])=>b
 |_=>0
def Yz{f:ab}{cs:List W}{Q:aU}(p:f l=V (.lst<|cs.map af.ref))(q:∀c∈cs,∃n b,f c=V (.tup [.int n,.ref b]))(u:cs.length<=1000)(m:f D=Y)(k:∀d,aL f d->d D=V (.lst<|cs.map λc=>af.ref<|rS f c)->Q 5#D d):dU (gY K l) (dw 0) ie (dk (tD K) (bw 0)<|gh<|.int 1) [Y] f D Q:=by
 refine jT (xs:=cs.map af.ref) (λw i h d=>∃v,i=[v]/\aL f d/\d D=V (.lst h)/\h=(cs.take w).map λc=>af.ref<|rS f c) ?_ ?_ ?_ ?_
 ·exact(Y,O,aL.B m,az,O)
 ·rintro w i h d ⟨v,rfl,g,a,rfl⟩
  exact bI.B<|g _ _ p
 ·rintro w i h d x r s t ⟨v,rfl,g,a,rfl⟩
  obtain⟨c,o,rfl⟩:=fG r;obtain⟨n,b,e⟩:=q c<|dh o;refine jD ?_;refine(_,O,c,_,_,_,O,O,fg.B<|g _ _ e,jg (j:=1) O,fz (by rw[au];exact bR (â u)) s t a (_,O,g.N m,az,?_));rw[cG o,bU];have:rS f c=b:=by unfold rS;rw[e]
  rw[<-this];rfl
 ·rintro i h d ⟨v,rfl,g,a,rfl⟩
  rw[au,gE] at a;exact k d g a
def yb:dG ["web","found","piece","part","ranked"] ["web"] (bX Hf):=(O,O,O,δ,O,δ,δ)
def θ(F:b_ K "_law_pieces" "_law_pieces" Hf f fd)(d1:fN mg)(Fp:b_ K "_law_parts" "_law_parts" yn fp a0)(bp:eQ K a0 ["piece"] [])(mp:mg "_law_parts"=V 5#fp):ce P w K mg base bx 2 f fd ["web"] (vJ K):=by
 have Gp:ce P w K mg base bx 1 fp a0 ["piece"] xX:=ι Fp;refine F.B yb (λvs H Q E h=>?_) (λc4 A b3 s H vs Q E hr h=>?_)
 ·obtain⟨l,as,g,rfl,_⟩:=h;rfl
 ·obtain⟨l,as,g,rfl,hl,ht,h5,c5,b4,k⟩:=h
  have hu:=ko hr;have a4:=hr.units;refine(_,bj (cq (i:=1) yb.a O (ai O) pH)
   (bj (gz ga O (eO<|ah 0) (cx (i:=2) yb.a O<|ai O)
    (bF (gz ga O (eO<|gB Gp hr O mp Fp.a bp .nil cF<|ao 7#2 aF) (cx (i:=3) yb.a O<|ai O)
    <|bF<|lZ hu 7#1 7#3 kn O)))
   (bj (cq (i:=4) yb.a O (ai O) (dM (XA a4) O d1.d BL (ao
    (fe ["web","found","piece","part","ranked"] ["piece"] [Y] (eO<|gA (Nx O) O d1.list j_<|ao 7#1 aF) (λcl C n o ex=>cx (i:=0) (eF ["piece"]) O<|ai O) (λcl C n o ex=>iu)
     (λcl C n o ex=>jC<|ao (dM fX O d1.a fq<|ao 7#0 aF)<|ao 7#0 aF) (hfr:=oy δ) (te:=mQ<|eR (oq (xq K)<|eR (bw 0) gg)<|eR (bw 0) gg)) aF)))
   (bF (cX (fe ["web","found","piece","part","ranked"] ["one"] [Y] (eO<|ah 4) (λcl C n o ex=>cx (i:=0) (eF ["one"]) O<|ai O) (λcl C n o ex=>iu)
     (λcl C n o ex=>eK ig 7#0 bb (λ_ _=>O)) (hfr:=oy δ) (te:=dk (tD K) (bw 0)<|gh<|.int 1)))))),?_)
  intro d hd;have b5:=ht.B;refine(_,O,l,O,(_,(aL.B hd).A1 hl),me (K:=K) (a:=l) (xs:=as.map af.ref) (λi L H2=>∃v v' u,L=[V<|.ref l,V<|.ref d,v,v',u]/\aL H H2/\H2 d=V (.a<|kx<|(g.take i).flatMap cH))
   (Y,Y,Y,O,aL.B hd,az) (λi L H2 _ (_,_,_,_,sm,_)=>sm.A1 hl) ?_ ?_)
  ·rintro i x L H2 hx ⟨v,v',u,rfl,sm,t⟩
   obtain⟨a,ea,rfl⟩:=fG hx;obtain⟨ps,a1,b6⟩:=ht.F ea;have S:=h5 ps<|dh a1;have hi:i<g.length:=(bY.mp a1).1;refine(_,O,a,ps,O,sm.J b6,S,λD T U r c6 hD a5=>(D,O,(_,bI.B hD),?_));have b7:=a5.B;have b8:D≠d:=fW hD (r _ _ t) (by intro z;cases z);refine me (K:=K) (a:=D) (xs:=T.map af.ref) (λj L H4=>∃v',L=[V<|.ref l,V<|.ref d,V<|.ref a,v',u]/\aL H H4/\H4 D=V (.lst<|T.map af.ref)/\bA H4 T (cH ps)/\H4 d=V (.a<|kx<|(g.take i).flatMap cH++(cH ps).take j))
    (_,O,sm.F r,hD,a5,by rw[Dv,jy];exact r _ _ t) (λj L H4 _ (_,_,_,q,_)=>bI.B q) ?_ ?_
   ·rintro j x L H4 hx ⟨v',rfl,a2,a6,G,I⟩
    obtain⟨c,ec,rfl⟩:=fG hx;obtain⟨f,ef,hf⟩:=G.F ec;have a7:(kx<|(g.take i).flatMap cH++(cH ps).take j).length<bD:=by
     refine jm<|dq (Hz _) ?_;rw[c_];have h1:=PK (g.take i) (λq X=>h5 q<|wO X);have h2:=we ps;have h3:=vR S;rw[dR] at h1 ⊢;omega
    refine(_,O,_,O,d,_,O,AF.t (k:=f.map aN) I (by rw[bN];exact hf) a7,(_,O,a2.N hd,?_,?_,?_))
    ·rw[aZ b8];exact a6
    ·exact ka G I (by intro xs z;cases z)
    ·rw[az,Hk,lV,<-cG ef]
   ·rintro L H4 ⟨v',rfl,a2,a6,G,I⟩
    refine(_,_,_,O,a2,?_);rw[au,b7,gE] at I;rw[PJ a1];exact I
  ·rintro L H2 ⟨v,v',u,rfl,sm,t⟩
   rw[au,b5,gE] at t;refine(_,O,d,_,O,t,λbs hb l2 b9=>?_);have tb:=Py hb;have c7:=tb.B;have c8:(cb<|g.flatMap cH).length<=1000:=ω
   have s2:aL H2 (aD H2 l2<|.lst<|bs.map af.ref):=aL.B b9;refine(l2,O,(_,bI.B az),λD hD=>eP<|ZJ (K:=K) az (s2.M tb) (à (å c7) c8) hD λT U r c0 c9 hc=>?_);have a8:=r.M<|s2.M tb;refine(D,T,(cb<|g.flatMap cH).map λf=>((f.length:Int)::f),O,bI.B c0,?_,(by rw[au];exact b4),λR qs hp hs hR=>?_)
   ·refine NN (by rw[au];exact û (à (å c9) (å c7)) (à (æ c7) (æ c9))) λi c y e1 e2=>?_
    obtain⟨b,f,g1,M,g3⟩:=hc i c e1;rw[bV,M] at e2;obtain rfl:=bM e2;exact(_,b,f,O,g3,ox a8 i b f g1 M)
   ·have s4:aL U (aD U R<|.lst<|qs.map λq=>af.ref q.2):=aL.B hR
    have X:∀q∈qs,∃b f,q.1=((f:List Int).length:Int)::f/\U q.2=V (.tup [.int f.length,.ref b])/\de U b f:=λq X=>by
     obtain⟨m,em⟩:=gW.mp<|hp.mem_iff.mp X;rw[pF,bV] at em;cases e2:T[m]? with
     |none=>rw[e2] at em;cases h:(cb<|g.flatMap cH)[m]?<;>rw[h] at em<;>cases em
     |some c=>
      obtain⟨b,f,g1,M,g3⟩:=hc m c e2;rw[M,e2] at em;obtain rfl:(aez (((f.length:Int)::f)) c)=q:=bM em;exact(b,f,O,g3,ox a8 m b f g1 M)
    have d0:qs.length<=1000:=by rw[hp.length_eq,uK,au];omega
    refine(_,O,R,O,(_,bI.B az),λD2 a9=>eP (Yz (K:=K) (cs:=qs.map (·.2)) (by rw[az,bN];rfl) (λc c1=>?_) (by rw[au];exact d0) a9 λH5 b0 c2=>?_))
    ·obtain⟨q,a3,rfl⟩:=aO.mp c1
     obtain⟨b,f,_,M,_⟩:=X q a3;exact(_,b,s4 _ _ M)
    ·have b1:aL H H5:=((sm.F s2).F r).F<|s4.F b0
     have c3:∀q∈qs,∀b f,U q.2=V (.tup [.int (f:List Int).length,.ref b])->rS (aD U R<|.lst<|qs.map λq=>af.ref q.2) q.2=b:=λq _ b f e=>by
      unfold rS;rw[s4 _ _ e]
     refine k D2 H5 (qs.map λq=>(aez q.1.tail (rS (aD U R<|.lst<|qs.map λq=>af.ref q.2) q.2))) (b1,(((sm.F s2).F r).F s4).A0 a9,?_,λq a3=>?_,?_,?_)
     ·rw[c2,bN,bN];rfl
     ·obtain⟨q0,h0,rfl⟩:=aO.mp a3
      obtain⟨b,f,g1,M,g3⟩:=X q0 h0;show de H5 (rS _ q0.2) q0.1.tail;rw[c3 q0 h0 b f M,g1];exact b0.J<|s4.J g3
     ·rw[bN]
      have h1:=hp.map (λq:List Int×W=>q.1.tail);have e:((((cb<|g.flatMap cH).map λf=>((f.length:Int)::f)).zip T).map λq:List Int×W=>q.1.tail)=cb (g.flatMap cH):=by
       rw[show(λq:List Int×W=>q.1.tail)=(λl:List Int=>l.tail) ∘ ni from O,<-bN,zx (by rw[au];exact à (æ c7) (æ c9)),bN];exact zw _
      rw[e] at h1;exact h1
     ·rw[ip]
      refine hs.imp_of_mem λ{p q} h1 h2 h3=>?_;obtain⟨_,f,g1,_⟩:=X p h1;obtain⟨_,f',b2,_⟩:=X q h2;rw[g1,b2] at h3;rw[g1,b2];exact h3
end
noncomputable abbrev Bq:cJ:=dW 48
noncomputable abbrev ym:cJ:=dW 49
noncomputable def nB:List aq:=(["","0","01 12 02","012 013 023 123","01 02 03","012 023 034 014","0123","01 23 45","012 34"]:List aq)++(["012 123 234 034 014","01 12 23 03 13","012 013 014","0 1 2 3"]:List aq)++(["01 12 02 34 45 35","023 234 1"]:List aq)
++(["014 015 023 025 034 123 124 135 245 345","012 013 024 034 125 135 245 345"]:List aq)++(["01234","0123 0124 0134 0234 1234"]:List aq)++(["013 123 234 024 014 145 125 025 056 016 126 267 027 037 345 356 367"]:List aq)
noncomputable def qz(n:Nat):List aq:=CR (nB.getD n "") " "
noncomputable def rW(x:aq):List Int:=x.cps.toList.map λ(c:Nat)=>((c:Int)-48)
noncomputable def oK(n:Nat):Ξ:=((qz n).filter λ(x:aq)=>!aE (x="")).map rW
def abe:∀n,n<20->(nB.getD n "").length+2<=1000/\(qz n).length<=20/\∀x∈qz n,x.cps.size<=5/\∀c∈x.cps.toList,48<=c/\c<=57:=δ
def YD:∀c,48<=c->c<=57->IT ⟨#[c]⟩=V ((c:Int)-48):=by
 intro c a b;have:∀c,c<58->48<=c->IT ⟨#[c]⟩=V ((c:Int)-48):=δ
 exact this c (ï b) a
section
variable{P:bu}{w:bf}{K:aY}{mg:aq->Option aa}{base:aW}
inductive GK(vs:List af)(H:ab)(Q:aU)(E':db):Prop
 |a:∀n:Nat,(vs=[.int n])->(n<20)->(∀D as H',aL H H'->H D=Y->H' D=V (.lst<|as.map af.ref)->bA H' as (oK n)->Q 5#D H')->GK vs H Q E'
def tV:dG ["number","some","web","word"] ["number"] (bX Bq):=(O,O,O,δ,O,δ,δ)
def YC{f:ab}{x:aq}{Q:aU}(u:x.cps.size<=5)(m:∀c∈x.cps.toList,48<=c/\c<=57)(l:f D=Y)(k:∀a,aL f a->a D=V (.lst<|(rW x).map af.int)->Q 5#D a):dU (AE x) (dw 0) ie (oq (λo H Q=>∃x n,o=[.str x]/\IT x=V n/\x.length<=640/\Q (.int n) H)<|eR (bw 0) gg) [Y] f D Q:=by
 refine Xv (λj h g a=>∃v,h=[v]/\aL f a/\a D=V (.lst g)/\g=((rW x).take j).map af.int) ?_ ?_ ?_
 ·exact(Y,O,aL.B l,az,O)
 ·rintro j h g a c p q r ⟨v,rfl,i,b,rfl⟩
  have d:x.cps.toList[j]?=V c:=by simpa using p
  obtain⟨s,t⟩:=m c<|dh d;refine jD ?_;refine(_,O,⟨#[c]⟩,_,O,YD c s t,by show 1<=640;decide,fz (bR (â u)) q r b (_,O,i.N l,az,?_));have e:(rW x)[j]?=V ((c:Int)-48):=by unfold rW;rw[bV,d];rfl
  rw[cG e,bU];rfl
 ·rintro h g a ⟨v,rfl,i,b,rfl⟩
  rw[eV (by unfold rW;simp)] at b;exact k a i b
def ς(F:b_ K "_law_known" "_law_known" Bq f fd)(b2:fN mg):ce P w K mg base bx 1 f fd ["number"] GK:=by
 refine F.B tV (λvs H Q E h=>?_) (λb0 A a0 s H vs Q E hr h=>?_)
 ·obtain⟨n,rfl,_⟩:=h;rfl
 ·obtain⟨n,rfl,hn,k⟩:=h
  refine(_,bj (cq (i:=1) tV.a O (ai O)<|je<|ao iG<|ao iG<|ao iG<|ao iG<|ao iG<|ao iG<|ao iG<|ao iG<|ao iG aF)
   (bj (cq (i:=1) tV.a O (ai O)<|bW vo 7#1<|je<|ao iG<|ao iG<|ao iG<|ao iG<|ao iG<|ao iG aF)
   (bj (cq (i:=1) tV.a O (ai O)<|bW vo 7#1<|je<|ao iG<|ao iG aF)
   (bj (cq (i:=1) tV.a O (ai O)<|bW vo 7#1<|je<|ao iG<|ao iG aF)
   (bj (mR<|lv nM uz wD rI 7#1<|ao iG aF)
   (bj (cq (i:=2) tV.a O (ai O)<|je aF)
   (bj (gz ga O (eO<|lv PySem.F.plainAttrs_str Jr PySem.F.type_str_split Wu (eK lw 7#1 (bW kH 7#0 bb) (λ_ _=>O))<|ao iG aF) (cx (i:=3) tV.a O<|ai O)
    (bF (fL (dD rH 7#3 iG<|dF _)
     (bF (mR (lv nM uz wD rI 7#2 (ao (gA Aw O b2.c BK (ao
      (fe ["number","some","web","word"] ["sign"] [Y] (V'<|ah 3) (λcl C j l c=>cx (i:=0) (eF ["sign"]) O<|ai O) (λcl C j l c=>iu)
       (λcl C j l c=>gA XJ O b2.int acf<|ao 7#0 aF) (hfr:=oy δ)) aF)) aF)))) fV)))
  <|bF<|cX<|ah 2)))))),?_)
  have b1:nB.length=20:=O;have a1:lC (nB.map af.str) ((n:Int)%20)=V (.str<|nB.getD n ""):=by
   rw[show(n:Int)%20=(n:Int) from ω];refine jg ?_;have e:nB[n]?=V nB[n]:=cB (à hn (æ b1));rw[bV,wP,e];rfl
  obtain⟨g1,g2,g3⟩:=abe n hn;refine(bR 0#0,λl1 h1=>?_);have s1:=aL.B (H:=H) (o:=.lst [.str "",.str "0",.str "01 12 02",.str "012 013 023 123",.str "01 02 03",.str "012 023 034 014",.str "0123",.str "01 23 45",.str "012 34"]) h1;refine(_,O,bR 0#0,λm1 M=>(l1,m1,_,_,O,O,aL.B M _ _ az,az,bR 0#0,λl3 h3=>?_));have s3:=(s1.F<|aL.B M).F<|aL.B (o:=.lst<|(nB.take 15).map af.str) h3;refine(_,O,bR 0#0,λm3 R=>(l3,m3,_,_,O,O,aL.B R _ _ az,az,bR 0#0,λl4 h4=>?_));have s4:=(s3.F<|aL.B R).F<|aL.B (o:=.lst<|(nB.take 17).map af.str) h4;refine(_,O,bR 0#0,λm4 r=>(l4,m4,_,_,O,O,aL.B r _ _ az,az,bR 0#0,λm h5=>?_));have s5:=(s4.F<|aL.B r).F<|aL.B (o:=.lst<|(nB.take 19).map af.str) h5;have a2:H m=Y:=(s4.F<|aL.B r).A0 h5;refine(_,O,.inl (O,_,bI.B az),m,_,_,O,O,az,jm 0#0,bR 0#0,λd u=>?_);generalize S:aD (aD _ m _) m _=T at u;have e6:T m=V (.lst<|nB.map af.str):=by rw[<-S,az];rfl
  have s6:aL H T:=by
   rw[<-S];exact s5.N a2
  have G:H d=Y:=s6.A0 u;have s7:aL H (aD T d<|.lst []):=s6.N G;have e7:aD T d (.lst []) m=V (.lst<|nB.map af.str):=aL.B u _ _ e6;refine(_,O,_,O,_,_,O,O,(by show(0:Int)<20;decide),m,_,_,_,O,O,bI.B e7,a1,O,_,_,O,O,ξ,bR (â g1),bR (show(qz n).length<=100000 from (â g2)),λD hD=>(D,O,(_,bI.B az),?_));have U:d≠D:=cN (H:=aD T d<|.lst []) az hD;have a3:H D=Y:=s7.A0 hD;refine me (K:=K) (a:=D) (xs:=(qz n).map af.str) (λi σ g=>∃p v,σ=[V<|.int n,V<|.ref m,V<|.ref d,v]/\aL H g/\g D=V (.lst<|(qz n).map af.str)/\g d=V (.lst<|p.map af.ref)/\bA g p ((((qz n).take i).filter λ(x:aq)=>!aE (x="")).map rW))
   ([],Y,O,s7.N a3,az,by rw[aZ U];exact az,.nil) (λi σ g _ (_,_,_,_,q,_)=>bI.B q) ?_ ?_
  ·rintro i x σ g X ⟨p,v,rfl,sm,I,b,L⟩
   rw[bV] at X;cases c:(qz n)[i]? with
   |none=>rw[c] at X;cases X
   |some y=>
    rw[c] at X;obtain rfl:=bM X;have hi:i<(qz n).length:=(bY.mp c).1;obtain⟨y5,yc⟩:=g3 y<|dh c;refine(_,O,O,_,O,?_)
    by_cases hy:y=""
    ·subst hy
     refine dT (p,_,O,sm,I,b,?_);rw[cG c,jb,bU]
     simpa using L
    ·rw[show(!aE (af.str y=af.str ""))=ae from by simp[hy]]
     refine eS (_,O,.inl (O,_,bI.B b),_,O,y,O,λD2 a4=>eP<|YC y5 yc a4 λH3 a5 a6=>(D2,_,O,.inl (bI.B a6,λt a7=>?_)));have s8:aL g (aD H3 t<|.tup<|(rW y).map af.int):=a5.F<|aL.B a7;have a8:=L.B;have a9:p.length<=20:=by
      rw[a8,au];exact dq (sW _ _) (by rw[dR];omega)
     refine(d,_,_,O,O,s8 _ _ b,jm (by rw[au];exact â a9),(p++[t],_,O,(sm.F s8).N G,?_,by rw[az,bU];rfl,?_))
     ·rw[aZ U.symm];exact s8 _ _ I
     ·rw[cG c,jb,bU,show [y].filter (λ(x:aq)=>!aE (x=""))=[y] by simp[hy]]
      exact ka (bA.J (s8.M L) az) (s8 _ _ b) (by intro xs z;cases z)
  ·rintro σ g ⟨p,v,rfl,sm,I,b,L⟩
   rw[au,gE] at L;exact(_,O,k d p g sm G b L)
noncomputable def iI(a b:Int)(c:List Int):List Int:=c.map λx=>a+b*x
inductive GC(vs:List af)(H:ab)(Q:aU)(E':db):Prop
 |a:∀p l as pss,(vs=[.ref p,.ref l])->(gl H p)->(H l=V (.lst<|as.map af.ref))->(bA H as pss)->(pss.length<=20)->((∀ps∈pss,ps.length<=10))->(∀D bs qss first gap H',eT p H H'->gl H' p->H D=Y->H' D=V (.lst<|bs.map af.ref)->bA H' bs qss->0<=first->first<12->1<=gap->gap<=3->qss.Perm (pss.map<|iI first gap)->Q 5#D H')->GC vs H Q E'
def x_:dG ["box","web","gap","first","found","piece"] ["box","web"] (bX ym):=(O,O,O,δ,O,δ,δ)
def Zo{b c:Int}{Q:aU}(p:de h a g)(w:g.length<=10)(y:1<=c/\c<=3)(o:h D=Y)(k:∀f,aL h f->f D=V (.lst<|(iI b c g).map af.int)->Q 5#D f):dU (tM K a) (dw 0) ie (dk (jB λi j=>.int<|i+j) (bw 1)<|dk (lp rO λi j=>.int<|i*j) (bw 2)<|bw 0) [Y,V<|.int b,V<|.int c] h D Q:=by
 refine Xu (xs:=g.map af.int) (λj n l f=>∃v,n=[v,V<|.int b,V<|.int c]/\aL h f/\f D=V (.lst l)/\l=((iI b c g).take j).map af.int) ?_ ?_ ?_ ?_
 ·exact(Y,O,aL.B o,az,O)
 ·rintro j n l f ⟨v,rfl,m,d,rfl⟩
  exact fg.B<|m.J p
 ·rintro j n l f x r s t ⟨v,rfl,m,d,rfl⟩
  obtain⟨q,u,rfl⟩:=yt r;refine jD ?_;refine(_,O,_,O,_,O,_,_,O,O,.inl (ω,ω),_,_,O,O,fz (by rw[au];exact bR (â w)) s t d (_,O,m.N o,az,?_));have e:(iI b c g)[j]?=V (b+c*q):=by unfold iI;rw[bV,u];rfl
  rw[cG e,bU];rfl
 ·rintro n l f ⟨v,rfl,m,d,rfl⟩
  rw[eV (by unfold iI;simp)] at d;exact k f m d
def Z_(F:b_ K "_law_named" "_law_named" ym f fd)(c5:fN mg)(Ft:b_ K "_law_take" "_law_take" yh ft I)(bt:eQ K I ["box","most"] [])(mt:mg "_law_take"=V 5#ft):ce P w K mg base bx 2 f fd ["box","web"] GC:=by
 have Gt:ce P w K mg base bx 1 ft I ["box","most"] tS:=Hp Ft;refine F.B x_ (λvs H Q E h=>?_) (λb9 A a4 s H vs Q E hr h=>?_)
 ·obtain⟨p,l,as,L,rfl,_⟩:=h;rfl
 ·obtain⟨p,l,as,L,rfl,hb,hl,ht,c0,a5,k⟩:=h
  refine(_,bj (cq (i:=2) x_.a O (aw O)<|bW iv bb<|gB Gt hr O mt Ft.a bt .nil cF<|ao 7#0<|ao bb aF)
   (bj (cq (i:=3) x_.a O (aw O)<|gB Gt hr O mt Ft.a bt .nil cF<|ao 7#0<|ao bb aF)
   (bj (cq (i:=4) x_.a O (ai O)<|je aF)
   (bj (gz ga O (eO<|ah 1) (cx (i:=5) x_.a O<|ai O)
    (bF (mR (lv nM agf PySem.F.type_list_insert Wy 7#4
     (ao (gB Gt hr O mt Ft.a bt .nil cF<|ao 7#0<|ao (bW iv (dM fX O c5.a fq<|ao 7#4 aF) bb) aF)
     (ao (gA Aw O c5.c BK (ao
      (fe ["box","web","gap","first","found","piece"] ["point","first","gap"] [Y,V 3,V 2] (EW<|ah 5) (λcl C n o ex=>cx (i:=0) (eF ["point","first","gap"]) O<|ai O) (λcl C n o ex=>iu)
       (λcl C n o ex=>bW iv 7#1<|bW mT 7#2<|ah 0) (hfr:=ii (bX ym) δ)) aF)) aF))))))
  <|bF<|cX<|ah 4))),?_)
  refine(_,O,p,3,O,hb,ξ,ξ,λq H1 a1 a2 a6 a7=>(_,_,O,O,?_));refine(_,O,p,12,O,a7,ξ,ξ,λu H2 c1 c2 a8 T=>(bR 0#0,λD hD=>?_));have d:=a6.B a8;have g:H D=Y:=d.N hb T hD;have U:l≠p:=hb.F hl;have a9:=ht.B;refine(_,O,l,O,(_,bI.B<|(d.M g) _ _ U hl),me (K:=K) (a:=l) (xs:=as.map af.ref) (λi σ y=>∃M b v,σ=[V<|.ref p,V<|.ref l,V<|.int<|1+q,V<|.int u,V<|.ref D,v]/\eT p H y/\gl y p/\y D=V (.lst<|M.map af.ref)/\bA y M b/\b.Perm ((L.take i).map<|iI u<|1+q))
   ([],[],Y,O,d.M g,T.J hD,az,.nil,List.Perm.nil) (λi σ y _ (_,_,_,_,sb,_)=>bI.B<|sb _ _ U hl) ?_ ?_)
  ·rintro i x σ y hx ⟨M,b,v,rfl,j,e,c,hq,X⟩
   obtain⟨a,ea,rfl⟩:=fG hx;obtain⟨R,S,b0⟩:=ht.F ea;have hi:i<L.length:=(bY.mp S).1;have c3:=hq.B;have c4:b.length=i:=by rw[X.length_eq,au,dR];omega
   have a0:D≠p:=e.F c;refine(_,O,.inl (O,_,bI.B c),_,O,_,O,D,_,O,.inl<|bI.B c,_,_,O,O,p,_,O,e,by rw[au];omega,by rw[au];omega,λr H4 r0 b1 m b2=>?_);rw[au] at b1;have G:de H4 a R:=(j.B m).tp hb b0;refine(_,O,a,O,(_,fg.B G),λD2 b3=>eP<|Zo G (a5 R<|dh S) (ω,ω) b3 λH5 b4 b5=>(D2,_,O,.inl (bI.B b5,λt b6=>?_)));have s6:aL H4 (aD H5 t<|.tup<|(iI u (1+q) R).map af.int):=b4.F<|aL.B b6;have b7:=m _ _ a0 c;have a3:=s6 _ _ b7;have b8:=b2.B s6;refine(D,_,r,_,O,O,a3,r0,by rw[au];omega,jm (by rw[au];omega),(M.take r.toNat++t::M.drop r.toNat,b.take r.toNat++iI u (1+q) R::b.drop r.toNat,_,O,((j.B m).B<|eT.J s6).M g,b8.M a0,?_,?_,?_))
   ·rw[az,bU,cY,Dy,DB]
   ·have tq:=s6.M<|m.F e hq
    exact ka (bA.N (tq.A0 _)<|.cons az<|tq.M _) a3 (by intro xs z;cases z)
   ·rw[cG S,bU]
    have h1:(b.take r.toNat++iI u (1+q) R::b.drop r.toNat).Perm (iI u (1+q) R::b):=by
     have:=List.perm_middle (a:=iI u (1+q) R) (l₁:=b.take r.toNat) (l₂:=b.drop r.toNat)
     rwa [uH] at this
    exact h1.trans<|(List.perm_append_singleton _ _).symm.trans<|DK _ X
  ·rintro σ y ⟨M,b,v,rfl,j,e,c,hq,X⟩
   rw[au,a9,gE] at X;exact(_,O,k D M b u (1+q) y j e g c hq c1 c2 ω ω X)
end
noncomputable abbrev Ha:cJ:=dW 50
noncomputable def pP(a:List Int):List (aK×af):=(cb a).map λn=>(aez ((aN n:aK)) (af.c ae))
def aa6(a:List Int):(pP a).length<=a.length:=by unfold pP;rw[au];exact rF a
def Zw(a:List Int)(n:Int):dZ (pP a) (aN n) (.c ae)=pP (a++[n]):=by
 unfold dZ pP;rw[xj];have c:(((cb a).map λn=>(aez ((aN n:aK)) (af.c ae))).any λd=>aE<|d.1=aN n)=aE (n∈cb a):=by
  rw[SY]
  by_cases h:n∈cb a
  ·rw[bT h,wQ]
   exact(n,h,by simp)
  ·rw[cw h,Kb]
   intro q b;simp only[uP,iE,Sum.inl.injEq];rintro rfl;exact h b
 rw[c]
 by_cases h:n∈cb a
 ·rw[bT h,av O,av h,bN]
  refine fS λq b=>?_;simp only[uP];split<;>rfl
 ·rw[cw h,am 0#0,am h,bU]
  rfl
def abh(a:List Int):((pP a).map λb=>cR b.1)=(cb a).map af.int:=by unfold pP;rw[bN];rfl
def Zk{c:List Int}(f:c.Pairwise (·<=·))(g:c.Nodup):ij c=ae:=by
 rw[HX];intro i a b h j;obtain⟨d,k⟩:=bY.mp h;obtain⟨e,l⟩:=bY.mp j;have m:=pc.mp f i (i+1) d e ß;have n:=pc.mp g i (i+1) d e ß;rw[k,l] at m n;omega
def PY(a:Ξ):Prop:=a.Nodup/\∀b∈a,b≠[]/\b.length<=4/\ij b=ae/\∀x∈b,0<=x/\x<=5
def HS(b:Ξ):Prop:=(∃n,n<20/\b=oK n)\/(b.length<=5/\PY b)
def HQ(d:Ξ):Prop:=∃b a c,HS b/\0<=a/\a<12/\1<=c/\c<=3/\d.Perm (b.map<|iI a c)
def abd:∀n,n<20->(oK n).length<=20/\∀a∈oK n,a≠[]/\a.length<=5:=δ
section
variable{P:bu}{w:bf}{K:aY}{mg:aq->Option aa}{base:aW}
inductive Gu(vs:List af)(H:ab)(Q:aU)(E':db):Prop
 |a:∀p,(vs=[.ref p])->(gl H p)->(∀D bs qss H',eT p H H'->gl H' p->H D=Y->H' D=V (.lst<|bs.map af.ref)->bA H' bs qss->HQ qss->Q 5#D H')->Gu vs H Q E'
def vK:dG ["box","found","k","some","j","piece"] ["box"] (bX Ha):=(O,O,O,δ,O,δ,δ)
def ZN(F:b_ K "_law_web" "_law_web" Ha f fd)(f5:fN mg)(Ft:b_ K "_law_take" "_law_take" yh ft b2)(bt:eQ K b2 ["box","most"] [])(mt:mg "_law_take"=V 5#ft)(Fn:b_ K "_law_named" "_law_named" ym fn b3)(bn:eQ K b3 ["box","web"] [])(mn:mg "_law_named"=V 5#fn)(Fk:b_ K "_law_known" "_law_known" Bq fk b4)(bk:eQ K b4 ["number"] [])(mk:mg "_law_known"=V 5#fk):ce P w K mg base bx 3 f fd ["box"] Gu:=by
 have Gt:ce P w K mg base bx 1 ft b2 ["box","most"] tS:=Hp Ft;have Gn:ce P w K mg base bx 2 fn b3 ["box","web"] GC:=Z_ Fn f5 Ft bt mt;have Gk:ce P w K mg base bx 1 fk b4 ["number"] GK:=ς Fk f5;refine F.B vK (λvs H Q E h=>?_) (λf0 A d5 s H vs Q E hr h=>?_)
 ·obtain⟨p,rfl,_⟩:=h;rfl
 ·obtain⟨p,rfl,hb,k⟩:=h
  have hu:=ko hr;have c7:=hr.units;have I:fM 1 _:=hr.B ξ;refine(_,bj (fL (dD jS (gB Gt I O mt Ft.a bt .nil cF<|ao 7#0<|ao bb aF) bb<|dF _)
    (bF<|cX<|gB Gn hr O mn Fn.a bn .nil cF<|ao 7#0<|ao (gB Gk I O mk Fk.a bk .nil cF<|ao (gB Gt I O mt Ft.a bt .nil cF<|ao 7#0<|ao bb aF) aF) aF) fV)
   (bj (cq (i:=1) vK.a O (ai O)<|je aF)
   (bj (gz ga O (ou O f5.b<|ao (gB Gt I O mt Ft.a bt .nil cF<|ao 7#0<|ao bb aF) aF) (cx (i:=2) vK.a O<|ai O)
    (bj (cq (i:=3) vK.a O (ai O) xz)
    (bj (gz ga O (ou O f5.b<|ao (bW iv bb<|gB Gt I O mt Ft.a bt .nil cF<|ao 7#0<|ao bb aF) aF) (cx (i:=4) vK.a O<|ai O)
    <|bF<|lZ hu 7#3 (gB Gt I O mt Ft.a bt .nil cF<|ao 7#0<|ao bb aF) kn O)
    (bj (cq (i:=5) vK.a O (ai O)<|gA Aw O f5.c BK<|ao (dM XB O f5.d BL<|ao (gA (XH O) O f5.list j_<|ao 7#3 aF) aF) aF)
   <|bF<|fL (dD (Mz<|Fv c7) 7#5 7#1 (by with_unfolding_all rfl)) (bF<|mR<|lv nM uz wD rI 7#1<|ao 7#5 aF) fV))))
  <|bF<|cX<|gB Gn hr O mn Fn.a bn .nil cF<|ao 7#0<|ao 7#1 aF)),?_)
  refine(_,O,p,2,O,hb,ξ,ξ,λr H1 r0 r1 b5 a3=>(O,_,O,?_));refine oz (λh1=>?_) (λh1=>?_)
  ·refine(_,O,_,O,p,20,O,a3,ξ,ξ,λn H2 n0 n1 d6 d7=>?_)
   obtain⟨m,rfl⟩:=DN n0;refine(m,O,ω,λD M H3 c8 f3 hD ht=>?_);obtain⟨g1,g2⟩:=abd m ω;have X:=(b5.B d6).B<|eT.J c8;have a4:=d7.B c8;refine(p,D,M,oK m,O,a4,hD,ht,g1,λps hp=>by have:=(g2 ps hp).2;exact â this,λD' bs b6 u b7 H4 v l b8 d8 R c1 c2 c3 c4 C=>?_);exact k D' bs b6 H4 (X.B v) l (X.N hb a4 b8) d8 R (oK m,u,b7,.inl (m,ω,O),c1,c2,c3,c4,C)
  ·refine(bR 0#0,λL hL=>?_)
   have c9:H L=Y:=b5.N hb a3 hL;refine(_,O,p,6,O,a3.J hL,ξ,ξ,λr6 H3 a1 a2 X a4=>(r6,O,ω,ω,?_));have a5:L≠p:=gl.F (as:=[]) (a3.J hL) az;have d0:eT p H H3:=(b5.M c9).B X;refine xH (lo:=0) (n:=r6.toNat) (λi σ H4=>∃M g v2 v3 v4 v5,σ=[V<|.ref p,V<|.ref L,v2,v3,v4,v5]/\eT p H H4/\gl H4 p/\H4 L=V (.lst<|M.map af.ref)/\bA H4 M g/\PY g/\g.length<=i)
    ([],[],Y,Y,Y,Y,O,d0,a4,X _ _ a5 az,.nil,(lS,λps h=>nomatch h),aV _) ?_ ?_
   ·rintro i σ H4 hi ⟨M,g,v2,v3,v4,v5,rfl,v,l,a6,R,S,d1⟩
    have f4:=R.B;intro d hd;have d2:H d=Y:=v.N hb l hd;have d9:L≠d:=cN a6 hd;refine(_,O,p,4,O,l.J hd,ξ,ξ,λr4 H5 e1 e2 T b9=>(_,_,O,O,_,O,ω,ω,?_));have a7:d≠p:=by
     obtain⟨x,y,e,_⟩:=l.J (o:=.b []) hd;exact fW az e (by intro z;cases z)
    have s4:=aL.B (o:=.b []) hd;refine xH (lo:=0) (n:=(1+r4).toNat) (λj σ H6=>∃c v4,σ=[V<|.ref p,V<|.ref L,V<|.int<|0+i,V<|.ref d,v4,v5]/\eT p H H6/\gl H6 p/\H6 L=V (.lst<|M.map af.ref)/\bA H6 M g/\H6 d=V (.b<|pP c)/\c.length=j/\∀x∈c,0<=x/\x<=5)
     ([],_,O,(v.M d2).B T,b9,T _ _ a5<|s4 _ _ a6,T.F (l.J hd)<|s4.M R,T _ _ a7 az,O,λx h=>nomatch h) ?_ ?_
    ·rintro j σ H6 hj ⟨c,v4,rfl,c0,a8,G,a0,a9,b0,c5⟩
     refine(_,O,_,O,p,6,O,a8,ξ,ξ,λr H7 f1 f2 q b1=>(d,_,O,AF.k (k:=aN r) (q _ _ a7 a9)<|jm (by have:=aa6 c;omega),(c++[r],_,O,(c0.B q).M d2,b1.M a7,?_,?_,by rw[az,Zw],by rw[c_,b0];rfl,?_)))
     ·rw[aZ d9];exact q _ _ a5 G
     ·exact ka (q.F a8 a0) (q _ _ a7 a9) (by intro xs z;cases z)
     ·intro x hx
      rcases dt.mp hx with hx|hx
      ·exact c5 x hx
      ·rw[cT] at hx;subst hx;omega
    ·rintro σ H6 ⟨c,v4,rfl,c0,a8,G,a0,a9,b0,c5⟩
     refine(_,O,d,_,O,a9,λl2 e0=>(l2,cb c,O,bI.B (by rw[az,abh]),(by have:=rF c;omega),λD2 U hp hs e3=>(D2,_,O,.inl (bI.B az,λt e4=>?_))));have s6:aL H6 (aD (aD (aD H6 l2<|.lst<|(pP c).map λkv=>cR kv.1) D2<|.lst<|U.map af.int) t<|.tup<|U.map af.int):=((aL.B e0).F<|aL.B e3).F<|aL.B e4;generalize e5:aD (aD (aD H6 l2<|.lst<|(pP c).map λkv=>cR kv.1) D2<|.lst<|U.map af.int) t (.tup<|U.map af.int)=H7 at s6;have d3:de H7 t U:=by rw[<-e5];exact az
     have q:=c0.B<|eT.J s6;have b1:=a8.B s6;refine(_,O,_,O,t,L,U,M,g,O,O,d3,bI.B<|s6 _ _ G,s6.M a0,_,O,?_);have e6:U≠[]/\U.length<=4/\ij U=ae/\∀x∈U,0<=x/\x<=5:=by
      refine(λz=>?_,?_,Zk hs<|hp.nodup_iff.mpr<|zW c,λx hx=>c5 x<|(qm c x).mp<|hp.mem_iff.mp hx)
      ·have h0:cb c=[]:=by rw[z] at hp;exact(List.nil_perm.mp hp)
       cases hq:c with
       |nil=>rw[hq] at b0;simp at b0;omega
       |cons x r=>
        have:=(qm c x).mpr (by rw[hq];exact fE);rw[h0] at this;cases this
      ·have:=rF c
       rw[hp.length_eq];omega
     by_cases c6:U∈g
     ·rw[bT c6]
      exact dT (M,g,_,_,_,_,O,q,b1,s6 _ _ G,s6.M a0,S,(í d1))
     ·rw[cw c6]
      refine eS (_,O,.inl (O,_,bI.B<|s6 _ _ G),_,O,L,_,_,O,O,s6 _ _ G,jm (by rw[au];omega),(M++[t],g++[U],_,_,_,_,O,q.M c9,b1.M a5,by rw[az,bU];rfl,ka (bA.J (s6.M a0) d3) (s6 _ _ G) (by intro xs z;cases z),(?_,?_),by rw[c_];simp;exact d1))
      ·rw[kg]
       refine(S.1,by simp,λa ha b d4 e=>?_);rw[cT] at d4;subst d4;subst e;exact c6 ha
      ·intro ps e7
       rcases dt.mp e7 with h|h
       ·exact S.2 ps h
       ·rw[cT] at h;subst h;exact e6
   ·rintro σ H4 ⟨M,g,v2,v3,v4,v5,rfl,v,l,a6,R,S,d1⟩
    refine(_,O,_,O,p,L,M,g,O,l,a6,R,ω,λps hp=>by have:=(S.2 ps hp).2.1;exact â this,λD' bs b6 u b7 H5 T b9 b8 e8 e9 c1 c2 c3 c4 C=>?_);exact k D' bs b6 H5 (v.B T) b9 (v.N hb l b8) e8 e9 (g,u,b7,.inr (ω,S),c1,c2,c3,c4,C)
end
def Qj:∀a b:List Int,bJ a b=ae->bJ b a=aB
 |[],[],h=>O
 |[],_::_,h=>O
 |_::_,[],h=>by rw[Qu] at h;exact bh h dY
 |x::c,y::d,h=>by
  rw[lL] at h ⊢
  by_cases e:x=y
  ·rw[av e] at h;rw[av e.symm];exact Qj c d h
  ·rw[am e] at h;rw[am (λz=>e z.symm)]
   have:=fc h;exact cw ω
def BZ:∀a b:List Int,bJ a b=aB->bJ b a=aB->a=b
 |[],[],_,_=>O
 |[],_::_,h,_=>by rw[yG] at h;exact bh h ξ
 |_::_,[],_,h=>by rw[yG] at h;exact bh h ξ
 |x::d,y::f,h,c=>by
  rw[lL] at h c
  by_cases e:x=y
  ·rw[av e] at h;rw[av e.symm] at c
   rw[e,BZ d f h c]
  ·rw[am e] at h;rw[am (λz=>e z.symm)] at c
   have:=oe h;have:=oe c;omega
def Qi:∀a b c:List Int,bJ b a=aB->bJ c b=aB->bJ c a=aB
 |[],b,c,_,_=>by cases c with
  |nil=>rfl
  |cons _ _=>rfl
 |_::_,[],c,h,_=>by rw[yG] at h;exact bh h ξ
 |_::_,_::_,[],_,h=>by rw[yG] at h;exact bh h ξ
 |x::g,y::i,z::j,h,d=>by
  rw[lL] at h d ⊢
  by_cases e:y=x
  ·rw[av e] at h
   by_cases f:z=y
   ·rw[av f] at d;rw[av<|f.trans e];exact Qi g i j h d
   ·rw[am f] at d;rw[am ω]
    have:=oe d;exact cw ω
  ·rw[am e] at h
   have k:=oe h
   by_cases f:z=y
   ·rw[am ω]
    exact cw ω
   ·rw[am f] at d
    have l:=oe d;rw[am ω];exact cw ω
noncomputable def pU(p:List Int):List Int:=(p.length:Int)::p
noncomputable def si(a b:List Int):Bool:=!bJ (pU b) (pU a)
def ud{a b:List Int}:si a b=ae↔bJ (pU b) (pU a)=aB:=by unfold si;simp
noncomputable def bC(a:Ξ):Ξ:=(cb<|a.flatMap cH).mergeSort si
def Ca(a:Ξ):(bC a).Perm (cb<|a.flatMap cH):=List.mergeSort_perm _ _
def B'(d:Ξ):(bC d).Pairwise (λa b=>si a b=ae):=by
 refine List.pairwise_mergeSort (λa b c e f=>?_) (λa b=>?_) _
 ·rw[ud] at e f ⊢;exact Qi _ _ _ e f
 ·rw[Th,ud,ud]
  cases h:bJ (pU b) (pU a) with
  |false=>exact .inl O
  |true=>exact .inr<|Qj _ _ h
def sf{x:List Int}:x∈bC a↔x∈a.flatMap cH:=by rw[(Ca a).mem_iff,qm]
def yD(a:Ξ):(bC a).Nodup:=(Ca a).nodup_iff.mpr<|zW _
def sn(a:Ξ):(bC a).length=(cb<|a.flatMap cH).length:=(Ca a).length_eq
def act{l m:Ξ}(e:l.Perm m)(f:l.Pairwise (λa b=>si a b=ae))(g:m.Pairwise (λa b=>si a b=ae)):l=m:=by
 refine ai8 (λa b _ _ c d=>?_) f g e;rw[ud] at c d;have:=BZ _ _ d c;unfold pU at this;exact(List.cons.inj this).2
def ac8{c l:Ξ}(d:l.Perm (cb<|c.flatMap cH))(e:l.Pairwise (λa b=>bJ ((b.length:Int)::b) ((a.length:Int)::a)=aB)):l=bC c:=
 act (d.trans (Ca c).symm) (e.imp λh=>ud.mpr h)<|B' c
def BW:∀(n:Nat)(p q:List Int),p.length=n->(q∈lK p↔q.Sublist p)
 |0,p,q,h=>by
  obtain rfl:=kh h;show q∈[[]]↔_;simp
 |n+1,p,q,h=>by
  obtain⟨r,x,rfl⟩:∃r x,p=r++[x]:=by
   rcases List.eq_nil_or_concat p with e|⟨r,x,e⟩
   ·rw[e] at h;cases h
   ·exact(r,x,by rw[e,List.concat_eq_append])
  have a:r.length=n:=by simpa using h
  rw[HU,dt,BW n r q a,aO,List.sublist_append_iff];constructor
  ·rintro(d|⟨y,f,rfl⟩)
   ·exact(q,[],by simp,d,aih _)
   ·exact(y,[x],O,(BW n r y a).mp f,S_ _)
  ·rintro⟨b,i,rfl,c,g⟩
   cases g with
   |cons _ h=>
    obtain rfl:=aib.mp h;exact .inl 6#c
   |cons_cons _ h=>
    obtain rfl:=aib.mp h;exact .inr (b,(BW n r b a).mpr c,O)
def mY{p q:List Int}:q∈cH p↔q≠[]/\q.Sublist p:=by
 obtain⟨t,e,b⟩:=HV p;have a:=BW p.length p q O;rw[e] at a;unfold cH;rw[e];show q∈t↔_;constructor
 ·intro h
  exact(b q h,a.mp<|gd _ h)
 ·rintro⟨c,d⟩
  rcases cz.mp (a.mpr d) with h|h
  ·exact bh h c
  ·exact h
def Qd{p q r:List Int}(b:q∈cH p)(a:r∈cH q):r∈cH p:=by
 rw[mY] at b a ⊢;exact(a.1,a.2.trans b.2)
def BU:∀p:List Int,ij p=ae↔p.Pairwise (·<·)
 |[]=>by simp[ij]
 |[g]=>by simp[ij]
 |g::b::r=>by
  have f:=BU<|b::r;rw[show ij (g::b::r)=(aE (g<b)&&ij (b::r)) from O,jP,iE,f,uI (a:=g)];constructor
  ·rintro⟨d,c⟩
   refine(λx e=>?_,c);rcases cz.mp e with rfl|e
   ·exact d
   ·have:=(uI.mp c).1 x e
    omega
  ·rintro⟨d,c⟩
   exact(d b fE,c)
def kP:iJ p=ae↔p≠[]/\p.length<=5/\(∀x∈p,0<=x/\x<=99)/\p.Pairwise (·<·):=by
 unfold iJ;simp only[jP,iE,pv,BU];constructor
 ·rintro⟨⟨⟨a,b⟩,c⟩,d⟩
  exact(λz=>by rw[z] at a;simp at a,b,c,d)
 ·rintro⟨a,b,c,d⟩
  refine(((?_,b),c),d);cases p with
  |nil=>exact bh O a
  |cons _ _=>simp
def HZ{p q:List Int}(h:iJ p=ae)(a:q∈cH p):iJ q=ae:=by
 rw[kP] at h ⊢;rw[mY] at a;exact(a.1,dq a.2.length_le h.2.1,λx b=>h.2.2.1 x<|a.2.subset b,h.2.2.2.sublist a.2)
def ac1{a:Ξ}(c:a.Nodup)(d:∀p∈a,iJ p=ae):Ql a a.length:=by
 intro i p m e;refine(λf=>?_,d p<|dh e);obtain⟨j,g⟩:=gW.mp f;obtain⟨h,b⟩:=bY.mp g;rw[dR] at h;obtain⟨k,l⟩:=bY.mp e;have:=pc.mp c j i ω k ω;rw[SN] at b;exact this<|b.trans l.symm
def P_{a:Ξ}(b:a.length<=20)(c:a.Nodup)(d:∀p∈a,iJ p=ae)(h:(cb<|a.flatMap cH).length<=200):jr a=ae:=by
 rw[acs a b<|ac1 c d,bT h]
def ua(h:jr a=ae):a.length<=20/\(∀p∈a,iJ p=ae)/\(∀p∈a,p.length<=5)/\(cb<|a.flatMap cH).length<=200:=by
 unfold jr at h;simp only[jP,iE,pv] at h;obtain⟨⟨⟨d,e⟩,g⟩,f⟩:=h;have c:∀p∈a,iJ p=ae:=λp b=>by rw[<-BV];exact e p b
 exact(d,c,λp b=>(kP.mp<|c p b).2.1,f)
def acq(b:Ξ):Prop:=b.Nodup/\b.length<=17/\(∀a∈b,a≠[]/\a.length<=5/\ij a=ae/\∀x∈a,0<=x/\x<=7)/\(b.flatMap cH).length<=200
def abg:∀n,n<20->(oK n).Nodup/\(oK n).length<=17/\(∀a∈oK n,a≠[]/\a.length<=5/\ij a=ae/\∀x∈a,0<=x/\x<=7)/\((oK n).flatMap cH).length<=200:=δ
def PM{m:Nat}:∀{b:Ξ},(∀a∈b,(cH a).length<=m)->(b.flatMap cH).length<=m*b.length
 |[],_=>by simp
 |p::r,h=>by
  have d:=h p fE;have e:=PM (b:=r) λq c=>h q<|gd _ c;rw[nr,c_,dj,Nat.mul_succ];omega
def aca{b:Ξ}(h:HS b):acq b:=by
 rcases h with ⟨n,f,rfl⟩|⟨l,c⟩
 ·exact abg n f
 ·refine(c.1,(â l),λa d=>?_,?_)
  ·obtain⟨g,e,i,j⟩:=c.2 a d
   exact(g,(â e),i,λx k=>by have:=j x k;omega)
  ·have:=PM (m:=15) (b:=b) λa d=>by
    rw[we];have e:=(c.2 a d).2.1;have:2 ^ a.length<=2 ^ 4:=SA ξ e;omega
   omega
def Zr{a b:Int}(c:1<=b)(h:iI a b p=iI a b q):p=q:=by
 unfold iI at h;refine(Dz (f:=λx=>a+b*x) (λx y e=>?_)).mp h;have:b*x=b*y:=ω
 exact Int.eq_of_mul_eq_mul_left ω this
def Zq{g f:Int}(m:0<=g)(n:g<12)(o:1<=f)(j:f<=3){p:List Int}(h:p≠[]/\p.length<=5/\ij p=ae/\∀x∈p,0<=x/\x<=7):iJ (iI g f p)=ae:=by
 obtain⟨a,b,c,d⟩:=h;rw[kP];unfold iI;refine(λz=>a<|DA.mp z,by rw[au];exact b,λy k=>?_,?_)
 ·obtain⟨x,l,rfl⟩:=aO.mp k
  have:=d x l;have i:f=1\/f=2\/f=3:=ω
  rcases i with rfl|rfl|rfl<;>omega
 ·rw[BU] at c
  rw[ip];refine c.imp λ{x y} e=>?_;have:f*x<f*y:=Int.mul_lt_mul_of_pos_left e ω;omega
def abw(h:HQ q):jr q=ae/\q.Nodup/\q.length<=17:=by
 obtain⟨b,a,d,k,l,m,g,f,c⟩:=h;obtain⟨i,n,o,s⟩:=aca k;have t:q.length<=17:=by rw[c.length_eq,au];exact n
 have j:q.Nodup:=by
  rw[c.nodup_iff];unfold bv at i ⊢;rw[ip];exact i.imp λ{x y} e z=>e<|Zr g z
 refine(P_ (â t) j (λp u=>?_) ?_,j,t)
 ·obtain⟨r,v,rfl⟩:=aO.mp<|c.mem_iff.mp u
  exact Zq l m g f<|o r v
 ·refine dq (rF _) ?_
  rw[(c.flatMap_right cH).length_eq];have:∀b:Ξ,((b.map<|iI a d).flatMap cH).length=(b.flatMap cH).length:=by
   intro b
   induction b with
   |nil=>rfl
   |cons p r w=>
    rw[cY,nr,nr,c_,c_,w,we,we];unfold iI;rw[au]
  rw[this];exact s
noncomputable def dP(q:List Int):Ξ:=if q.length=1 then [] else(cr q.length).map λk=>q.take k++q.drop (k+1)
def sd(q:List Int):(dP q).length<=q.length:=by
 unfold dP;split
 ·exact eY _
 ·simp
def BX{p q:List Int}:p∈dP q↔q.length≠1/\∃k,k<q.length/\p=q.take k++q.drop (k+1):=by
 unfold dP;split
 next h=>simp[h]
 next h=>
  rw[aO];constructor
  ·rintro⟨k,a,rfl⟩
   exact(h,k,fJ.mp a,O)
  ·rintro⟨_,k,a,rfl⟩
   exact(k,fJ.mpr a,O)
def HW:∀(o p:List Int),o.Pairwise (·<·)->p.Pairwise (·<·)->(∀x∈p,x∈o)->p.Sublist o
 |[],p,_,_,h=>by
  cases p with
  |nil=>exact aln
  |cons a r=>exact bh (h a fE) 0#0
 |b::o,p,k,j,h=>by
  obtain⟨g,c⟩:=uI.mp k;cases p with
  |nil=>exact aih _
  |cons a r=>
   obtain⟨d,i⟩:=uI.mp j
   by_cases e:a=b
   ·subst e
    refine(HW o r c i λx f=>?_).cons_cons a;rcases cz.mp (h x<|gd _ f) with rfl|q
    ·have:=d x f;omega
    ·exact q
   ·have l:a∈o:=by
     rcases cz.mp (h a fE) with q|q
     ·exact bh q e
     ·exact q
    have m:=g a l;refine(HW o (a::r) c j λx f=>?_).cons b;rcases cz.mp (h x f) with q|q
    ·exfalso
     rcases cz.mp f with z|z
     ·omega
     ·have:=d x z;omega
    ·exact q
def HY{p q:List Int}{k:Nat}(b:k<q.length)(h:p=q.take k++q.drop (k+1)):p.Sublist q/\p.length<q.length:=by
 subst h;refine(?_,?_)
 ·have a:(q.take k++q.drop (k+1)).Sublist (q.take k++q.drop k):=(S_ _).append (by
   rw[show q.drop (k+1)=(q.drop k).drop 1 by rw[ai0]];exact List.drop_sublist _ _)
  rwa [uH] at a
 ·rw[c_,dR,pd]
  omega
def abf:∀n,n<20->(cb<|(oK n).flatMap cH).length<=56:=δ
noncomputable def OD:Ξ:=(cH [0,1,2,3,4,5]).filter λq=>aE<|q.length<=4
def YB:OD.length=56:=δ
def acb{b:Ξ}(h:HS b):(cb<|b.flatMap cH).length<=56:=by
 rcases h with ⟨n,c,rfl⟩|⟨j,d⟩
 ·exact abf n c
 ·rw[<-YB]
  refine(zW _).length_le_of_subset λx a=>?_;rw[qm,jN] at a;obtain⟨p,e,a⟩:=a;obtain⟨_,k,f,g⟩:=d.2 p e;rw[mY] at a;have l:=a.2.length_le;unfold OD;rw[eW,mY];refine((a.1,a.2.trans<|HW _ _ ξ ((BU p).mp f) λy i=>?_),bT (à l k));have:=g y i;have:y=0\/y=1\/y=2\/y=3\/y=4\/y=5:=ω
  rcases this with rfl|rfl|rfl|rfl|rfl|rfl<;>decide
def abx(h:HQ q):(cb<|q.flatMap cH).length<=56:=by
 obtain⟨b,c,f,i,_,_,_,_,j⟩:=h;refine dq ?_<|acb i;have e:((cb<|b.flatMap cH).map<|iI c f).length=(cb<|b.flatMap cH).length:=au _;rw[<-e];refine(zW _).length_le_of_subset λx d=>?_;rw[qm,jN] at d;obtain⟨p,k,d⟩:=d;obtain⟨r,l,rfl⟩:=aO.mp<|j.mem_iff.mp k;rw[mY] at d;obtain⟨g,a⟩:=d;unfold iI at a;obtain⟨y,m,rfl⟩:=aic.mp a;refine aO.mpr (y,?_,O);rw[qm,jN];exact(r,l,mY.mpr (λz=>g (by rw[z];rfl),m))
def rQ(a:Ξ):Prop:=jr a=ae/\(bC a).length<1000
noncomputable abbrev Bk:cJ:=dW 18
noncomputable abbrev yk:cJ:=dW 19
def OQ:∀{a:List (List Int×W)},(∀q∈a,de H q.2 q.1)->bA H (a.map (·.2)) (a.map (·.1))
 |[],_=>.nil
 |q::r,h=>.cons (h q fE) (OQ λx b=>h x<|gd _ b)
def FZ{H b:ab}(t:PX H b a D c):∃f,aL H b/\H D=Y/\b D=V (.lst<|f.map af.ref)/\bA b f (bC a):=by
 obtain⟨g,h,d,i,j,k⟩:=t;have e:c.map (·.1)=bC a:=ac8 j<|ip.mpr k;refine(c.map (·.2),g,h,by rw[d,bN];rfl,?_);rw[<-e];exact OQ i
section
variable{P:bu}{w:bf}{K:aY}{mg:aq->Option aa}{base:aW}
inductive AV(K:aY)(vs:List af)(H:ab)(Q:aU)(E':db):Prop
 |a:∀l as pss,(vs=[.ref l])->(bI K H l<|as.map af.ref)->(bA H as pss)->(rQ pss)->(∀D H2 bs,aL H H2->H D=Y->H2 D=V (.lst<|bs.map af.ref)->bA H2 bs (bC pss)->Q 5#D H2)->AV K vs H Q E'
def YN:dG ["web"] ["web"] (bX yk):=(O,O,O,δ,O,δ,δ)
def YS:dG ["web"] ["web"] (bX Bk):=(O,O,O,δ,O,δ,δ)
inductive GG(K:aY)(vs:List af)(H:ab)(Q:aU)(E':db):Prop
 |a:∀l as pss,(vs=[.ref l])->(bI K H l<|as.map af.ref)->(bA H as pss)->(rQ pss)->(∀H2,aL H H2->Q .non H2)->GG K vs H Q E'
def ε(F:b_ K "must_be_web" "must_be_web" Bk f g)(m:b_ K "is_web" "is_web" Br c a)(n:eQ K a ["web"] [])(o:mg "is_web"=V 5#c)(p:ce P w K mg base bx 6 c a ["web"] (GL K)):ce P w K mg base bx 7 f g ["web"] (GG K):=by
 refine F.B YS (λq H Q E h=>?_) (λr A d s H q Q E t h=>?_)
 ·obtain⟨l,i,b,rfl,_⟩:=h;rfl
 ·obtain⟨l,i,b,rfl,u,v,j,k⟩:=h
  refine(_,bF<|fL (vm<|xr<|gB p t O o m.a n .nil cF<|ao 7#0 aF) ET fV,?_);refine(_,O,l,i,b,O,u,v,(λ_=>by rw[<-sn];exact j.2),λx e=>(_,O,?_));rw[j.1];exact dT<|k x e
def ZW{r b c:cW}(F:b_ K "pieces" "pieces" yk f r)(y:b_ K "must_be_web" "must_be_web" Bk e b)(z:eQ K b ["web"] [])(C:mg "must_be_web"=V 5#e)(G:ce P w K mg base bx 7 e b ["web"] (GG K))(I:b_ K "all_parts" "all_parts" yq g c)(L:eQ K c ["some"] [])(M:mg "all_parts"=V 5#g)(R:ce P w K mg base bx 5 g c ["some"] (vJ K)):ce P w K mg base bx 8 f r ["web"] (AV K):=by
 refine F.B YN (λS H Q E h=>?_) (λT A i s H S Q E u h=>?_)
 ·obtain⟨l,j,d,rfl,_⟩:=h;rfl
 ·obtain⟨l,j,d,rfl,v,x,m,k⟩:=h
  have n:fM 5 _:=u.B ξ;refine(_,bj (mR<|gB G u O C y.a z .nil cF<|ao 7#0 aF)
  <|bF<|cX<|gB R n O M I.a L .nil cF<|ao 7#0 aF,?_)
  obtain⟨o,_,U,_⟩:=ua m.1;refine(_,O,l,j,d,O,v,x,m,λH1 a=>?_);refine(_,O,l,j,d,O,a.A1 v,a.M x,U,dq o ξ,(by rw[<-sn];exact m.2),λD X qs t=>?_);obtain⟨bs,p,hD,q,hb⟩:=FZ t;exact k D X bs (a.F p) (a.A0 hD) q hb
end
noncomputable abbrev yj:cJ:=dW 10
def HH(a:List af)(i:Nat)(h:i<=a.length):kr a Y (V (i:Int))=a.take i:=by
 unfold kr;rw[Ce,yF,JK h,aiz,Sy]
def HI(a:List af)(i:Nat)(h:i<=a.length):kr a (V (i:Int)) Y=a.drop i:=by
 unfold kr;rw[Ce,yF,JK h];exact eV (by rw[pd];exact aV _)
abbrev AK:bd:=dk Ah (Ab Af (bw 1) Ad<|Ac<|bw 0)<|Ab Af (bw 1) (Ac<|dk (jB λi j=>.int<|i+j) (bw 0)<|gh<|.int 1) Ad
section
variable{P:bu}{w:bf}{K:aY}{mg:aq->Option aa}{base:aW}
def Zn{b:List Int}{Q:aU}(u:de g a b)(G:b.length<=5)(w:g D=Y)(k:∀(c:ab)(d:List W),aL g c->c D=V (.lst<|d.map af.ref)->bA c d ((cr b.length).map λk=>b.take k++b.drop (k+1))->Q 5#D c):dU (jX 0 b.length) (dw 0) ie AK [Y,V<|.ref a] g D Q:=by
 refine qw (λj s p c=>∃(v:Option af)(d:List W),s=[v,V<|.ref a]/\aL g c/\c D=V (.lst p)/\p=d.map af.ref/\bA c d (((cr b.length).map λk=>b.take k++b.drop (k+1)).take j)) ?_ ?_ ?_
 ·exact(Y,[],O,aL.B w,az,O,.nil)
 ·rintro j s p c x y ⟨v,d,rfl,h,f,rfl,q⟩
  have e:((cr b.length).map λk=>b.take k++b.drop (k+1))[j]?=V (b.take j++b.drop (j+1)):=by rw[bV,pf x];rfl
  refine jD ?_;refine(_,O,_,O,_,O,a,_,O,h.J u,λA H i l=>(_,O,_,O,_,_,O,O,_,O,a,_,O,i _ _<|h.J u,λC I m n=>?_));rw[show(0:Int)+((j:Nat):Int)=((j:Nat):Int) from ω,HH _ _ (by rw[au];exact ì x),<-Dy] at l;rw[show(0:Int)+((j:Nat):Int)+1=((j+1:Nat):Int) from ω,HI _ _ (by rw[au];exact x),<-DB] at n;refine(A,C,_,_,O,O,m _ _ l,n,bR (by simp;omega),λE K t o=>?_);rw[<-bU] at o;have r:=(i.F m).F t;refine fz (bR (â G)) x y (r _ _ f) (_,d++[E],O,(h.F r).N w,az,by rw[bU];rfl,?_);rw[cG e];exact ka (bA.J (r.M q) o) (r _ _ f) (by intro L z;cases z)
 ·rintro s p c ⟨v,d,rfl,h,f,rfl,q⟩
  rw[eV 0#0] at q;exact k c d h f q
inductive tT(vs:List af)(H:ab)(Q:aU)(E':db):Prop
 |b:∀a ps,(vs=[.ref a])->(de H a ps)->(ps.length<=5)->(∀D H2(bs:List W),aL H H2->H D=Y->H2 D=V (.lst<|bs.map af.ref)->bA H2 bs (dP ps)->Q 5#D H2)->tT vs H Q E'
def YM:dG ["piece"] ["piece"] (bX yj):=(O,O,O,δ,O,δ,δ)
def OT{n:cW}(F:b_ K "rims_of" "rims_of" yj f n)(I:fN mg):ce P w K mg base bx 1 f n ["piece"] tT:=by
 refine F.B YM (λq H Q E h=>?_) (λr A j s H q Q E G h=>?_)
 ·obtain⟨a,e,rfl,_⟩:=h;rfl
 ·obtain⟨a,e,rfl,l,t,k⟩:=h
  refine(_,bj (fL (dD jS (dM fX O I.a fq<|ao 7#0 aF) bb<|dF _) (bF<|cX<|je aF) fV)
   (bF (cX (fe ["piece"] ["k","piece"] [Y,V 0] (ou O I.b<|ao (dM fX O I.a fq<|ao 7#0 aF) aF) (λo C b c p=>cx (i:=0) (eF ["k","piece"]) O<|ai O) (λo C b c p=>iu)
    (λo C b c p=>bW xC (qq vh 7#1 nz<|ny<|ah 0)<|qq vh 7#1 (ny<|bW iv 7#0 bb) nz) (hfr:=ii (bX yj) δ) (te:=AK)))),?_)
  refine(_,O,a,_,O,.inr<|fg.B l,O,_,O,?_);rw[au]
  by_cases g:e.length=1
  ·rw[show aE (af.int (e.length:Int)=af.int 1)=ae from bT (by rw[g];rfl)]
   refine eS (bR 0#0,λD d=>k D _ [] (aL.B d) d az ?_);unfold dP;rw[av g];exact .nil
  ·rw[show aE (af.int (e.length:Int)=af.int 1)=aB from cw λL=>g (by injection L with L;omega)]
   refine dT (_,O,a,_,O,.inr<|fg.B l,_,O,by rw[au];omega,by rw[au];omega,λD d=>?_);rw[au];refine eP<|Zn l t d λu v x m y=>k D u v x d m ?_;unfold dP;rw[am g];exact y
def Pz(a:Ξ)(p:List Int):(fm (kx a)<|p.map aN).isSome=aE (p∈a):=by
 rw[<-vf,uQ,wQ,iE];unfold kx;constructor
 ·rintro⟨g,b,e⟩
  obtain⟨q,c,rfl⟩:=aO.mp b;have d:=fc e;have:q=p:=(Dz (f:=(aN:Int->aK)) (λx y h=>Cx h)).mp d;rw[<-this];exact(qm a q).mp c
 ·intro h
  exact(_,aO.mpr (p,(qm a p).mpr h,O),by simp)
end
section
variable{X:a_}
inductive LY(x:af)(vs:List af)(H:ab)(Q:aU):Prop
 |a:∀d kvs k dv,(x=.ref d)->(vs=[cR k,dv])->(H d=V (.b kvs))->(kvs.length<bD)->(((∃v,fm kvs k=V v/\Q v H)\/(fm kvs k=Y/\Q dv (aD H d<|.b<|dZ kvs k dv))))->LY x vs H Q
def Wv:xO X "dict.setdefault" LY:=by
 intro n s T H x U v us Q I C D h;obtain⟨d,c,k,j,rfl,rfl,p,hz,q⟩:=h;cases C;obtain⟨u,r,rfl,E,t⟩:=D.A2;obtain⟨z,w,f,a,y⟩:=tG I.a p;have G:f.length<=bD:=by rw[<-a.B];exact z
 refine yT agi y.typeIs PySem.F.entry_dict_setdefault (PySem.F.args_dict_setdefault_3 _ _ _) (kt_meets_setdefault (ff X.prog X.w) d (vq E) w r)
  (f,y,G,λv' A=>?_,λK L g l=>?_)
 ·rcases q with ⟨i,e,q⟩|⟨e,_⟩
  ·obtain⟨M,b,m⟩:=qy.B (v:=i) (o:=qS f k) (by rw[<-e];exact a.val k)
   rw[A] at b;cases b;exact(i,H,I.N _,m,q)
  ·have:=qy.M (o:=qS f k) (by rw[<-e];exact a.val k)
   rw[A] at this;cases this
 ·rcases q with ⟨i,e,q⟩|⟨e,q⟩
  ·obtain⟨M,b,_⟩:=qy.B (v:=i) (o:=qS f k) (by rw[<-e];exact a.val k)
   rw[K] at b;cases b
  ·have P:∃q,L.get? d=V q:=let ⟨q,_,_,R,_⟩:=g;(q,R)
   have S:(dZ c k j).length<=bD:=by have:=Ao c k j;exact à this hz
   exact(j,_,vA I (by rw[p];exact ug) l P<|Nh S w (a.F k t) g,t,q)
noncomputable def tC(v d:W):df:=.ext λh=>h.IsValuesView v d
inductive LU(x:af)(vs:List af)(H:ab)(Q:aU):Prop
 |a:∀d kvs,(x=.ref d)->(vs=[])->(H d=V (.b kvs))->(∀v,H v=Y->Q 5#v (aD H v<|tC v d))->LU x vs H Q
def Wt:xO X "dict.values" LU:=by
 intro a s t H x u v w Q I f g h;obtain⟨d,i,rfl,rfl,j,q⟩:=h;cases f;obtain rfl:=g.zero;obtain⟨z,l,m,n,e⟩:=tG I.a j;refine yT agh e.typeIs PySem.F.entry_dict_values (PySem.F.args_dict_values_1 _) (meets_dict_values (ff X.prog X.w) d l) ((m,e),?_);refine(.ref s⁻¹,_,I.F (t':=s.toks) (o:=tC s⁻¹ d) (λb y q=>bQ _ q) (aV _) ?_,O,q _<|I.a.B<|aV _);refine((_,dg _ O,O,O),(_,dg _ O),λA C p k=>?_);obtain⟨o,r,c⟩:=p;exact(o,k o r,c)
def XE(E:X.b=ae):iS X (.type "list") (λw H Q=>∃v d a,w=[.ref v]/\H v=V (tC v d)/\H d=V (.b a)/\∀l,H l=Y->Q 5#l (aD H l (.lst (a.map (·.2))))):=by
 intro x s σ H w us Q I r h;obtain⟨v,d,a,rfl,G,K,q⟩:=h;obtain⟨u,rfl,L⟩:=ir r;cases L;obtain⟨z,y,M,c,j⟩:=tG I.a K;obtain⟨A,j⟩:=j.dictAt;have P:=c.B;have n:s.heap.IsValuesView v d:=(show di X.prog X.w H s.heap v (tC v d) from I.a v _ G).1;refine IX (PySem.W.kdl_values (knd:=ff X.prog X.w) (kvs:=M) (ep:=A) (r:=v)) (I.b.a E) (n,j) (by rw[<-P];exact z) λR tk f S T e U=>?_;obtain⟨n1,n2⟩:=U;have vv:co (a.map (·.2)) f.toList:=by
  have o:∀{l:List (aK×af)}{m:List (aK×aa)}{b:List aa},jV l m->b.length=m.length->(∀(i:Nat) v,b[i]?=V v->∃k,m[i]?=V (aez k v))->co (l.map (·.2)) b:=by
   intro l m b q
   induction q generalizing b with
   |nil=>intro g _;cases b with
    |nil=>exact .nil
    |cons _ _=>simp at g
   |@cons p q' ps qs hq t ih=>
    intro g C;cases b with
    |nil=>simp at g
    |cons v b=>
     obtain⟨k,D⟩:=C 0 v O;simp only[SQ,oZ] at D;refine .cons ?_ (ih 6#g λi v e=>by simpa using C (i+1) v 6#e);show cg p.2 v;have:=hq.2;rw[D] at this;exact this
  exact o c 6#n1 λi v e=>n2 i v 6#e
 refine(.ref s⁻¹,_,I.F T (aV _) (show di X.prog X.w _ R _ (.lst (a.map (·.2))) from(?_,f.toList,S,vv,by simpa using e)),O,q _<|I.a.B<|aV _)
 simpa using z
def MJ:∀{l:List (aK×af)}{m:List (aK×aa)}{i:Nat}{a:aK×af},jV l m->l[i]?=V a->∃w,m[i]?=V w/\a.1=w.1/\cg a.2 w.2
 |_,_,0,_,.cons h _,e=>by cases e;exact(_,O,h)
 |_,_,i+1,_,.cons _ t,e=>MJ (i:=i) t 6#e
noncomputable def xR(d:W)(o:bg)(a:List (aK×af)):jh:=(λi H=>i<a.length/\H d=V (.frz o<|.b a),λi H v c=>c=H/\∃b,a[i]?=V b/\v=cR b.1,λi H=>i=a.length/\H d=V (.frz o<|.b a))
def Vh{K:aY}(d n:W){o:bg}{a:List (aK×af)}(hx:o.ExactDict)(l:o.data=.dict f u)(q:f.size=a.length)(hk:∀(i:Nat)kv(r:i<f.size),a[i]?=V kv->cg (cR kv.1) f[i].key):pL P w K tg (xR d o a) [n] n (λi h=>h.IsKeyIter n d i f.size u) where
 f:=by simp
 a:=λi h g b p=>by
  have e:b=n:=by simpa using p
  subst e;obtain⟨o,e,c,dd⟩:=g;exact(o,e,λv z=>by rw[dd] at z;cases z)
 c:=λi h x g k=>by
  obtain⟨o,e,c⟩:=g;exact(o,k n 0#0 o e,c)
 d:=by
  intro X C D G hc i m s σ H E I y g L;subst C D G;obtain⟨M,R,f2,S,T,U⟩:=y n 0#0;obtain⟨r,hH⟩:=L;have hm:ik s.heap d f u:=(o,(show di X.prog X.w H s.heap d (.frz o<|.b a) from I.a d _ hH).1,hx,l);have j:i<f.size:=by rw[q];exact r
  refine Ii g hm j λx t sb=>?_;have I1:aA X m σ H {s with heap:=x}:=I.A1 (t':=s.toks) (λb o p e=>(sb.2 b p).trans e) M R S T U;obtain⟨oi,e1,e2,e3⟩:=id t;have ek:a[i]?=V a[i]:=cB r;exact(_,O,vt (s:={s with heap:=x}) e1 e2 e3 ξ (cR a[i].1,H,I1,hk i _ j ek,(O,_,ek,O),t,λb p=>(y b p).1))
 done:=by
  intro X C D G hc i m s σ H E I y g L;subst C D G;obtain⟨M,R,f2,S,T,U⟩:=y n 0#0;obtain⟨r,hH⟩:=L;have hm:ik s.heap d f u:=(o,(show di X.prog X.w H s.heap d (.frz o<|.b a) from I.a d _ hH).1,hx,l);have j:i=f.size:=by rw[q];exact r
  subst j;exact done (I.b.a hc) g hm λx eb=>(O,I.A1 (t':=s.toks) (λb o p e=>eb b o p e) M R S T U)
 e:=λA i s Q E g h=>QY g h
def Xd(c:bd):jE:=λe H R=>c e H λv b=>∃d a,v=.ref d/\b d=V (.b a)/\∀o,R (xR d o a) (aD b d<|.frz o<|.b a)
def Mr{M l:bz}{t:bd}(P:bG X l t):jU X M l (Xd t):=by
 intro a s u H R I h;refine bH (P a s u H _ I h) λv c (x,w,y,Q,S)=>?_;obtain⟨d,g,e,A,q⟩:=S;subst e;cases Q;obtain⟨z,C,D,j,E⟩:=tG y.a A;obtain⟨T,U⟩:=E.dictAt;obtain⟨o,k,m,G,f,hk,K,hn⟩:=id U;have n:k.size=g.length:=by
  have:=K.length;rw[<-j.B] at this
  simpa using this
 have hm:ik c.heap d k T:=(o,m,G,f);refine Ih C hm ?_;have p:aA X a u (aD w d<|.frz o<|.b g) c:=vA (t':=c.toks) y (by rw[A];exact ug) (Jm _ _) (o,m) (m,z,C,D,j,E);have r:aD w d (.frz o<|.b g) c⁻¹=Y:=p.a.B<|aV _;refine(c⁻¹,[c⁻¹],_,_,_,O,p.J (t':=c.toks) λb o e=>bQ _ e,Vh d _ G f n (λi kv hi e=>?_),(_,dg _ O,O,O),λb hb=>?_,q o)
 ·obtain⟨L,ew,h1,_⟩:=MJ j e
  have:=(K.get? (e:=k[i]) (by simp[hi])<|show D[i]?=V (aez L.1 L.2) from ew).1;rw[h1];exact Fu this
 ·have e:b=c⁻¹:=by simpa using hb
  subst e;exact p.A0 (aV _) r
def M_{a:List (aK×af)}{g:gD}{r:gC}{D:oE}{b:aR}(c:Nat->aR->ab->Prop)(t:c 0 b H)(u:∀i b H,i<=a.length->c i b H->H d=V (.frz o<|.b a))(v:∀i l b H,a[i]?=V l->c i b H->g (cR l.1) b H λf n=>r {D with a:=c<|i+1,c:=c<|i+1,b:=D.a} f n)(w:∀b H,c a.length b H->D.a b H):∃E:Nat->Nat->aR->ab->Prop,(∃m,E 0 m b H)/\∀i m b H,E i m b H->
   ((xR d o a).a i H/\D.a b H)\/((xR d o a).b i H/\∃G:aR->ab->Prop,(∀h j,G h j->∃s,s<m/\E (i+1) s h j)/\∀x j,(xR d o a).c i H x j->g x b j λf n=>r {D with a:=G,c:=G,b:=D.a} f n):=by
 refine(λi m b H=>m=a.length-i/\i<=a.length/\c i b H,(a.length,by simp,eY _,t),?_);rintro i m b H ⟨rfl,z,p⟩;have q:=u i b H z p
 by_cases k:i<a.length
 ·refine .inr ((k,q),c<|i+1,λh j A=>(a.length-(i+1),ω,O,k,A),λx j y=>?_)
  obtain⟨e,l,C,rfl⟩:=y;subst e;exact v i l b _ C p
 ·have e:i=a.length:=(û z (ô k))
  subst e;exact .inl ((O,q),w b H p)
def Lr{b:List (aK×af)}(c:(b.map (·.1)).Nodup){k:aK}(h:(aez k v)∈b):fm b k=V v:=by
 unfold fm
 induction b with
 |nil=>cases h
 |cons a r g=>
  rw[cY,jM] at c;rcases cz.mp h with e|e
  ·subst e
   simp
  ·have d:a.1≠k:=λz=>c.1 (by rw[z];exact Dx (f:=(·.1)) e)
   rw[aiv 6#d];exact g c.2 e
def Lq{a:List (aK×af)}{k:aK}(h:∀b∈a,b.1≠k):fm a k=Y:=by
 unfold fm;rw[aiu.mpr λb c=>by simpa using h b c]
 rfl
end
section
variable{X:a_}
def qx(R:X.b=ae):iS X (.type "list") (λD H Q=>∃a d,D=[.ref a]/\cA H a (.a d)/\
  ∀(j:List W),eI (λ(p:List aK×af) b=>H b=V (.tup<|p.1.map cR)) d j->∀l,H l=Y->Q 5#l (aD H l<|.lst<|j.map af.ref)):=by
 intro E s σ H D us Q I r h;obtain⟨a,d,rfl,v,q⟩:=h;obtain⟨u,rfl,S⟩:=ir r;cases S;obtain⟨z,y,f,g,o,k,G,T,U,h3,K,h5⟩:=(show di X.prog X.w H s.heap a (.a d) from v.F I.a);have L:k.size=d.length:=by
  have:=fj ar K;rw[au,<-iM g] at this
  simpa using this
 refine IX (Qw (ep:=G) (es:=k) y) (I.b.a R) (o,T,U,h3) (by rw[L];exact z) λh' tk c c' kk e it=>?_;obtain⟨n1,n2⟩:=it;have pb:eI (λ(p:List aK×af) b=>H b=V (.tup<|p.1.map cR)) d (f.map (·.2.1)):=by
  have:∀{l:List (List aK×af)}{m:List (List aK×W×aa)},jW H l m->eI (λ(p:List aK×af) b=>H b=V (.tup<|p.1.map cR)) l (m.map (·.2.1)):=by
   intro l m q
   induction q with
   |nil=>exact .nil
   |cons v t w=>exact .cons v.2.1 w
  exact this g
 have ea:c.toList=(f.map (·.2.1)).map Z:=by
  apply DG;intro i;have M:f.length=c.size:=by rw[n1,L];exact(iM g).symm
  by_cases x:i<c.size
  ·obtain⟨e',A,C⟩:=n2 i c[i] (by simp[x])
   have n:k.toList[i]?=V e':=by simpa using A
   rw[K,bV] at n;have P:f[i]?=V f[i]:=by simp[M,x]
   rw[P] at n;simp only[nj,oZ] at n;simp only[bV,P,nj,ki,DP x];rw[C,<-n]
   rfl
  ·have A:c.toList.length<=i:=by simp;exact ô x
   have C:((f.map (·.2.1)).map Z).length<=i:=by simp[M];exact ô x
   rw[sY A,sY C]
 have vv:co ((f.map (·.2.1)).map af.ref) c.toList:=by
  rw[ea];generalize f.map (·.2.1)=j
  induction j with
  |nil=>exact .nil
  |cons b j w=>exact .cons O w
 refine(.ref s⁻¹,_,I.F kk (aV _) (show di X.prog X.w _ h' _ (.lst ((f.map (·.2.1)).map af.ref)) from(?_,c.toList,c',vv,by simpa using e)),O,q _ pb _<|I.a.B<|aV _);simp only[au];rw[<-iM g];exact z
def MK:∀{l:List (List aK×af)}{m:List (List aK×W×aa)}{i:Nat}{a:List aK×af},jW H l m->l[i]?=V a->∃w,m[i]?=V w/\a.1=w.1/\cg a.2 w.2.2
 |_,_,0,_,.cons h _,e=>by cases e;exact(_,O,h.1,h.2.2)
 |_,_,i+1,_,.cons _ t,e=>MK (i:=i) t 6#e
end
section
variable{X:a_}
noncomputable def vD(d:W)(o:bg)(a:List (List aK×af)):jh:=(λi H=>i<a.length/\H d=V (.frz o<|.a a),λi H v e=>e=H/\∃c b,a[i]?=V c/\v=.ref b/\H b=V (.tup<|c.1.map cR),λi H=>i=a.length/\H d=V (.frz o<|.a a))
def Fq:∀{l:List (List aK×af)}{m:List (List aK×W×aa)}{i:Nat}{a:List aK×af},jW H l m->l[i]?=V a->∃w,m[i]?=V w/\H w.2.1=V (.tup<|a.1.map cR)
 |_,_,0,_,.cons h _,e=>by cases e;exact(_,O,h.2.1)
 |_,_,i+1,_,.cons _ t,e=>Fq (i:=i) t 6#e
def Vf{K:aY}(d p:W){o:bg}{a:List (List aK×af)}(hx:o.ExactDict)(f:o.data=.dict g u)(r:g.size=a.length):pL P w K tg (vD d o a) [p] p (λi h=>h.IsKeyIter p d i g.size u) where
 f:=by simp
 a:=λi h j b l=>by
  have e:b=p:=by simpa using l
  subst e;obtain⟨o,e,c,dd⟩:=j;exact(o,e,λv z=>by rw[dd] at z;cases z)
 c:=λi h x j k=>by
  obtain⟨o,e,c⟩:=j;exact(o,k p 0#0 o e,c)
 d:=by
  intro X D G L hc i n s σ H E I y j M;subst D G L;obtain⟨R,S,f2,T,U,f5⟩:=y p 0#0;obtain⟨C,hH⟩:=M;obtain⟨g0,z,hs,ys,a0,o',a1,a2,h1,h2,h3,h4,h5⟩:=(show di X.prog X.w H s.heap d (.frz o<|.a a) from I.a d _ hH);obtain rfl:o=o':=bM<|g0.symm.trans h1;have q:=f.symm.trans h3;injection q with q hep
  subst q;have hm:ik s.heap d g u:=(o,g0,hx,f);have m:i<g.size:=by rw[r];exact C
  refine Ii j hm m λx t sb=>?_;have I1:aA X n σ H {s with heap:=x}:=I.A1 (t':=s.toks) (λb o l e=>(sb.2 b l).trans e) R S T U f5;obtain⟨oi,e1,e2,e3⟩:=id t;have ek:a[i]?=V a[i]:=cB C;obtain⟨w',ew,l⟩:=Fq a0 ek;have g3:g.toList[i]?=V g[i]:=by simp[m]
  rw[h4,bV,ew] at g3;simp only[nj,oZ] at g3;have gk:g[i].key=.ref w'.2.1:=by rw[<-g3];rfl
  exact(_,O,vt (s:={s with heap:=x}) e1 e2 e3 ξ (.ref w'.2.1,H,I1,by rw[gk];rfl,(O,_,_,ek,O,l),t,λb l=>(y b l).1))
 done:=by
  intro X D G L hc i n s σ H E I y j M;subst D G L;obtain⟨R,S,f2,T,U,f5⟩:=y p 0#0;obtain⟨C,hH⟩:=M;have hm:ik s.heap d g u:=(o,(show di X.prog X.w H s.heap d (.frz o<|.a a) from I.a d _ hH).1,hx,f);have m:i=g.size:=by rw[r];exact C
  subst m;exact done (I.b.a hc) j hm λx eb=>(O,I.A1 (t':=s.toks) (λb o l e=>eb b o l e) R S T U f5)
 e:=λA i s Q E j h=>QY j h
def Xa(f:bd):jE:=λg H R=>f g H λx e=>∃d a,x=.ref d/\cA e d (.a a)/\∀o c,c d=V (.frz o<|.a a)->(∀b,b≠d->c b=e b)->R (vD d o a) c
def Ai(hl:bG X l S):jU X Q l (Xa S):=by
 intro c s y H R I h;refine bH (hl c s y H _ I h) λv f (x,m,A,r1,q1)=>?_;obtain⟨d,a,e,g,q⟩:=q1;subst e;cases r1;have T:∀(o:bg)(i:ab),aA X c y i f->i d=V (.frz o<|.a a)->(∀b,b≠d->i b=m b)->ax 3#0 X.A (qU<|.ref d) (FO X c y Q R) X.a f:=by
  intro o i r n p;obtain⟨g0,z,C,D,j,o',t,E,k,u,w,G,U⟩:=(show di X.prog X.w i f.heap d (.frz o<|.a a) from r.a d _ n);obtain rfl:o=o':=bM<|g0.symm.trans k;have K:t.size=a.length:=by
   have:=fj ar G;rw[au,<-iM j] at this
   simpa using this
  have hm:ik f.heap d t E:=(o,k,u,w);refine Ih C hm ?_;have L:i f⁻¹=Y:=r.a.B<|aV _;refine(f⁻¹,[f⁻¹],_,_,_,O,r.J (t':=f.toks) λb o e=>bQ _ e,Vf d _ u w K,(_,dg _ O,O,O),λb M=>?_,q o i n p);have e:b=f⁻¹:=by simpa using M
  subst e;exact r.A0 (aV _) L
 rcases g with g|⟨o,g⟩
 ·obtain⟨z,C,D,j,o,t,E,k,u,w,G,U⟩:=(show di X.prog X.w m f.heap d (.a a) from A.a d _ g)
  have P:jW (aD m d<|.frz o<|.a a) a D:=jW.B j λb zs e=>by rw[aZ (λzz=>by rw[zz,g] at e;cases e)];exact e
  exact T o (aD m d<|.frz o<|.a a) (vA (ob:=.frz o<|.a a) (t':=f.toks) A (by rw[g];exact ug) (Jm _ _) (o,k) (k,z,C,D,P,o,t,E,k,u,w,G,U)) az λb M=>aZ M
 ·exact T o m A g λ_ _=>O
def MY{a:List (List aK×af)}{g:gD}{s:gC}{D:oE}(f:Nat->aR->ab->Prop)(u:f 0 c H)(v:∀i c H,i<=a.length->f i c H->H d=V (.frz o<|.a a))(w:∀i n b c H,a[i]?=V n->H b=V (.tup<|n.1.map cR)->f i c H->g 5#b c H λh r=>s {D with a:=f<|i+1,c:=f<|i+1,b:=D.a} h r)(z:∀c H,f a.length c H->D.a c H):∃I:Nat->Nat->aR->ab->Prop,(∃m,I 0 m c H)/\∀i m c H,I i m c H->
   ((vD d o a).a i H/\D.a c H)\/((vD d o a).b i H/\∃K:aR->ab->Prop,(∀j k,K j k->∃t,t<m/\I (i+1) t j k)/\∀x k,(vD d o a).c i H x k->g x c k λh r=>s {D with a:=K,c:=K,b:=D.a} h r):=by
 refine(λi m c H=>m=a.length-i/\i<=a.length/\f i c H,(a.length,by simp,eY _,u),?_);rintro i m c H ⟨rfl,A,p⟩;have q:=v i c H A p
 by_cases l:i<a.length
 ·refine .inr ((l,q),f<|i+1,λj k C=>(a.length-(i+1),ω,O,l,C),λx k y=>?_)
  obtain⟨e,n,b,E,rfl,G⟩:=y;subst e;exact w i n b c _ E G p
 ·have:i=a.length:=(û A (ô l))
  subst this;exact .inl ((O,q),z c H p)
end
noncomputable def cA.B{H b:ab}(r:cA H a u)(s:aL H b):cA b a u:=by
 rcases r with r|⟨o,r⟩
 ·exact .inl<|s _ _ r
 ·exact .inr (o,s _ _ r)
def qM(h:aW)(e d:W)(i n f:Nat):Prop:=∃(c:aa)(b:Bool)(k v:aa),(c=.none\/∃a:W,c=fP a)/\
 h.get? e=V {cls:=.type "dict_itemiterator",dict:=Y,data:=.fields #[c,.bool b,.ref d,.int i 0,.int n 0,.int f 0,k,v],slots:=#[]}
noncomputable def qM.B{h c:aW}{i n f:Nat}(x:qM h a d i n f)(k:∀o,h.get? a=V o->c.get? a=V o):qM c a d i n f:=by
 obtain⟨g,b,j,l,m,e⟩:=x;exact(g,b,j,l,m,k _ e)
section
variable{prog:bu}{w:bf}{A:bO}{E:Ω}{s:ak}{it d v:W}{i ep:Nat}{es:Array oX}
def adp{Q:Option bg->ak->Prop}(h:Q (s.heap.get? a) s):ax 2#0 A (loadIfAlive a) Q E s:=λ_ _ _=>h
def adw{Q:Ω}(c:s.heap.IsItemsView v d)(h:ik s.heap d es ep)(i:Q (.ref s⁻¹) {s with heap:=s.heap.push {cls:=.type "dict_itemiterator",data:=.fields #[.none,.bool aB,.ref d,.int 0 0,.int es.size 0,.int ep 0,.none,.none]}}):ax 2#0 A (qU<|.ref v) Q E s:=by
 obtain⟨k,e,j,f⟩:=id c;obtain⟨o,g,l,a⟩:=id h;refine ae0 c.typeIs agm<|mE agm c.typeIs PySem.F.entry_dict_items_iter ?_<|PySem.F.args_dict_items_iter_1 _;unfold Builtin.«dict_items.__iter__»;refine ag<|aG ?_;refine ag ?_;unfold alc;refine ag<|jJ e f (x:=.ref d) O<|aG ?_;refine ag ?_;unfold alb;refine ag<|nJ g a ?_;refine ag<|uj g a ?_;have b:Dh "dict_itemiterator"=ae:=ξ
 simp only[b,eD];refine nc (aG (_,O,"dict_itemiterator",_,(_,dg _ O,O),Dc.lookup,?_))
  (by simp only[sizeOk,ahh,cP,c_,dj,nq,jt];exact ä)
 simpa[fP,ahh] using i
def adx{Q:Option aa->ak->Prop}(G:qM s.heap it d i es.size ep)(hm:ik s.heap d es ep)(hx:i<es.size)(hQ:∀H,qM H it d (i+1) es.size ep->H.get? s⁻¹=V {cls:=.type "tuple",data:=.seq #[es[i].key,es[i].val]}->
   (∀b o,b≠it->s.heap.get? b=V o->H.get? b=V o)->Q (V<|.ref s⁻¹) {s with heap:=H}):ax 2#0 A (iV<|.ref it) Q E s:=by
 obtain⟨D,g,T,U,X⟩:=s;obtain⟨f0,fb,ok,ov,a5,G⟩:=G;obtain⟨od,a2,a7,a3⟩:=id hm;have hT:wz (D,g,T,U,X) 5#it "dict_itemiterator":=(_,G,O);unfold iV;refine ag (uk (pY (name:=jv "__next__") hT Dc
 <|mE Dc hT agv ?_<|ag0 _))
 refine ag<|aG ?_;refine ag ?_;refine ag ?_
 first|refine ag<|IC hT<|aG ?_|refine wpAny_bind<|wpAny_typeNameOf_itemiter hT<|wpAny_pure ?_
 refine ag<|II G O ?_;have a4:Dh "dict_itemiterator"=ae:=ξ
 simp only[a4,eD];show ax _ _ (if(Z d==bP)=ae then _ else _) _ _ _;rw[am<|show ¬((Z d==bP)=ae) from dY];refine ag<|aG ?_;refine ag<|nJ a2 a3 ?_;rw[am 0#0];refine ag<|aG ?_;refine ag<|uj a2 a3 ?_;rw[am 0#0];refine aG ?_;simp only[show ¬((i:Int)<0) from ω,da,tj,DP hx];refine ag ?_
 first|refine ag<|IC hT<|aG ?_|refine wpAny_bind<|wpAny_typeNameOf_itemiter hT<|wpAny_pure ?_
 refine ag<|QZ hT ?_;show ax _ _ (ul 5#it 3 (fP<|(i:Int)+1) >>= _) _ _ (D,g,T,U,X);refine ag<|oT G 0#0 λh k l=>?_;replace l:i_ it D h:=l;replace k:h.get? it=V {cls:=.type "dict_itemiterator",dict:=Y,data:=.fields #[f0,.bool fb,.ref d,.int ((i+1:Nat):Int) 0,.int es.size 0,.int ep 0,ok,ov],slots:=#[]}:=by
  have e:((i+1:Nat):Int)=(i:Int)+1:=ω
  rw[e];simpa[fP] using k
 have r:wz (h,g,T,U,X) 5#it "dict_itemiterator":=(_,k,O);refine ag<|fO ?_;refine ag<|QZ r ?_;refine ag<|QZ r ?_;show ax _ _ (ahf 5#it 6 es[i].key es[i].val) _ _ (h,g,T,U,X);unfold ahf;refine ag<|IF ?_;have f:(h.push {cls:=.type "tuple",data:=.seq #[es[i].key,es[i].val]}).get? it=V {cls:=.type "dict_itemiterator",dict:=Y,data:=.fields #[f0,.bool fb,.ref d,.int ((i+1:Nat):Int) 0,.int es.size 0,.int ep 0,ok,ov],slots:=#[]}:=bQ _ k;generalize t:h.push {cls:=.type "tuple",data:=.seq #[es[i].key,es[i].val]}=j at f;have u:h.objs.size=D.objs.size:=l.1;have I:it<D.objs.size:=cy G;have v:j.get? D.objs.size=V {cls:=.type "tuple",data:=.seq #[es[i].key,es[i].val]}:=by rw[<-t,<-u];exact dg _ O
 have y:∀b o,b≠it->D.get? b=V o->j.get? b=V o:=λb o L e=>by rw[<-t];exact bQ _<|l.extBut b o L e
 show ax _ _ (ahg 5#it >>= _) _ _ (j,g,T,U,X);rw[u];clear t k l r u h;have M:∀(E':Ω)(R:Ω),(∀H,qM H it d (i+1) es.size ep->H.get? D.objs.size=V {cls:=.type "tuple",data:=.seq #[es[i].key,es[i].val]}->
   (∀b o,b≠it->D.get? b=V o->H.get? b=V o)->R (.ref D.objs.size) (H,g,T,U,X))->ax 2#0 A.in1 (do
    let a6:=[<-qW 5#it 6,<-qW 5#it (6+1)]
    ul 5#it 6 es[i].key;ul 5#it (6+1) es[i].val
    ul 5#it 0 (fP D.objs.size);ul 5#it 1 (.bool aB)
    letGo a6 [.ref D.objs.size]
    return .ref D.objs.size) R E' (j,g,T,U,X):=by
  intro E' R hR;refine ag<|jJ f O (x:=ok) O ?_;refine ag<|jJ f O (x:=ov) O ?_;refine ag<|oT f 0#0 λq z c=>?_;replace c:i_ it j q:=c;refine ag<|oT z 0#0 λP a0 m=>?_;replace m:i_ it q P:=m;refine ag<|oT a0 0#0 λS a1 n=>?_;replace n:i_ it P S:=n;refine ag<|oT a1 0#0 λK C p=>?_;replace p:i_ it S K:=p;replace C:K.get? it=V {cls:=.type "dict_itemiterator",dict:=Y,data:=.fields #[fP D.objs.size,.bool aB,.ref d,.int ((i+1:Nat):Int) 0,.int es.size 0,.int ep 0,es[i].key,es[i].val],slots:=#[]}:=C;refine ag<|kf<|aG<|hR K (_,_,_,_,.inr (_,O),C) ?_ ?_
  ·exact p.extBut _ _ (jx I)<|n.extBut _ _ (jx I)<|m.extBut _ _ (jx I)<|c.extBut _ _ (jx I) v
  ·exact λb o L e=>p.extBut b o L<|n.extBut b o L<|m.extBut b o L<|c.extBut b o L<|y b o L e
 refine ag ?_;unfold ahg;refine ag<|jJ f O (x:=f0) O ?_;rcases a5 with rfl|⟨a,rfl⟩
 ·refine aG ?_
  simp only[eD];exact M _ _ λH x1 x2 x3=>aG (_,O,aG<|hQ H x1 x2 x3)
 ·dsimp only[fP]
  refine ag<|adp ?_;cases a8:j.get? ((a:Int)).toNat with
  |none=>
   simp only[Option.isNone_none,eD];refine aG ?_;simp only[eD];exact M _ _ λH x1 x2 x3=>aG (_,O,aG<|hQ H x1 x2 x3)
  |some oa=>
   simp only[Option.isNone_some,dK,da];refine ag<|jJ f O (x:=.bool fb) O ?_;refine IG (λ_=>?_) (λ_=>?_)
   ·refine ag<|oT f 0#0 λq z c=>?_
    replace c:i_ it j q:=c;refine aG ?_;simp only[dK,da];refine aG<|aG (_,O,aG<|hQ q (_,_,_,_,.inr (a,O),z) ?_ ?_)
    ·exact c.extBut _ _ (jx I) v
    ·exact λb o L e=>c.extBut b o L<|y b o L e
   ·refine aG ?_
    simp only[dK,da];exact aG<|aG (_,O,aG<|hQ j (_,_,_,_,.inr (a,O),f) v y)
def ady{Q:Option aa->ak->Prop}(j:A.handled=Y)(c:qM s.heap it d es.size es.size ep)(k:ik s.heap d es ep)(l:∀i,Jn it s.heap i->Q Y {s with heap:=i}):ax 2#0 A (iV<|.ref it) Q E s:=by
 obtain⟨p,q,r,t,n,c⟩:=c;obtain⟨u,f,o,g⟩:=id k;have e:s.TypeIs 5#it "dict_itemiterator":=(_,c,O);unfold iV;refine ag (uk (pY (name:=jv "__next__") e Dc
 <|mE Dc e agv ?_<|ag0 _))
 refine ag<|aG ?_;refine ag ?_;refine ag ?_
 first|refine ag<|IC e<|aG ?_|refine wpAny_bind<|wpAny_typeNameOf_itemiter e<|wpAny_pure ?_
 refine ag<|II c O ?_;have h:Dh "dict_itemiterator"=ae:=ξ
 simp only[h,eD];show ax _ _ (if(Z d==bP)=ae then _ else _) _ _ s;rw[am<|show ¬((Z d==bP)=ae) from dY];refine ag<|aG ?_;refine ag<|nJ f g ?_;rw[am 0#0];refine ag<|aG ?_;refine ag<|uj f g ?_;rw[am 0#0];refine aG ?_;simp only[show ¬((es.size:Int)<0) from ω,da,tj,To (aV es.size)];refine ag ?_
 first|refine ag<|IC e<|aG ?_|refine wpAny_bind<|wpAny_typeNameOf_itemiter e<|wpAny_pure ?_
 show ax _ _ (ul 5#it 2 .none >>= _) _ _ s;refine ag<|Cz c O 0#0 ?_;show ax _ _ (yS (.type "StopIteration") [] >>= _) _ _ _;refine ag ?_;simp only[yS,Ro];refine ag<|nc ?_ (by size_fits);refine ag (m:=Rv _ _)<|oU (a:=bP) (by first|rfl|(simp only[firstArgMember];rfl)) ?_;refine nc ?_ (by size_fits);simp only[Rk];refine ag<|Q_ ?_;rw[show A.in1.handled=Y from j];refine ag<|aG<|QT ?_;refine ag<|CA (T:="StopIteration") (b:=ae) (_,dg _ O,O) Rs ?_;exact aG<|l _<|((jw ..).extBut.push _).push _
def so(h:aW)(es:Array oX)(a:List W)(i:Nat):Prop:=a.length=i/\a.Nodup/\∀(j:Nat) t,a[j]?=V t->∃e,es[j]?=V e/\h.get? t=V {cls:=.type "tuple",data:=.seq #[e.key,e.val]}
def ad0{S:W}{I:aa}{R:sH->ak->Prop}{z:Nat}(hh:A.handled=Y)(hn:es.size<=bD)(x:S≠it)(U:S≠d)(X:it≠d):∀(k i:Nat)(s:ak)(f:List W)(c:Nat),es.size-i=k->i<=es.size->qM s.heap it d i es.size ep->ik s.heap d es ep->
   s.heap.get? S=V {cls:=.type "list",dict:=Y,data:=.seq (f.map Z).toArray c,slots:=#[]}->so s.heap es f i->z<=s⁻¹->(∀t∈f,z<=t)->
   (∀m tk n c',m.get? S=V {cls:=.type "list",dict:=Y,data:=.seq (n.map Z).toArray c',slots:=#[]}->so m es n es.size->(∀t∈n,z<=t)->
    (∀b o,b≠S->b≠it->s.heap.get? b=V o->m.get? b=V o)->R (.ok<|.ret I) {s with heap:=m,toks:=tk})->
   iD 2#0 A (.builtin "list.extend.loop" ([.ref S,.ref it,I],[])) R s:=by
 have g:∀{h m:aW}{f:List W}{i:Nat}{oS oI:bg},h.get? S=V oS->oS.cls=.type "list"->h.get? it=V oI->oI.cls=.type "dict_itemiterator"->(∀b o,b≠S->b≠it->h.get? b=V o->m.get? b=V o)->so h es f i->so m es f i:=by
  intro h m f i oS oI C cS hI cI kk tt;refine(tt.1,tt.2.1,λj t e=>?_);obtain⟨en,e1,r⟩:=tt.2.2 j t e;refine(en,e1,kk _ _ (λy=>?_) (λy=>?_) r)
  ·rw[y,C] at r;rw[bM r] at cS;exact bh (show aC "tuple"=aC "list" from cS) ξ
  ·rw[y,hI] at r;rw[bM r] at cI;exact bh (show aC "tuple"=aC "dict_itemiterator" from cI) ξ
 intro k
 induction k with
 |zero=>
  intro i s f c hk hi p Q C q hz D hR;have a0:i=es.size:=ω
  subst a0;obtain⟨f0,fb,k0,v0,_,E⟩:=id p;refine iC agt ?_;rw[ja Dd _];show ax _ A.in1 (iV 5#it >>= _) _ _ s;refine ag<|ady (A:=A.in1) hh p Q λm eb=>?_;exact aG<|hR m s.toks f c (eb _ _ x C) (g C O E O (λb o _ l e=>eb b o l e) q) D λb o _ l e=>eb b o l e
 |succ k ih=>
  intro i s f c hk hi p Q C q hz D hR;have G:i<es.size:=ω
  obtain⟨f0,fb,k0,v0,_,E⟩:=id p;refine iC agt ?_;rw[ja Dd _];show ax _ A.in1 (iV 5#it >>= _) _ _ s;refine ag<|adx (A:=A.in1) p Q G λv K L T=>?_;have H:=T S _ x C;have a6:s⁻¹<v.objs.size:=cy L;obtain⟨a7,a8,a9,b0,_,M⟩:=id K;have a1:so v es (f++[s⁻¹]) (i+1):=by
   have t0:=g C O E O (λb o _ l e=>T b o l e) q;refine(by rw[c_,q.1];rfl,?_,λj t e=>?_)
   ·rw[kg]
    refine(q.2.1,by simp,λa ha b l=>?_);have a2:b=s⁻¹:=by simpa using l
    obtain⟨j,hj⟩:=zA ha;obtain⟨en,_,r⟩:=q.2.2 j a hj;rw[a2];exact cM<|cy r
   ·by_cases hj:j<f.length
    ·rw[ph hj] at e
     exact t0.2.2 j t e
    ·have a3:j=i:=by
      have:=(bY.mp e).1;rw[c_] at this;simp at this;have:=q.1;omega
     subst a3;rw[pg (ô hj),q.1,wM] at e;have:t=s⁻¹:=(bM e).symm;rw[this];exact(_,DP G,L)
  show ax _ A.in1 (qT S (·.push<|.ref s⁻¹) >>= _) _ _ _;refine ag ?_;have u:∀b o,b≠S->v.get? b=V o->(v.update S (cD (·.push<|Z s⁻¹))).get? b=V o:=λb o l e=>(qc _ _<|dp l).trans e;have e0:((f.map Z).toArray.push<|.ref s⁻¹)=((f++[s⁻¹]).map Z).toArray:=by simp
  obtain⟨c2,a4⟩:∃c2,(v.update S (cD (·.push<|Z s⁻¹))).get? S=V {cls:=.type "list",dict:=Y,data:=.seq ((f++[s⁻¹]).map Z).toArray c2,slots:=#[]}:=by
   rw[<-e0];exact(_,rh _ H O)
  refine m_ H O (aG (iK Dd _,ih (i+1) _ (f++[s⁻¹]) c2 ω G (K.B λo e=>u _ o (dp x) e) ((Q.B λo e=>T _ o (dp X) e).B λo e=>u _ o (dp U) e) a4 (g H O M O (λb o l _ e=>u b o l e) a1) ?_ ?_ λm tk n c' e1 r e3 e4=>?_))
   (by simp only[cP,au];rw[q.1];exact à hi hn) (by simp only[Kr,cP,au];rw[q.1];exact í (à G hn))
  ·have:(v.update S (cD (·.push<|Z s⁻¹))).objs.size=v.objs.size:=(jw ..).1
   show z<=(v.update S (cD (·.push<|Z s⁻¹))).objs.size;rw[this];exact à hz (ì a6)
  ·intro t a5
   rcases dt.mp a5 with y|y
   ·exact D t y
   ·have:t=s⁻¹:=by simpa using y
    rw[this];exact hz
  ·exact hR m tk n c' e1 r e3 λb o l P e=>e4 b o l P<|u b o l<|T b o P e
end
section
variable{prog:bu}{w:bf}{A:bO}{E:Ω}{s:ak}{r d:W}{ep:Nat}{es:Array oX}
def adz{Q:Bool->ak->Prop}(d:s.TypeIs 5#r "dict_items")(h:Q aB s):ax 2#0 A (ahc<|.ref r) Q E s:=by
 unfold ahc;refine ag<|QV d PySem.F.slot_dict_items_len.lookup ?_;generalize c:("dict_items.__len__":String)=e
 wp_delta
 rw[show splitId e=V (aez ("dict_items") ("__len__")) from by subst c;decide +kernel];subst c;refine ag<|CA (T:="dict_items") (b:=ae) d (by rw[Rr];kernel_rfl) ?_;refine IG (λa=>bh a ξ) (λ_=>?_);refine IG (λ_=>?_) (λa=>bh δ a);refine ag<|uh d ?_;exact aG h
def adu{R:sH->ak->Prop}{z:Nat}(hh:A.handled=Y)(E:s.heap.IsItemsView r d)(G:ik s.heap d es ep)(hn:es.size<=bD)(S:W)(H:S≠r)(q:S≠d)(X:z<=s⁻¹)(k:aa)(i:Nat)(hS:s.heap.get? S=V {cls:=.type "list",data:=.seq #[] i})(hR:∀n C I p,(∀b o,b≠S->s.heap.get? b=V o->n.get? b=V o)->n.get? S=V {cls:=.type "list",dict:=Y,data:=.seq (I.map Z).toArray p,slots:=#[]}->so n es I es.size->(∀t∈I,z<=t)->R (.ok<|.ret k) {s with heap:=n,toks:=C}):ax 2#0 A.in1 (Dg 5#S 5#r k)
   (λfin D=>match fin with|.done f=>R (.ok f) D|.again p=>p.quiet=ae/\iD 2#0 A p R D) (λe D=>R (.error e) D) s:=by
 have l:S≠s⁻¹:=cM<|cy hS;have K:s⁻¹≠d:=jx G.F;have u:∀(h:aW)(c C:Nat),qM h s⁻¹ d 0 es.size ep->s⁻¹<=h.objs.size->(∀b o,b≠S->s.heap.get? b=V o->h.get? b=V o)->
   h.get? S=V {cls:=.type "list",data:=.seq #[] c}->iD 2#0 A (.builtin "list.extend.loop" ([.ref S,.ref s⁻¹,k],[])) R {s with heap:=h,toks:=C}:=by
  intro h c C L M hk a;refine ad0 (z:=z) hh hn l q K es.size 0 _ [] c O (eY _) L (G.B λo e=>hk _ o (dp q) e) a (O,lS,λj t e=>by simp at e) (dq X M) (λt ht=>nomatch ht) λn P Q p e1 e2 e3 e4=>?_;exact hR n P Q p (λb o v e=>e4 b o v (λy=>bh (cy e) (by rw[y];exact nQ _))<|hk b o v e) e1 e2 e3
 unfold Dg;refine ag<|uh (T:="dict_items") E.typeIs ?_;have h1:ahb 5#S 5#r=aB:=by simp[ahb,H]
 have h2:(aC "dict_items" == aC "list")=aB:=ξ
 have h3:(aC "dict_items" == aC "tuple")=aB:=ξ
 simp only[h1,h2,h3,Bool.or_false,dK,da];refine ag<|adw E G ?_;have a:=bQ {cls:=.type "dict_itemiterator",data:=.fields #[.none,.bool aB,.ref d,.int 0 0,.int es.size 0,.int ep 0,.none,.none]} hS;have st:qM (s.heap.push {cls:=.type "dict_itemiterator",data:=.fields #[.none,.bool aB,.ref d,.int 0 0,.int es.size 0,.int ep 0,.none,.none]}) s⁻¹ d 0 es.size ep:=(_,_,_,_,.inl O,dg _ O);have U:wz {s with heap:=s.heap.push {cls:=.type "dict_itemiterator",data:=.fields #[.none,.bool aB,.ref d,.int 0 0,.int es.size 0,.int ep 0,.none,.none]}} 5#r "dict_items":=by
  obtain⟨o,ho,hc,_⟩:=E;exact(o,bQ _ ho,hc)
 refine ag<|fO<|adz U ?_;have x:∀o:bg,s⁻¹<=(s.heap.push o).objs.size:=λo=>by rw[rf];exact ü
 refine IG (λ_=>?_) (λ_=>aG (iK Dd _,u _ i _ st (x _) (λb o _ e=>bQ _ e) a));refine ag<|mD ?_;refine ag ?_;show ax _ _ (qT S (·.push .none) >>= λ_=>qT S (·.pop)) _ _ _;refine ag<|m_ a O ?_;have g:=rh (cD (·.push bP)) a O;refine m_ (hz:=by seq_fits) g O ?_;have m:=rh (cD (·.pop)) g O;refine aG (iK Dd _,u _ _ _ ?_ ?_ (λb o v e=>?_) m)
 ·exact(st.B λo e=>(qc _ _ l).trans e).B λo e=>(qc _ _ l).trans e
 ·rw[(jw ..).1,(jw ..).1];exact x _
 ·exact(qc _ _<|dp v).trans<|(qc _ _<|dp v).trans<|bQ _ e
def adt{R:sH->ak->Prop}{z:Nat}(x:A.handled=Y)(y:s.heap.IsItemsView r d)(C:ik s.heap d es ep)(D:es.size<=bD)(S:W)(i:S≠r)(j:S≠d)(E:z<=s⁻¹)(p:s.heap.get? S=V {cls:=.type "list",data:=.seq #[]})(hR:∀g q k h,(∀b o,b≠S->s.heap.get? b=V o->g.get? b=V o)->g.get? S=V {cls:=.type "list",dict:=Y,data:=.seq (k.map Z).toArray h,slots:=#[]}->so g es k es.size->(∀t∈k,z<=t)->R (.ok<|.ret .none) {s with heap:=g,toks:=q}):ax 2#0 A.in1 (Builtin.«list.__init__» ([.ref S,.ref r],[]))
   (λfin m=>match fin with|.done f=>R (.ok f) m|.again h=>h.quiet=ae/\iD 2#0 A h R m) (λe m=>R (.error e) m) s:=by
 show ax _ _ (do let u <-ahd 5#S;ak8 5#S (λ_=>#[]);letGo u.toList.reverse;Dg 5#S 5#r .none) _ _ s;refine ag ?_;unfold ahd;refine ag<|iU p O<|aG ?_;show ax _ _ (qT S (λ_=>#[]) >>= λ_=>letGo (#[]:Array aa).toList.reverse >>= λ_=>Dg 5#S 5#r .none) _ _ s;refine ag<|m_ p O ?_;have a:=rh (cD (λ_=>(#[]:Array aa))) p O;have c:∀b o,b≠S->s.heap.get? b=V o->(s.heap.update S<|cD (λ_=>(#[]:Array aa))).get? b=V o:=
  λb o n e=>(qc _ _<|dp n).trans e
 refine ag<|kf ?_;obtain⟨o,G,H,I⟩:=id y;refine adu (s:={s with heap:=s.heap.update S<|cD (λ_=>(#[]:Array aa))}) x (o,c _ _ (dp i) G,H,I) (C.B λo e=>c _ o (dp j) e) D S i j (by show z<=(s.heap.update S<|cD (λ_=>(#[]:Array aa))).objs.size;rw[(jw ..).1];exact E) .none _ a λg q k h K v l L=>?_;exact hR g q k h (λb o n e=>K b o n<|c b o n e) v l L
def adv{Q:Ω}(q:A.handled=Y)(u:s.heap.IsItemsView r d)(m:ik s.heap d es ep)(v:es.size<=bD)(x:∀c j f k,(∀b o,s.heap.get? b=V o->c.get? b=V o)->c.get? s⁻¹=V {cls:=.type "list",dict:=Y,data:=.seq (f.map Z).toArray k,slots:=#[]}->so c es f es.size->(∀t∈f,s⁻¹<t)->Q (.ref s⁻¹) {s with heap:=c,toks:=j}):ax 2#0 A (im (.type "list") [.ref r]) Q E s:=by
 refine callType_codes (Q₁:=λg a=>g=.ref s⁻¹/\a={s with heap:=s.heap.push {cls:=.type "list",data:=.seq #[]}}) PySem.F.called_list (PySem.F.typeCall_list_1 _) PySem.F.entry_list_init
  (code_list_new _ (O,O)) λg a h=>?_
 obtain⟨rfl,rfl⟩:=h;have n:(s.heap.push {cls:=.type "list",data:=.seq #[]}).get? s⁻¹=V {cls:=.type "list",data:=.seq #[]}:=dg _ O;obtain⟨o,p,y,C⟩:=id u;refine((_,n,O),PySem.F.args_list_init_2 _ _,adt (A:=A.in1) (z:=s⁻¹+1) q (o,bQ _ p,y,C) (m.B λo e=>bQ _ e) v _ (jx<|cy p) (jx m.F) (by show _<=(s.heap.push _).objs.size;rw[rf];exact aV _) n λc j f k D l i G=>?_);exact(O,x c j f k (λb o e=>D b o (cM<|cy e)<|bQ _ e) l i λt H=>G t H)
end
section
variable{X:a_}{pins:Ψ}{σ:aR}{H:ab}{s:ak}
def NK:∀(a:List (W×List af))(H:ab),aA X pins σ H s->(a.map (·.1)).Nodup->(∀r∈a,fF X pins H r.1/\X.d⁻¹<=r.1/\r.2.length<=bD/\∃b:List aa,co r.2 b/\kW s.heap r.1 b.toArray)->
  ∃f,aA X pins σ f s/\aL H f/\∀r∈a,f r.1=V (.tup r.2)
 |[],H,I,_,_=>(H,I,aL.refl _,λr k=>nomatch k)
 |r::c,H,I,l,h=>by
  obtain⟨⟨i,m,G,K,n,p⟩,t,u,b,v,w⟩:=h r fE;have d:(r.1::c.map (·.1)).Nodup:=l;rw[jM] at d;have x:=I.B7 (o:=.tup r.2) i t m n p (u,b,v,w);have z:=aL.B (o:=.tup r.2) i;obtain⟨f,A,j,g⟩:=NK c (aD H r.1<|.tup r.2) x d.2 λq e=>by
   obtain⟨⟨C,D⟩,E⟩:=h q<|gd _ e;refine((?_,D),E);rw[aZ (λy=>d.1 (by rw[<-y];exact aO.mpr (q,e,O)))];exact C
  refine(f,A,z.F j,λq e=>?_);rcases cz.mp e with rfl|e
  ·exact j _ _ az
  ·exact g q e
end
section
variable{X:a_}
noncomputable def xF(v d:W):df:=.ext λh=>h.IsItemsView v d
inductive EP(x:af)(vs:List af)(H:ab)(Q:aU):Prop
 |a:∀d kvs,(x=.ref d)->(vs=[])->(cA H d<|.a kvs)->(∀v,H v=Y->Q 5#v (aD H v<|xF v d))->EP x vs H Q
def Wx:xO X "dict.items" EP:=by
 intro f s w H x y v C Q I j l h;obtain⟨d,e,rfl,rfl,m,q⟩:=h;cases j;obtain rfl:=l.zero;obtain⟨z,n,D,r,o,E,G,g,i,K,L,M⟩:=(show di X.prog X.w H s.heap d (.a e) from m.F I.a);have a:s.TypeIs 5#d "dict":=(o,g,i.1);have t:MeetsIn X.prog X.w (Builtin.«dict.items» ([.ref d],[])) (λ_ R s=>s.TypeIs 5#d "dict"/\R (.ok<|.ret<|.ref s⁻¹) {s with heap:=s.heap.push {cls:=.type "dict_items",data:=.fields #[.ref d]}}):=
  .of_wp λA R s (a,h)=>by
   unfold Builtin.«dict.items»;refine ag ?_;unfold alg;refine ag<|IE a ?_;show ax _ _ (aX d) _ _ s;refine aG ?_;show ax _ _ (zh d >>= _) _ _ s;unfold zh;rw[am (by rw[n];exact dY)];refine ag<|aG ?_;exact ag<|nc<|aG (_,O,h)
 refine yT agn a PySem.F.entry_dict_items (PySem.F.args_dict_items_1 _) t (a,?_);refine(.ref s⁻¹,_,I.F (t':=s.toks) (o:=xF s⁻¹ d) (λb P q=>bQ _ q) (aV _) ?_,O,q _<|I.a.B<|aV _);refine((_,dg _ O,O,O),(_,dg _ O),λg i p k=>?_);obtain⟨o,u,c⟩:=p;exact(o,k o u,c)
def Vw(a:bd):bd:=λb H Q=>a b H λx c=>EP x [] c Q
def Wg{k:bd}{b c:ci}(u:bG X o k)(g:CJ o "items" X.env (dN o X.env)=dN o X.env:=by rfl)(i:(b.endLine==c.line)=ae:=by rfl):bG X (.Call (.Attribute o "items" b) [] [] c) (Vw k):=by
 intro f s l H Q I h;refine afc g i<|bH (u f s l H _ I h) λv m (x,n,p,w,q)=>?_;have y:=q;obtain⟨d,j,rfl,_,A,_⟩:=q;cases w;obtain⟨_,_,_,_,r,_,_,e,t,_⟩:=(show di X.prog X.w n m.heap d (.a j) from A.F p.a);exact("dict","dict.items",Jt,agn,PySem.F.type_dict_items,(r,e,t.1),(λa z=>by cases z;exact(r,e,t.2.1)),Jw O<|afl<|Wx f m l n 5#d [] 5#d [] Q p O .nil y)
def XG(hc:X.b=ae):iS X (.type "list") (λxs H Q=>∃v d k,xs=[.ref v]/\H v=V (xF v d)/\cA H d (.a k)/\
  ∀n(l:W)(m:List W),aL H n->H l=Y->n l=V (.lst<|m.map af.ref)->eI (λt(e:List aK×af)=>∃b,n t=V (.tup [.ref b,e.2])/\n b=V (.tup<|e.1.map cR)) m k->Q 5#l n):=by
 intro M s σ H xs us Q I r h;obtain⟨v,d,k,rfl,hv,hd,q⟩:=h;obtain⟨u,rfl,ru⟩:=ir r;cases ru;have a0:s.heap.IsItemsView v d:=(show di X.prog X.w H s.heap v (xF v d) from I.a v _ hv).1;obtain⟨z,hs,L,w,o,es,ep,h1,h2,h3,h4,h5⟩:=(show di X.prog X.w H s.heap d (.a k) from hd.F I.a);have K:es.size=k.length:=by
  have:=fj ar h4;rw[au,<-iM w] at this
  simpa using this
 refine adv (I.b.a hc) a0 (o,h1,h2,h3) (by rw[K];exact z) λh' tk m c' kk hl S a1=>?_;have hL:H s⁻¹=Y:=I.a.B<|aV _;have vv:∀m:List W,co (m.map af.ref) (m.map Z):=λm=>by
  induction m with
  |nil=>exact .nil
  |cons b bs ih=>exact .cons O ih
 have I1:aA X M σ (aD H s⁻¹<|.lst<|m.map af.ref) {s with heap:=h',toks:=tk}:=I.F kk (aV _) (by rw[au,S.1,K];exact z,_,c',vv m,hl);have s1:=aL.B (o:=.lst<|m.map af.ref) hL;have P:m.length=k.length:=by rw[S.1,K]
 have R:∀(j:Nat)(t:W)(e:List aK×af),m[j]?=V t->k[j]?=V e->∃(y:List aK×W×aa),H y.2.1=V (.tup<|e.1.map cR)/\cg e.2 y.2.2/\L[j]?=V y/\h'.get? t=V {cls:=.type "tuple",data:=.seq #[.ref y.2.1,y.2.2]}:=by
  intro j t e E A;obtain⟨en,T,U⟩:=S.2.2 j t E;obtain⟨y,G,g4,g5⟩:=MK w A;obtain⟨y',g6,g7⟩:=Fq w A;rw[G] at g6;obtain rfl:=bM g6;have g8:es.toList[j]?=V en:=by simpa using T
  rw[h4,bV,G] at g8;simp only[nj,oZ] at g8;refine(y,g7,g5,G,?_);rw[U,<-g8]
  rfl
 let p:List (W×List af):=(m.zip<|L.zip k).map λq=>(aez q.1 ([.ref q.2.1.2.1,q.2.2.2]))
 have a4:L.length=k.length:=(iM w).symm;have a2:p.map (·.1)=m:=by
  show((m.zip<|L.zip k).map λq=>(aez q.1 ([af.ref q.2.1.2.1,q.2.2.2]))).map (·.1)=m;rw[bN];show(m.zip<|L.zip k).map ni=m;rw[zx];rw[uK];omega
 have C:∀(j:Nat)(t:W)(e:List aK×af)(y:List aK×W×aa),m[j]?=V t->k[j]?=V e->L[j]?=V y->(aez t ([af.ref y.2.1,e.2]))∈p:=by
  intro j t e y E A e3;refine aO.mpr ((aez t (aez y e)),dh (i:=j) ?_,O);rw[JV];exact(E,by rw[JV];exact(e3,A))
 obtain⟨n,I',sm,g⟩:=NK p _ I1 (by rw[a2];exact S.2.1) λr hr=>by
  obtain⟨⟨t,y,e⟩,hq,rfl⟩:=aO.mp hr;obtain⟨j,hj⟩:=zA hq;rw[JV] at hj;obtain⟨j1,j2⟩:=hj;rw[JV] at j2;obtain⟨j2,j3⟩:=j2;obtain⟨y',T,U,G,g4⟩:=R j t e j1 j3;rw[j2] at G;obtain rfl:=bM G;have D:s⁻¹<t:=a1 t<|dh j1;refine(I.A0 (qe D) ?_,dq I.sz<|qe D,by show 2<=bD;rw[jt];exact ä,[.ref y.2.1,y.2.2],.cons O<|.cons U .nil,(_,g4,O,_,O));rw[aZ<|jx D];exact I.a.B<|qe D
 have a3:∀(a:List W)(b:List (List aK×af)),a.length=b.length->(∀(j:Nat) t e,a[j]?=V t->b[j]?=V e->∃c,n t=V (.tup [.ref c,e.2])/\n c=V (.tup<|e.1.map cR))->eI (λt(e:List aK×af)=>∃b,n t=V (.tup [.ref b,e.2])/\n b=V (.tup<|e.1.map cR)) a b:=by
  intro a
  induction a with
  |nil=>
   intro b hb _;cases b with
   |nil=>exact .nil
   |cons x y=>simp at hb
  |cons x a ih=>
   intro b hb f;cases b with
   |nil=>simp at hb
   |cons y b=>exact .cons (f 0 x y O O)<|ih b 6#hb λj t e E A=>f (j+1) t e 6#E 6#A
 refine(.ref s⁻¹,n,I',O,q n _ m (s1.F sm) hL (sm _ _ az)<|a3 _ _ P λj t e E A=>?_);obtain⟨y,T,U,G,g4⟩:=R j t e E A;exact(y.2.1,g _<|C j t e y E A G,sm _ _<|s1 _ _ T)
end
noncomputable abbrev Bo:cJ:=dW 51
abbrev yr(K:aY):List af->ab->aU->Prop:=xq K
abbrev Op(K:aY):dO:=jd<|dk (jB λi j=>.c<|aE<|j<i) (oq (yr K)<|eR (bw 1) gg)<|gh<|.int 1
section
variable{P:bu}{w:bf}{K:aY}{mg:aq->Option aa}{base:aW}
def Zm{i:ab}{b:List Int}{Q:aU}(s:de i a b)(I:b.length<=5)(y:i D=Y)(k:∀(c:ab)(f:List W),aL i c->c D=V (.lst<|f.map af.ref)->bA c f (dP b)->Q 5#D c):dU (jX 0 b.length) (dw 0) (Op K) AK [Y,V<|.ref a] i D Q:=by
 refine qw (λj t q c=>∃(v:Option af)(f:List W),t=[v,V<|.ref a]/\aL i c/\c D=V (.lst q)/\q=f.map af.ref/\bA c f ((dP b).take j)) ?_ ?_ ?_
 ·exact(Y,[],O,aL.B y,az,O,by rw[Dv];exact .nil)
 ·rintro j t q c u A ⟨v,f,rfl,g,d,rfl,h⟩
  refine(_,O,a,_,O,.inr<|fg.B<|g.J s,_,_,O,O,_,O,?_);rw[au]
  by_cases C:b.length=1
  ·have w:dP b=[]:=by unfold dP;rw[av C]
   rw[cw ω];refine dT<|oB u A (_,f,O,g,d,O,?_);rw[w] at h ⊢;rw[ah9] at h ⊢;exact h
  ·have w:dP b=(cr b.length).map λk=>b.take k++b.drop (k+1):=by unfold dP;rw[am C]
   rw[bT ω];refine eS ?_;have e:(dP b)[j]?=V (b.take j++b.drop (j+1)):=by rw[w,bV,pf u];rfl
   refine(_,O,_,O,_,O,a,_,O,g.J s,λE L l m=>(_,O,_,O,_,_,O,O,_,O,a,_,O,l _ _<|g.J s,λG M n o=>?_));rw[show(0:Int)+((j:Nat):Int)=((j:Nat):Int) from ω,HH _ _ (by rw[au];exact ì u),<-Dy] at m;rw[show(0:Int)+((j:Nat):Int)+1=((j+1:Nat):Int) from ω,HI _ _ (by rw[au];exact u),<-DB] at o;refine(E,G,_,_,O,O,n _ _ m,o,bR (by simp;omega),λH P x p=>?_);rw[<-bU] at p;have r:=(l.F n).F x;refine fz (bR (â I)) u A (r _ _ d) (_,f++[H],O,(g.F r).N y,az,by rw[bU];rfl,?_);rw[cG e];exact ka (bA.J (r.M h) p) (r _ _ d) (by intro R z;cases z)
 ·rintro t q c ⟨v,f,rfl,g,d,rfl,h⟩
  rw[eV<|sd b] at h;exact k c f g d h
def YT:dG ["piece"] ["piece"] (bX Bo):=(O,O,O,δ,O,δ,δ)
def η(F:b_ K "_law_rims" "_law_rims" Bo f g)(z:fN mg):ce P w K mg base bx 1 f g ["piece"] tT:=by
 refine F.B YT (λo H Q E h=>?_) (λp A d s H o Q E y h=>?_)
 ·obtain⟨a,q,rfl,_⟩:=h;rfl
 ·obtain⟨a,q,rfl,j,r,k⟩:=h
  refine(_,bF (cX (fe ["piece"] ["k","piece"] [Y,V 0] (ou O z.b<|ao (dM fX O z.a fq<|ao 7#0 aF) aF) (λl C b c m=>cx (i:=0) (eF ["k","piece"]) O<|ai O)
    (λl C b c m=>lq<|dD xB (dM fX O z.a fq<|ao 7#1 aF) bb<|dF _)
    (λl C b c m=>bW xC (qq vh 7#1 nz<|ny<|ah 0)<|qq vh 7#1 (ny<|bW iv 7#0 bb) nz) (hfr:=ii (bX Bo) δ) (tc:=Op K) (te:=AK))),?_)
  refine(_,O,a,_,O,.inr<|fg.B j,_,O,by rw[au];omega,by rw[au];omega,λD n=>?_);rw[au];exact eP<|Zm j r n λt u v e x=>k D t u v n e x
def mq{b:W}(h:de H b a):H b=V (.tup<|(a.map aN:List aK).map cR):=by rw[bN];exact h
def GU{q:List W}{l:Ξ}{Q:aU}{p:List Int->Bool}{u:dO}{c:List (Option af)}(s:∀(o:W)(i:List Int)(H:ab)(R:Bool->ab->Prop),aL g H->de H o i->i∈l->(∀w,aL H w->R (p i) w)->u (V 5#o::c) H R)(M:bI K g L (q.map af.ref))(y:bA g q l)(X:l.length<=1000)(A:g D=Y)(k:∀b e,aL g b->b D=V (.lst<|e.map af.ref)->bA b e (l.filter p)->Q 5#D b):dU (gY K L) (dw 0) u (bw 0) (Y::c) g D Q:=by
 have t:=y.B;refine jT (xs:=q.map af.ref) (λj r m b=>∃(v:Option af)(e:List W),r=v::c/\aL g b/\b D=V (.lst m)/\m=e.map af.ref/\bA b e ((l.take j).filter p)) ?_ ?_ ?_ ?_
 ·exact(Y,[],O,aL.B A,az,O,.nil)
 ·rintro j r m b ⟨v,e,rfl,f,d,rfl,_⟩
  exact f.A1 M
 ·rintro j r m b x P C E ⟨v,e,rfl,f,d,rfl,n⟩
  obtain⟨o,S,rfl⟩:=fG P;obtain⟨i,h,G⟩:=y.F S;have T:(q.map af.ref).length<=bD:=by rw[au];exact bR (â (à (å t) X))
  refine s o i b _ f (f.J G) (dh h) λH4 a=>?_;cases I:p i
  ·refine dT<|oB C E (_,e,O,f.F a,a _ _ d,O,?_)
   rw[cG h,jb,k_ (by rw[I];simp),qg,jy];exact a.M n
  ·refine eS (_,O,fz T C E (a _ _ d) (_,e++[o],O,(f.F a).N A,az,by rw[bU];rfl,?_))
   rw[cG h,jb,mL I];exact ka (bA.J (a.M n)<|(f.F a).J G) (a _ _ d) (by intro U z;cases z)
 ·rintro r m b ⟨v,e,rfl,f,d,rfl,n⟩
  rw[au,t,eV<|aV _] at n;exact k b e f d n
end
def Il:mroOf (.type "dict")=aX [.type "dict",.type "object"]:=by rw[mroOf_type];kernel_rfl
def aed:IL (.type "dict") "__new__"=aX (V<|.builtin "dict.__new__"):=by rw[afe,afp];kernel_rfl
def qN:TypeCalled "dict" "dict.__new__" "dict.__init__":=
 (δ,δ,(_,_,Il),madeBy_type Il aed δ,δ,by rw[Rr];kernel_rfl,PySem.F.slot_dict_init)
def aeb(a:aa):checkTypeCall "dict" ([a],[])=aX ():=by kernel_rfl
def aec(a:aa):RA "dict.__new__" ([.type "dict",a],[])=aX ():=by kernel_rfl
def aee:entryFor table "dict.__new__"=V Builtin.«dict.__new__»:=afm (by kernel_rfl)
def QC:plainId "dict.__new__"=ae:=δ
def QB:isSubtype (.type "dict") (.type "dict")=aX ae:=by rw[Rr];kernel_rfl
section
variable{prog:bu}{w:bf}{A:bO}{E:Ω}{s:ak}
def aef(a:aa){Q₁:Ω}(h:Q₁ (.ref s⁻¹) {s with heap:=s.heap.push {cls:=.type "dict",data:=.dict #[]}}):iD 2#0 A (.call (.builtin "dict.__new__") ([.type "dict",a],[])) (CB Q₁ E) s:=by
 refine IU<|show ax _ A.in1 (do RA "dict.__new__" ([.type "dict",a],[]);again (.builtin "dict.__new__" ([.type "dict",a],[]))) _ _ s from ag (oU (aec a)<|aG (iK QC _,iC aee ?_));rw[ja QC _];unfold Builtin.«dict.__new__»;have b:=QB;have c:=Il;obtain⟨e,g,d,f,i⟩:=s;dsimp only;refine ag<|oU (a:=ae) O ?_;simp only[nZ,dK,da];refine ag<|oU b ?_;simp only[nZ,dK,da];refine ag<|oU c ?_;rw[am ξ];refine ag<|nc ?_;exact aG h
end
def Xh(a:List Int):du (ff P w) (a.map aN)=du (qV P w) a:=by
 unfold du;rw[bN]
 rfl
section
variable{prog:bu}{w:bf}{A:bO}{E:Ω}{s:ak}
def ad4:IL (.type "list") "keys"=aX Y:=by rw[afe,afp];kernel_rfl
def ad6{k:Nat}{Q:Option aa->ak->Prop}(m:s.heap.get? a=V o)(n:o.cls=.type "list")(b:o.data=.seq l k)(p:o.dict=Y)(t:A.handled=Y)(h:∀j q e,Heap.NewExcOf s.heap j e "AttributeError"->Q Y {s with heap:=j,toks:=q}):ax 2#0 A (getAttr? 5#a "keys") Q E s:=by
 obtain⟨c,u,v,x⟩:=o;simp only at n b p;subst n b p;obtain⟨y,g,d,q,z⟩:=s;have r:∀f,((y,g,d,f,z):ak).TypeIs 5#a "list":=λ_=>(_,m,O);have C:=sub_AttributeError;have D:=RX.lookup;have G:=RX.bind<|.ref a;have H:=am_list_getattr_none;unfold getAttr? getAttrBy? getAttrBy
 repeat(any_goals(first|assumption|exact r _|((with_reducible show ax _ _ (im (d_ "list.__getattribute__") _ _) _ _ _);refine sC RX (r _) am_entry_list_getattribute (F.args_list_getattribute_2 _ _) (meets_getattribute_miss_list a l k x "keys" _ ad4 ξ (by size_fits)) (m,t,λj f e i=>?_))|wp_step))
 obtain⟨I,K,L⟩:=i.there;show ax _ _ (afj _ _ _ _ _ _ _) _ _ _;unfold afj
 repeat(any_goals(first|assumption|wp_step))
 exact h _ _ _ i.of
def Qz:entryFor table "dict.update.loop"=V Builtin.«dict.update.loop»:=afm (by kernel_rfl)
def Cf:plainId "dict.update.loop"=ae:=δ
noncomputable abbrev ad5(D I:W)(i:Int):Code:=.builtin "dict.update.loop" ([.ref D,.ref I,fP i,.none],[])
variable{K:Type}[DecidableEq K]{knd:sI prog w K}
abbrev wg(K:Type):Type:=W×List K×W×aa
def wj(knd:sI prog w K)(h:aW)(x:wg K):Prop:=h.IsTuple x.1 #[.ref x.2.2.1,x.2.2.2]/\gb knd h x.2.1 x.2.2.1
noncomputable def yH(b:List (List K×W×aa))(c:List (wg K)):List (List K×W×aa):=c.foldl (λa x=>CE a x.2.1 x.2.2.1 x.2.2.2) b
def Qy{h m:aW}{o:bg}(g:wj knd h x)(q:∃o,h.get? D=V o/\o.cls=.type "dict")(r:∃o,h.get? I=V o/\o.cls=.type "list_iterator")(p:∀b o,b≠D->b≠I->h.get? b=V o->m.get? b=V o):wj knd m x:=by
 obtain⟨⟨s,f,i,t⟩,u,v,n,j,k,w⟩:=g;obtain⟨G,y,A⟩:=q;obtain⟨H,C,E⟩:=r;have c:∀{a:W}{l:bg},h.get? a=V l->l.cls=.type "tuple"->a≠D/\a≠I:=λ{a l} d e=>by
  refine(λz=>?_,λz=>?_)
  ·rw[z,y] at d
   rw[<-bM d,A] at e;exact bh e ξ
  ·rw[z,C] at d
   rw[<-bM d,E] at e;exact bh e ξ
 exact((s,p _ _ (c f i).1 (c f i).2 f,i,t),u,v,n,p _ _ (c j k).1 (c j k).2 j,k,w)
def QA{h g:aW}{D I:W}{i:List (List K×W×aa)}(d:h.DictOfH (kC knd) D i)(a:D≠I)(k:∃o,h.get? I=V o/\o.cls=.type "list_iterator")(j:∀b o,b≠I->h.get? b=V o->g.get? b=V o):g.DictOfH (kC knd) D i:=by
 obtain⟨o,l,m,p,q,r,s,c,t⟩:=d;obtain⟨E,u,v⟩:=k;refine(o,l,m,j _ _ a p,q,r,s,λx w=>?_,t);obtain⟨y,A,n,e,f,C⟩:=c x w;refine(y,A,n,j _ _ (λz=>?_) e,f,C);rw[z,u] at e;rw[<-bM e,v] at f;exact bh f ξ
def ad3{t:W}{Q:List aa->ak->Prop}(c:s.heap.IsTuple t a)(h:Q a.toList s):ax 2#0 A (ahj<|.ref t) Q E s:=by
 obtain⟨o,b,d,n,e⟩:=c;unfold ahj;refine ag<|uh (show s.TypeIs 5#t "tuple" from(o,b,d)) ?_;rw[av ξ];exact ag<|iU b e<|aG h
def ad2(b:List (List K×W×aa))(k:List K)(a:W)(v:aa):(CE b k a v).length<=b.length+1:=by
 unfold CE;split
 ·rw[au];exact ü
 ·rw[c_];simp
def Qx{D I L:W}{ts:List (wg K)}{R:sH->ak->Prop}(S:A.handled=Y)(hu:A.units+1<dB)(g:D≠I)(p:L≠D)(h:L≠I):∀(k j:Nat)(s:ak)(i:List (List K×W×aa)),ts.length-j=k->j<=ts.length->s.heap.IsListIter I L j->s.heap.IsList L (ts.map λx=>Z x.1).toArray->(∀x∈ts,wj knd s.heap x)->
   s.heap.DictOfH (kC knd) D i->i.length+k<=bD->
   (∀l n,l.DictOfH (kC knd) D (yH i<|ts.drop j)->(∀b o,b≠D->b≠I->s.heap.get? b=V o->l.get? b=V o)->R (.ok<|.ret .none) {s with heap:=l,toks:=n})->
   iD 2#0 A (ad5 D I j) R s
 |0,j,s,i,hk,hj,d,T,H,M,hz,U=>by
  have hn:j=ts.length:=ω
  subst hn;have a7:=qZ (prog:=prog) (w:=w) (A:=A.in1) S I L h (ts.map λx=>Z x.1).toArray;refine iC Qz ?_;rw[ja Cf _];unfold Builtin.«dict.update.loop»;dsimp only[fP];refine ag<|a7.done s _ _ (by simpa using d,T) λl n q=>?_;dsimp only;unfold alj;refine ag<|oU (a:=()) O ?_;obtain⟨m,r,t,_⟩:=d;refine aG<|U l n ?_ λb o _ c e=>q b o 6#c e;rw[List.drop_length];exact QA M g (m,r,t) λb o c e=>q b o 6#c e
 |k+1,j,s,i,hk,hj,d,T,H,M,hz,U=>by
  have a7:=qZ (prog:=prog) (w:=w) (A:=A.in1) S I L h (ts.map λx=>Z x.1).toArray;have f:j<ts.length:=ω
  refine iC Qz ?_;rw[ja Cf _];unfold Builtin.«dict.update.loop»;dsimp only[fP];refine ag<|a7.item j s _ _ 6#f (d,T) λv u n hv y q=>?_;have X:v=.ref (ts[j]).1:=by
   have:(ts.map λx=>Z x.1).toArray[j]?=V (Z (ts[j]).1):=by simp[f]
   exact bM<|hv.symm.trans this
  subst X;have a6:=H ts[j]<|mK f;obtain⟨m,r,t,_⟩:=id d;have z:∃o,s.heap.get? D=V o/\o.cls=.type "dict":=by
   obtain⟨o,es,ep,ho,hc,_⟩:=M;exact(o,ho,hc.1)
  have C:∀b o,b≠D->b≠I->s.heap.get? b=V o->u.get? b=V o:=λb o _ c e=>q b o 6#c e;have a0:∀x∈ts,wj knd u x:=λx hx=>Qy (o:=m) (H x hx) z (m,r,t) C;have a1:u.DictOfH (kC knd) D i:=QA M g (m,r,t) λb o c e=>q b o 6#c e;obtain⟨gt,gk⟩:=a0 ts[j]<|mK f;dsimp only;refine ag<|fO<|ag<|lN<|ad3 (s:={s with heap:=u,toks:=n}) gt ?_;dsimp only;refine fO<|ae8 (knd:=kC knd) (s:={s with heap:=u,toks:=n}) (hsz:=(è hz)) (CC hu) gk a1 λP a2 sb=>?_;have E:∀b o,b≠D->b≠I->s.heap.get? b=V o->P.get? b=V o:=λb o c Q e=>by rw[sb.2 b c];exact C b o c Q e
  have G:P.IsListIter I L (j+1):=y.1.at λo e=>by rw[sb.2 I<|dp g];exact e
  have a3:P.IsList L (ts.map λx=>Z x.1).toArray:=y.2.at λo e=>by rw[sb.2 L p];exact e
  refine aG (iK Cf _,?_);refine Qx S hu g p h k (j+1) {s with heap:=P,toks:=_} _ ω f G a3 (λx hx=>Qy (o:=m) (H x hx) z (m,r,t) E) a2 (by have:=ad2 i (ts[j]).2.1 (ts[j]).2.2.1 (ts[j]).2.2.2;omega) λl a4 a5 k3=>U l a4 ?_ λb o c Q e=>k3 b o c Q<|E b o c Q e;rw[pn f];exact a5
end
section
variable{prog:bu}{w:bf}{A:bO}{E:Ω}{s:ak}{K:Type}[DecidableEq K]{knd:sI prog w K}
def ad7{n:Nat}{ts:List (wg K)}{Q:Ω}(hh:A.handled=Y)(hu:A.units+2<dB)(ho:s.heap.get? L=V o)(S:o.cls=.type "list")(k:o.data=.seq (ts.map λx=>Z x.1).toArray n)(T:o.dict=Y)(hg:∀x∈ts,wj knd s.heap x)(hz:ts.length<=bD)(h:∀g U,g.DictOfH (kC knd) s⁻¹ (yH [] ts)->(∀b o,b<s⁻¹->s.heap.get? b=V o->g.get? b=V o)->Q (.ref s⁻¹) {s with heap:=g,toks:=U}):ax 2#0 A (im (.type "dict") [.ref L]) Q E s:=by
 obtain⟨c,tl,a3⟩:=qN.mro;have X:=qN.made;have a4:=qN.sub;refine yN<|IU ?_;show ax _ _ (callAny (.type "dict") _) _ _ _;refine aG (ag3 _ δ,iC agr ?_);rw[ahm (afd "dict" [.ref L] []) O];have h1:=qN.notType;have i:=qN.canCreate;have a5:=aeb<|.ref L
 repeat(any_goals(first|assumption|wp_step))
 refine p_ (aef 5#L (E:=E) (Q₁:=λv l=>v=.ref s⁻¹/\l={s with heap:=s.heap.push {cls:=.type "dict",data:=.dict #[]}}) (O,O)) λr l hr=>?_;cases r with
 |error e=>exact hr
 |ok fl=>
  cases fl with
  |ret v=>
   obtain⟨rfl,rfl⟩:=hr;have hS:(s.heap.push {cls:=.type "dict",data:=.dict #[]}).get? s⁻¹=V {cls:=.type "dict",data:=.dict #[]}:=dg _ O;have y:wz {s with heap:=s.heap.push {cls:=.type "dict",data:=.dict #[]}} (.ref s⁻¹) "dict":=(_,hS,O);have a6:=qN.init.lookup;have a7:=qN.init.bind<|.ref s⁻¹
   repeat(any_goals(first|assumption|wp_step))
   refine p_ (afn (R:=CB (λr p=>r=.none/\∃g U,p={s with heap:=g,toks:=U}/\g.DictOfH (kC knd) s⁻¹ (yH [] ts)/\
     (∀b o,b<s⁻¹->s.heap.get? b=V o->g.get? b=V o)) E) qN.init.plain F.entry_dict_init<|qN.init.check _ _ _ _ _ _ _ _ y (F.args_dict_init_2 _ _) ?_) λz p a=>?_
   ·have C:L<s⁻¹:=cy ho
    have q:(s.heap.push {cls:=.type "dict",data:=.dict #[]}).get? L=V o:=bQ _ ho;have a0:wz {s with heap:=s.heap.push {cls:=.type "dict",data:=.dict #[]}} 5#L "list":=(o,q,S);unfold Builtin.«dict.__init__»;refine ag ?_;unfold ale;refine ag<|IE y ?_;refine ag<|show ax _ _ (aX s⁻¹) _ _ _ from aG ?_;refine aG ?_;show ax _ _ (ahi "dict.__init__" "dict" s⁻¹ [Z L] []) _ _ _;unfold ahi ald;dsimp only;refine ag<|uh a0 ?_;rw[av ξ];refine ag<|ad6 (s:={s with heap:=s.heap.push {cls:=.type "dict",data:=.dict #[]}}) q S k T hh λi G e2 x2=>?_;rw[av (by rfl)];refine ag<|mD ?_;have H:i.IsList L (ts.map λx=>Z x.1).toArray:=(o,x2.keeps _ _ q,S,n,k);refine ag<|ui (s:={s with heap:=i,toks:=G}) H ?_;have M:i.get? s⁻¹=V {cls:=.type "dict",data:=.dict #[]}:=x2.keeps _ _ hS;have t:s⁻¹<i.objs.size:=cy M;have d:∀b j,i.get? b=V j->(i.push {cls:=.type "list_iterator",data:=.fields #[.ref L,.int 0 0]}).get? b=V j:=λb j e=>bQ _ e;have f:∀b j,s.heap.get? b=V j->(i.push {cls:=.type "list_iterator",data:=.fields #[.ref L,.int 0 0]}).get? b=V j:=λb j e=>d _ _<|x2.keeps _ _<|bQ _ e;refine aG (iK Cf _,?_);refine Qx (knd:=knd) (ts:=ts) (L:=L) (D:=s⁻¹) (I:=i.objs.size) (by exact hh) (by first|exact hu|(show A.units+1<cLine;omega)) (cM t) (cM C) (cM<|sU C t) ts.length 0 {s with heap:=i.push {cls:=.type "list_iterator",data:=.fields #[.ref L,.int 0 0]},toks:=G} [] ω (eY _)
     (_,dg _ O,O,O) (H.at λj e=>d _ _ e) (λx hx=>?_) (_,#[],0,d _ _ M,(O,O,O),O,O,(λx hx=>nomatch hx),lS) 6#hz λg P dd k3=>(O,g,P,O,dd,λb j hb e=>k3 b j (cM hb) (cM<|sU hb t)<|f _ _ e)
    obtain⟨⟨o1,e1,c1⟩,o2,it,m,e2,c2⟩:=hg x hx;exact((o1,f _ _ e1,c1),o2,it,m,f _ _ e2,c2)
   ·cases z with
    |error e=>exact a
    |ok u=>
     cases u with
     |ret r=>
      obtain⟨rfl,g,P,rfl,a1,a2⟩:=a
      repeat(any_goals(first|assumption|wp_step))
      exact h _ _ a1 a2
     |_=>exact a.elim
  |_=>exact hr.elim
end
noncomputable def As(a:List (List aK×af)):List (List aK×af):=a.foldl (λb c=>dZ b c.1 c.2) []
section
variable{X:a_}
def M':∀(c a:List (List aK×af)),(c.foldl (λa b=>dZ a b.1 b.2) a).length<=a.length+c.length
 |[],a=>by simp
 |b::r,a=>by
  rw[sZ];have d:=M' r<|dZ a b.1 b.2;have e:=Ao a b.1 b.2;rw[dj];omega
def FF(S:X.b=ae)(hu:X.A.units+64<dB):iS X (.type "dict") (λG H Q=>∃(l:W)(f:List W)(a:List (List aK×af)),G=[.ref l]/\bI X.K H l (f.map af.ref)/\
  eI (λt(d:List aK×af)=>∃b,H t=V (.tup [.ref b,d.2])/\H b=V (.tup<|d.1.map cR)) f a/\∀D,H D=Y->Q 5#D (aD H D<|.a<|As a)):=by
 intro L s σ H G us Q I r h;obtain⟨l,f,a,rfl,T,M,q⟩:=h;obtain⟨u,rfl,U⟩:=ir r;cases U;obtain⟨i,r1,⟨o,n,e1,c1,d1,s1⟩,hz⟩:=I.list T;obtain rfl:=nw r1;have hl:=iM M;have w:∀{f:List W}{a:List (List aK×af)},eI (λt(d:List aK×af)=>∃b,H t=V (.tup [.ref b,d.2])/\H b=V (.tup<|d.1.map cR)) f a->
   ∃g:List (wg aK),g.map (λx=>Z x.1)=f.map Z/\(∀x∈g,wj (ff X.prog X.w) s.heap x)/\∀c(j:List (List aK×W×aa)),jW H c j->jW H (a.foldl (λc d=>dZ c d.1 d.2) c) (yH j g):=by
  intro f a z
  induction z with
  |nil=>exact([],O,(λx m=>nomatch m),λc j k=>k)
  |@cons t d f a hh t' ih=>
   obtain⟨g,p,y,A⟩:=ih;obtain⟨b,ht,P⟩:=hh;obtain⟨i,ri,pi,_⟩:=I.B<|fg.B (K:=X.K) ht;obtain⟨vs,e2,rv⟩:∃v,i=[.ref b,v]/\cg d.2 v:=by
    cases ri with
    |cons ra rb=>
     cases rb with
     |cons rc rd=>
      cases rd;cases ra;exact(_,O,rc)
   subst e2;refine((aez t (aez d.1 (aez b vs)))::g,by rw[cY,cY,p],λx m=>?_,λc j k=>?_)
   ·rcases cz.mp m with rfl|m
    ·exact(pi,tE I.a P)
    ·exact y x m
   ·exact A _ _<|k.F d.1 P rv
 obtain⟨g,p,y,A⟩:=w M;have a0:g.length=a.length:=by
  have:=fj ar p;rw[au,au] at this;exact û (à (å this) (å hl)) (à (æ hl) (æ this))
 rw[au] at hz;refine ad7 (knd:=ff X.prog X.w) (ts:=g) (n:=n) (I.b.a S) ω e1 c1 (by rw[p];exact s1) d1 y (à (à (å a0) (æ hl)) hz) λh' tk dd kk=>?_;have C:=A [] [] .nil;have R:H s⁻¹=Y:=I.a.B<|aV _;obtain⟨q',es,ep,E,h2,h3,h4,h6,h5⟩:=dd;refine(.ref s⁻¹,_,I.F (o:=.a<|As a) (λb u e=>kk b u (cy e) e) (aV _) (?_,?_,yH [] g,C.B λb j e=>?_,q',es,ep,E,h2,h3,h4,h5),O,q _ R)
 ·have:=M' a []
  unfold As;simp at this;exact à (à this (æ hl)) hz
 ·exact beq_eq_false_iff_ne.mpr<|jx I.B3
 ·rw[aZ<|cN e R];exact e
end
section
variable{X:a_}
def Mo(a:List Int):∀k,k<=a.length->IP (λi=>(a[i]?).getD 0) k=(a.take k).sum
 |0,_=>by simp[IP]
 |k+1,h=>by
  have b:=Mo a k (ì h);have e:a[k]?=V a[k]:=cB h;show IP (λi=>(a[i]?).getD 0) k+(a[k]?).getD 0=_;rw[b,zq,e,JQ];simp
def vr{a:List Int}{b:List aa}(r:co (a.map af.int) b){i:Nat}(h:b[i]?=V v):∃n t,a[i]?=V n/\v=.int n t:=by
 have d:b.length=a.length:=by rw[<-r.B,au]
 have f:i<a.length:=by rw[<-d];exact(bY.mp h).1
 have e:a[i]?=V a[i]:=cB f;obtain⟨u,c,g⟩:=r.F (show(a.map af.int)[i]?=V (af.int a[i]) by rw[bV,e];rfl);rw[h] at c;obtain rfl:=bM c;obtain⟨t,rfl⟩:=g;exact(_,t,e,O)
def FC(x:X.b=ae):iS X (.builtin "sum") (λk H Q=>∃(l:W)(c:List Int),k=[.ref l]/\bI X.K H l (c.map af.int)/\Q (.int c.sum) H):=by
 intro m s L H k M Q I r h;obtain⟨l,c,rfl,y,q⟩:=h;obtain⟨u,rfl,z⟩:=ir r;cases z;obtain⟨a,p,C,_⟩:=I.list y;have D:=I.b.a x;have g:=C.isList;have d:l<s⁻¹:=by obtain⟨_,e,_⟩:=g;exact cy e
 have E:a.length=c.length:=by rw[<-p.B,au]
 refine call_sum_walkAnyS<|ui g ?_;refine(s⁻¹,[s⁻¹,l],[s⁻¹],_,a.toArray.size,_,_,λi=>(c[i]?).getD 0,O,(qZ (A:=X.A.in1) D _ l (cM d) a.toArray).toS,
  ((_,dg _ O,O,O),g.push _),λb f=>?_,λi v G=>?_,λP R w=>?_)
 ·have j:b<=s⁻¹:=by
   simp only[cz,sV,rz] at f;rcases f with rfl|rfl
   ·exact aV _
   ·exact qe d
  exact JM j<|cy<|dg _ O
 ·obtain⟨n,t,e,rfl⟩:=vr p (show a[i]?=V v by simpa using G)
  exact(t,by simp only[e,sR])
 ·have e:IP (λi=>(c[i]?).getD 0) a.toArray.size=c.sum:=by
   rw[cP,E,Mo c _<|aV _,eV<|aV _]
  rw[e,Moved.eq_with w];exact(.int _,H,I.J<|JG λb o f K=>w.heap b o f K,(_,O),q)
inductive Ag(x:af)(vs:List af)(H:ab)(Q:aU):Prop
 |a:∀(l:W)(ns:List Int)(n:Int),(x=.ref l)->(vs=[.int n])->(H l=V (.lst<|ns.map af.int))->(Q (.int (ns.countP (·==n))) H)->Ag x vs H Q
def Nr(n:Int):∀{b:List Int}{a:List aa},co (b.map af.int) a->a.countP (λu=>match u with|.int m _=>m==n|_=>aB)=b.countP (·==n)
 |[],_,.nil=>O
 |m::b,_,.cons r t=>by
  obtain⟨c,rfl⟩:=r;rw[uN,uN,Nr n t]
def Ff:vC X "list.count" Ag:=by
 intro b s A H K C v D Q I f g h;obtain⟨l,d,n,rfl,rfl,j,q⟩:=h;cases f;obtain⟨u,rfl,k⟩:=g.M;obtain⟨z,a,c,r,E,e⟩:=I.A4 j;refine sC Js (_,e,O) F.entry_list_count (F.args_list_count_2 _ _) (SeqAt.list_countAt l a.toArray c Y #[] u (λu=>match u with|.int m _=>m==n|_=>aB)) (e,λL o=>?_,?_)
 ·obtain⟨i,p⟩:=gW.mp (show L∈a by simpa using o)
  obtain⟨m,t,G,rfl⟩:=vr r p;exact Nd (y:=.int m) (x:=.int n) (t,O) k O O
 ·have w:a.toArray.toList.countP (λu=>match u with|.int m _=>m==n|_=>aB)=d.countP (·==n):=Nr n r
  exact(.int (d.countP (·==n)),H,I.N _,(_,by rw[<-w]),q)
def ND{bt:Nat->Nat->Bool}{val:Nat->Int}(a:∀i j,bt i j=aE (val j<val i)):∀k,qY bt k<=k/\∀i,i<=k->val i<=val (qY bt k)
 |0=>by
  rw[afq];exact(aV _,λi b=>by have:i=0:=(û b ú);rw[this];exact lW _)
 |k+1=>by
  obtain⟨d,c⟩:=ND a k;rw[RD,a]
  by_cases g:val (qY bt k)<val (k+1)
  ·rw[av<|bT g]
   refine(aV _,λi b=>?_);rcases kX i (k+1) with h|h
   ·have:=c i (ò h);omega
   ·have:i=k+1:=(û b h)
    rw[this];exact lW _
  ·rw[am (λz=>g<|fc z)]
   refine(Dt d,λi b=>?_);rcases kX i (k+1) with h|h
   ·exact c i (ò h)
   ·have:i=k+1:=(û b h)
    rw[this];omega
end
section
open PySem
noncomputable abbrev xl(I S:W)(d:aa):Code:=.builtin "max.loop" ([.ref I,.none,.ref S],[(aez ("default") d)])
section
variable{prog:bu}{w:bf}{A:bO}{R:sH->ak->Prop}{I:W}{fp wr:List W}{n:Nat}{P:Nat->aa->Prop}{St:Nat->aW->Prop}
def UT(r:ww prog w A.in1 I fp wr n P St)(S:W)(d:aa){t:ak}{a:aa}(g:S∉wr)(h:St n t.heap)(l:t.heap.get? S=V {cls:=.type "list",data:=.seq #[a,a] c})(p:∀f i,(∀b o,b∉wr->b≠S->t.heap.get? b=V o->f.get? b=V o)->R (.ok<|.ret a) {t with heap:=f,toks:=i}):iD 2#0 A (xl I S d) R t:=by
 refine iC rj ?_;rw[ja i' _];unfold Builtin.«max.loop»
 wp_delta
 refine ag<|iU l O ?_;dsimp only;refine ag<|lN<|r.done t _ _ h λf i m=>?_;have j:=m S _ g l;show ax _ _ (qT S (λ_=>#[]) >>= λ_=>letGo [a] [a] >>= λ_=>ret a) _ _ _;refine ag<|m_ (s:={t with heap:=f,toks:=i}) (hz:=by show 2<=bD;rw[jt];decide) (_hz':=eY _) j O ?_;refine ag<|kf ?_;exact aG<|p _ _ λb o q k e=>(qc _ _<|dp k).trans<|m b o q e
def UR(m:ww prog w A.in1 I fp wr n P St)(S:W)(d:aa){s:ak}(h:n=0)(a:St 0 s.heap)(i:s.heap.get? S=V {cls:=.type "list",data:=.seq #[] c})(j:∀f g,(∀b o,b∉wr->b≠S->s.heap.get? b=V o->f.get? b=V o)->R (.ok<|.ret d) {s with heap:=f,toks:=g}):iD 2#0 A (xl I S d) R s:=by
 refine iC rj ?_;rw[ja i' _];unfold Builtin.«max.loop»
 wp_delta
 refine ag<|iU i O ?_;dsimp only;refine ag<|lN<|m.done s _ _ (by rw[h];exact a) λf g k=>?_;show ax _ _ (yQ (qR "max"++qR ".default") >>= λ_=>ret d) _ _ _;refine ag<|mD ?_;exact aG<|j _ _ λb o l _ e=>k b o l e
def Ex(a0:ww prog w A.in1 I fp wr n P St)(i:Nat->Nat->Bool)(L:CmpOf prog w A.in1 .Gt P i)(S:W)(d:aa)(f:S∉fp):∀(k j:Nat)(s:ak)(l:aa)(c:Nat),n-(j+1)=k->j+1<=n->St (j+1) s.heap->P (qY i j) l->s.heap.get? S=V {cls:=.type "list",data:=.seq #[l,l] c}->
   (∀v g q,P (qY i<|n-1) v->(∀b o,b∉wr->b≠S->s.heap.get? b=V o->g.get? b=V o)->R (.ok<|.ret v) {s with heap:=g,toks:=q})->iD 2#0 A (xl I S d) R s
 |0,j,s,l,c,X,hj,r,G,H,K=>by
  have hn:j+1=n:=ω
  have M:n-1=j:=ω
  refine UT a0 S d (λz=>f<|a0.sub _ z) (hn▸r) H λg q D=>K l g q (by rw[M];exact G) D
 |k+1,j,s,l,c,X,hj,r,G,H,K=>by
  have Q:S∉wr:=λz=>f<|a0.sub _ z;refine iC rj ?_;rw[ja i' _];unfold Builtin.«max.loop»
  wp_delta
  refine ag<|iU H O ?_;dsimp only;refine ag<|lN<|a0.item (j+1) s _ _ ω r λv g q U m D=>?_;have t:=D S _ Q H;refine ag<|aG ?_
  try dsimp only
  refine ag<|lN<|fO<|ag<|L (j+1) (qY i j) v l _ _ _ U G ?_;refine ag<|fO<|sw ?_;refine ag<|kf<|aG ?_;cases a:i (j+1) (qY i j) with
  |true=>
   rw[av O];refine ag<|m_ (s:={s with heap:=g,toks:=q}) (hz:=by show 2<=bD;rw[jt];decide) (_hz':=by show 2<=bD+1;rw[jt];decide) t O ?_;refine ag<|kf ?_;have E:=rh (cD λ_=>#[v,v]) t O;have p:∀b o,b≠S->g.get? b=V o->(g.update S<|cD λ_=>#[v,v]).get? b=V o:=λb o a e=>(qc _ _<|dp a).trans e;refine aG (iK i' _,Ex a0 i L S d f k (j+1) {s with heap:=g.update S<|cD λ_=>#[v,v],toks:=q} v _ ω ω (a0.frame _ _ _ m λb a o e=>p b o (λz=>f<|z▸a) e) ?_ E λT u x y C=>K T u x y λb o a h e=>C b o a h<|p b o h<|D b o a e);rw[RD,a,av O];exact U
  |false=>
   rw[am ξ];refine ag<|kf ?_;refine aG (iK i' _,Ex a0 i L S d f k (j+1) {s with heap:=g,toks:=q} l c ω ω m ?_ t λT u x y C=>K T u x y λb o a h e=>C b o a h<|D b o a e);rw[RD,a,am ξ];exact G
def US(M:ww prog w A.in1 I fp wr n P St)(p:Nat->Nat->Bool)(E:CmpOf prog w A.in1 .Gt P p)(S:W)(d:aa)(f:S∉fp){s:ak}(G:0<n)(q:St 0 s.heap)(C:s.heap.get? S=V {cls:=.type "list",data:=.seq #[] c})(H:∀v g m,P (qY p<|n-1) v->(∀b o,b∉wr->b≠S->s.heap.get? b=V o->g.get? b=V o)->R (.ok<|.ret v) {s with heap:=g,toks:=m}):iD 2#0 A (xl I S d) R s:=by
 have r:S∉wr:=λz=>f<|M.sub _ z;refine iC rj ?_;rw[ja i' _];unfold Builtin.«max.loop»
 wp_delta
 refine ag<|iU C O ?_;dsimp only;refine ag<|lN<|M.item 0 s _ _ G q λv g m K i D=>?_;have j:=D S _ r C;refine ag<|aG ?_
 try dsimp only
 show ax _ _ (qT S (λ_=>#[v,v]) >>= λ_=>again<|xl I S d) _ _ _;refine ag<|m_ (s:={s with heap:=g,toks:=m}) (hz:=eY _) (_hz':=by show 2<=bD+1;rw[jt];decide) j O ?_;have k:=rh (cD λ_=>#[v,v]) j O;have a:∀b o,b≠S->g.get? b=V o->(g.update S<|cD λ_=>#[v,v]).get? b=V o:=λb o h e=>(qc _ _<|dp h).trans e;exact aG (iK i' _,Ex M p E S d f (n-1) 0 {s with heap:=g.update S<|cD λ_=>#[v,v],toks:=m} v _ ω G (M.frame _ _ _ i λb h o e=>a b o (λz=>f<|z▸h) e) (by rw[afq];exact K) k λL t u x y=>H L t u x λb o h l e=>y b o h l<|a b o l<|D b o h e)
end
end
section
open PySem
def UW(a d:aa):argsOk "max" ([a],[(aez ("default") d)]):=by unfold argsOk;kernel_rfl
def UV(d:aa):Di "max" ["key","default"] 0 {kw:=[(aez ("default") d)]}=aX [Y,V d]:=by first|rfl|kernel_rfl|decide +kernel
def UU{A:bO}{E:Ω}{T:ak}{x d:aa}{Q:Ω}(h:ax (aH c w) A.in1 (qU x) (λC a=>∃I m j n P p q,C=.ref I/\ww c w A.in1 I m j n P p/\p 0 a.heap/\(∀b∈m,b<a⁻¹)/\CmpOf c w A.in1 .Gt P q/\
   (n=0->∀f i,(∀b o,b∉j->a.heap.get? b=V o->f.get? b=V o)->Q d {a with heap:=f,toks:=i})/\
   (0<n->∀v f i,P (qY q<|n-1) v->(∀b o,b∉j->a.heap.get? b=V o->f.get? b=V o)->Q v {a with heap:=f,toks:=i})) E T):
  ax (aH c w) A (im (.builtin "max") [x] [(aez ("default") d)]) Q E T:=by
 refine kmb_tree R_ RZ Sb (UW _ _) ?_;unfold Builtin.max
 wp_delta
 have r:¬(({pos:=[x],kw:=[(aez ("default") d)]}:Args).pos.isEmpty=ae):=λz=>dY z;rw[am r];refine ag<|oU (UV d) ?_
 try dsimp only
 refine ag<|aG ?_;refine ag<|kB h (λC a H=>?_) λ_ _ z=>z;obtain⟨I,m,j,n,P,p,q,rfl,U,t,u,K,L,M⟩:=H;refine ag<|nc ?_;have D:(a.heap.push {cls:=.type "list",data:=.seq ([]:List aa).toArray}).get? a⁻¹=V {cls:=.type "list",data:=.seq #[] 0}:=dg _ O;have y:a⁻¹∉m:=λz=>nQ _<|u _ z;have g:p 0 (a.heap.push {cls:=.type "list",data:=.seq ([]:List aa).toArray}):=U.frame _ _ _ t λb _ o e=>bQ _ e;have G:∀{f:aW},(∀b o,b∉j->b≠a⁻¹->(a.heap.push {cls:=.type "list",data:=.seq ([]:List aa).toArray}).get? b=V o->f.get? b=V o)->∀b o,b∉j->a.heap.get? b=V o->f.get? b=V o:=
  λk b o R e=>k b o R (cM<|cy e)<|bQ _ e
 refine aG (iK i' _,?_);rcases SF n with l|l
 ·exact UR (s:={a with heap:=a.heap.push {cls:=.type "list",data:=.seq ([]:List aa).toArray}}) U _ d l g D λf i k=>L l f i<|G k
 ·exact US (s:={a with heap:=a.heap.push {cls:=.type "list",data:=.seq ([]:List aa).toArray}}) U q K _ d y l g D λv f i S k=>M l v f i S<|G k
end
section
variable{X:a_}
def Vt(K:aY)(f:fY)(g:bd):bd:=λe H Q=>f e H λh i=>g e i λx c=>∃(l:W)(b:List Int)(d:Int),h=[.ref l]/\x=.int d/\bI K c l (b.map af.int)/\(b=[]->Q (.int d) c)/\∀M,M∈b->(∀a∈b,a<=M)->Q (.int M) c
def We{a e:bz}{M:bd}{p o r:ci}(hg:lI X "max")(hm:X.mg "max"=Y)(y:iY "max"=V (.builtin "max"))(C:ku X [a] L)(hd:bG X e M)(hc:X.b=ae)(P:fu [a] X.env=[(aez aB (dN a X.env))]:=by rfl):bG X (.Call (.Name "max" p) [a] [(V "default",e,r)] o) (Vt X.K L M):=by
 intro k s R H Q I h;refine yO<|qr I hg hm y ?_;refine Su ?_ (by rw[P];rfl) (by rw[P];rfl) O O;refine bH (C o k s R H _ I h) λus s1 (vs,H1,I1,r1,q1)=>?_;refine Sp<|bH (hd k s1 R H1 _ I1 q1) λdv n (x,S,D,r2,q2)=>kws_nil ?_;obtain⟨l,f,d,rfl,rfl,hq,q0,q⟩:=q2;obtain⟨u,rfl,ru⟩:=ir r1;cases ru;obtain⟨T,rfl⟩:=r2;show ax 3#0 X.A (im (.builtin "max") [.ref l] [(aez (jv "default") (.int d T))]) _ _ n;obtain⟨c,g,p1,_⟩:=D.list hq;have hh:=I.b.a hc;have E:=p1.isList;have w:l<n⁻¹:=by obtain⟨_,e,_⟩:=E;exact cy e
 have hn:c.length=f.length:=by rw[<-g.B,au]
 refine UU<|ui E ?_;refine(n⁻¹,[n⁻¹,l],[n⁻¹],c.toArray.size,_,_,λi j=>aE<|(f[j]?).getD 0<(f[i]?).getD 0,O,qZ (A:=X.A.in1) hh _ l (cM w) c.toArray,
  ((_,dg _ O,O,O),E.push _),λb U=>?_,λi j vi vj s' Q' E' z hj hQ=>?_,λh0 h' tk G=>?_,λ_ v h' tk y G=>?_)
 ·have K:b<=n⁻¹:=by
   simp only[cz,sV,rz] at U;rcases U with rfl|rfl
   ·exact aV _
   ·exact qe w
  exact JM K<|cy<|dg _ O
 ·obtain⟨m,t,e,rfl⟩:=vr g (show c[i]?=V vi by simpa using z)
  obtain⟨m',t',e',rfl⟩:=vr g (show c[j]?=V vj by simpa using hj);simp only[e,e',sR] at hQ;exact JE hQ
 ·have:f=[]:=kh (by rw[cP] at h0;exact û (à (æ hn) (å h0)) ú)
  exact(.int d,S,D.J<|JG G,(T,O),q0 this)
 ·rw[cP] at y
  obtain⟨b1,b2⟩:=ND (bt:=λi j=>aE<|(f[j]?).getD 0<(f[i]?).getD 0) (val:=λi=>(f[i]?).getD 0) (λi j=>O)<|c.length-1;obtain⟨m,t,e,rfl⟩:=vr g (show c[qY (λi j=>aE<|(f[j]?).getD 0<(f[i]?).getD 0) (c.length-1)]?=V v by simpa using y);refine(.int m,S,D.J<|JG G,(t,O),q m (dh e) λa C=>?_);obtain⟨i,z⟩:=gW.mp C;have a0:i<f.length:=(bY.mp z).1;have:=b2 i ω;simp only[z,e,sR] at this;exact this
noncomputable def ot(a:List Int)(b c d:Option Int):List Int:=(yP (il b c d a.length).fst (il b c d a.length).snd.fst (il b c d a.length).snd.snd).filterMap λi=>a[i]?
def Mq{b:List Int}(r:co (b.map af.int) a):∀L:List Nat,co ((L.filterMap λi=>b[i]?).map af.int) (L.filterMap λi=>a.toArray[i]?)
 |[]=>.nil
 |i::L=>by
  have d:=Mq r L;have h:a.length=b.length:=by rw[<-r.B,au]
  have f:a.toArray[i]?=a[i]?:=by simp
  cases e:b[i]? with
  |none=>
   have c:a.toArray[i]?=Y:=by
    rw[f];rw[JW] at e ⊢;exact à (å h) e
   rw[aix e,aix c];exact d
  |some n=>
   have j:i<a.length:=by rw[h];exact(bY.mp e).1
   have c:a[i]?=V a[i]:=cB j;obtain⟨m,t,g,k⟩:=vr r c;rw[e] at g;obtain rfl:=bM g;have l:a.toArray[i]?=V (.int n t):=by rw[f,c,k]
   rw[aiw e,aiw l,cY];exact .cons (t,O) d
def VZ(a:List Int)(b c d:Option Int)(h:(yP (il b c d a.length).fst (il b c d a.length).snd.fst (il b c d a.length).snd.snd).length<=bD):(ot a b c d).length<=bD:=dq (List.length_filterMap_le _ _) h
def Vm(K:aY)(e:bd)(f g h:tI):bd:=λb H Q=>e b H λx i=>f b i λl j=>g b j λu m=>h b m λk c=>∃(a:W)(d:List Int),x=.ref a/\bI K c a (d.map af.int)/\k≠V 0/\(ot d l u k).length<=bD/\
 ∀p,c p=Y->Q 5#p (aD c p<|.lst<|(ot d l u k).map af.int)
def Mv{n p t:Option bz}{M P R:tI}(T:bG X e L)(U:tL X n M)(hu:tL X p P)(z:tL X t R)(hw:∀v a,∃d,CD (.Slice n p t y) aB v 5#a=IQ d (pZ v<|.ref a):=by intro _ _;exact(_,by with_unfolding_all rfl)):bG X (.Subscript e (.Slice n p t y) w) (Vm X.K L M P R):=by
 intro c s j H Q I h;refine JF<|bH (T c s j H _ I h) λv s1 (x,H1,I1,r1,q1)=>?_;refine wpAny_Slice<|bH (U c s1 j H1 _ I1 q1) λA s2 (l,H2,I2,pl,q2)=>bH (hu c s2 j H2 _ I2 q2) λC s3 (u,H3,I3,pu,q3)=>bH (z c s3 j H3 _ I3 q3) λD g (k,H4,I4,pk,q4)=>?_;obtain⟨a,m,rfl,hq,hk,hz,q⟩:=q4;cases r1;have E:aA X c j H4 {g with heap:=g.heap.push {cls:=.type "slice",data:=.fields #[A,C,D]}}:=I4.J (t':=g.toks) λb ob q=>bQ _ q;obtain⟨G,r,S,K⟩:=E.list hq;have i:G.length=m.length:=by rw[<-r.B,au]
 show ax 3#0 X.A (Jz e (.Slice n p t y) 5#a<|.ref g⁻¹) (ji X c j Q) X.a {g with heap:=g.heap.push {cls:=.type "slice",data:=.fields #[A,C,D]}};obtain⟨d,ho⟩:=hw 5#a g⁻¹;refine tail_any (ops:=d) S.isList.typeIs Re.lookup ?_ ho;refine ae5 S.isList (agd ..) pl pu pk hk ?_ (by rw[cP,i,<-au (f:=af.int)];exact K);refine(.ref (g.heap.push {cls:=.type "slice",data:=.fields #[A,C,D]}).objs.size,_,E.F (t':=g.toks) (o:=.lst<|(ot m l u k).map af.int) (λb ob q=>bQ _ q) (aV _) ?_,O,q _<|E.a.B<|aV _);refine(by rw[au];exact hz,_,0,?_,dg _ O);have:=Mq r<|yP (il l u k m.length).fst (il l u k m.length).snd.fst (il l u k m.length).snd.snd;unfold ot;rw[cP,i];exact this
end
noncomputable def nF(a:Ξ):List Int:=a.map λp=>(p.length:Int)
noncomputable def mw(a:Ξ):Nat:=a.foldr (λp m=>max p.length m) 0
noncomputable def dJ(a:Ξ):List Int:=(a.filter λp=>aE<|p.length=1).map λp=>p.headD 0
noncomputable def mZ(a:Ξ)(k:Nat):Int:=((a.filter λp=>aE<|p.length=k+1).length:Int)
noncomputable def sj(a:Ξ):List Int:=(cr<|mw a).map<|mZ a
noncomputable def oQ(a:List Int):Int:=((cr a.length).map λk=>a.getD k 0*(1-(k:Int)%2*2)).sum
def If:∀{a:Ξ}{p:List Int},p∈a->p.length<=mw a
 |q::r,p,h=>by
  rcases cz.mp h with rfl|h
  ·exact Nat.le_max_left _ _
  ·exact dq (If h)<|Nat.le_max_right _ _
def Ie:∀a:Ξ,mw a=0\/∃p∈a,p.length=mw a
 |[]=>.inl O
 |q::r=>by
  have e:mw (q::r)=max q.length (mw r):=O;rcases Nat.le_total (mw r) q.length with h|h
  ·exact .inr (q,fE,by rw[e,Nat.max_eq_left h])
  ·rw[e,Nat.max_eq_right h]
   rcases Ie r with g|⟨p,b,g⟩
   ·exact .inl g
   ·exact .inr (p,gd _ b,g)
def Qk{a:Ξ}{m:Nat}(h:∀p∈a,p.length<=m):mw a<=m:=by
 rcases Ie a with g|⟨p,b,g⟩
 ·exact î (å g)
 ·rw[<-g];exact h p b
def ac0{b:Ξ}{M:Int}(f:0<=M)(d:M=0\/M∈nF b)(e:∀a∈nF b,a<=M):M=(mw b:Int):=by
 have i:(mw b:Int)<=M:=by
  rcases Ie b with g|⟨p,c,g⟩
  ·omega
  ·rw[<-g];exact e _<|aO.mpr (p,c,O)
 have j:M<=(mw b:Int):=by
  rcases d with h|h
  ·omega
  ·obtain⟨p,c,rfl⟩:=aO.mp h
   have:=If c;omega
 omega
def ac5(a:Ξ)(k:Nat):(((nF a).countP (·==((k:Int)+1)):Nat):Int)=mZ a k:=by
 unfold mZ nF;rw[ai2,<-ai3]
 congr 1
 refine List.countP_congr λp _=>?_;simp only[uP,beq_iff_eq,iE];omega
def nG(a:Option Int)(n:Nat)(L:List Nat)(h:yP (il a Y (V 2) n).fst (il a Y (V 2) n).snd.fst (il a Y (V 2) n).snd.snd=L)(b:List Int)(c:b.length=n):ot b a Y (V 2)=L.filterMap λi=>b[i]?:=by
 unfold ot;rw[c,h]
def ada(f:List Int)(h:f.length<=5):(ot f Y Y<|V 2).sum-(ot f (V 1) Y<|V 2).sum=oQ f:=by
 match f,h with
 |[],_=>
  rw[nG Y 0 [] δ [] O,nG (V 1) 0 [] δ [] O];simp[oQ,wN]
 |[a],_=>
  rw[nG Y 1 [0] δ [a] O,nG (V 1) 1 [] δ [a] O];simp[oQ,wN]
 |[a,b],_=>
  rw[nG Y 2 [0] δ [a,b] O,nG (V 1) 2 [1] δ [a,b] O];simp[oQ,wN];omega
 |[a,b,c],_=>
  rw[nG Y 3 [0,2] δ [a,b,c] O,nG (V 1) 3 [1] δ [a,b,c] O];simp[oQ,wN];omega
 |[a,b,c,d],_=>
  rw[nG Y 4 [0,2] δ [a,b,c,d] O,nG (V 1) 4 [1,3] δ [a,b,c,d] O];simp[oQ,wN];omega
 |[a,b,c,d,e],_=>
  rw[nG Y 5 [0,2,4] δ [a,b,c,d,e] O,nG (V 1) 5 [1,3] δ [a,b,c,d,e] O];simp[oQ,wN];omega
 |_::_::_::_::_::_::_,h=>simp at h
abbrev aM:Type:=List<|List Int×Int
noncomputable def aI(a:aM):Ξ:=a.map (·.1)
noncomputable def bB(a:aM):List (List aK×af):=a.map λc=>(aez ((c.1.map aN:List aK)) (af.int c.2))
noncomputable def jl(a:aM)(b:List Int)(n:Int):aM:=if b∈aI a then a.map (λc=>if c.1=b then(aez c.1 n) else c) else a++[(aez b n)]
def nD(a:aM):(bB a).length=a.length:=au _
def oJ(a:aM):(aI a).length=a.length:=au _
def vQ(b:aM)(a:List Int)(n:Int):dZ (bB b) (a.map aN) (.int n)=bB (jl b a n):=by
 unfold dZ bB jl;have f:((b.map λc=>(aez ((c.1.map aN:List aK)) (af.int c.2))).any λg=>aE<|g.1=a.map aN)=aE (a∈aI b):=by
  rw[SY]
  by_cases h:a∈aI b
  ·rw[bT h,wQ]
   obtain⟨c,d,e⟩:=aO.mp h;exact(c,d,bT<|nA.mpr e)
  ·rw[cw h,Kb]
   intro c d;simp only[uP,iE,nA];rintro rfl;exact h<|aO.mpr (c,d,O)
 rw[f]
 by_cases h:a∈aI b
 ·rw[bT h,av O,av h,bN,bN]
  refine fS λc d=>?_;simp only[uP]
  by_cases e:c.1=a
  ·rw[av e,av<|nA.mpr e]
  ·rw[am e,am (λz=>e<|nA.mp z)]
 ·rw[cw h,am 0#0,am h,bU]
  rfl
def OJ(a:aM)(b:List Int)(n:Int):aI (jl a b n)=if b∈aI a then aI a else aI a++[b]:=by
 unfold jl
 by_cases h:b∈aI a
 ·rw[av h,av h]
  unfold aI;rw[bN];refine fS λc _=>?_;simp only[uP];split<;>rfl
 ·rw[am h,am h]
  unfold aI;rw[bU]
  rfl
def OH(d:List Int)(n:Int)(h:(aI c).Nodup):(aI<|jl c d n).Nodup:=by
 rw[OJ]
 by_cases e:d∈aI c
 ·rw[av e];exact h
 ·rw[am e,kg]
  refine(h,by simp,λa g b f z=>?_);rw[cT] at f;subst f;subst z;exact e g
def ZA{b q:List Int}{n:Int}(h:q∈aI (jl a b n)):q∈aI a\/q=b:=by
 rw[OJ] at h
 by_cases e:b∈aI a
 ·rw[av e] at h;exact .inl h
 ·rw[am e] at h
  rcases dt.mp h with h|h
  ·exact .inl h
  ·exact .inr<|cT.mp h
def OI(a:aM)(b:List Int)(n:Int):(jl a b n).length<=a.length+1:=by
 unfold jl;split
 ·rw[au];exact ü
 ·rw[c_];simp
def mh:∀{b:aM},(aI b).Nodup->∀c∈b,fm (bB b) (c.1.map aN)=V (.int c.2)
 |[],_,c,a=>bh a 0#0
 |d::b,h,c,a=>by
  have e:(d.1::aI b).Nodup:=h;rw[jM] at e;unfold fm bB;rw[cY,qf];rcases cz.mp a with rfl|a
  ·rw[bT O];rfl
  ·have f:¬d.1.map aN=(c.1.map aN:List aK):=λz=>e.1 (by rw[nA.mp z];exact aO.mpr (c,a,O))
   rw[cw f];exact mh e.2 c a
def pQ{H:ab}(h:eI (λ(p:List aK×af) b=>H b=V (.tup<|p.1.map cR)) (bB a) c):bA H c (aI a):=by
 unfold bB at h;unfold aI
 induction a generalizing c with
 |nil=>cases h;exact .nil
 |cons x l d=>
  rw[cY] at h;cases h with
  |cons r t=>
   refine .cons ?_<|d t;show H _=_;rw[r,bN]
   rfl
noncomputable abbrev g_(c:List Int×Int):Bool:=!aE (af.int c.2=af.int 0)
noncomputable abbrev yg:cJ:=dW 26
noncomputable abbrev Bg:cJ:=dW 27
def HO(H:ab)(t:W)(c:List Int×Int):Prop:=∃b,H t=V (.tup [.ref b,.int c.2])/\de H b c.1
def gQ(H:ab)(a:List W)(b:aM):Prop:=eI (HO H) a b
noncomputable def gQ.B(h:gQ H c d)(s:aL H a):gQ a c d:=jF h λ_ _ (b,e,f)=>(b,s _ _ e,s.J f)
def gQ.F{b:aM}(h:gQ H a b):a.length=b.length:=iM h
noncomputable def gQ.J(h:gQ H e f)(g:H d=V a)(i:∀l,a≠.tup l):gQ (aD H d o) e f:=
 jF h λt c (b,j,k)=>(b,by rw[aZ<|fW j g λz=>i _ z.symm];exact j,by show aD H d o b=_;rw[aZ<|fW (show H b=V _ from k) g λz=>i _ z.symm];exact k)
noncomputable def gQ.M{b:aM}{t:W}(h:gQ H a b)(q:HO H t c):gQ H (a++[t]) (b++[c]):=wA h q
def gQ.A0{a b:List W}(h:gQ H a c)(q:gQ H b d):gQ H (a++b) (c++d):=by
 induction h with
 |nil=>exact q
 |cons r t e=>exact .cons r e
def gQ.N:∀{a:List W}{b:aM}{i:Nat}{t:W},gQ H a b->a[i]?=V t->∃c,b[i]?=V c/\HO H t c
 |_,_,0,_,.cons h _,e=>by cases e;exact(_,O,h)
 |_,_,i+1,_,.cons _ t,e=>gQ.N (i:=i) t 6#e
noncomputable def aS(a:aM)(q:List Int):Int:=((a.find? λc=>aE<|c.1=q).map (·.2)).getD 0
def FV(a:aM)(q:List Int):(fm (bB a)<|q.map aN).getD (.int 0)=.int (aS a q):=by
 unfold fm aS bB
 induction a with
 |nil=>rfl
 |cons c r b=>
  rw[cY,qf,qf]
  by_cases e:c.1=q
  ·rw[bT e,bT<|nA.mpr e];rfl
  ·rw[cw e,cw (λz=>e<|nA.mp z)];exact b
noncomputable def BM(a:aM)(t:List Int×Int):aM:=jl a t.1<|aS a t.1+t.2
noncomputable def jk(a:aM):aM:=a.foldl BM []
noncomputable def mj(a:aM):aM:=(jk a).filter g_
def xU(a:aM)(t:List Int×Int):jk (a++[t])=BM (jk a) t:=by unfold jk;rw[s_];rfl
def BE{b:Type}{P:List b->Prop}(d:P [])(e:∀l x,P l->P (l++[x]))(l:List b):P l:=by
 have:∀n,∀l:List b,l.length=n->P l:=by
  intro n
  induction n with
  |zero=>intro l a;rw[kh a];exact d
  |succ n f=>
   intro l a;have c:l≠[]:=λz=>by rw[z] at a;simp at a
   rw[<-ai1 c];exact e _ _<|f _ (by rw[List.length_dropLast];omega)
 exact this _ l O
def AN(a:aM):(aI<|jk a).Nodup:=BE (P:=λa=>(aI<|jk a).Nodup) lS (λl x h=>by rw[xU];exact OH _ _ h) a
def xV(a:aM):(jk a).length<=a.length:=BE (P:=λa=>(jk a).length<=a.length) (aV _) (λl x h=>by
 rw[xU,c_];have:=OI (jk l) x.1<|aS (jk l) x.1+x.2;unfold BM;simp;exact à this (ï h)) a
def Hm{q:List Int}(v:Int)(h:q∉aI a):jl a q v=a++[(aez q v)]:=by unfold jl;rw[am h]
noncomputable def jG(k:Nat)(n:Int):Int:=if(k:Int)%2=0 then n else -n
noncomputable def dH(a:List Int)(n:Int):aM:=(dP a).zipIdx.map λq=>(aez q.1 (jG q.2 n))
def AQ(a:List Int)(n:Int):(dH a n).length=(dP a).length:=by unfold dH;rw[au,SM]
abbrev Oj:bd:=mQ<|eR (bw 1)<|eR (Lz (jd<|dk qp (dk (lp (λ_ j=>0<j) λi j=>.int<|i%j) (bw 0)<|gh<|.int 2)<|gh<|.int 0) (bw 2)<|EE (xp λi=>.int<|-i)<|bw 2) gg
section
variable{P:bu}{w:bf}{K:aY}{mg:aq->Option aa}{base:aW}
def Yl{l:ab}{C:List W}{w:Ξ}{n:Int}{Q:aU}(M:l L=V (.lst<|C.map af.ref))(U:bA l C w)(hz:w.length<=1000)(X:l D=Y)(k:∀(b:ab)(c:List W),aL l b->b D=V (.lst<|c.map af.ref)->gQ b c (w.zipIdx.map λq=>(aez q.1 (jG q.2 n)))->Q 5#D b):dU (vE K L) (Aq K 2<|tF (dw 0)<|tF (dw 1) Ar) ie Oj [Y,Y,V<|.int n] l D Q:=by
 have P:=U.B;refine tH C.length (λj m g b=>∃(s u:Option af)(c:List W),m=[s,u,V<|.int n]/\aL l b/\b D=V (.lst g)/\g=c.map af.ref/\gQ b c ((w.zipIdx.map λq=>(aez q.1 (jG q.2 n))).take j)) ?_ ?_ ?_ ?_ ?_
 ·exact(Y,Y,[],O,aL.B X,az,O,.nil)
 ·rintro m g b ⟨s,u,c,rfl,h,d,rfl,A⟩
  exact(_,bI.B<|h _ _ M,by rw[au])
 ·rintro i m g b R ⟨s,u,c,rfl,h,d,rfl,A⟩
  exact(_,bI.B<|h _ _ M,by rw[au];exact R)
 ·rintro i m g b x H' R hy ⟨s,u,c,rfl,h,d,rfl,A⟩ ⟨p,y,rfl,S,rfl,T⟩
  have ey:=T _<|bI.B<|h _ _ M;obtain⟨a,ea,rfl⟩:=fG ey;obtain⟨r,er,hr⟩:=U.F ea;have s1:=aL.B (o:=.tup [.int i,.ref a]) S;have e:(w.zipIdx.map λq=>(aez q.1 (jG q.2 n)))[i]?=V (aez r (jG i n)):=by rw[bV,SO,er];simp
  have hn:C.length<=bD:=bR (â (à (å P) hz));have E:∀(t:W)(v:Int),v=jG i n->aD b p (.tup [.int i,.ref a]) t=Y->rN C.length (λj m g b=>∃(s u:Option af)(c:List W),m=[s,u,V<|.int n]/\aL l b/\b D=V (.lst g)/\g=c.map af.ref/\gQ b c ((w.zipIdx.map λq=>(aez q.1 (jG q.2 n))).take j)) D i [V<|.int i,V<|.ref a,V<|.int n] 5#t (aD (aD b p<|.tup [.int i,.ref a]) t<|.tup [.ref a,.int v]):=by
   intro t v hv f;have H:=s1.F<|aL.B (o:=.tup [.ref a,.int v]) f;have G:=H _ _ d;refine fz hn R hy G (_,_,c++[t],O,(h.F H).N X,az,by rw[bU];rfl,?_);rw[cG e];exact gQ.J (gQ.M (A.B H) (a,by rw[az,hv],H.J<|h.J hr)) G (by intro xs z;cases z)
  refine(p,_,O,fg.B az,O,_,_,O,_,_,O,O,EA ?_);refine(_,O,_,O,_,_,O,O,(by show(0:Int)<2;decide),O,_,O,?_)
  by_cases I:(i:Int)%2=0
  ·rw[bT<|fj af.int I]
   exact eS (_,O,bR 0#0,λt f=>E t n (by unfold jG;rw[av I]) f)
  ·rw[cw (λz=>I (by injection z))]
   exact dT (_,O,_,O,bR 0#0,λt f=>E t (-n) (by unfold jG;rw[am I]) f)
 ·rintro m g b ⟨s,u,c,rfl,h,d,rfl,A⟩
  rw[P,eV (by rw[au,SM];exact aV _)] at A;exact k b c h d A
inductive Gw(vs:List af)(H:ab)(Q:aU)(E':db):Prop
 |b:∀a ps n,(vs=[.ref a,.int n])->(de H a ps)->(ps.length<=5)->(∀D H2(ts:List W),aL H H2->H D=Y->H2 D=V (.lst<|ts.map af.ref)->gQ H2 ts (dH ps n)->Q 5#D H2)->Gw vs H Q E'
def YL:dG ["piece","often"] ["piece","often"] (bX yg):=(O,O,O,δ,O,δ,δ)
def ZQ(F:b_ K "seam_terms" "seam_terms" yg f r)(a0:fN mg)(t:b_ K "rims_of" "rims_of" yj l d)(y:eQ K d ["piece"] [])(z:mg "rims_of"=V 5#l):ce P w K mg base bx 2 f r ["piece","often"] Gw:=by
 have G:ce P w K mg base bx 1 l d ["piece"] tT:=OT t a0;refine F.B YL (λI H Q E h=>?_) (λM A m s H I Q E R h=>?_)
 ·obtain⟨a,o,n,rfl,_⟩:=h;rfl
 ·obtain⟨a,o,n,rfl,S,T,k⟩:=h
  refine(_,bF (cX (fe ["piece","often"] ["k","rim","often"] [Y,Y,V 1] (EY O a0.e HL<|ao (gB G R O z t.a y .nil cF<|ao 7#0 aF) aF)
   (λu C b c v=>xx O<|pG (cx (i:=0) (eF ["k","rim","often"]) O<|ai O)<|pG (cx (i:=1) (eF ["k","rim","often"]) O<|ai O) xu)
   (λu C b c v=>iu) (λu C b c v=>jC<|ao 7#1<|ao (Mw (dD jS (bW kH 7#0 bb) bb<|dF _) 7#2<|EZ EC<|ah 2) aF)
   (hfr:=ii (bX yg) δ) (g:=Aq K 2<|tF (dw 0)<|tF (dw 1) Ar) (te:=Oj))),?_)
  have U:=sd o;exact(_,O,a,o,O,S,T,λL H1 bs e X j hb=>(L,O,(_,bI.B j),λD x=>eP<|Yl j hb (â (à U T)) x λH3 ts p q hp=>k D H3 ts (e.F p) (e.A0 x) q hp))
inductive xW(K:aY)(vs:List af)(H:ab)(Q:aU)(E':db):Prop
 |a:∀l ts cs,(vs=[.ref l])->(bI K H l<|ts.map af.ref)->(gQ H ts cs)->(cs.length<=1000)->(∀D H',aL H H'->H D=Y->H' D=V (.a<|bB<|mj cs)->Q 5#D H')->xW K vs H Q E'
def vL:dG ["terms","sums","piece","weight","told"] ["terms"] (bX Bg):=(O,O,O,δ,O,δ,δ)
def ZR(F:b_ K "sum_of" "sum_of" Bg f fd):ce P w K mg base bx 1 f fd ["terms"] (xW K):=by
 refine F.B vL (λvs H Q E h=>?_) (λb1 A a3 s H vs Q E hr h=>?_)
 ·obtain⟨l,ts,R,rfl,_⟩:=h;rfl
 ·obtain⟨l,ts,R,rfl,hl,hp,hz,k⟩:=h
  have hu:=ko hr;have a4:=hp.F;refine(_,bj (cq (i:=1) vL.a O (ai O) pH)
   (bj (gz ga O (eO<|ah 0) (xx O<|pG (cx (i:=2) vL.a O<|ai O)<|pG (cx (i:=3) vL.a O<|ai O) xu)
   <|bF<|lZ hu 7#1 7#2 (bW iv (E_ hu 7#1 7#2 bb (O,O,O,O))<|ah 3) O)
   (bj (cq (i:=4) vL.a O (ai O) pH)
   (bj (gz ga O (Ai<|ah 1) (cx (i:=2) vL.a O<|ai O)
   <|bF<|fL (dD rH (gi hu 7#1 7#2 (λ_ _=>O)) bb<|dF _) (bF<|lZ hu 7#4 7#2 (gi hu 7#1 7#2 (λ_ _=>O)) O) fV)
  <|bF<|cX<|ah 4))),?_)
  intro d hd;refine(_,O,l,O,(_,(aL.B hd).A1 hl),me (K:=K) (a:=l) (xs:=ts.map af.ref) (λi r H2=>∃(S v3:Option af),r=[V<|.ref l,V<|.ref d,S,v3,Y]/\aL H H2/\H2 d=V (.a<|bB<|jk<|R.take i))
   (Y,Y,O,aL.B hd,az) (λi r H2 _ (_,_,_,I,_)=>I.A1 hl) ?_ ?_)
  ·rintro i x r H2 hx ⟨S,v3,rfl,I,n⟩
   obtain⟨t,et,rfl⟩:=fG hx;obtain⟨c,ec,b,e1,e2⟩:=hp.N et;have a0:H2 b=V (.tup<|(c.1.map aN:List aK).map cR):=by rw[bN];exact I.J e2
   have p:(bB<|jk<|R.take i).length<bD:=by
    rw[nD];have:=xV<|R.take i;rw[dR] at this;exact jm ω
   refine(t,_,O,fg.B<|I _ _ e1,O,_,_,O,_,_,O,O,?_);refine(_,O,d,O,.inr (_,.inl n),_,O,_,gN.t (k:=c.1.map aN) n a0,?_);rw[FV];refine(_,O,_,_,O,O,_,O,_,O,d,_,O,AF.t (k:=c.1.map aN) n a0 p,(_,_,O,I.N hd,?_));rw[az,vQ,cG ec,xU]
   rfl
  ·rintro r H2 ⟨S,v3,rfl,I,n⟩
   rw[au,a4,gE] at n;intro T hT;have U:H T=Y:=I.A0 hT;have v:d≠T:=cN n hT;have hn:=AN R;have a5:=xV R;unfold mj at k;generalize jk R=m at n hn a5 k;refine(_,O,d,bB m,O,.inl (by rw[aZ v];exact n),λo H3 a6 L=>MY (λi r M=>∃(S:Option af),r=[V<|.ref l,V<|.ref d,S,v3,V<|.ref T]/\aL H M/\M d=V (.frz o<|.a<|bB m)/\M T=V (.a<|bB<|(m.take i).filter g_))
    (_,O,λb u e=>by rw[L b<|cN e hd,aZ<|cN e U];exact I _ _ e,a6,by rw[L T<|dp v];exact az) (λi r M _ (_,_,_,h,_)=>h) ?_ ?_)
   ·rintro i kv b r M y hb ⟨S,rfl,C,D,q⟩
    have hi:i<m.length:=by
     have:=(bY.mp y).1;rw[nD] at this;exact this
    have ec:m[i]?=V m[i]:=cB hi;obtain rfl:(aez (((m[i]).1.map aN:List aK)) (af.int (m[i]).2))=kv:=by
     unfold bB at y;rw[bV,ec] at y;exact bM y
    have a1:m[i]∈m:=mK hi;have a2:(m[i]).1∉aI ((m.take i).filter g_):=λz=>by
     obtain⟨c',a7,e'⟩:=aO.mp z;obtain⟨j,hj⟩:=zA<|(eW.mp a7).1;have a8:j<i:=by
      have:=(bY.mp hj).1;rw[dR] at this;omega
     rw[uL a8] at hj;have h1:(aI m)[j]?=V (m[i]).1:=by unfold aI;rw[bV,hj];exact fj V e'
     have h2:(aI m)[i]?=V (m[i]).1:=by unfold aI;rw[bV,ec];rfl
     have a9:j<(aI m).length:=by rw[oJ];exact à a8 (ì hi)
     have:=(sX a9 hn).mp<|h1.trans h2.symm;exact ø a8 (æ this)
    have p:(bB<|(m.take i).filter g_).length<bD:=by
     rw[nD];have:=sW g_<|m.take i;rw[dR] at this;exact jm ω
    have g:gN M d 5#b (V<|.int (m[i]).2):=.inr (bB m,(m[i]).1.map aN,b,.inr (o,D),O,hb,(mh hn _ a1).symm);have b0:T≠d:=dp v;refine(_,O,_,O,d,_,O,g,O,_,O,?_);cases G:g_ m[i] with
    |true=>
     have X:(!aE (af.int (m[i]).2=af.int 0))=ae:=G;rw[X];refine eS (_,O,_,O,d,_,O,g,_,O,_,O,T,_,O,AF.t (k:=(m[i]).1.map aN) q hb p,(_,O,C.N U,by rw[aZ v];exact D,?_));rw[az,vQ,Hm _ a2,cG ec,jb,mL G]
     rfl
    |false=>
     have X:(!aE (af.int (m[i]).2=af.int 0))=aB:=G;rw[X];refine dT (_,O,C,D,?_);rw[cG ec,jb,k_ (by rw[G];decide),qg,jy];exact q
   ·rintro r M ⟨S,rfl,C,D,q⟩
    rw[nD,gE] at q;exact(_,O,k T M C U q)
end
def nE(c:List Int×Int)(r:aM)(x:List Int):aS (c::r) x=if c.1=x then c.2 else aS r x:=by
 unfold aS;rw[qf]
 by_cases e:c.1=x
 ·rw[bT e,av e];rfl
 ·rw[cw e,am e]
def kN:∀{a:aM}{x:List Int},x∉aI a->aS a x=0
 |[],_,_=>O
 |c::r,x,h=>by
  rw[nE,am (λz=>h (by unfold aI;rw[cY,z];exact fE))];exact kN λz=>h<|gd _ z
def PC(q:List Int)(v:Int)(x:List Int):∀a:aM,aS (a.map λc=>if c.1=q then(aez c.1 v) else c) x=if x=q/\q∈aI a then v else aS a x
 |[]=>by simp[aS,aI]
 |c::r=>by
  rw[cY,nE,nE,PC q v x r];have b:(q∈aI (c::r))↔(c.1=q\/q∈aI r):=by
   show q∈c.1::aI r↔_;rw[cz];constructor
   ·rintro(h|h)
    ·exact .inl h.symm
    ·exact .inr h
   ·rintro(h|h)
    ·exact .inl h.symm
    ·exact .inr h
  by_cases e:c.1=q
  ·rw[av e]
   by_cases f:x=q
   ·subst f
    rw[av e,av (O,b.mpr<|.inl e)]
   ·rw[am (λz=>f<|z.symm.trans e),am (λz=>f z.1),am (λz=>f z.1),am (λz=>f<|z.symm.trans e)]
  ·rw[am e]
   by_cases f:c.1=x
   ·rw[av f,av f,am (λz=>e<|f.trans z.1)]
   ·rw[am f,am f]
    by_cases g:x=q/\q∈aI r
    ·rw[av g,av (g.1,b.mpr<|.inr g.2)]
    ·rw[am g,am (λz=>g (z.1,(b.mp z.2).resolve_left e))]
def PD(q:List Int)(v:Int)(x:List Int):∀a:aM,aS (a++[(aez q v)]) x=if x∈aI a then aS a x else if q=x then v else 0
 |[]=>by simp[aS,aI];split<;>rfl
 |c::r=>by
  rw[List.cons_append,nE,nE,PD q v x r]
  by_cases e:c.1=x
  ·rw[av e,av e,av (by show x∈c.1::aI r;rw[e];exact fE)]
  ·rw[am e,am e]
   by_cases h:x∈aI r
   ·rw[av h,av<|show x∈aI (c::r) from gd _ h]
   ·have b:¬x∈aI (c::r):=λz=>by
     rcases cz.mp (show x∈c.1::aI r from z) with z|z
     ·exact e z.symm
     ·exact h z
    rw[am h,am b]
def PB(a:aM)(q:List Int)(v:Int)(x:List Int):aS (jl a q v) x=if x=q then v else aS a x:=by
 unfold jl
 by_cases h:q∈aI a
 ·rw[av h,PC]
  by_cases e:x=q
  ·rw[av (e,h),av e]
  ·rw[am (λz=>e z.1),am e]
 ·rw[am h,PD]
  by_cases e:x=q
  ·subst e
   rw[am h,av O,av O]
  ·rw[am e]
   by_cases g:x∈aI a
   ·rw[av g]
   ·rw[am g,am (λz=>e z.symm),kN g]
noncomputable def gP(a:aM)(x:List Int):Int:=(a.map λc=>if c.1=x then c.2 else 0).sum
def Yh(a:aM)(t:List Int×Int)(x:List Int):gP (a++[t]) x=gP a x+if t.1=x then t.2 else 0:=by
 unfold gP;rw[bU,JQ];simp
def AI(a:aM)(t:List Int×Int)(x:List Int):gP (t::a) x=(if t.1=x then t.2 else 0)+gP a x:=by unfold gP;rw[cY,mJ]
def N_(a b:aM)(x:List Int):gP (a++b) x=gP a x+gP b x:=by unfold gP;rw[bU,JQ]
def Yr(x:List Int)(a:aM):aS (jk a) x=gP a x:=BE (P:=λa=>aS (jk a) x=gP a x) O (λl t h=>by
 rw[xU,Yh];unfold BM;rw[PB]
 by_cases e:x=t.1
 ·subst e
  rw[av O,av O,h]
 ·rw[am e,am (λz=>e z.symm),h];omega) a
def BH(x:List Int):∀{a:aM},(aI a).Nodup->aS (a.filter g_) x=aS a x
 |[],_=>O
 |i::r,h=>by
  have b:(i.1::aI r).Nodup:=h;rw[jM] at b;have f:=BH x b.2;cases d:g_ i with
  |true=>rw[mL d,nE,nE,f]
  |false=>
   have g:i.2=0:=by
    have:(!aE (af.int i.2=af.int 0))=aB:=d;have:=fc (by simpa using this:decide (af.int i.2=af.int 0)=true);injection this
   rw[k_ (by rw[d];decide),nE,f]
   by_cases e:i.1=x
   ·rw[av e,g]
    exact kN (by rw[<-e];exact b.1)
   ·rw[am e]
def AO(a:aM)(x:List Int):aS (mj a) x=gP a x:=by unfold mj;rw[BH x<|AN a,Yr]
def qA(a:aM):(aI<|mj a).Nodup:=(AN a).sublist<|(uM (p:=g_) (l:=jk a)).map _
def Gg(a:aM):(mj a).length<=a.length:=dq (sW _ _)<|xV a
def qF:∀{b:aM},(aI b).Nodup->∀c∈b,aS b c.1=c.2
 |[],_,c,h=>bh h 0#0
 |d::r,h,c,g=>by
  have f:(d.1::aI r).Nodup:=h;rw[jM] at f;rw[nE];rcases cz.mp g with e|a
  ·rw[e,av O]
  ·rw[am (λz=>f.1 (by rw[z];exact aO.mpr (c,a,O)))]
   exact qF f.2 c a
def Ow{c:List Int×Int}(h:c∈mj a):c.2≠0/\gP a c.1=c.2:=by
 refine(λz=>?_,?_)
 ·have:=(eW.mp h).2
  have:(!aE (af.int c.2=af.int 0))=ae:=this;rw[z] at this;exact bh this ξ
 ·rw[<-AO]
  exact qF (qA a) c h
def Yi{a:aM}{x:List Int}(h:∀t∈a,t.1≠x):gP a x=0:=by
 induction a with
 |nil=>rfl
 |cons t r b=>rw[AI,am<|h t fE,b λu c=>h u<|gd _ c];rfl
def Yj(h:gP a x≠0):∃t∈a,t.1=x:=by
 refine qj λz=>h<|Yi λt b e=>z (t,b,e)
noncomputable def vY(b:aM):aM:=b.foldl (λa t=>jl a t.1 t.2) []
def PF:∀(b a:aM),(bB b).foldl (λa c=>dZ a c.1 c.2) (bB a)=bB (b.foldl (λa t=>jl a t.1 t.2) a)
 |[],_=>O
 |t::r,a=>by
  show(bB r).foldl _ (dZ (bB a) (t.1.map aN)<|.int t.2)=_;rw[vQ];exact PF r _
def HC(a:aM):As (bB a)=bB (vY a):=PF a []
def Zl{c:List Int}(h:c.Nodup):(dP c).Nodup:=by
 unfold dP;split
 ·exact lS
 ·have d:∀j k,j<k->k<c.length->c.take j++c.drop (j+1)≠c.take k++c.drop (k+1):=by
   intro j k f o e;have g:(c.take j++c.drop (j+1))[j]?=(c.take k++c.drop (k+1))[j]?:=by rw[e]
   rw[pg (by rw[dR];omega),ph (by rw[dR];omega),uL f,ait,dR,JK (à (ì f) (ì o))] at g;rw[show j+1+(j-j)=j+1 from ω] at g;have:=(sX (à (ï f) o) h).mp g;exact ù ß (å this)
  unfold bv;rw[ip];refine(zu (n:=c.length)).imp_of_mem λ{a b} l m i e=>?_;rw[fJ] at l m;rcases SB i with z|z
  ·exact d a b z m e
  ·exact d b a z l e.symm
def Gl(a:List Int)(n:Int):aI (dH a n)=dP a:=by
 unfold aI dH;rw[bN];exact JP 0<|dP a
def Yt(a:List Int)(n:Int)(x:List Int):gP (dH a n) x=n*gP (dH a 1) x:=by
 unfold dH;generalize (dP a).zipIdx=l
 induction l with
 |nil=>simp[gP]
 |cons q r b=>
  rw[cY,cY,AI,AI,b,Tf]
  congr 1
  by_cases e:q.1=x
  ·rw[av e,av e]
   unfold jG;split<;>simp
  ·rw[am e,am e];simp
def NZ(f:List Int×Int->aM)(x:List Int):∀a:aM,gP (a.flatMap f) x=(a.map λc=>gP (f c) x).sum
 |[]=>O
 |c::r=>by rw[nr,N_,cY,mJ,NZ f x r]
noncomputable abbrev Hc:cJ:=dW 25
def eT.A1(s:eT d H a)(r:cA a d u)(h:a l=Y):H l=Y:=by
 cases q:H l with
 |none=>rfl
 |some o=>
  have b:l≠d:=λz=>by
   rw[z] at h;rcases r with r|⟨_,r⟩<;>rw[h] at r<;>cases r
  rw[s _ _ b q] at h;cases h
def eT.A2(e:eT d H c)(h:H a=Y):eT d H (aD c a o):=λb u f q=>by rw[aZ<|cN q h];exact e b u f q
def PU{i:Nat}{b:List aK×af}(h:(bB a)[i]?=V b):∃c,a[i]?=V c/\b=(aez ((c.1.map aN:List aK)) (af.int c.2)):=by
 unfold bB at h;rw[bV] at h;cases e:a[i]? with
 |none=>rw[e] at h;cases h
 |some c=>rw[e] at h;exact(c,O,(bM h).symm)
def AH{H:ab}{b:W}{a:List Int}(h:H b=V (.tup<|(a.map aN:List aK).map cR)):de H b a:=by rw[bN] at h;exact h
def PH{a:aM}{i:Nat}(f:List Int×Int->aM)(h:a[i]?=V c):(a.take<|i+1).flatMap f=(a.take i).flatMap f++f c:=by rw[cG h,SS];simp
def vV{cs:aM}(h:∀c∈cs,c.1.length<=5):(cs.flatMap λc=>dH c.1 c.2).length<=5*cs.length:=by
 induction cs with
 |nil=>simp
 |cons c r a=>
  rw[nr,c_,dj,AQ];have:=a λd b=>h d<|gd _ b;have:=sd c.1;have:=h c fE;omega
section
variable{P:bu}{w:bf}{K:aY}{mg:aq->Option aa}{base:aW}
inductive Gx(vs:List af)(H:ab)(Q:aU)(E':db):Prop
 |a:∀d cs,(vs=[.ref d])->(cA H d<|.a<|bB cs)->((aI cs).Nodup)->(cs.length<=200)->((∀c∈cs,c.1.length<=5))->(∀D H',eT d H H'->cA H' d (.a<|bB cs)->H D=Y->H' D=V (.a<|bB<|mj<|cs.flatMap λc=>dH c.1 c.2)->Q 5#D H')->Gx vs H Q E'
def GW:dG ["chain","terms","piece"] ["chain"] (bX Hc):=(O,O,O,δ,O,δ,δ)
def ZT(F:b_ K "seam_of" "seam_of" Hc f fd)(Ft:b_ K "seam_terms" "seam_terms" yg ft v)(bt:eQ K v ["piece","often"] [])(mt:mg "seam_terms"=V 5#ft)(Gt:ce P w K mg base bx 2 ft v ["piece","often"] Gw)(Fs:b_ K "sum_of" "sum_of" Bg fs x)(bs:eQ K x ["terms"] [])(ms:mg "sum_of"=V 5#fs)(Gs:ce P w K mg base bx 1 fs x ["terms"] (xW K)):ce P w K mg base bx 3 f fd ["chain"] Gx:=by
 refine F.B GW (λvs H Q E h=>?_) (λa9 A a0 s H vs Q E hr h=>?_)
 ·obtain⟨d,y,rfl,_⟩:=h;rfl
 ·obtain⟨d,y,rfl,hd,a1,b0,T,k⟩:=h
  have hu:=ko hr;have a2:fM 1 _:=hr.B ξ;have a3:fM 2 _:=hr.B ξ;refine(_,bj (cq (i:=1) GW.a O (ai O)<|je aF)
   (bj (gz ga O (Ai<|ah 0) (cx (i:=2) GW.a O<|ai O)
   <|bF<|mR<|lv nM agg PySem.F.type_list_extend Wz 7#1<|ao (gB Gt a3 O mt Ft.a bt .nil cF<|ao 7#2<|ao (gi hu 7#0 7#2 (λ_ _=>O)) aF) aF)
  <|bF<|cX<|gB Gs a2 O ms Fs.a bs .nil cF<|ao 7#1 aF),?_)
  refine(bR 0#0,λL I=>?_);have M:d≠L:=by
   rcases hd with r|⟨_,r⟩
   ·exact cN r I
   ·exact cN r I
  refine(_,O,d,bB y,O,hd.B<|aL.B I,λo H3 a4 q=>MY (λi U t=>∃(v3:Option af)(G:List W),U=[V<|.ref d,V<|.ref L,v3]/\eT d H t/\t d=V (.frz o<|.a<|bB y)/\t L=V (.lst<|G.map af.ref)/\gQ t G ((y.take i).flatMap λc=>dH c.1 c.2))
   (Y,[],O,λb u X e=>by rw[q b X,aZ<|cN e I];exact e,a4,by rw[q L<|dp M];exact az,.nil) (λi U t _ (_,_,_,_,h,_)=>h) ?_ ?_)
  ·rintro i kv b U t a5 X ⟨v3,G,rfl,p,j,l,m⟩
   obtain⟨c,ec,rfl⟩:=PU a5;have n:=dh ec;have g:gN t d 5#b (V<|.int c.2):=.inr (bB y,c.1.map aN,b,.inr (o,j),O,X,(mh a1 c n).symm);refine(_,O,.inl (O,_,bI.B l),_,O,_,O,_,O,d,_,O,g,b,c.1,c.2,O,AH X,T c n,λD5 H5 us a a8 C R=>?_);have b1:=m.F;have a6:=R.F;have S:=vV (cs:=y.take i) λc hc=>T c<|wO hc;rw[dR] at S;rw[AQ] at a6;have:=sd c.1;have:=T c n;refine(L,D5,_,_,O,O,a _ _ l,C,by rw[au,au];exact bR ω,(_,G++us,O,(p.B<|eT.J a).A2 I,by rw[aZ M];exact a _ _ j,by rw[az,bU],?_));rw[PH _ ec];exact gQ.J ((m.B a).A0 R) (a _ _ l) (by intro xs z;cases z)
  ·rintro U t ⟨v3,G,rfl,p,j,l,m⟩
   rw[nD,gE] at m;have S:=vV T;refine(_,O,L,G,_,O,bI.B l,m,ω,λD H5 a a7 C=>?_);exact k D H5 (p.B<|eT.J a) (.inr (o,a _ _ j)) (p.A1 (.inr (o,j)) a7) C
end
noncomputable abbrev qB(a:aM):aM:=mj<|a.flatMap λc=>dH c.1 c.2
noncomputable def ix(q x:List Int):Int:=gP (dH q 1) x
noncomputable def jn(a:aM)(x:List Int):Int:=(a.map λc=>c.2*ix c.1 x).sum
def Pp(c:List Int×Int)(r:aM)(x:List Int):jn (c::r) x=c.2*ix c.1 x+jn r x:=by unfold jn;rw[cY,mJ]
def xZ(a:aM)(x:List Int):aS (qB a) x=jn a x:=by
 rw[AO,NZ];unfold jn
 congr 1
 exact fS λc _=>Yt c.1 c.2 x
noncomputable def HF(x l:List Int):Int:=if l=x then 1 else 0
def AJ(q x:List Int):ix q x=((dP q).zipIdx.map λr=>jG r.2 1*HF x r.1).sum:=by
 unfold ix gP dH;rw[bN]
 congr 1
 refine fS λr _=>?_;show(if r.1=x then jG r.2 1 else 0)=jG r.2 1*HF x r.1;unfold HF
 by_cases e:r.1=x
 ·rw[av e,av e,ajb]
 ·rw[am e,am e,zF]
def abz(x:List Int):∀f:List Int,f.length<=5->jn (dH f 1) x=0
 |[],_=>by simp[jn,dH,dP,cr,Dw]
 |[a],_=>by simp[jn,dH,dP]
 |[a,b],_=>by simp[jn,dH,dP,AJ,cr,Dw]
 |[a,b,c],_=>by
  simp[jn,dH,dP,AJ,cr,Dw,jG];omega
 |[a,b,c,d],_=>by
  simp[jn,dH,dP,AJ,cr,Dw,jG];omega
 |[a,b,c,d,e],_=>by
  simp[jn,dH,dP,AJ,cr,Dw,jG];omega
 |_::_::_::_::_::_::_,h=>by simp at h
def FY(h:(aI a).Nodup)(x:List Int):gP a x=aS a x:=by
 induction a with
 |nil=>rfl
 |cons c r d=>
  have b:(c.1::aI r).Nodup:=h;rw[jM] at b;rw[AI,nE,d b.2]
  by_cases e:c.1=x
  ·rw[av e,av e,kN (by rw[<-e];exact b.1)];omega
  ·rw[am e,am e];omega
def yC{c:Type}{b:List c->Prop}(nil:b [])(append_singleton:∀l a,b l->b (l++[a]))(l:List c):b l:=by
 have:∀m:List c,b m.reverse:=λm=>by
  induction m with
  |nil=>exact nil
  |cons a m d=>rw[SJ];exact append_singleton _ _ d
 simpa using this l.reverse
noncomputable def Qq(p:List Int):Option (Int×Int):=match p with|[x,y]=>V (aez x y)|_=>Y
noncomputable def mx(a:Ξ):List (Int×Int):=a.filterMap Qq
noncomputable def se(a:Int->Int)(e:Int×Int):Int->Int:=λp=>if a p=a e.2 then a e.1 else a p
noncomputable def kb(a:List (Int×Int)):Int->Int:=a.foldl se id
def Ib(a:List (Int×Int))(e:Int×Int):kb (a++[e])=se (kb a) e:=by unfold kb;rw[s_];rfl
def ac2(a:Ξ)(x y:Int):mx (a++[[x,y]])=mx a++[(aez x y)]:=by unfold mx;rw[aiy];rfl
def ac4{p:List Int}(h:p.length≠2):Qq p=Y:=by
 match p,h with
 |[],_=>rfl
 |[_],_=>rfl
 |[_,_],h=>exact bh O h
 |_::_::_::_,_=>rfl
def ac3(a:Ξ){p:List Int}(h:p.length≠2):mx (a++[p])=mx a:=by unfold mx;rw[aiy,DF,ac4 h];simp
def Qh{b:Ξ}{e:Int×Int}:e∈mx b↔[e.1,e.2]∈b:=by
 unfold mx;rw[JS];constructor
 ·rintro⟨p,c,a⟩
  match p,a with
  |[x,y],a=>cases a;exact c
 ·intro h
  exact(_,h,O)
def acu(a:Int->Int)(e:Int×Int):se a e e.1=se a e e.2:=by
 unfold se;rw[av O];split<;>rfl
def acx(b:List (Int×Int)):∀e∈b,kb b e.1=kb b e.2:=by
 induction b using yC with
 |nil=>intro e h;cases h
 |append_singleton b a c=>
  intro e h;rw[Ib];rcases dt.mp h with h|h
  ·unfold se
   rw[c e h]
  ·have:e=a:=by simpa using h
   subst this;exact acu _ _
def acy(S:Int->Prop)(c:List (Int×Int)):(∀e∈c,S e.1↔S e.2)->∀p q,kb c p=kb c q->(S p↔S q):=by
 induction c using yC with
 |nil=>intro _ p q h;have:p=q:=h;rw[this]
 |append_singleton c a j=>
  intro g p q h;have b:=j λe k=>g e<|kF _ k;have i:=g a 0#0;rw[Ib] at h;unfold se at h
  by_cases f:kb c p=kb c a.2
  ·by_cases d:kb c q=kb c a.2
   ·exact b p q<|f.trans d.symm
   ·rw[av f,am d] at h
    exact(b p a.2 f).trans<|i.symm.trans<|b a.1 q h
  ·by_cases d:kb c q=kb c a.2
   ·rw[am f,av d] at h
    exact(b p a.1 h).trans<|i.trans<|b a.2 q d.symm
   ·rw[am f,am d] at h
    exact b p q h
noncomputable def pV(a:List Int)(k:Int):List Int:=if k∈a then a else a++[k]
noncomputable def gF(L:List Int):List Int:=L.foldl pV []
def B_(L:List Int)(k:Int):gF (L++[k])=pV (gF L) k:=by unfold gF;rw[s_];rfl
def BY(L:List Int):∀x,x∈gF L↔x∈L:=by
 induction L using yC with
 |nil=>intro x;exact Iff.rfl
 |append_singleton L k a=>
  intro x;rw[B_];unfold pV;split
  ·rename_i h
   rw[a,dt];constructor
   ·exact .inl
   ·rintro(q|q)
    ·exact q
    ·have:x=k:=by simpa using q
     rw[this];exact(a k).mp h
  ·rw[dt,dt,a]
def Ia(L:List Int):(gF L).Nodup:=by
 induction L using yC with
 |nil=>exact lS
 |append_singleton L k c=>
  rw[B_];unfold pV;split
  ·exact c
  ·rename_i h
   rw[kg];exact(c,by simp,λa d b f e=>by
    have:b=k:=6#f;subst this;subst e;exact h d)
noncomputable def BS(b:Int->Int)(a:List Int):Ξ:=(gF<|a.map b).map λk=>a.filter λp=>aE<|b p=k
def Qg{x:Int}:x∈dJ (bC a)↔[x]∈bC a:=by
 unfold dJ;rw[aO];constructor
 ·rintro⟨p,b,rfl⟩
  obtain⟨c,d⟩:=eW.mp b;have e:=fc d
  match p,e with
  |[y],_=>exact c
 ·intro h
  exact([x],eW.mpr (h,O),O)
def Qp{x y:Int}(h:[x,y]∈bC a):x∈dJ (bC a)/\y∈dJ (bC a):=by
 obtain⟨p,b,c⟩:=jN.mp<|sf.mp h;constructor
 ·exact Qg.mpr<|sf.mpr<|jN.mpr (p,b,Qd c<|mY.mpr (by simp,by simp))
 ·exact Qg.mpr<|sf.mpr<|jN.mpr (p,b,Qd c<|mY.mpr (by simp,by simp))
def Qc(c:Ξ):(dJ<|bC c).Pairwise (·<·):=by
 unfold dJ;rw[ip];have j:((bC c).filter λp=>aE<|p.length=1).Pairwise (λa b=>si a b=ae/\a≠b):=
  (((B' c).and<|yD c)).sublist uM
 refine j.imp_of_mem λ{a b} k l h=>?_;have m:=fc (eW.mp k).2;have n:=fc (eW.mp l).2
 match a,b,m,n with
 |[x],[y],_,_=>
  have d:=h.1;have f:x≠y:=λe=>h.2 (by rw[e]);show x<y;rw[ud] at d
  by_cases g:x<y
  ·exact g
  ·exfalso
   have i:y<x:=by lia
   simp[pU,bJ,i] at d;exact f d.symm
noncomputable def uc(q:List Int):Int:=1-2*(1-(q.length:Int)%2)
noncomputable def qL(a:Ξ):Int:=(a.map uc).sum
def ac7(q:List Int)(l:Ξ):qL (q::l)=uc q+qL l:=by unfold qL;rw[cY,mJ]
noncomputable def qK(a:Ξ)(n:Nat):Int:=((cr n).map λk=>mZ a k*(1-(k:Int)%2*2)).sum
def Ig(a:Ξ)(n:Nat):qK a (n+1)=qK a n+mZ a n*(1-(n:Int)%2*2):=by
 unfold qK;rw[wN,bU,JQ];simp
def ac6(q:List Int)(a:Ξ)(k:Nat):mZ (q::a) k=(if q.length=k+1 then 1 else 0)+mZ a k:=by
 unfold mZ
 by_cases h:q.length=k+1
 ·rw[mL 6#h,av h,dj];omega
 ·rw[k_ 6#h,am h];omega
def Qn(q:List Int)(a:Ξ):∀n,qK (q::a) n=qK a n+(if 1<=q.length/\q.length<=n then uc q else 0)
 |0=>by rw[am ω];simp[qK]
 |n+1=>by
  rw[Ig,Ig,Qn q a n,ac6]
  by_cases h:q.length=n+1
  ·rw[av h,am ω,av ω]
   have:uc q=1-(n:Int)%2*2:=by unfold uc;rw[h];omega
   rw[this,Tg];omega
  ·rw[am h,Kh]
   by_cases b:1<=q.length/\q.length<=n
   ·rw[av b,av (b.1,í b.2)];omega
   ·rw[am b,am ω];omega
def Qm:∀n,qK [] n=0
 |0=>O
 |n+1=>by rw[Ig,Qm n];simp[mZ]
def Qo(n:Nat):∀a:Ξ,(∀q∈a,1<=q.length/\q.length<=n)->qK a n=qL a
 |[],_=>Qm n
 |q::a,h=>by
  rw[Qn,Qo n a λx b=>h x<|gd _ b,av<|h q fE,ac7];omega
def adb{a:Ξ}(h:∀q∈a,1<=q.length):oQ (sj a)=qL a:=by
 rw[<-Qo (mw a) a λq c=>(h q c,If c)];unfold oQ qK sj;rw[au,lT]
 congr 1
 refine fS λk d=>?_;have b:=fJ.mp d;rw[wP,bV,pf b]
 rfl
def acz{q:List Int}(h:q≠[]):1<=q.length:=by
 cases q with
 |nil=>exact bh O h
 |cons _ _=>simp
def ac9{q:List Int}(h:q∈bC a):q≠[]:=by
 obtain⟨p,_,b⟩:=jN.mp<|sf.mp h;exact(mY.mp b).1
def wf{q:List Int}:q∈bC a↔q≠[]/\∃t∈a,q.Sublist t:=by
 rw[sf,jN];constructor
 ·rintro⟨t,c,b⟩
  exact((mY.mp b).1,t,c,(mY.mp b).2)
 ·rintro⟨h,t,c,b⟩
  exact(t,c,mY.mpr (h,b))
def adc(a:Ξ):oQ (sj<|bC a)=qL (bC a):=adb λq b=>acz<|ac9 b
section
variable{pss:Ξ}{p:List Int}
def yE(hw:jr pss=ae){q:List Int}(h:q∈bC pss):iJ q=ae:=by
 obtain⟨t,a,b⟩:=jN.mp<|sf.mp h;exact HZ ((ua hw).2.1 t a) b
end
noncomputable def pT(met:Ξ)(p:List Int):Bool:=iB p&&!aE (p∈met)&&(dP p).all λr=>aE<|r∈met
def ky(l:Ξ):Prop:=∀i p,l[i]?=V p->pT (l.take i) p=ae
def yB:pT met p=ae↔iJ p=ae/\p∉met/\∀r∈dP p,r∈met:=by
 unfold pT;rw[jP,jP,BV,Tj,decide_eq_false_iff_not,pv,and_assoc];exact and_congr_right λ_=>and_congr_right λ_=>(λh r a=>fc<|h r a,λh r a=>bT<|h r a)
def Qf:ky []:=λi p h=>by simp at h
def Qe(h:ky l)(a:pT l p=ae):ky (l++[p]):=λi q e=>by
 rcases kX i l.length with c|c
 ·rw[ph c] at e
  rw[aia (ì c)];exact h i q e
 ·have b:i=l.length:=by
   have:=(bY.mp e).1;rw[c_,zy] at this;exact û (ò this) c
  subst b;rw[pg<|aV _,wM] at e;cases e;rw[List.take_left']
  ·exact a
  ·rfl
def H_(h:ky l){p:List Int}(a:p∈l):iJ p=ae/\∀r∈dP p,r∈l:=by
 obtain⟨i,e⟩:=gW.mp a;obtain⟨b,_,c⟩:=yB.mp<|h i p e;exact(b,λr d=>wO<|c r d)
def acw(h:ky l):l.Nodup:=by
 refine uJ.mpr<|pc.mpr λi j b c a e=>?_;refine(yB.mp<|h j l[j]<|cB c).2.1<|gW.mpr (i,?_);rw[uL a,cB b,e]
abbrev bZ:=Nat->Int
structure kR(p:Int):Prop where
 c:2<=p
 d:∀a b,p ∣ a*b->p ∣ a\/p ∣ b
 e:∀w g,¬p ∣ w->∃k:Nat,(k:Int)<p/\p ∣ (k:Int)*w-g
def Cv{n:Nat}(p:2<=n)(h:∀a:Fin n,∀b:Fin n,(a.1*b.1)%n=0->a.1=0\/b.1=0)(i:∀w:Fin n,∀g:Fin n,w.1=0\/∃k:Fin n,(k.1*w.1)%n=g.1):kR (n:Int):=by
 have c:∀a:Int,∃x:Fin n,(x.1:Int)=a%n:=λa=>by
  have q:0<=a%(n:Int):=qh _ ω;have r:a%(n:Int)<n:=qi _ ω;exact(((a%(n:Int)).toNat,ω),by simp only;omega)
 refine(ω,λa b j=>?_,λw g l=>?_)
 ·obtain⟨x,d⟩:=c a
  obtain⟨y,f⟩:=c b;have e:(a*b)%(n:Int)=0:=Km j;rw[Kl,<-d,<-f] at e;have m:(x.1*y.1)%n=0:=by exact_mod_cast e
  rcases h x y m with z|z
  ·left
   refine wT ?_;rw[<-d,z];rfl
  ·right
   refine wT ?_;rw[<-f,z];rfl
 ·obtain⟨x,d⟩:=c w
  obtain⟨y,f⟩:=c g;rcases i x y with z|⟨k,o⟩
  ·refine bh (wT ?_) l
   rw[<-d,z];rfl
  ·refine(k.1,by exact_mod_cast k.2,?_)
   refine wT ?_;have e:((k.1:Int)*w)%n=g%n:=by
    rw[Kl,<-d,<-f,<-o]
    push_cast
    rw[Kl,ajf,<-Kl]
   rw[Int.sub_emod,e,rr]
   rfl
def aep:kR 2:=Cv (n:=2) ξ ξ ξ
def aeo:kR 3:=Cv (n:=3) ξ ξ ξ
def aen:kR 5:=Cv (n:=5) ξ ξ ξ
def aem:kR 7:=Cv (n:=7) ξ ξ ξ
def kQ(p:Int)(f:bZ):Prop:=∀u,p ∣ f u
def fH(p:Int)(f:bZ)(t:Nat):Prop:=¬p ∣ f t/\∀u,t<u->p ∣ f u
def oR(p:Int)(f:bZ)(T:Nat):Prop:=∀u,T<=u->p ∣ f u
noncomputable abbrev eL(f:bZ)(a:Int)(g:bZ):bZ:=λu=>f u-a*g u
def ue{p a x y:Int}(h:p ∣ x)(k:p ∣ y):p ∣ x-a*y:=nt h<|lj k<|rt _ _
def aer{p a x y:Int}(h:p ∣ x-a*y)(k:p ∣ y):p ∣ x:=by
 have:=mM h<|lj k<|rt a y
 rwa [ai9] at this
noncomputable def fH.B{a b:Nat}(h:fH p f a)(k:fH p f b):a=b:=by
 rcases Ds a b with z|z|z
 ·exact bh (h.2 b z) k.1
 ·exact z
 ·exact bh (k.2 a z) h.1
def fH.F(h:fH p f a):¬kQ p f:=λz=>h.1<|z a
def mC(p:Int):List (Nat×bZ)->bZ->Prop
 |[],f=>kQ p f
 |r::L,f=>∃a,mC p L (eL f a r.2)
def yI{p:Int}:∀{L:List (Nat×bZ)}{f g:bZ},(∀u,p ∣ f u-g u)->mC p L g->mC p L f
 |[],f,g,h,b=>λu=>by
  have:=mM (h u)<|b u
  rwa [ai9] at this
 |r::L,f,g,h,(a,b)=>(a,yI (λu=>by
   have e:eL f a r.2 u-eL g a r.2 u=f u-g u:=by show f u-a*r.2 u-(g u-a*r.2 u)=_;omega
   rw[e];exact h u) b)
def Cq:∀{L:List (Nat×bZ)}{f:bZ},kQ p f->mC p L f
 |[],f,h=>h
 |r::L,f,h=>(0,Cq λu=>by show p ∣ f u-0*r.2 u;rw[Kg,zE];exact h u)
def Iq(P:kR p):∀{L:List (Nat×bZ)},(L.map (·.1)).Nodup->(∀r∈L,fH p r.2 r.1)->∀{f:bZ},mC p L f->kQ p f\/∃r∈L,fH p f r.1
 |[],_,_,f,h=>.inl h
 |r::L,j,n,f,(a,h)=>by
  rw[cY,jM] at j;have g:=n r<|.head _;have b:∀u,f u=eL f a r.2 u+a*r.2 u:=λu=>by show f u=f u-a*r.2 u+a*r.2 u;omega
  rcases Iq P j.2 (λq i=>n q<|.tail _ i) h with z|⟨q,i,z⟩
  ·by_cases c:p ∣ a
   ·left
    intro u;rw[b u];exact mM (z u)<|lj c<|wU _ _
   ·right
    refine(r,.head _,λe=>?_,λu d=>?_)
    ·have:p ∣ a*r.2 r.1:=by
      have:=nt e<|z r.1
      rwa [show f r.1-eL f a r.2 r.1=a*r.2 r.1 from by rw[b r.1];omega] at this
     rcases P.d _ _ this with k|k
     ·exact c k
     ·exact g.1 k
    ·rw[b u]
     exact mM (z u)<|lj (g.2 u d)<|rt _ _
  ·have l:q.1≠r.1:=λe=>j.1<|e▸Dx i
   by_cases c:p ∣ a
   ·right
    refine(q,.tail _ i,λe=>z.1 ?_,λu d=>?_)
    ·exact dvd_of e c
    ·rw[b u]
     exact mM (z.2 u d)<|lj c<|wU _ _
   ·rcases SB l with m|m
    ·right
     refine(r,.head _,λe=>?_,λu d=>?_)
     ·have k:=nt e<|z.2 r.1 m
      rw[show f r.1-eL f a r.2 r.1=a*r.2 r.1 from by rw[b r.1];omega] at k;rcases P.d _ _ k with k|k
      ·exact c k
      ·exact g.1 k
     ·rw[b u]
      exact mM (z.2 u (à m (ì d)))<|lj (g.2 u d)<|rt _ _
    ·right
     refine(q,.tail _ i,λe=>z.1<|ue e<|g.2 q.1 m,λu d=>?_);rw[b u];exact mM (z.2 u d)<|lj (g.2 u (à m (ì d)))<|rt _ _
where
 dvd_of {p a x y:Int} (e:p ∣ x) (c:p ∣ a):p ∣ x-a*y:=nt e<|lj c<|wU _ _
structure yK(p:Int)(S:bZ->bZ):Prop where
 b:∀f a g u,S (eL f a g) u=S f u-a*S g u
 z:∀{f},kQ p f->kQ p (S f)
structure js where
 b:Nat
 d:Option Nat
 r:bZ
 g:bZ
structure Iz(p:Int)(S:bZ->bZ)(T:Nat)(x:js):Prop where
 a:x.b<T
 c:fH p x.r x.b
 d:kQ p (S x.r)
 b:∀t,x.d=V t->t<T/\x.b<t/\fH p x.g t/\∀u,p ∣ S x.g u-x.r u
structure Rows(p:Int)(S:bZ->bZ)(T:Nat)(L:List js):Prop where
 a:∀x∈L,Iz p S T x
 c:(L.map (·.b)).Nodup
 all:∀t,t<T->(∃x∈L,x.b=t)\/∃x∈L,x.d=V t
 d:∀x∈L,∀y∈L,y.d≠V x.b
 e:∀x∈L,∀y∈L,∀t,x.d=V t->y.d=V t->x=y
def QJ{L:List js}(d:(L.map (·.b)).Nodup){x y:js}(f:x∈L)(g:y∈L)(e:x.b=y.b):x=y:=by
 induction L with
 |nil=>cases f
 |cons q L h=>
  rw[cY,jM] at d;rcases cz.mp f with rfl|c
  ·rcases cz.mp g with rfl|a
   ·rfl
   ·exact bh (aO.mpr (y,a,e.symm)) d.1
  ·rcases cz.mp g with rfl|a
   ·exact bh (aO.mpr (x,c,e)) d.1
   ·exact h d.2 c a
noncomputable def uf(t:Nat)(L:List js):List (Nat×bZ):=(L.filter λx=>match x.d with|some d=>aE (d<t)|none=>aB).map λx=>(aez x.b x.r)
def wm{t:Nat}{q:Nat×bZ}:q∈uf t L↔∃x∈L,∃d,x.d=V d/\d<t/\q=(aez x.b x.r):=by
 unfold uf;rw[aO];constructor
 ·rintro⟨x,a,rfl⟩
  rw[eW] at a;obtain⟨c,b⟩:=a;cases e:x.d with
  |none=>rw[e] at b;cases b
  |some d=>rw[e] at b;exact(x,c,d,e,fc b,O)
 ·rintro⟨x,a,d,e,f,rfl⟩
  refine(x,eW.mpr (a,?_),O);rw[e];exact bT f
def aes{t:Nat}{L:List js}(a:(L.map (·.b)).Nodup):((uf t L).map (·.1)).Nodup:=by
 unfold uf;rw[bN];exact ai7 (DH _ uM) a
def It{p a:Int}{x:Nat×bZ}:∀{L:List (Nat×bZ)}{f g:bZ},x∈L->(∀u,p ∣ eL g a x.2 u-f u)->mC p L f->mC p L g
 |r::L,f,g,b,h,(k,c)=>by
  rcases cz.mp b with rfl|b
  ·refine(k+a,yI (λu=>?_) c)
   have e:eL g (k+a) x.2 u-eL f k x.2 u=eL g a x.2 u-f u:=by
    show g u-(k+a)*x.2 u-(f u-k*x.2 u)=g u-a*x.2 u-f u;rw[Tg];omega
   rw[e];exact h u
  ·refine(k,It (a:=a) (f:=eL f k r.2) b (λu=>?_) c)
   have e:eL (eL g k r.2) a x.2 u-eL f k r.2 u=eL g a x.2 u-f u:=by
    show g u-k*r.2 u-a*x.2 u-(f u-k*r.2 u)=g u-a*x.2 u-f u;omega
   rw[e];exact h u
def Ir{b:List (Nat×bZ)}:∀{L:List (Nat×bZ)}{e:bZ},(∀x∈L,x∈b)->mC p L e->mC p b e
 |[],e,_,h=>Cq h
 |r::L,e,c,(g,h)=>It (a:=g) (f:=eL e g r.2) (c r<|.head _) (λu=>by rw[rr];exact dC _) (Ir (λx d=>c x<|.tail _ d) h)
def Iu(P:kR p){T:Nat}(e:oR p f (T+1))(c:fH p g T):∃a:Int,oR p (eL f a g) T/\(¬p ∣ f T->¬p ∣ a):=by
 obtain⟨k,_,d⟩:=P.e (g T) (f T) c.1;refine(k,λu b=>?_,λh i=>h ?_)
 ·rcases ah6 b with rfl|b
  ·have:=uO.mpr d
   rwa [show -((k:Int)*g T-f T)=eL f k g T from by show _=f T-k*g T;omega] at this
  ·exact ue (e u b)<|c.2 u b
 ·have j:p ∣ (k:Int)*g T:=lj i<|wU _ _
  have:=nt j d
  rwa [show(k:Int)*g T-((k:Int)*g T-f T)=f T from ω] at this
def Cu(P:kR p)(g:yK p S)(R:Rows p S T L):∀t,t<=T->∀f,oR p f t->mC p (uf t L) (S f)
 |0,_,f,h=>Cq (g.z λu=>h u<|eY _)
 |t+1,j,f,h=>by
  have b:∀m∈uf t L,m∈uf (t+1) L:=λq k=>by
   obtain⟨m,c,d,e,l,rfl⟩:=wm.mp k;exact wm.mpr (m,c,d,e,(í l),O)
  rcases R.all t j with ⟨m,c,rfl⟩|⟨m,c,e⟩
  ·have o:=R.a m c
   obtain⟨n,i,_⟩:=Iu P h o.c;refine yI (λu=>?_)<|Ir b<|Cu P g R _ (ì j) _ i;rw[g.b];rw[show S f u-(S f u-n*S m.r u)=n*S m.r u from ω];exact lj (o.d u)<|rt _ _
  ·have o:=(R.a m c).b t e
   obtain⟨n,i,_⟩:=Iu P h o.2.2.1;refine It (a:=n) (x:=(aez m.b m.r)) (wm.mpr (m,c,t,e,ß,O)) (λu=>?_)<|Ir b<|Cu P g R _ (ì j) _ i;rw[g.b];rw[show eL (S f) n m.r u-(S f u-n*S m.g u)=n*(S m.g u-m.r u) from by show S f u-n*m.r u-(S f u-n*S m.g u)=_;rw[Kk];omega];exact lj (o.2.2.2 u)<|rt _ _
def aeg(P:kR p)(w:yK p S)(R:Rows p S T L){t:Nat}(D:oR p c T)(E:kQ p (S c))(j:fH p c t):∃x∈L,x.b=t:=by
 have G:t<T:=ah5 λz=>j.1<|D t z;rcases R.all t G with h|⟨x,l,e⟩
 ·exact h
 ·exfalso
  have o:=(R.a x l).b t e;obtain⟨Q,H,m⟩:=Iu P (T:=t) (f:=c) (g:=x.g) (λu n=>j.2 u n) o.2.2.1;have I:=m j.1;have r:=Cu P w R t (ì G) _ H;have A:=(R.a x l).c;have C:∀u,p ∣ S (eL c Q x.g) u+Q*x.r u:=λu=>by
   rw[w.b];have K:=ue (a:=Q) (E u)<|o.2.2.2 u
   rwa [show S c u-Q*(S x.g u-x.r u)=S c u-Q*S x.g u+Q*x.r u from by rw[Kk];omega] at K
  have i:fH p (S<|eL c Q x.g) x.b:=by
   refine(λz=>?_,λu n=>?_)
   ·have k:=nt (C x.b) z
    rw[show S (eL c Q x.g) x.b+Q*x.r x.b-S (eL c Q x.g) x.b=Q*x.r x.b from ω] at k;rcases P.d _ _ k with k|k
    ·exact I k
    ·exact A.1 k
   ·have k:=nt (C u)<|lj (A.2 u n)<|rt Q<|x.r u
    rwa [show S (eL c Q x.g) u+Q*x.r u-Q*x.r u=S (eL c Q x.g) u from ω] at k
  rcases Iq P (aes R.c) (λq s=>by
   obtain⟨y,b,d,v,M,rfl⟩:=wm.mp s;exact(R.a y b).c) r with z|⟨q,s,z⟩
  ·exact i.F z
  ·obtain⟨y,b,d,v,M,rfl⟩:=wm.mp s
   have:=QJ R.c l b<|i.B z;subst this;rw[e] at v;cases v;exact ù ß M
def ael(R:Rows p S T L){z g:bZ}(j:fH p z T)(k:kQ p (S z)):Rows p S (T+1) (L++[(T,Y,z,g)]):=by
 have l:∀x∈L,Iz p S (T+1) x:=λx c=>by
  have o:=R.a x c;exact(by have:=o.a;exact í this,o.c,o.d,λt e=>by
   obtain⟨a,b⟩:=o.b t e;exact((í a),b))
 refine(λx c=>?_,?_,λt q=>?_,λx c y d=>?_,λx c y d t f i=>?_)
 ·rcases dt.mp c with c|c
  ·exact l x c
  ·rw[cT.mp c]
   exact(zn _,j,k,λt e=>nomatch e)
 ·rw[bU,kg]
  refine(R.c,by simp,λa m b n=>?_);obtain⟨x,c,rfl⟩:=aO.mp m;have:=(R.a x c).a;simp at n;exact õ (à this (æ n))
 ·rcases kX t T with h|h
  ·rcases R.all t h with ⟨x,c,e⟩|⟨x,c,e⟩
   ·exact .inl (x,kF _ c,e)
   ·exact .inr (x,kF _ c,e)
  ·exact .inl (_,jO _<|.head _,by show T=t;exact û h (ò q))
 ·rcases dt.mp d with d|d
  ·rcases dt.mp c with c|c
   ·exact R.d x c y d
   ·rw[cT.mp c]
    intro e;have:=((R.a y d).b _ e).1;simp at this
  ·rw[cT.mp d]
   intro e;cases e
 ·rcases dt.mp c with c|c
  ·rcases dt.mp d with d|d
   ·exact R.e x c y d t f i
   ·rw[cT.mp d] at i;cases i
  ·rw[cT.mp c] at f;cases f
noncomputable def su(b T:Nat)(r g:bZ)(L:List js):List js:=L.map λx=>if x.b=b then(b,V T,r,g) else x
def aeq{b T:Nat}:(su b T r g L).map (·.b)=L.map (·.b):=by
 unfold su;rw[bN];refine fS λx _=>?_;show(if x.b=b then((b,V T,r,g):js) else x).b=x.b
 by_cases e:x.b=b
 ·rw[av e];exact e.symm
 ·rw[am e]
def aek(R:Rows p S T L){c:js}(k:c∈L)(v:c.d=Y)(w:fH p r c.b)(z:kQ p (S r))(A:fH p g T)(C:∀u,p ∣ S g u-r u):Rows p S (T+1) (su c.b T r g L):=by
 have i:∀y,y∈su c.b T r g L->y=(c.b,V T,r,g)\/(y∈L/\y.b≠c.b):=λy d=>by
  obtain⟨x,f,rfl⟩:=aO.mp d
  by_cases e:x.b=c.b
  ·rw[av e];exact .inl O
  ·rw[am e];exact .inr (f,e)
 have j:∀x∈L,x.b≠c.b->x∈su c.b T r g L:=λx f e=>aO.mpr (x,f,am e);have l:((c.b,V T,r,g):js)∈su c.b T r g L:=aO.mpr (c,k,av O);refine(λy d=>?_,by rw[aeq];exact R.c,λt E=>?_,λx f y d=>?_,λx f y d t m n=>?_)
 ·rcases i y d with rfl|⟨d,_⟩
  ·exact(by have:=(R.a c k).a;show c.b<T+1;exact í this,w,z,λt e=>by
    cases e;exact(zn _,(R.a c k).a,A,C))
  ·have o:=R.a y d
   exact(by have:=o.a;exact í this,o.c,o.d,λt e=>by
    obtain⟨a,b⟩:=o.b t e;exact((í a),b))
 ·rcases kX t T with h|h
  ·rcases R.all t h with ⟨x,f,e⟩|⟨x,f,e⟩
   ·by_cases q:x.b=c.b
    ·exact .inl (_,l,by show c.b=t;exact û (à (æ q) (å e)) (à (æ e) (å q)))
    ·exact .inl (x,j x f q,e)
   ·refine .inr (x,j x f λq=>?_,e)
    have:=QJ R.c f k q;subst this;rw[v] at e;cases e
  ·exact .inr (_,l,by show V T=V t;rw[show T=t from (û h (ò E))])
 ·rcases i x f with rfl|⟨f,D⟩
  ·rcases i y d with rfl|⟨d,s⟩
   ·intro e
    have:=(R.a c k).a;have G:T=c.b:=bM e;exact ø this (å G)
   ·exact R.d c k y d
  ·rcases i y d with rfl|⟨d,s⟩
   ·intro e
    have:=(R.a x f).a;cases e;exact ù ß this
   ·exact R.d x f y d
 ·rcases i x f with rfl|⟨f,D⟩
  ·rcases i y d with rfl|⟨d,s⟩
   ·rfl
   ·cases m
    have:=((R.a y d).b _ n).1;omega
  ·rcases i y d with rfl|⟨d,s⟩
   ·cases n
    have:=((R.a x f).b _ m).1;omega
   ·exact R.e x f y d t m n
structure wn(p:Int)(S:bZ->bZ)(T:Nat)(left fill:bZ):Prop where
 b:∀u,p ∣ S fill u-left u
 a:fH p fill T
 c:oR p left T
noncomputable def wn.B(c:wn p S T l f)(b:yK p S)(a:kQ p (S<|S f)):kQ p (S l):=λu=>by
 have h:=b.z (f:=eL (S f) 1 l) (λu=>by show p ∣ S f u-1*l u;rw[DM];exact c.b u) u;rw[b.b,DM] at h;have:=nt (a u) h
 rwa [show S (S f) u-(S (S f) u-S l u)=S l u from ω] at this
def wn.step(e:yK p S)(R:Rows p S T L)(r:wn p S T l f){x:js}(g:x∈L)(h:x.d=V d)(i:fH p l x.b){k:Int}(j:p ∣ k*x.r x.b-l x.b):wn p S T (eL l k x.r) (eL f k x.g)/\oR p (eL l k x.r) x.b:=by
 have o:=R.a x g;obtain⟨m,q,c,n⟩:=o.b d h;refine((λu=>?_,(λz=>r.a.1<|aer z<|c.2 T m,λu b=>ue (r.a.2 u b)<|c.2 u (à m (ì b))),λu b=>ue (r.c u b)<|o.c.2 u (by have:=o.a;exact à this b)),λu b=>?_)
 ·rw[e.b]
  have:=ue (a:=k) (r.b u)<|n u
  rwa [show S f u-l u-k*(S x.g u-x.r u)=S f u-k*S x.g u-eL l k x.r u from by show _=S f u-k*S x.g u-(l u-k*x.r u);rw[Kk];omega] at this
 ·rcases ah6 b with rfl|b
  ·have:=uO.mpr j
   rwa [show -(k*x.r x.b-l x.b)=eL l k x.r x.b from by show _=l x.b-k*x.r x.b;omega] at this
  ·exact ue (i.2 u b)<|o.c.2 u b
noncomputable def lM(a:List (List Int×Int))(q:List Int):Int:=((a.find? λc=>aE<|c.1=q).map (·.2)).getD 0
def QM(c:List Int×Int)(r:List (List Int×Int))(x:List Int):lM (c::r) x=if c.1=x then c.2 else lM r x:=by
 unfold lM;rw[qf]
 by_cases e:c.1=x
 ·rw[bT e,av e];rfl
 ·rw[cw e,am e]
def QL{x:List Int}:∀{a:List (List Int×Int)},x∉a.map (·.1)->lM a x=0
 |[],_=>O
 |c::r,h=>by
  rw[cY,cz,not_or] at h;rw[QM,am<|dp h.1,QL h.2]
def Cn{a:Type}(f g:a->Int):∀l:List a,(l.map λx=>f x+g x).sum=(l.map f).sum+(l.map g).sum
 |[]=>O
 |x::l=>by rw[cY,mJ,cY,mJ,cY,mJ,Cn f g l];omega
def Ck{b:Type}(a:Int)(f:b->Int):∀l:List b,(l.map λx=>a*f x).sum=a*(l.map f).sum
 |[]=>by simp
 |x::l=>by rw[cY,mJ,cY,mJ,Ck a f l,Tf]
def Cj{a:Type}:∀l:List a,(l.map λ_=>(0:Int)).sum=0
 |[]=>O
 |x::l=>by rw[cY,mJ,Cj l];rfl
def QG{a:Type}{p:Int}(f:a->Int):∀l:List a,(∀x∈l,p ∣ f x)->p ∣ (l.map f).sum
 |[],_=>dC _
 |x::l,h=>by rw[cY,mJ];exact mM (h x<|.head _)<|QG f l λy b=>h y<|.tail _ b
def QE{a b:Type}(f:a->b->Int)(m:List b):∀l:List a,(l.map λx=>(m.map λy=>f x y).sum).sum=(m.map λy=>(l.map λx=>f x y).sum).sum
 |[]=>by simp only[zv,List.sum_nil];exact(Cj m).symm
 |x::l=>by
  rw[cY,mJ,QE f m l,<-Cn]
  congr 1
def QF{e:List Int->Int}{v:Int}:∀{l:Ξ},l.Nodup->(l.map λx=>if q=x then v*e x else 0).sum=if q∈l then v*e q else 0
 |[],_=>by simp
 |x::l,a=>by
  rw[jM] at a;rw[cY,mJ,QF a.2]
  by_cases h:q=x
  ·subst h
   rw[av O,am a.1,av fE];omega
  ·rw[am h]
   by_cases k:q∈l
   ·rw[av k,av<|gd _ k];omega
   ·rw[am k,am (λz=>(cz.mp z).elim h k)];rfl
def Io{a:Ξ}(f:a.Nodup)(e:List Int->Int):∀{cs:List (List Int×Int)},(cs.map (·.1)).Nodup->(∀c∈cs,c.1∈a)->(cs.map λc=>c.2*e c.1).sum=(a.map λx=>lM cs x*e x).sum
 |[],_,_=>by
  have:(a.map λx=>lM [] x*e x)=a.map λ_=>(0:Int):=fS λx _=>by show 0*e x=0;rw[Kg]
  rw[this,Cj];rfl
 |c::r,b,g=>by
  rw[cY,jM] at b;rw[cY,mJ,Io f e b.2 λd i=>g d<|.tail _ i];have j:(a.map λx=>lM (c::r) x*e x)=a.map λx=>(if c.1=x then c.2*e x else 0)+lM r x*e x:=by
   refine fS λx _=>?_;rw[QM]
   by_cases h:c.1=x
   ·rw[av h,av h,<-h,QL b.1];omega
   ·rw[am h,am h];omega
  rw[j,Cn,QF f,av<|g c<|.head _]
noncomputable def hJ(a:Ξ)(F:List Int->Int):bZ:=λu=>match a[u]? with
 |some x=>F x
 |none=>0
def pW{a:Ξ}{F:List Int->Int}{u:Nat}(h:a[u]?=V x):hJ a F u=F x:=by unfold hJ;rw[h]
def Iw{a:Ξ}{F:List Int->Int}{u:Nat}(h:a.length<=u):hJ a F u=0:=by unfold hJ;rw[sY h]
noncomputable def kc(a:Ξ)(b:List Int->List Int->Int)(f:bZ):bZ:=λu=>match a[u]? with
 |some y=>(a.zipIdx.map λq=>f q.2*b q.1 y).sum
 |none=>0
def aei(b:Ξ)(c:List Int->List Int->Int)(f:bZ)(a:Int)(g:bZ)(u:Nat):kc b c (eL f a g) u=kc b c f u-a*kc b c g u:=by
 unfold kc;cases e:b[u]? with
 |none=>show(0:Int)=0-a*0;omega
 |some y=>
  show(b.zipIdx.map λq=>eL f a g q.2*c q.1 y).sum=(b.zipIdx.map λq=>f q.2*c q.1 y).sum-a*(b.zipIdx.map λq=>g q.2*c q.1 y).sum;have d:(b.zipIdx.map λq=>eL f a g q.2*c q.1 y)=b.zipIdx.map λq=>f q.2*c q.1 y+(-a)*(g q.2*c q.1 y):=by
   refine fS λq _=>?_;show(f q.2-a*g q.2)*c q.1 y=_;rw[Td,Te,Kj];omega
  rw[d,Cn,Ck,Kj];omega
def wl(p:Int)(b:Ξ)(c:List Int->List Int->Int):yK p (kc b c):=by
 refine(λf a g u=>aei b c f a g u,λ{f} h u=>?_);unfold kc;cases e:b[u]? with
 |none=>exact dC _
 |some y=>exact QG _ _ λq _=>lj (h q.2)<|wU _ _
def Im{a:Ξ}{q:List Int×Nat}(h:q∈a.zipIdx):a[q.2]?=V q.1:=by
 have:=aii (x:=q) (l:=a);exact this.mp h
def aej{a:Ξ}(d:a.Nodup){b:List (List Int×Int)}(e:(b.map (·.1)).Nodup)(f:∀c∈b,c.1∈a){u:Nat}(h:a[u]?=V y):kc a tau (hJ a<|lM b) u=(b.map λc=>c.2*tau c.1 y).sum:=by
 rw[Io d (λx=>tau x y) e f];unfold kc;rw[h];show(a.zipIdx.map λq=>hJ a (lM b) q.2*tau q.1 y).sum=_;have g:(a.zipIdx.map λq=>hJ a (lM b) q.2*tau q.1 y)=a.zipIdx.map ((λx=>lM b x*tau x y) ∘ ni):=fS λq i=>by
  show hJ a (lM b) q.2*tau q.1 y=lM b q.1*tau q.1 y;rw[pW<|Im i]
 rw[g,<-bN,JP]
def aeh{a:Ξ}{b:List Int->List Int->Int}(c:∀x∈a,∀y∈a,(a.map λz=>b x z*b z y).sum=0)(f:bZ)(u:Nat):kc a b (kc a b f) u=0:=by
 show(match a[u]? with|some y=>(a.zipIdx.map λq:List Int×Nat=>kc a b f q.2*b q.1 y).sum|none=>(0:Int))=0;cases e:a[u]? with
 |none=>rfl
 |some y=>
  show(a.zipIdx.map λq=>kc a b f q.2*b q.1 y).sum=0;have d:=dh e;have g:(a.zipIdx.map λq=>kc a b f q.2*b q.1 y)=a.zipIdx.map λq=>(a.zipIdx.map λr=>f r.2*(b r.1 q.1*b q.1 y)).sum:=fS λq h=>by
   have i:kc a b f q.2=(a.zipIdx.map λr=>f r.2*b r.1 q.1).sum:=by
    show(match a[q.2]? with|some y=>(a.zipIdx.map λr:List Int×Nat=>f r.2*b r.1 y).sum|none=>(0:Int))=_;rw[Im h]
   rw[i,ajd,<-Ck]
   congr 1
   refine fS λr _=>?_;rw[ajd,Te]
  rw[g,QE];have j:(a.zipIdx.map λr=>(a.zipIdx.map λq=>f r.2*(b r.1 q.1*b q.1 y)).sum)=a.zipIdx.map λ_=>(0:Int):=fS λr k=>by
   have l:=dh<|Im k;rw[Ck];have m:(a.zipIdx.map λq=>b r.1 q.1*b q.1 y)=a.zipIdx.map ((λz=>b r.1 z*b z y) ∘ ni):=O;rw[m,<-bN,JP,c _ l _ d,zF]
  rw[j,Cj]
def HB{g:Int->Int}(a:g 0=0)(x:List Int):∀b:aM,aS (b.map λc=>(aez c.1 (g c.2))) x=g (aS b x)
 |[]=>a.symm
 |c::r=>by
  rw[cY,nE,nE,HB a x r];split<;>rfl
def BD(g:List Int×Int->Int)(a:aM):aI (a.map λc=>(aez c.1 (g c)))=aI a:=by unfold aI;rw[bN];rfl
def FX{g:Int->Int}(b:g 0=0)(d:(aI a).Nodup)(x:List Int):gP (a.map λc=>(aez c.1 (g c.2))) x=g (aS a x):=by
 rw[FY (by rw[BD λc=>g c.2];exact d),HB b]
def Gh{c:List Int×Int}(h:c∈mj a):∃t∈a,t.1=c.1:=by
 obtain⟨b,d⟩:=Ow h;exact Yj (by rw[d];exact b)
noncomputable def tX(p:Int)(a:aM):aM:=mj<|a.map λc=>(aez c.1 (c.2%p))
def Pb(b:(aI a).Nodup)(x:List Int):aS (tX p a) x=aS a x%p:=by
 unfold tX;rw[AO,FX (g:=λv=>v%p) (Tc p) b]
structure jq(p:Int)(cs:aM):Prop where
 a:(aI cs).Nodup
 lo:∀c∈cs,1<=c.2/\c.2<p
def O'{p:Int}(e:0<p)(f:(aI a).Nodup):jq p (tX p a):=by
 refine(qA _,λc h=>?_);obtain⟨i,d⟩:=Ow h;rw[FX (g:=λv=>v%p) (Tc p) f] at d;have:=qh (aS a c.1) (b:=p) ω;have:=qi (aS a c.1) e;have d:aS a c.1%p=c.2:=d;omega
def Pa{q:List Int}(h:q∈aI (tX p a)):q∈aI a:=by
 obtain⟨c,b,rfl⟩:=aO.mp h;obtain⟨t,f,e⟩:=Gh b;obtain⟨d,g,rfl⟩:=aO.mp f;exact e▸aO.mpr (d,g,O)
def abr(h:aS a x≠0):x∈aI a:=qj λz=>h<|kN z
def jq.F{p:Int}(d:0<p){a:aM}(h:jq p a)(x:List Int):0<=aS a x/\aS a x<p:=by
 by_cases e:x∈aI a
 ·obtain⟨c,b,rfl⟩:=aO.mp e
  rw[qF h.a c b];have:=h.lo c b;omega
 ·rw[kN e];omega
noncomputable def jq.B{a:aM}(h:jq p a){x:List Int}(d:x∈aI a):1<=aS a x/\aS a x<p:=by
 obtain⟨c,b,rfl⟩:=aO.mp d;rw[qF h.a c b];exact h.lo c b
noncomputable def pO(p:Int)(a:aM)(k:Int)(b:aM):aM:=tX p<|mj<|a++b.map λc=>(aez c.1 (-k*c.2))
def aay{p k:Int}{a b:aM}(c:(aI a).Nodup)(d:(aI b).Nodup)(x:List Int):aS (pO p a k b) x=(aS a x-k*aS b x)%p:=by
 unfold pO;rw[Pb<|qA _,AO,N_,FY c,FX (g:=λv=>-k*v) (zF _) d,Kj]
 rfl
def Pq{p:Int}(c:0<p){k:Int}{a b:aM}:jq p (pO p a k b):=O' c<|qA _
def Pr{p k:Int}{a b:aM}{q:List Int}(h:q∈aI (pO p a k b)):q∈aI a\/q∈aI b:=by
 have h:=Pa h;obtain⟨c,g,rfl⟩:=aO.mp h;obtain⟨t,f,e⟩:=Gh g;rcases dt.mp f with f|f
 ·exact .inl<|e▸aO.mpr (t,f,O)
 ·obtain⟨d,i,rfl⟩:=aO.mp f
  exact .inr<|e▸aO.mpr (d,i,O)
noncomputable abbrev yf(p:Int)(a:aM):aM:=tX p<|qB a
def GZ(a:aM)(x:List Int):aS (yf p a) x=jn a x%p:=by rw[Pb<|qA _,xZ]
def Be{b:aM}{q:List Int}(h:q∈aI (yf p b)):∃c∈b,q∈dP c.1:=by
 have h:=Pa h;obtain⟨c,f,rfl⟩:=aO.mp h;obtain⟨t,a,e⟩:=Gh f;obtain⟨d,g,a⟩:=jN.mp a;refine(d,g,?_);rw[<-Gl d.1 d.2,<-e];exact aO.mpr (t,a,O)
structure jp(oo:Ξ):Prop where
 o:ky oo
 a:oo.Nodup
 b:∀q∈oo,∀r∈dP q,r∈oo
 c:∀q∈oo,q.length<=5
 d:∀q∈oo,q.Nodup
def OR{b:Ξ}(h:ky b):jp b:=
 (h,acw h,λq a=>(H_ h a).2,λq a=>(kP.mp (H_ h a).1).2.1,λq a=>by
  have:=(kP.mp (H_ h a).1);exact zC (λh=>ω) this.2.2.2)
noncomputable abbrev dz(a:Ξ)(b:aM):bZ:=hJ a<|aS b
def kO{a:Ξ}{b:aM}{u:Nat}(h:a[u]?=V x):dz a b u=aS b x:=pW h
def pS{a:Ξ}{b:aM}{u:Nat}(h:a.length<=u):dz a b u=0:=Iw h
noncomputable abbrev jo(a:Ξ):bZ->bZ:=kc a ix
section
variable{p:Int}{oo:Ξ}{cs:aM}
def GR(e:jp oo)(b:(aI cs).Nodup)(a:∀q∈aI cs,q∈oo){u:Nat}(h:oo[u]?=V y):jo oo (dz oo cs) u=jn cs y:=
 aej (tau:=ix) e.a b (λc d=>a _<|aO.mpr (c,d,O)) h
def abq(i:jp oo):∀x∈oo,∀y∈oo,(oo.map λz=>ix x z*ix z y).sum=0:=λx a y g=>by
 have b:(aI<|dH x 1).Nodup:=by rw[Gl];exact Zl<|i.d x a
 have h:=Io i.a (λz=>ix z y) (cs:=dH x 1) b (λc d=>i.b x a _ (by rw[<-Gl x 1];exact aO.mpr (c,d,O)));have f:jn (dH x 1) y=0:=abz y x<|i.c x a;have e:(oo.map λz=>ix x z*ix z y)=oo.map λz=>lM (dH x 1) z*ix z y:=fS λz _=>by
  show gP (dH x 1) z*_=aS (dH x 1) z*_;rw[FY b]
 rw[e,<-h];exact f
def vW(a p:Int):p ∣ a-a%p:=(a / p,by have:=ajg a p;omega)
def ab3(d:jp oo)(b:(aI cs).Nodup)(a:∀q∈aI cs,q∈oo)(u:Nat):p ∣ jo oo (dz oo cs) u-dz oo (yf p cs) u:=by
 cases e:oo[u]? with
 |none=>
  have c:jo oo (dz oo cs) u=0:=by
   show(match oo[u]? with|some y=>(oo.zipIdx.map λq:List Int×Nat=>dz oo cs q.2*ix q.1 y).sum|none=>(0:Int))=0;rw[e]
  rw[c,pS 6#e];exact dC _
 |some y=>
  rw[GR d b a e,kO e,GZ];exact vW _ _
def HJ{k:Int}{a b:aM}(c:(aI a).Nodup)(d:(aI b).Nodup)(u:Nat):p ∣ eL (dz oo a) k (dz oo b) u-dz oo (pO p a k b) u:=by
 show p ∣ dz oo a u-k*dz oo b u-dz oo (pO p a k b) u;cases e:oo[u]? with
 |none=>
  have h:oo.length<=u:=by simpa using e
  rw[pS h,pS h,pS h,zF];exact dC _
 |some y=>
  rw[kO e,kO e,kO e,aay c d];exact vW _ _
abbrev r_(p:Int)(f g:bZ):Prop:=∀u,p ∣ f u-g u
noncomputable def r_.B(h:r_ p f g)(u:Nat):p ∣ f u↔p ∣ g u:=by
 constructor
 ·intro z
  have:=nt z<|h u
  rwa [show f u-(f u-g u)=g u from ω] at this
 ·intro z
  have:=mM (h u) z
  rwa [show f u-g u+g u=f u from ω] at this
noncomputable def r_.J(h:r_ p f g){t:Nat}(y:fH p f t):fH p g t:=(λz=>y.1<|(h.B t).mpr z,λu a=>(h.B u).mp<|y.2 u a)
def r_.F(h:r_ p f g){t:Nat}(y:oR p f t):oR p g t:=λu a=>(h.B u).mp<|y u a
def r_.z(h:r_ p f g)(y:kQ p f):kQ p g:=λu=>(h.B u).mp<|y u
def r_.s(h:r_ p a g):r_ p (jo oo a) (jo oo g):=λu=>by
 have e:=(wl p oo ix).z (f:=eL a 1 g) (λu=>by show p ∣ a u-1*g u;rw[DM];exact h u) u;rw[(wl p oo ix).b,DM] at e;exact e
def ab5(i:wn p (jo oo) T l f)(g:r_ p l d)(h:r_ p f e):wn p (jo oo) T d e:=by
 refine(λu=>?_,h.J i.a,g.F i.c);have a:=i.b u;have b:=h.s (oo:=oo) u;have c:=g u;have:=mM (nt a b) c
 rwa [show jo oo f u-l u-(jo oo f u-jo oo e u)+(l u-d u)=jo oo e u-d u from ω] at this
def NW(i:jp oo)(h:jq p cs)(f:0<p){t:Nat}{y:List Int}(a:y∈aI cs)(b:oo[t]?=V y)(c:∀x∈aI cs,∀u,oo[u]?=V x->u<=t):fH p (dz oo cs) t:=by
 refine(λz=>?_,λu g=>?_)
 ·rw[kO b] at z
  have:=h.B a;have:=wS ω z;omega
 ·cases e:oo[u]? with
  |none=>rw[pS 6#e];exact dC _
  |some x=>
   rw[kO e];have:x∉aI cs:=λd=>by have:=c x d u e;exact ø g this
   rw[kN this];exact dC _
def FU{t:Nat}(h:fH p (dz oo cs) t):∃y,oo[t]?=V y/\y∈aI cs:=by
 cases e:oo[t]? with
 |none=>exact bh (by rw[pS 6#e];exact dC _) h.1
 |some x=>
  refine(x,O,abr λz=>h.1 ?_);rw[kO e,z];exact dC _
def X_(h:jq p cs){t:Nat}(a:fH p (dz oo cs) t){x:List Int}(b:x∈aI cs){u:Nat}(e:oo[u]?=V x):u<=t:=by
 refine SE λz=>?_;have d:=a.2 u z;rw[kO e] at d;have:=h.B b;have:=wS ω d;omega
def XZ:kQ p (dz oo []):=λu=>by
 cases e:oo[u]? with
 |none=>rw[pS 6#e];exact dC _
 |some x=>rw[kO e];exact dC _
end
structure dI where
 a:Int
 b:Nat
 d:Option Nat
 c:aM
 g:aM
structure acm(p:Int)(oo:Ξ)(x:dI):Prop where
 c:jq p x.c
 a:∀q∈aI x.c,q∈oo/\(q.length:Int)=x.a+1
 g:∀t,x.d=V t->jq p x.g/\∀q∈aI x.g,q∈oo/\(q.length:Int)=x.a+2
noncomputable abbrev rR(a:Ξ)(x:dI):js:=(x.b,x.d,dz a x.c,dz a x.g)
structure hG(p:Int)(oo:Ξ)(T:Nat)(L:List dI):Prop where
 a:∀x∈L,acm p oo x
 d:Rows p (jo oo) T (L.map<|rR oo)
 c:(L.map (·.b)).Pairwise (·<·)
def ZG{b:Ξ}:hG p b 0 []:=((λx a=>nomatch a),((λx a=>nomatch a),lS,(λt c=>bh c<|Dr _),(λx a=>nomatch a),(λx a=>nomatch a)),Kd)
noncomputable def tW(L:List dI)(x:dI):List dI:=L.map λy=>if y.b=x.b then x else y
structure qH(p:Int)(oo:Ξ)(T:Nat)(q:List Int)(left fill:aM):Prop where
 l:jq p left
 b:∀k∈aI left,k∈oo/\k.length+1=q.length
 f:jq p fill
 c:∀k∈aI fill,k∈oo/\k.length=q.length
 a:wn p (jo oo) T (dz oo left) (dz oo fill)
section
variable{p:Int}{oo:Ξ}{T:Nat}{q:List Int}{left fill:aM}{L:List dI}
def Bw{q r:List Int}(h:r∈dP q):r.length+1=q.length:=by
 obtain⟨a,k,b,rfl⟩:=BX.mp h;rw[c_,dR,pd];omega
def NX(C:jp oo)(w:2<=p)(g:oo[T]?=V q):qH p oo T q (yf p [(aez q 1)]) [(aez q 1)]:=by
 have i:q∈oo:=dh g;have n:(aI [(aez q ((1:Int)))]).Nodup:=by simp[aI]
 have o:jq p [(aez q 1)]:=(n,λc d=>by rw[cT.mp d];exact(lW _,by show(1:Int)<p;omega));have f:∀k∈aI [(aez q ((1:Int)))],k=q:=λk f=>by simpa[aI] using f
 refine(O' ω<|qA _,λk a=>?_,o,λk a=>by rw[f k a];exact(i,O),(λu=>ab3 C n (λk a=>by rw[f k a];exact i) u,?_,λu z=>?_))
 ·obtain⟨c,d,b⟩:=Be a
  rw[cT.mp d] at b;exact(C.b q i k b,Bw b)
 ·refine NW C o ω (y:=q) (by simp[aI]) g λx r u e=>?_
  rw[f x r] at e;obtain⟨l,A⟩:=bY.mp e;have:=(sX l C.a).mp<|e.trans g.symm;exact å this
 ·cases e:oo[u]? with
  |none=>rw[pS 6#e];exact dC _
  |some D=>
   rw[kO e];have s:D∉aI (yf p [(aez q 1)]):=λt=>by
    obtain⟨c,d,b⟩:=Be t;rw[cT.mp d] at b;have m:=(yB.mp<|C.o T q g).2.2 D b;obtain⟨j,h⟩:=gW.mp m;have v:j<T:=by
     have:=(bY.mp h).1;rw[dR] at this;omega
    rw[uL v] at h;obtain⟨l,_⟩:=bY.mp h;have:=(sX l C.a).mp<|h.trans e.symm;exact ø (à v z) (æ this)
   rw[kN s];exact dC _
noncomputable def qH.B(a:jp oo)(b:qH p oo T q left fill):kQ p (jo oo<|dz oo left):=
 b.a.B (wl p oo ix) λu=>by rw[show jo oo (jo oo<|dz oo fill) u=0 from aeh (abq a) _ _];exact dC _
def Yc(P:kR p)(c:jp oo)(R:hG p oo T L)(d:qH p oo T q left fill){t:Nat}(a:fH p (dz oo left) t):∃x∈L,x.b=t:=by
 obtain⟨x,b,e⟩:=aeg P (wl p oo ix) R.d d.a.c (d.B c) a;obtain⟨y,a,rfl⟩:=aO.mp b;exact(y,a,e)
def pN(R:hG p oo T L){x:dI}(a:x∈L):Iz p (jo oo) T (rR oo x):=R.d.a _<|aO.mpr (x,a,O)
def Bv(R:hG p oo T L){x:dI}(a:x∈L):∃y,oo[x.b]?=V y/\y∈aI x.c:=FU (pN R a).c
def Yb(l:0<p)(R:hG p oo T L)(D:qH p oo T q left fill){E:dI}(c:E∈L)(m:E.d=V e)(r:fH p (dz oo left) E.b)(f:oo[E.b]?=V y)(g:y∈aI left){G:Int}(s:p ∣ G*aS E.c y-aS left y):qH p oo T q (pO p left G E.c) (pO p fill G E.g)/\oR p (dz oo<|pO p left G E.c) E.b:=by
 have o:=R.a E c;obtain⟨t,i⟩:=o.g e m;have u:E.a+2=q.length:=by
  obtain⟨C,n,v⟩:=Bv R c;rw[f] at n;cases n;have a:=(o.a y v).2;have b:=(D.b y g).2;omega
 obtain⟨w,A⟩:=wn.step (wl p oo ix) R.d D.a (x:=rR oo E) (d:=e) (aO.mpr (E,c,O)) m r (k:=G) (by show p ∣ G*dz oo E.c E.b-dz oo left E.b;rw[kO f,kO f];exact s);refine((Pq l,λz j=>?_,Pq l,λz j=>?_,ab5 w (HJ D.l.a o.c.a)<|HJ D.f.a t.a),r_.F (HJ D.l.a o.c.a) A)
 ·rcases Pr j with h|h
  ·exact D.b z h
  ·obtain⟨a,b⟩:=o.a z h
   exact(a,ω)
 ·rcases Pr j with h|h
  ·exact D.c z h
  ·obtain⟨a,b⟩:=i z h
   exact(a,ω)
def ZI(l:jp oo)(R:hG p oo T L)(m:qH p oo T q [] fill):hG p oo (T+1) (L++[((q.length:Int)-1,T,Y,fill,[])]):=by
 refine(λx c=>?_,?_,?_)
 ·rcases dt.mp c with c|c
  ·exact R.a x c
  ·rw[cT.mp c]
   exact(m.f,λk d=>((m.c k d).1,by have:=(m.c k d).2;show(k.length:Int)=(q.length:Int)-1+1;omega),λt e=>nomatch e)
 ·rw[bU]
  refine ael R.d (z:=dz oo fill) (g:=dz oo []) m.a.a λu=>?_;have h:=m.a.b u;have i:=XZ (p:=p) (oo:=oo) u;have:=mM h i
  rwa [show jo oo (dz oo fill) u-dz oo [] u+dz oo [] u=jo oo (dz oo fill) u from ω] at this
 ·rw[bU,nT]
  refine(R.c,aif _ _,λa j b f=>?_);obtain⟨x,c,rfl⟩:=aO.mp j;rw[cY,zv,cT] at f;have:=(pN R c).a;rw[f];exact this
def Zz:(tW L a).map (·.b)=L.map (·.b):=by
 unfold tW;rw[bN];refine fS λy _=>?_;show(if y.b=a.b then a else y).b=y.b
 by_cases e:y.b=a.b
 ·rw[av e];exact e.symm
 ·rw[am e]
def ZH(h:jp oo)(R:hG p oo T L)(i:qH p oo T q left fill){x:dI}(d:x∈L)(f:x.d=Y)(c:fH p (dz oo left) x.b):hG p oo (T+1) (tW L ((q.length:Int)-2,x.b,V T,left,fill)):=by
 refine(λy c=>?_,?_,?_)
 ·obtain⟨z,g,rfl⟩:=aO.mp c
  by_cases e:z.b=x.b
  ·rw[av e]
   refine(i.l,λk a=>((i.b k a).1,?_),λt _=>(i.f,λk a=>((i.c k a).1,?_)))
   ·have:=(i.b k a).2
    show(k.length:Int)=(q.length:Int)-2+1;omega
   ·have:=(i.c k a).2
    show(k.length:Int)=(q.length:Int)-2+2;omega
  ·rw[am e];exact R.a z g
 ·have e:(tW L ((q.length:Int)-2,x.b,V T,left,fill)).map (rR oo)=su (rR oo x).b T (dz oo left) (dz oo fill) (L.map<|rR oo):=by
   unfold tW su;rw[bN,bN];refine fS λy _=>?_;show rR oo (if y.b=x.b then _ else y)=if y.b=x.b then _ else rR oo y
   by_cases e:y.b=x.b
   ·rw[av e,av e]
   ·rw[am e,am e]
  rw[e];exact aek R.d (aO.mpr (x,d,O)) f c (i.B h) i.a.a i.a.b
 ·rw[Zz];exact R.c
end
def eG(P:bu)(w:bf)(K:aY)(b:aq->Option aa)(a:aW)(e:mf)(x:aq)(c:List aq)(k:Nat)(g:lD):Prop:=
 ∃(f:W)(d:cW),CN K 5#f=ae/\eQ K d c []/\b x=V 5#f/\ce P w K b a e k f d c g
section
variable{X:a_}{CX:mf}{k n:Nat}{ps:List aq}{sp:lD}{E:db}{x:aq}{p pos:ci}{e:bz}{es:List bz}{t:fY}
def eE(C:eG X.prog X.w X.K X.mg X.base CX x ps k sp)(d:fM n X.A)(g:lI X x)(h:AB CX X E)(i:ku X (e::es) t)(a:k<=n:=by decide)(b:(x==("__debug__":aq))=aB:=by decide)
  (j:fu (e::es) X.env=(aez aB (dN e X.env))::fu es X.env:=by rfl) (c:(nK pos<|fu es X.env).any (·.1)=aB:=by rfl):bG X (.Call (.Name x p) (e::es) [] pos) (xo sp [] E t):=by
 obtain⟨f,q,l,m,o,r⟩:=C;exact gB r (d.B a) g o l m .nil h i b j c
end
section
variable{P:bu}{w:bf}{K:aY}{mg:aq->Option aa}{base:aW}{CX:mf}{k:Nat}{f:W}{fd:cW}{x:aq}{st:cJ}{ps:List aq}{sp sq:lD}
def gj(F:b_ K x x st f fd)(b:eQ K fd ps [])(m:mg x=V 5#f)(G:ce P w K mg base CX k f fd ps sp):eG P w K mg base CX x ps k sp:=(f,fd,F.a,b,m,G)
structure dy(K:aY)(x:aq)(st:cJ)(f:W):Prop where
 b:∃fd,b_ K x x st f fd
 a:CL K ju x=V (V<|.ref f)
def Xo{g:aa}{h i:Option W}{d:Array (Option aa)}{j e m b n:aa}(a:CL K ju x=V (V<|.ref f))(l:K.lookup f=V (g,h,.func<|uv x x (vz st) (pK st) (bX st) .none j e m i b n,d))(c:IY K b x=ae)(k:CN K 5#f=ae):dy K x st f:=((_,Xj l c k),a)
structure iw(K:aY)(x:aq)(v:Option aa):Prop where
 e:CL K ju x=V v
abbrev AG(x:aq)(st:cJ)(c:List aa)(r:List (aq×aa)):Prop:=∀(d a e:aa)(f:Option W)(b g:aa),CI (uv x x (vz st) (pK st) (bX st) .none d a e f b g) (c,[])=aX r
variable{h:aW}(X:K.In h)(G:h.Ns ju mg)
include X G
theorem iw.m(n:iw K x (V v)):mg x=V v:=yV X G n.e
theorem iw.n(n:iw K x Y):mg x=Y:=PySem.W.mg_none_of X G n.e
theorem dy.m(D:dy K x st f):mg x=V 5#f:=yV X G D.a
theorem dy.B(D:dy K x st f)(p:aq)(b:∀a,AG x st [a] [(aez p a)]:=by exact λ_ _ _ _ _ _ _=>rfl):∃fd,b_ K x x st f fd/\eQ K fd [p] []/\mg x=V 5#f:=by
 obtain⟨⟨fd,e⟩,a⟩:=D;refine(fd,e,e.F λ_ _ _ _ _ _ c d=>?_,yV X G a)
 match c,d with
 |[a],_=>exact b a _ _ _ _ _ _
theorem dy.F(D:dy K x st f)(p q:aq)(c:∀a b,AG x st [a,b] [(aez p a),(aez q b)]:=by exact λ_ _ _ _ _ _ _ _=>rfl):∃fd,b_ K x x st f fd/\eQ K fd [p,q] []/\mg x=V 5#f:=by
 obtain⟨⟨fd,g⟩,a⟩:=D;refine(fd,g,g.F λ_ _ _ _ _ _ d e=>?_,yV X G a)
 match d,e with
 |[a,b],_=>exact c a b _ _ _ _ _ _
theorem dy.J(D:dy K x st f)(p q r:aq)(d:∀a b c,AG x st [a,b,c] [(aez p a),(aez q b),(aez r c)]:=by exact λ_ _ _ _ _ _ _ _ _=>rfl):∃fd,b_ K x x st f fd/\eQ K fd [p,q,r] []/\mg x=V 5#f:=by
 obtain⟨⟨fd,h⟩,a⟩:=D;refine(fd,h,h.F λ_ _ _ _ _ _ e g=>?_,yV X G a)
 match e,g with
 |[a,b,c],_=>exact d a b c _ _ _ _ _ _
theorem dy.M(D:dy K x st f)(p q r s:aq)(e:∀a b c d,AG x st [a,b,c,d] [(aez p a),(aez q b),(aez r c),(aez s d)]:=by exact λ_ _ _ _ _ _ _ _ _ _=>rfl):∃fd,b_ K x x st f fd/\eQ K fd [p,q,r,s] []/\mg x=V 5#f:=by
 obtain⟨⟨fd,i⟩,a⟩:=D;refine(fd,i,i.F λ_ _ _ _ _ _ g h=>?_,yV X G a)
 match g,h with
 |[a,b,c,d],_=>exact e a b c d _ _ _ _ _ _
omit X G
end
def vF(H:ab)(c:W)(a:aq):Prop:=∃b d t,H c=V (.frz b<|.own 0)/\b.data=.fields d/\d[1]?=V (.str a t)
def kI(H:ab)(P:W)(a:ci)(b:aq):Prop:=
 H P=V (.tbl #[])\/∃c,H P=V (.tbl #[fP a.line,fP a.col,.ref c])/\vF H c b
def kt(H a:ab):Prop:=∀b o,(∀c,o≠df.tbl c)->H b=V o->a b=V o
def aL.A3{H b:ab}(a:aL H b):kt H b:=λc o _ h=>a c o h
noncomputable def vF.B{H b:ab}(x:vF H c q)(a:kt H b):vF b c q:=
 let ⟨d,f,t,e,r⟩:=x;(d,f,t,a _ _ (λ_ z=>nomatch z) e,r)
noncomputable def kI.B{b:ci}(x:kI H P b q)(a:aL H d):kI d P b q:=by
 rcases x with e|⟨c,e,k⟩
 ·exact .inl<|a _ _ e
 ·exact .inr (c,a _ _ e,k.B a.A3)
def xQ(H:ab)(f:W)(a:aq)(b:uD)(body:bz)(e:fw)(y:aq)(g:W):Prop:=
 ∃h d c,H f=V (.frz (IW "<lambda>" a b body e [(aez y g)] h d c)<|.own 0)/\vF H d a
section
variable{X:a_}{pins:Ψ}{σ:aR}{H:ab}{s:ak}
def aA.D0(I:aA X pins σ H s)(x:vF H c q):s.heap.CodeRec 5#c q:=by
 obtain⟨a,b,t,e,d,f⟩:=x;exact(c,a,b,t,O,(I.a _ _ e).1,d,f)
noncomputable def Ap(X:a_)(A:bO)(s:ak)(H:ab)(f:W)(a:aq)(b:fw)(p y:aq)(c d:W):a_ where
 prog:=X.prog
 w:=X.w
 K:=X.K
 mg:=X.mg
 base:=X.base
 A:=A.deeper<|CO a b s⁻¹ f 5#d [(aez y c)]
 N:=[p,y]
 d:=s
 h:=H
 env:=CO a b s⁻¹ f 5#d [(aez y c)]
 outer:=X.c
 c:=CO a b s⁻¹ f 5#d [(aez y c)]::X.c
 e:=[]
 b:=X.b
 f:=λ_=>aB
 g:=[]
 a:=λ_ _=>False
structure NS(p y:aq)(sc:fw):Prop where
 c:sc.kind=.function
 g:sc.isCoroutine=aB
 d:sc.isGenerator=aB
 b:sc.names.lookup p=V .local
 e:sc.names.lookup y=V .free
 a:∀x∈sc.names,x.2≠.cell
 f:∀x,sc.names.lookup x=V .free->x=y
def WH{K:uD}{body:bz}{iy:Nat}{u:aa}(I:aA X pins σ H s)(D:tN X.prog X.w X.K X.mg X.base A X.c s H)(hA:A.handled=X.A.handled)(hd:A.depth<Rj)(L:xQ H f d K body C y l)(S:NS p y C)(hc:X.env.cells.lookup y=V l)(hN:X.N[iy]?=V y)(a2:σ[iy]?=V (V vy))(hv:X.env.kindOf y=V .cell\/X.env.kindOf y=V .free)(hb:∀pm w P,CI (CM "<lambda>" d K body C [(aez y l)] pm 5#w P) ([u],[])=aX [(aez p u)])(hu:cg va u)(R:∀w,bG (Ap X A s H f d C p y l w) body te)(h:te [V va,V vy] H Q):iD 3#0 A (.call 5#f ([u],[])) (λr s'=>∃v,r=.ok (.ret v)/\vH X.c X.prog X.w H s Q v s') s:=by
 obtain⟨pm,w,P,ef,ec⟩:=L;have hf:=(I.a _ _ ef).1;have a3:=I.D0 ec;obtain⟨m,hm,hl⟩:=I.e;obtain⟨uy,ry,ly⟩:=hl iy y vy hN a2<|hv.elim (λz=>.inr<|.inl z) λz=>.inr<|.inr z;have T:s.heap.IsCell l (V uy):=by
  rcases ly with ⟨k,_⟩|⟨_,c,e1,e2⟩
  ·rcases hv with z|z<;>(rw[k] at z;cases z)
  ·rw[hc] at e1;cases e1;exact e2
 have U:H l=Y:=I.j y l hc;refine PySem.W.kla_callFunE hd hf O S.g S.d O a3 ?_;rw[hb pm w P];refine aG<|wpAny_newFunctionEnv S.a (λx n=>by rw[cT.mp n];exact S.b) (λt a4 a5=>?_) S.c;have j:∀b o,s.heap.get? b=V o->t.get? b=V o:=λb o e=>a5.extBut b o (cM<|cy e)<|bQ _ e;refine(I.D5.keeps j,?_);show iD _ _ (.expr body<|CO d C s⁻¹ f 5#w [(aez y l)]) _ _;have E:∀x c,(CO d C s⁻¹ f 5#w [(aez y l)]).cells.lookup x=V c->x=y/\c=l:=λx c e=>by
  have e':([(aez y l)]:List (aq×W)).lookup x=V c:=e;rw[kY] at e';cases n:x==y with
  |true=>rw[n] at e';cases e';exact(DL n,O)
  |false=>rw[n] at e';cases e'
 have a1:([(aez y l)]:List (aq×W)).lookup y=V l:=by rw[kY,beq_self_eq_true]
 have g:t.IsCell l (V uy):=by
  obtain⟨o,e1,e2⟩:=T;exact(o,j _ _ e1,e2)
 have a6:aA (Ap X A s H f d C p y l w) [] [V va,V vy] H {s with heap:=t,toks:=s.toks+[(aez p u)].length}:=by
  have a0:∀b:W,b∉(Ap X A s H f d C p y l w).e:=λb z=>bh (show b∈([]:List W) from z) 0#0;refine((D.c,S.c,O,O,aV _,λa b c G M=>?_,λx n=>?_,λx c h _=>(by cases h),λhc=>?_,ahn D.g,.inr (O,O),λb z=>bh z<|a0 b,D.bs,D.e,λb _ _=>a0 b,λb z=>bh z<|a0 b,D.d,D.h),
   O,D.f,oC.B j,(_,a4,λi x v G M h3=>?_),λx c h=>?_,D.a.B<|aV _,λx c h=>?_,λp hp=>bh (show p∈([]:Ψ) from hp) 0#0,D.a.J j,O)
  ·exact(E _ _ G).1.trans (E _ _ M).1.symm
  ·rcases n with n|n
   ·exact bh O<|S.a _<|oV<|show C.names.lookup x=V .cell from n
   ·obtain rfl:=S.f x n
    exact(l,a1)
  ·exact hA.trans<|I.b.a hc
  ·match i,G,M with
   |0,G,M=>
    obtain rfl:=bM G;obtain rfl:=bM<|bM M;exact(u,hu,.inl (S.b,by simp))
   |1,G,M=>
    obtain rfl:=bM G;obtain rfl:=bM<|bM M;exact(uy,ry,.inr (.inr S.e,l,a1,g))
   |i+2,G,M=>exact nomatch (show(Y:Option aq)=V x from G)
  ·obtain⟨rfl,rfl⟩:=E _ _ h
   exact(_,g)
  ·obtain⟨rfl,rfl⟩:=E _ _ h
   exact U
 refine PySem.W.kla_codeExpr<|kB (R w [] _ _ H Q a6 h) (λv s' hs=>?_) λ_ _ z=>hX z;obtain⟨v',H',J',rv,q⟩:=hs;exact(v,O,v',H',J'.k,J'.d,J'.base,J'.a,rv,q)
end
def rP(c:aq->Option aa)(a:aW):Prop:=∃b o,c "__builtins__"=V 5#b/\b≠uq/\b≠ju/\a.get? b=V o/\o.cls=.type "module"/\o.dict=V uq/\o.data=.plain
def Vv(P:W)(a:aq)(c:uD)(body:bz)(h:fw)(d:ci)(y:aq)(i:W):bd:=λ_ H Q=>kI H P d a/\∀f e,kt H e->(∀b g,b≠P->H b=V (.tbl g)->e b=V (.tbl g))->kI e P d a->xQ e f a c body h y i->Q 5#f e
section
variable{X:a_}{pins:Ψ}{σ:aR}{H:ab}{s:ak}
def WJ{P i:W}{x fo:bg}{tk:Nat}{f:Array aa}(I:aA X pins σ H s)(j:H P=V (.tbl w))(M:Jn P s.heap c)(k:s⁻¹<=i)(l:i<c.objs.size)(m:c.get? i=V x)(p:c.get? P=V (CK<|w++f))(q:fo.isFreed=aB):aA X pins σ (aD (aD (aD H P<|.tbl<|w++f) i<|.frz x<|.own 0) c.objs.size<|.frz fo<|.own 0) {s with heap:=c.push fo,toks:=tk}:=by
 have y:∀b o,b≠P->s.heap.get? b=V o->(c.push fo).get? b=V o:=λb o n e=>bQ _<|M b o n e;have Q:P<s⁻¹:=I.a.F j;have r:∀{b o},s.heap.get? b=V o->b≠i/\b≠c.objs.size:=λe=>(cM<|fI (cy e) k,cM<|sU (fI (cy e) k) l);have a:∀{b o},H b=V o->b≠i/\b≠c.objs.size:=λe=>(cM<|fI (I.a.F e) k,cM<|sU (fI (I.a.F e) k) l);have C:∀{b},H b=Y->b≠P:=λn z=>by rw[z,j] at n;cases n
 have g:∀{b},b≠P->b≠i->b≠c.objs.size->(aD (aD (aD H P<|.tbl<|w++f) i<|.frz x<|.own 0) c.objs.size<|.frz fo<|.own 0) b=H b:=λR S T=>by rw[aZ T,aZ S,aZ R]
 have U:i≠c.objs.size:=cM l;have D:P≠i:=(a j).1;have E:P≠c.objs.size:=(a j).2;refine I.A8 (ch:=[]) O (λb o e n _ _=>y b o (C n) e,λb o e n _ _=>(o.slots,y b o (C n) e),λb o e n _=>?_,λb o e _=>?_,λb xs e=>?_,λb o u e=>?_,λb qs e=>?_) (λb u e=>?_) I.d (λb z=>nomatch z)
 ·rw[g (C n) (r e).1 (r e).2];exact n
 ·by_cases t:b=P
  ·subst t;exact(_,bQ _ p)
  ·exact(o,y b o t e)
 ·rw[g (λz=>by rw[z,j] at e;cases e) (a e).1 (a e).2];exact e
 ·rw[g (λz=>by rw[z,j] at e;cases e) (a e).1 (a e).2];exact e
 ·by_cases t:b=P
  ·subst t
   rw[j] at e;cases e;exact(f,by rw[aZ E,aZ D,az])
  ·exact(#[],by rw[g t (a e).1 (a e).2,e];simp)
 ·by_cases K:b=c.objs.size
  ·subst K
   rw[az] at e;cases e;exact(dg _ q,fo,dg _ q)
  ·rw[aZ K] at e
   by_cases L:b=i
   ·subst L
    rw[az] at e;cases e;exact(bQ _ m,x,bQ _ m)
   ·rw[aZ L] at e
    by_cases G:b=P
    ·subst G
     rw[az] at e;cases e;exact bQ _ p
    ·rw[aZ G] at e
     refine(I.a b u e).B (λd v A h=>y d v ?_ h) (λd h=>?_) λd xs h=>?_
     ·rcases A with rfl|A
      ·exact G
      ·exact λz=>by rw[z,j] at A;cases A
     ·rw[g (λz=>by rw[z,j] at h;cases h) (a h).1 (a h).2];exact h
     ·rw[g (λz=>by rw[z,j] at h;cases h) (a h).1 (a h).2];exact h
def Wf{body:bz}{pos:ci}(hC:RN X.base c P)(i:X.env.code=.ref c)(M:rP X.mg X.base)(w:IV p X.env=aX [(aez y r)])(x:defaultsOf args X.env=(aez ([]) ([])):=by rfl):bG X (.Lambda args body p pos) (Vv P (X.env.qual++"<lambda>") args body p pos y r):=by
 intro pins s σ H Q I (ht,h);refine PySem.W.kla_eval x ?_;have A:s.heap.Ns ju X.mg:=I.b.e.a.keeps I.bk;have C:=hC.keeps I.bk;obtain⟨bm,ob,b1,b2,b3,b4,b5,b6,b7⟩:=M;have hB:∀{u},H P=V (.tbl u)->s.heap.BuiltinsAt X.mg P:=λ{u} g=>(bm,ob,b1,b2,b3,(λz=>by have e:=(I.bs _ _ b4).2;rw[z,g] at e;cases e),I.bk _ _ b4,b5,b6,b7);have j:∀{u},H P=V (.tbl u)->s.heap.get? P=V (CK u):=λg=>I.a _ _ g;have R:∀{u},H P=V (.tbl u)->ju≠P:=λ{u} g z=>by
  obtain⟨o,es,ep,e,d,_⟩:=I.b.e.a;have e':=(I.bs _ _ e).2;rw[z,g] at e';cases e'
 rcases ht with g|⟨a,g,D⟩
 ·refine PySem.W.kla_makeFunction w I.b.g A i C (j g) trivial O (R g) (hB g) λa f m L hx k q E S=>?_
  obtain⟨a3,T,vs,t,e2,U,hd,hv⟩:=E;cases e2;have a0:P≠a:=cM<|fI (I.a.F g) k;have a1:P≠m.objs.size:=cM<|sU (fI (I.a.F g) k) q;have a2:a≠m.objs.size:=cM q;have a4:=WJ (tk:=L) (fo:=IW "<lambda>" (X.env.qual++"<lambda>") args body p [(aez y r)] ((X.mg "__name__").getD .none) a f) I g hx k q U S O;have v:∀b o,b≠P->H b=V o->(aD (aD (aD H P<|.tbl<|#[]++#[fP pos.line,fP pos.col,.ref a]) a<|.frz T<|.own 0) m.objs.size<|.frz (IW "<lambda>" (X.env.qual++"<lambda>") args body p [(aez y r)] ((X.mg "__name__").getD .none) a f)<|.own 0) b=V o:=λb o n e=>by
   have l:=I.a.F e;rw[aZ<|cM<|sU (fI l k) q,aZ<|cM<|fI l k,aZ n];exact e
  have G:vF (aD (aD (aD H P<|.tbl<|#[]++#[fP pos.line,fP pos.col,.ref a]) a<|.frz T<|.own 0) m.objs.size<|.frz (IW "<lambda>" (X.env.qual++"<lambda>") args body p [(aez y r)] ((X.mg "__name__").getD .none) a f)<|.own 0) a (X.env.qual++"<lambda>"):=(T,vs,t,by rw[aZ a2,az],hd,hv);refine(.ref m.objs.size,_,a4,O,h _ _ (λb o n e=>v b o (λz=>by rw[z,g] at e;cases e;exact n _ O) e) (λb ps n e=>v b _ n e) (.inr (a,by rw[aZ a1,aZ a0,az];simp,G)) (_,a,f,az,G))
 ·have hf:codeAmong pos (#[fP pos.line,fP pos.col,.ref a]:Array aa).toList=V 5#a:=by simp[codeAmong,fP]
  refine PySem.W.kla_makeFunctionHit w I.b.g A i C (j g) trivial hf (hB g) λf m L hk K=>?_;have a4:aA X pins σ (aD H m.objs.size<|.frz {cls:=.type "function",data:=.func<|CM "<lambda>" (X.env.qual++"<lambda>") args body p [(aez y r)] ((X.mg "__name__").getD .none) 5#a f}<|.own 0) {s with heap:=m.push {cls:=.type "function",data:=.func<|CM "<lambda>" (X.env.qual++"<lambda>") args body p [(aez y r)] ((X.mg "__name__").getD .none) 5#a f},toks:=L}:=
   I.F (λb o e=>bQ _<|hk b o e) K (dg _ O,_,dg _ O)
  have hn:H m.objs.size=Y:=I.a.B K;have v:=aL.B (o:=df.frz {cls:=.type "function",data:=.func<|CM "<lambda>" (X.env.qual++"<lambda>") args body p [(aez y r)] ((X.mg "__name__").getD .none) 5#a f}<|.own 0) hn;exact(.ref m.objs.size,_,a4,O,h _ _ v.A3 (λb ps _ e=>v b _ e) (kI.B (.inr (a,g,D)) v) (_,a,f,az,D.B v.A3))
end
def WG{K:aY}{k:Nat}{x:aq}{c:ak}{vs:List aa}(KX:K.In c.heap)(S:c.heap.Ns ju E)(g:c.heap.Ns uq mb)(a9:∀x:aq,x≠"__name__"->mb x=iY x)(a1:c.heap.NoLimit)(hg:c.gens=#[])(b0:∃bm G,E "__builtins__"=V 5#bm/\bm≠uq/\c.heap.get? bm=V G/\G.cls=.type "module"/\G.dict=V uq/\G.data=.plain)(hT:afx f c.heap)(b7:RE K=ae)(ha:c.heap.get? a=V {cls:=.type "list",data:=.seq vs.toArray})(hi:fC vs ns)(hl:ns.length<=bD)(hr:fM k wu)(F:∀t:aW,K.In t->t.Ns ju E->rP E t->CQ f t->ce P w K E t CX k fa fd [x] sp)(T:∀(s:ak)(u:aa),zj s fd ([u],[]) [(aez x u)])(b8:∀H:ab,bI K H a (ns.map af.int)->(∀q∈f,H q.2=V (.tbl #[]))->sp [.ref a] H (λv _=>v=.c ae) λ_ _ _=>False)(b9:∀H e y,CX [] H c (λ_ _ _=>False) e y->False):iD (aH P w) wu (.call 5#fa ([.ref a],[])) (λr y=>r=.ok (.ret<|.bool ae)/\OldK c.heap y.heap/\y.os=c.os/\sQ y.gens) c:=by
 have rv:=Lo hi;have a2:=hi.length;have j:∀{b},b∈f.map (·.2)->c.heap.get? b=V (CK #[]):=λg=>by
  obtain⟨q,I,rfl⟩:=aO.mp g;exact(hT q I).2
 have aT:a∉f.map (·.2):=λz=>by
  have e:=j z;rw[ha] at e;cases e
 have KT:∀{b},b∈f.map (·.2)->K.lookup b=Y:=λ{b} g=>by
  cases e:K.lookup b with
  |none=>rfl
  |some o=>
   have A:=KX b o e;rw[j g] at A;have h2:=pv.mp b7 (aez b o)<|PySem.W.mem_of_lookupK e;obtain rfl:=bM A;exact bh (show aB=ae from h2) dY
 have L:∀H:ab,(∀b,b∉f.map (·.2)->H b=Y\/∃o xs,H b=V (.frz o<|.lst xs))->(∀b,b∈f.map (·.2)->H b=V (.tbl #[]))->bI K H a (ns.map af.int)->gM P w H c.heap->(∀b,H b≠Y->b=a\/b∈f.map (·.2))->(H a≠Y->K.lookup a=Y)->
   iD (aH P w) wu (.call 5#fa ([.ref a],[])) (λr y=>r=.ok (.ret<|.bool ae)/\OldK c.heap y.heap/\y.os=c.os/\sQ y.gens) c:=by
  intro H hO a3 hS a4 hA hK;have i:∀{b:W}{o:bg},c.heap.get? b=V o->H b=Y->(oA c.heap H).get? b=V o:=λe n=>Xf e n;have U:∀{b:W}{o:bg},c.heap.get? b=V o->(∀xs n,o.data≠.seq xs n)->o≠CK #[]->H b=Y:=λ{b o} e d d2=>by
   cases q:H b with
   |none=>rfl
   |some u=>
    rcases hA b (by rw[q];simp) with X|X
    ·subst X
     rw[ha] at e;cases e;exact bh O<|d _ _
    ·rw[j X] at e;cases e
     exact bh O d2
  have C:∀{b:W}{m:aq->Option aa},c.heap.Ns b m->(oA c.heap H).Ns b m:=λ{b m} (o,es,ep,e,d,r)=>(o,es,ep,i e (U e (λ_ _ z=>by rw[d] at z;cases z) λz=>by rw[z] at d;cases d),d,r);have a5:K.In (oA c.heap H):=λb o e=>i (KX b o e) (by
   cases q:H b with
   |none=>rfl
   |some u=>
    rcases hA b (by rw[q];simp) with X|X
    ·subst X
     rw[hK (by rw[q];simp)] at e;cases e
    ·rw[KT X] at e;cases e)
  have hM:AD K E (oA c.heap H):=(a5,C S,(mb,C g,a9),let ⟨mc,h1,h2⟩:=a1;(mc,C h1,h2));have e0:tN P w K E (oA c.heap H) wu [] c H:=(O,hM,λb o e=>Wq e,JN<|Xe _ _,trivial,λb g=>bh (show b∈([]:List W) from g) 0#0,a4,.of_eq hg);obtain⟨bm,G,b1,b2,b3,b4,b5,b6⟩:=b0;have c0:bm≠ju:=λq=>by
   obtain⟨o,es,ep,e,hd,_⟩:=S;rw[q,e] at b3;cases b3;rw[hd] at b6;cases b6
  have c1:rP E (oA c.heap H):=(bm,G,b1,b2,c0,i b3 (U b3 (λ_ _ z=>by rw[b6] at z;cases z) λz=>by rw[z] at b6;cases b6),b4,b5,b6);have c2:CQ f (oA c.heap H):=.of λq I=>by
   obtain⟨o,c3,a6,tf,a0,tg,c4,a7,tt,A,r1,r2,r⟩:=(hT q I).1;exact(o,c3,a6,tf,a0,tg,c4,a7,tt,i A (U A (λ_ _ z=>by rw[r2] at z;cases z) λz=>by rw[z] at r1;cases r1),r1,r2,r)
  refine p_ ((F _ a5 (C S) c1 c2).a wu [] c H ([.ref a],[]) [.ref a] [.ref a] _ _ hr e0 (T c<|.ref a) (.cons O .nil)<|b8 H hS λq I=>a3 _<|Dx I) λr y h=>?_;cases r with
  |error e=>exact(b9 H e y h).elim
  |ok fl=>
   cases fl with
   |next=>exact hX h
   |brk=>exact hX h
   |cont=>exact hX h
   |ret u=>
    obtain⟨v,H',os,a8,un,M,r',q⟩:=h;have q':v=.c ae:=q;subst q';obtain rfl:u=eX ae:=r';have Q:∀b o,b∉f.map (·.2)->c.heap.get? b=V o->y.heap.get? b=V o:=λb o g e=>by
     cases q:H b with
     |none=>exact un.a b o e q (by intro z;exact bh (show b∈([]:List W) from z) 0#0) 0#0
     |some u=>
      rcases hO b g with z|⟨G,xs,z⟩
      ·rw[q] at z;cases z
      ·have z2:=un.g b G _ z
       obtain⟨A,_⟩:=a4 b _ z;obtain⟨e2,_⟩:=M b _ z2;rw[e] at A;cases A;exact e2
    have R:∀b,b∈f.map (·.2)->∃l,y.heap.get? b=V (CK l):=λb g=>by
     obtain⟨l,e⟩:=un.e b _<|a3 b g;exact(#[]++l,M b _ e)
    refine(O,(λb o e=>?_,λb o e=>?_),os,a8)
    ·by_cases g:b∈f.map (·.2)
     ·obtain⟨l,e2⟩:=R b g
      have A:=j g;rw[e] at A;cases A;obtain⟨q,I,rfl⟩:=aO.mp g;exact .inr<|.inl (((hT q I).1.tab (hT q I).2).isCodeTable,O,#[],l,O,by simpa using e2)
     ·exact .inl<|Q b o g e
    ·by_cases g:b∈f.map (·.2)
     ·obtain⟨l,e2⟩:=R b g
      exact(_,e2)
     ·exact(o,Q b o g e)
 cases hk:K.lookup a with
 |some o=>
  have e:=KX a o hk;rw[ha] at e;cases e;refine L (λb=>if b∈f.map (·.2) then V (.tbl #[]) else Y) (λb g=>.inl<|am g) (λb g=>av g) (.inr (_,vs.toArray,_,hk,O,O,O,by rw[cP,a2];exact hl,by simpa using rv)) (λb u z=>?_) (λb z=>?_) λz=>bh (am aT) z
  ·by_cases g:b∈f.map (·.2)
   ·have D:=(av g).symm.trans z
    cases D;exact j g
   ·have D:=(am g).symm.trans z
    cases D
  ·by_cases g:b∈f.map (·.2)
   ·exact .inr g
   ·exact bh (am g) z
 |none=>
  refine L (λb=>if b∈f.map (·.2) then V (.tbl #[]) else if b=a then V (.frz {cls:=.type "list",data:=.seq vs.toArray}<|.lst<|ns.map af.int) else Y) (λb g=>?_) (λb g=>av g) (.inl<|.inr ({cls:=.type "list",data:=.seq vs.toArray},(am aT).trans<|av O)) (λb u z=>?_) (λb z=>?_) λ_=>hk
  ·by_cases p:b=a
   ·exact .inr (_,_,(am g).trans<|av p)
   ·exact .inl<|(am g).trans<|am p
  ·by_cases g:b∈f.map (·.2)
   ·have D:=(av g).symm.trans z
    cases D;exact j g
   ·by_cases p:b=a
    ·have D:=((am g).trans<|av p).symm.trans z
     cases D;subst p;exact(ha,by rw[au];exact hl,vs,_,rv,ha)
    ·have D:=((am g).trans<|am p).symm.trans z
     cases D
  ·by_cases g:b∈f.map (·.2)
   ·exact .inr g
   ·by_cases p:b=a
    ·exact .inl p
    ·exact bh ((am g).trans<|am p) z
def U'{l:yW}{n k:Nat}{i:List aq}{XP:(aq->Option aa)->aW->Prop}{U:bf->aW->Prop}{d:DefRec}{K:Jg->aY}{CX:mf}{sp:bf->lD}{x:aq}{tabs:List (W×W)}{xs:List aq}(hn:l.most=V n)(D:n<=bD)(E:d.params.defaults=[])(hr:fM k wu)(hY:∀(w:bf)(h:aW),U w h->(K w.params).In h)(I:∀p,RE (K p)=ae)(hx:∀p,xs.map (sE<|K p)=tabs.map V)(r:∀x∈xs,((ahs q).find? (λe=>e.name==x)).isSome=ae)(F:∀(w:bf)(j:aq->Option aa)(A:W)(h:aW),(K w.params).In h->h.Ns ju j->j d.name=V 5#A->
   ∃L:cW,(∀(s:ak)(u:aa),zj s L ([u],[]) [(aez x u)])/\
    ∀b:aW,(K w.params).In b->b.Ns ju j->rP j b->CQ tabs b->ce l.prog w (K w.params) j b CX k A L [x] (sp w))
  (M:∀(w:bf)(H:ab)(a:W)(C:List Int),C.length<=n->bI (K w.params) H a (C.map af.int)->(∀q∈tabs,H q.2=V (.tbl #[]))->sp w [.ref a] H (λv _=>v=.c ae) λ_ _ _=>False)
  (P:∀(H:ab)(s:ak)(e:aa)(Q:ak),CX [] H s (λ_ _ _=>False) e Q->False) :
  RK q i XP U l.row.toRowW d [] (λf X=>im f X):=by
 refine aew hn E λw a0 c j mb A o pm cd a1 a X C G a3 ho hd a2 R z m g hg=>?_;have S:=hY w _ a3;obtain⟨L,hb,hF⟩:=F w j A _ S G.T.g R;have hT:afx tabs c.heap:=λt ht=>by
  have h1:V t∈xs.map (sE<|K w.params):=by rw[hx];exact Dx ht
  obtain⟨y,hy,e⟩:=aO.mp h1;obtain⟨dr,T⟩:=Dq.mp<|r y hy;exact PySem.W.tab_of G.T S T e
 exact WG S G.T.g G.T.b G.T.builtins G.T.nolimit hg G.T.bmain hT (I _) z m (dq g D) hr hF hb (λH hS hH=>M w H a C g hS hH) λH e Q=>P H c e Q
section
variable{X:a_}{pins:Ψ}{σ:aR}{H:ab}{s:ak}
def WC{h:List W}{E:List Int}{R:sH->ak->Prop}(hh:X.A.handled=Y)(hl:bI X.K H l (h.map af.ref))(c0:E.length=h.length)(G:fF X pins H S)(K:fF X pins H I)(P:S≠I)(b4:l≠I)(b5:∀d,aA X pins σ H d->∀(j:Nat) a n,h[j]?=V a->E[j]?=V n->iD 3#0 X.A.in1 (.call 5#f ([.ref a],[])) (λr k=>∃v,r=.ok (.ret v)/\vH X.c X.prog X.w H d (λv H'=>v=.int n/\H'=H) v k) d)(hR:∀(j:Nat) a n d,aA X pins σ H d->h[j]?=V a->E[j]?=V n->(∀m∈E,m<=n)->R (.ok<|.ret<|.ref a) d):∀(r j i:Nat)(d:ak)(a:W)(n:Int)(t:hU)(c:Nat),h.length-(j+1)=r->j+1<=h.length->aA X pins σ H d->d.heap.get? S=V (cj "list" #[.ref a,.int n t] c)->
   d.heap.IsListIter I l (j+1)->h[i]?=V a->E[i]?=V n->(∀(D:Nat) m,D<=j->E[D]?=V m->m<=n)->
   iD 3#0 X.A (.builtin "max.loop" ([.ref I,.ref f,.ref S],[])) R d:=by
 have y:(qR "max"++qR ".loop":String)="max.loop":=ξ
 have c3:=qZ (prog:=X.prog) (w:=X.w) (A:=X.A.in1) hh I l b4 (h.map Z).toArray;have a3:(h.map Z).toArray.size=h.length:=by rw[cP,au]
 have a4:∀d,aA X pins σ H d->d.heap.IsList l (h.map Z).toArray:=λd Q=>by
  obtain⟨c1,r1,p1,_⟩:=Q.list hl;obtain rfl:=nw r1;exact p1.isList
 intro r
 induction r with
 |zero=>
  intro j i d a n t c hr hj Q nS T ea en g;have b6:j+1=h.length:=ω
  refine iC rj ?_;rw[ja i' _];show ax _ X.A.in1 (um 5#S >>= _) _ _ _;refine ag<|iU nS O ?_;show ax _ X.A.in1 (rp (iV<|.ref I) _ >>= _) _ _ _;refine ag<|lN<|c3.done _ _ _ (by rw[a3,<-b6];exact T,a4 _ Q) λh' p C=>?_;have I1:aA X pins σ H {d with heap:=h',toks:=p}:=aA.M (t':=p) (ch:=[I]) Q (md K) λb o U q=>C b o U q;have a0:=C S _ 6#P nS;have s1:=jw h' S<|cD λ_=>(#[]:Array aa);show ax _ X.A.in1 (qT S (λ_=>#[]) >>= _) _ _ _;refine ag ?_;refine m_ (s:={d with heap:=h',toks:=p}) a0 O<|ag<|kf<|aG ?_;refine hR i a n _ (aA.M (s:={d with heap:=h',toks:=p}) (t':=p) (ch:=[S]) I1 (md G) λb o U q=>(s1.2 b (λz=>U (by simp[z]))).trans q) ea en λm hm=>?_;obtain⟨D,e'⟩:=gW.mp hm;have:=(bY.mp e').1;exact g D m ω e'
 |succ r ih=>
  intro j i d a n t c hr hj Q nS T ea en g;have x:j+1<h.length:=ω
  refine iC rj ?_;rw[ja i' _];show ax _ X.A.in1 (um 5#S >>= _) _ _ _;refine ag<|iU nS O ?_;show ax _ X.A.in1 (rp (iV<|.ref I) _ >>= _) _ _ _;refine ag<|lN<|c3.item (j+1) _ _ _ (by rw[a3];exact x) (T,a4 _ Q) λv h' p hP a5 C=>?_;have e1:h[j+1]?=V (h[j+1]'(x)):=cB x;have e2:E[j+1]?=V (E[j+1]'(à x (æ c0))):=cB (à x (æ c0));have hv:v=.ref (h[j+1]'(x)):=by
   have:(h.map Z)[j+1]?=V v:=by simpa using hP
   rw[bV,e1] at this;exact(bM this).symm
  subst hv;obtain⟨a6,a7,a8,a9⟩:=id a5.1;have I1:aA X pins σ H {d with heap:=h',toks:=p}:=aA.M (t':=p) (ch:=[I]) Q (md K) λb o U q=>C b o U q;have a0:=C S _ 6#P nS;generalize h[j+1]'(x)=L at e1 ⊢;generalize (E[j+1]'(à x (æ c0)))=M at e2;show ax _ X.A.in1 (rp (sy [.ref L]<|im 5#f [.ref L]) _ >>= _) _ _ _;refine ag<|lN<|fO<|yN<|p_ (b5 _ I1 (j+1) _ _ e1 e2) λr k hq=>?_;obtain⟨u,rfl,v,H',os,b0,un,b7,ru,rfl,rfl⟩:=hq;obtain⟨t2,rfl⟩:=ru;have I2:aA X pins σ H' k:=I1.A8 os un b7 b0 (λb z=>nomatch z);have a1:=un.a S _ a0 G.1 (vu I1 G) 0#0;have b1:=un.a I _ a7 K.1 (vu I1 K) 0#0;have b2:k.heap.IsListIter I l (j+1+1):=(a6,b1,a8,a9)
  try dsimp only
  show ax _ X.A.in1 (rp (sy [.ref L,.int M t2]<|yR .Gt (.int M t2) (.int n t) >>= _) _ >>= _) _ _ _;refine ag<|lN<|fO<|ag<|JE ?_;refine ag<|fO<|sw ?_;refine ag<|kf<|aG ?_
  by_cases b3:n<M
  ·have s1:=jw k.heap S<|cD λ_=>#[.ref L,.int M t2]
   obtain⟨c2,b8⟩:∃c2,(k.heap.update S<|cD λ_=>#[.ref L,.int M t2]).get? S=V (cj "list" #[.ref L,.int M t2] c2):=(_,sP a1 λ_=>#[.ref L,.int M t2]);simp only[b3,decide_true,eD];refine ag ?_;refine m_ a1 O<|ag<|kf ?_;rw[y];refine aG (iK i' _,ih (j+1) (j+1) _ L M t2 c2 ω x (aA.M (t':=k.toks) (ch:=[S]) I2 (md G) λb o U q=>(s1.2 b (λz=>U (by simp[z]))).trans q) b8 (a6,(s1.2 I P.symm).trans b1,a8,a9) e1 e2 λD m b9 em=>?_)
   by_cases e:D=j+1
   ·subst e
    rw[e2] at em;cases em;exact lW _
   ·have:=g D m ω em
    omega
  ·simp only[b3,decide_false,dK,da]
   refine ag<|kf ?_;rw[y];refine aG (iK i' _,ih (j+1) i k a n t c ω x I2 a1 b2 ea en λD m b9 em=>?_)
   by_cases e:D=j+1
   ·subst e
    rw[e2] at em;cases em;omega
   ·exact g D m ω em
def WD{c:List W}{x:List Int}{Q:Ω}(hh:X.A.handled=Y)(I:aA X pins σ H s)(hl:bI X.K H l (c.map af.ref))(a3:x.length=c.length)(d:0<c.length)(E:∀g,aA X pins σ H g->∀(j:Nat) a n,c[j]?=V a->x[j]?=V n->iD 3#0 X.A.in1 (.call 5#f ([.ref a],[])) (λr e=>∃v,r=.ok (.ret v)/\vH X.c X.prog X.w H g (λv H'=>v=.int n/\H'=H) v e) g)(h:∀(j:Nat) a n g,aA X pins σ H g->c[j]?=V a->x[j]?=V n->(∀m∈x,m<=n)->Q 5#a g):ax 3#0 X.A (im (.builtin "max") [.ref l] [(aez (jv "key") 5#f)]) Q X.a s:=by
 have i:(qR "max"++qR ".loop":String)="max.loop":=ξ
 have G:∀g,aA X pins σ H g->g.heap.IsList l (c.map Z).toArray:=λg Ik=>by
  obtain⟨b4,r1,p1,_⟩:=Ik.list hl;obtain rfl:=nw r1;exact p1.isList
 have K:=G s I;obtain⟨ol,a4,_⟩:=id K;have a5:l<s⁻¹:=cy a4;refine kmk_tree R_ RZ Sb (kmk_max_key _ _) ?_;show ax _ X.A.in1 (Di "max" ["key","default"] 0 ([],[(aez (jv "key") 5#f)]) >>= _) _ _ s;refine ag<|oU (show Di "max" ["key","default"] 0 ([],[(aez (jv "key") 5#f)])=aX [V<|.ref f,Y] from O) ?_;refine ag<|aG ?_;refine ag<|ui K ?_;refine ag<|wp ?_<|eY _;rw[i];have hS:(1#0).objs.size=s⁻¹+1:=wJ ..;have L:l≠s⁻¹:=cM a5;have y:(1#0).objs.size≠s⁻¹:=by rw[hS];exact jx<|zn _
 have k:fF X pins H s⁻¹:=I.A0 (aV _)<|I.a.B<|aV _;have p:fF X pins H (1#0).objs.size:=I.A0 (by rw[hS];exact nR _)<|I.a.B (by rw[hS];exact nR _);refine aG (iK i' _,?_);have I0:aA X pins σ H {s with heap:=(1#0).push<|cj "list" #[] 0}:=I.J (t':=s.toks) λb u q=>bQ _<|bQ _ q;have gI:((1#0).push<|cj "list" #[] 0).get? s⁻¹=V {cls:=.type "list_iterator",data:=.fields #[.ref l,.int 0 0]}:=
  bQ _<|dg _ O
 have gS:((1#0).push<|cj "list" #[] 0).get? (1#0).objs.size=V (cj "list" #[] 0):=dg _ O;have b6:=qZ (prog:=X.prog) (w:=X.w) (A:=X.A.in1) hh s⁻¹ l L (c.map Z).toArray;have a6:(c.map Z).toArray.size=c.length:=by rw[cP,au]
 generalize (s.heap.push {cls:=.type "list_iterator",data:=.fields #[.ref l,.int 0 0]}).objs.size=S at *;refine iC rj ?_;rw[ja i' _];show ax _ X.A.in1 (um 5#S >>= _) _ _ _;refine ag<|iU gS O ?_;show ax _ X.A.in1 (rp (iV<|.ref s⁻¹) _ >>= _) _ _ _;refine ag<|lN<|b6.item 0 _ _ _ (by rw[a6];exact d) ((_,gI,O,O),G _ I0) λv h' M hP P R=>?_;have e1:c[0]?=V (c[0]'(d)):=cB d;have e2:x[0]?=V (x[0]'(à d (æ a3))):=cB (à d (æ a3));have hv:v=.ref (c[0]'(d)):=by
  have:(c.map Z)[0]?=V v:=by simpa using hP
  rw[bV,e1] at this;exact(bM this).symm
 subst hv;obtain⟨a7,T,a8,a9⟩:=id P.1;have I1:aA X pins σ H {s with heap:=h',toks:=M}:=aA.M (s:={s with heap:=(1#0).push<|cj "list" #[] 0}) (t':=M) (ch:=[s⁻¹]) I0 (md k) λb o U q=>R b o U q;have b0:=R S _ 6#y gS;generalize c[0]'(d)=t at e1 ⊢;generalize (x[0]'(à d (æ a3)))=C at e2;show ax _ X.A.in1 (rp (sy [.ref t]<|im 5#f [.ref t]) _ >>= _) _ _ _;refine ag<|lN<|fO<|yN<|p_ (E _ I1 0 _ _ e1 e2) λr e hq=>?_;obtain⟨u,rfl,v,H',os,a0,un,b1,ru,rfl,rfl⟩:=hq;obtain⟨D,rfl⟩:=ru;have I2:aA X pins σ H' e:=I1.A8 os un b1 a0 (λb z=>nomatch z);have a1:=un.a S _ b0 p.1 (vu I1 p) 0#0;have b2:=un.a s⁻¹ _ T k.1 (vu I1 k) 0#0
 try dsimp only
 have s1:=jw e.heap S<|cD λ_=>#[.ref t,.int C D];obtain⟨c2,b3⟩:∃c2,(e.heap.update S<|cD λ_=>#[.ref t,.int C D]).get? S=V (cj "list" #[.ref t,.int C D] c2):=(_,sP a1 λ_=>#[.ref t,.int C D]);show ax _ X.A.in1 (qT S (λ_=>#[.ref t,.int C D]) >>= _) _ _ _;refine ag ?_;refine m_ a1 O ?_;rw[i];refine aG (iK i' _,WC hh hl a3 p k y L E (λj a n g Ij ea en U=>h j a n g Ij ea en U) _ 0 0 _ t C D c2 O d (aA.M (t':=e.toks) (ch:=[S]) I2 (md p) λb o U q=>(s1.2 b (λz=>U (by simp[z]))).trans q) b3 (a7,(s1.2 _ y.symm).trans b2,a8,a9) e1 e2 λj' m b5 em=>?_);obtain rfl:j'=0:=(û b5 ú)
 rw[e2] at em;cases em;exact lW _
end
def Vs(K:aY)(P:W)(e:ci)(c:aq)(p:Nat)(q:bd)(r:fY):bd:=λi H Q=>r i H λs f=>∃(l:W)(g:List W)(h:List Int)(k:af),s=[.ref l]/\bI K f l (g.map af.ref)/\h.length=g.length/\0<g.length/\i[p]?=V (V k)/\kI f P e c/\
 (∀d,kt f d->∀(j:Nat) a n,g[j]?=V a->h[j]?=V n->q [V<|.ref a,V k] d λv t=>v=.int n/\t=d)/\
 ∀d(j:Nat) a n,kt f d->(∀b o,b≠P->f b=V (.tbl o)->d b=V (.tbl o))->kI d P e c->g[j]?=V a->h[j]?=V n->(∀m∈h,m<=n)->Q 5#a d
section
variable{X:a_}{a:bz}{ta:fY}{p p2 pos kpos lpos:ci}{P c cc:W}{args:uD}{body:bz}{sc:fw}{x y:aq}{iy k:Nat}{te:bd}
def Wd(hr:fM (k+2) X.A)(hg:lI X "max")(hm:X.mg "max"=Y)(hv:iY "max"=V (.builtin "max"))(hC:RN X.base c P)(m:X.env.code=.ref c)(G:rP X.mg X.base)(K:IV sc X.env=aX [(aez y cc)])(r:X.env.cells.lookup y=V cc)(hk:X.env.kindOf y=V .cell)(hN:X.N[iy]?=V y)(S:NS x y sc)(M:∀d cl R t w u,CI (CM "<lambda>" d args body sc cl R 5#t w) ([u],[])=aX [(aez x u)])(A:∀s H f d t,bG (Ap X X.A.in1 s H f d sc x y cc t) body te)(ha:ku X [a] ta)(hc:X.b=ae)(he:fu [a] X.env=[(aez aB (dN a X.env))]:=by rfl)(C:defaultsOf args X.env=(aez ([]) ([])):=by rfl):bG X (.Call (.Name "max" p) [a] [(V "key",.Lambda args body sc lpos,kpos)] pos) (Vs X.K P lpos (X.env.qual++"<lambda>") iy te ta):=by
 intro i s σ H Q I h;refine yO<|qr I hg hm hv ?_;refine Su ?_ (by rw[he];rfl) (by rw[he];rfl) O O;refine bH (ha pos i s σ H _ I h) λus s1 (vs,T,I1,r1,q1)=>?_;obtain⟨l,as,ns,vy,rfl,hl,U,h0,a0,ht,a5,q⟩:=q1;obtain⟨u,rfl,ru⟩:=ir r1;cases ru;refine Sp<|bH (Wf (P:=P) (args:=args) (body:=body) (pos:=lpos) hC m G K C i s1 σ T (λv g=>∃f,v=.ref f/\kt T g/\(∀b ps,b≠P->T b=V (.tbl ps)->g b=V (.tbl ps))/\kI g P lpos (X.env.qual++"<lambda>")/\xQ g f (X.env.qual++"<lambda>") args body sc y cc) I1 (ht,λf g a1 a2 a3 a4=>(f,O,a1,a2,a3,a4))) λu2 s2 a6=>?_;obtain⟨v2,g,I2,r2,f,rfl,D,a7,tb,L⟩:=a6;cases r2;refine kws_nil ?_;show ax 3#0 X.A (im (.builtin "max") [.ref l] [(aez (jv "key") 5#f)]) _ _ s2;have a8:bI X.K g l (as.map af.ref):=by
  rcases hl with (z|⟨o,z⟩)|z
  ·exact .inl<|.inl<|D _ _ (λ_ e=>nomatch e) z
  ·exact .inl<|.inr (o,D _ _ (λ_ e=>nomatch e) z)
  ·exact .inr z
 refine WD (I.b.a hc) I2 a8 U h0 (λs' E j a n ea en=>?_) λj a n s' E ea en M=>(.ref a,_,E,O,q g j a n D a7 tb ea en M);exact WH (va:=.ref a) (vy:=vy) (iy:=iy) E E.B5.B O (fM.F hr).J L S r hN a0 (.inl hk) (λR t w=>M _ _ R t w _) O (λt=>A s' g f _ t)<|a5 g D j a n ea en
end
noncomputable def kt.B{H b:ab}(e:kt H b)(h:de H a c):de b a c:=e _ _ (λ_ z=>nomatch z) h
noncomputable def kt.M{K:aY}{b:List af}(e:kt H a)(h:bI K H l b):bI K a l b:=by
 rcases h with (z|⟨o,z⟩)|z
 ·exact .inl<|.inl<|e _ _ (λ_ q=>nomatch q) z
 ·exact .inl<|.inr (o,e _ _ (λ_ q=>nomatch q) z)
 ·exact .inr z
def kt.F{P:W}(e:kt H c)(f:∀b a,b≠P->H b=V (.tbl a)->c b=V (.tbl a))(i:kI c P d g)(h:c l=Y):H l=Y:=by
 cases q:H l with
 |none=>rfl
 |some o=>
  have:c l=V o:=by
   by_cases z:∃a,o=.tbl a
   ·obtain⟨a,rfl⟩:=z
    refine f l a (λy=>?_) q;subst y;rcases i with t|⟨_,t,_⟩<;>(rw[h] at t;cases t)
   ·exact e l o (λa y=>z (a,y)) q
  rw[h] at this;cases this
def WI:∀x,([(aez p NameKind.local),(aez y bK)]:List (aq×lO)).lookup x=V .free->x=y:=λx h=>by
 rw[kY] at h;cases b:x==p with
 |true=>rw[b] at h;cases h
 |false=>
  rw[b] at h;have a:([(aez y bK)]:List (aq×lO)).lookup x=V .free:=h;rw[kY] at a;cases c:x==y with
  |true=>exact DL c
  |false=>rw[c] at a;cases a
section
variable{prog:bu}{w:bf}{A:bO}{E:Ω}{s:ak}
def ads(d:W)(e:(d==jK)=aB):MeetsIn prog w (Builtin.«dict.__len__» ([.ref d],[])) (λ_ R s=>∃b c,ik s.heap d b c/\R (.ok<|.ret<|.int b.size s.toks) {s with toks:=s.toks+1}):=
 .of_wp λA R s (b,c,f,h)=>by
  obtain⟨o,g,i,a⟩:=f;show ax _ _ (dictSize d >>= _) _ _ s;unfold dictSize;refine ag<|ag<|nJ g a<|aG ?_;show ax _ _ (alf d >>= _) _ _ s;refine ag<|wpAny_pendingCount_other e ?_;refine wpAny_ret_mkInt ?_;rw[zp];exact h
def ad1{d:W}{Q:Ω}(f:(d==jK)=aB)(b:ik s.heap d a c)(e:(a.size:Int)<2 ^ 63)(h:Q (.int a.size<|s.toks+1) {s with toks:=s.toks+1+1}):ax 2#0 A (im (.builtin "len") [.ref d]) Q E s:=by
 refine Sh kind_len plain_len entry_len (args_len1 _) ?_;unfold Builtin.«len»;refine ag (m:=oneArg "len" _)<|aG ?_;refine ag (m:=callSpecial? 5#d<|jv "__len__") (pY (name:=jv "__len__") b.typeIs agk
 <|yT agk b.typeIs F.entry_dict_len (F.args_dict_len_1 _) (ads d f) (a,c,b,?_))
 show ax _ _ _ _ _ {s with toks:=s.toks+1};refine ag<|fO<|aG ?_;refine ag<|kf ?_;show ax _ _ (if((a.size:Nat):Int)<0 then _ else _) _ _ _;rw[am ω];show ax _ _ (if((a.size:Nat):Int) ≥ 2 ^ 63 then _ else _) _ _ _;rw[am ω];exact ag<|wpAny_mkInt<|aG (_,O,h)
end
section
variable{X:a_}
def FE:iS X (.builtin "len") (λd H Q=>∃a b,d=[af.ref a]/\cA H a (.a b)/\Q (.int b.length) H):=by
 intro e s p H d t Q I r h;obtain⟨a,b,rfl,g,q⟩:=h;obtain⟨u,rfl,i⟩:=ir r;cases i;obtain⟨z,y,v,c,o,j,w,k,l,m,n,x⟩:=(show di X.prog X.w H s.heap a (.a b) from g.F I.a);have f:j.size=b.length:=by
  have:=fj ar n;rw[au,<-iM c] at this
  simpa using this
 refine ad1 y (o,k,l,m) (by rw[f];rw[jt] at z;omega) (.int b.length,H,I.N _,(_,by rw[f]),q)
end
section
variable{X:a_}{pins:Ψ}{σ:aR}{H:ab}{s:ak}{D:W}{o:bg}{kvs:List (List aK×af)}
def aA.D6(I:aA X pins σ H s)(i:X.h D=Y)(f:H D=V (.frz o<|.a kvs)):aA X pins σ (aD H D<|.a kvs) s:=by
 have g:∀{b:W},H b=Y->b≠D:=λ{b} e=>(cN f e).symm;refine(I.b,I.k,I.d,(I.base.a,I.base.d,λb u e n h=>?_,I.base.f,λb j e=>?_,λb m u e=>?_,λb r e=>?_),I.e,I.g,?_,λx c e=>?_,λp t=>?_,λb u e=>?_,I.l)
 ·have:=I.base.c b u e n h
  rw[aZ<|g this];exact this
 ·have:=I.base.i b j e
  rw[aZ<|fW this f (by intro z;cases z)];exact this
 ·have d:b≠D:=λz=>by rw[z,i] at e;cases e
  rw[aZ d];exact I.base.g b m u e
 ·have d:b≠D:=λz=>by rw[z,i] at e;cases e
  rw[aZ d];exact I.base.e b r e
 ·rw[aZ<|g I.h];exact I.h
 ·rw[aZ<|g<|I.j x c e];exact I.j x c e
 ·obtain⟨w,k,y⟩:=I.f p t
  exact(w,by rw[aZ<|g k];exact k,y)
 ·have l:∀{a:W}{v:df},di X.prog X.w H s.heap a v->di X.prog X.w (aD H D<|.a kvs) s.heap a v:=λ{a v} x=>
   x.B (λ_ _ _ q=>q) (λc q=>by rw[aZ<|fW q f (by intro z;cases z)];exact q) λc j q=>by rw[aZ<|fW q f (by intro z;cases z)];exact q
  by_cases d:b=D
  ·subst d
   rw[az] at e;cases e;have h:=I.a b _ f;exact l (show s.heap.get? b=V o/\di X.prog X.w H s.heap b (.a kvs) from h).2
  ·rw[aZ d] at e
   exact l<|I.a b u e
end
section
variable{X:a_}
def LB(c d:bd):bd:=λe H Q=>∀p,H p=Y->EF [(aez c d)] e (aD H p<|.a []) λf a=>∃b k v,f=[(aez 5#b v)]/\a p=V (.a [])/\a b=V (.tup<|aj cR k)/\Q 5#p (aD a p<|.a [(aez k v)])
def Mx{m n:bz}(hu:X.A.units+1<dB)(A:bG X m p)(C:bG X n r):bG X (.Dict [V m] [n] g) (LB p r):=by
 intro f s D H Q I q;have E:=I.a.B<|aV s⁻¹;have G:=I.F (a:=s⁻¹) (o:=.a []) (h':=s.heap.push {cls:=.type "dict",data:=.dict #[]}) (t':=s.toks) (λ_ _ q=>bQ _ q) (aV _)<|Ng s.heap I.B3;refine wpAny_Dict_any O O 0#0 0#0<|bH (VV A C VU f _ D _ _ G<|q _ E) λws s2 (ps,H2,i,d,b,k,v,j,e,u,K)=>?_;subst j;cases d with
 |@cons p' L M P h t=>
  cases t;obtain⟨R,w2⟩:=L;obtain⟨S,T⟩:=h;cases(show R=Z b from S);obtain⟨z,U,xs,d,dd⟩:=Nf i.a e;cases d;unfold storeAll;rw[JY];refine ag<|ag<|ae8 (hsz:=eY _) (knd:=kC<|ff X.prog X.w) (by show X.A.units<dB;exact ì hu) (tE i.a u) dd λh' l hs=>aG ?_;show ax _ _ (mN _ _ _) _ _ _;rw[SR];refine aG (.ref s⁻¹,_,?_,O,K);obtain⟨w,es,j,x,h2,h3,h4,_,h5⟩:=l;refine vA i (by rw[e];exact ug) hs (w,x) (by show 1<=bD;rw[jt];exact ä,U,_,(jW.F (kvs:=[]) .nil k u T).B λc ys y=>?_,w,es,j,x,h2,h3,h4,h5);rw[aZ<|fW y e (λz=>nomatch z)];exact y
end
def Np{j:Ξ}(L:gM P w H h)(k:cA H a (.a d))(S:d.map (·.1)=j.map (·.map aN)):(a==jK)=aB/\∃c:List (List Int×W×aa),(∀u v,h.DictOfH (kC<|qV u v) a c)/\c.length=d.length/\∀(i:Nat) x,c[i]?=V x->j[i]?=V x.1/\∃n,d[i]?=V n/\cg n.2 x.2.2:=by
 obtain⟨z,y,ys,A,o,T,U,X,h2,h3,h4,M⟩:=(show di P w H h a (.a d) from k.F L);have C:∀{l:List (List aK×af)}{m:List (List aK×W×aa)}{f:Ξ},jW H l m->l.map (·.1)=f.map (·.map aN)->
   ∃c:List (List Int×W×aa),m=c.map (λx=>(aez (x.1.map aN) x.2))/\c.map (·.1)=f/\(∀x∈c,de H x.2.1 x.1)/\c.length=l.length/\∀(i:Nat) x,c[i]?=V x->f[i]?=V x.1/\∃n,l[i]?=V n/\cg n.2 x.2.2:=by
  intro l m f q
  induction q generalizing f with
  |nil=>intro e;cases f with
   |nil=>exact([],O,O,(λx g=>by cases g),O,(λi x e=>by simp at e))
   |cons p ps=>simp at e
  |@cons p q' ps a0 k t ih=>intro e;cases f with
   |nil=>simp at e
   |cons r rs=>
    simp only[cY,ai5] at e;obtain⟨c,s,Q,D,E,G⟩:=ih e.2;have R:=k.2.1;rw[e.1,bN] at R;refine((aez r q'.2)::c,?_,by rw[cY,Q],λx g=>?_,by simp[E],λi x I=>?_)
    ·rw[cY,<-s,<-e.1,k.1]
    ·rcases cz.mp g with rfl|g
     ·exact R
     ·exact D x g
    ·cases i with
     |zero=>
      simp at I;subst I;exact(O,p,O,k.2.2)
     |succ i=>simpa using G i x 6#I
 obtain⟨c,s,Q,D,E,G⟩:=C A S;refine(y,c,λu v=>(o,T,U,X,h2,h3,?_,λx g=>?_,?_),E,G)
 ·rw[h4,s,bN]
  refine fS λx _=>?_;show ag2 (du (ff P w)<|x.1.map aN) (.ref x.2.1) x.2.2=ag2 (du (qV u v) x.1) (.ref x.2.1) x.2.2;rw[Xh]
  rfl
 ·obtain⟨_,a1,r,p⟩:=(show di P w H h x.2.1 (.tup<|x.1.map af.int) from L x.2.1 _ (D x g))
  exact MM p<|pJ r
 ·have e6:c.map (λx=>x.1.map (aN:Int->aK))=(c.map (·.1)).map (·.map aN):=by rw[bN];rfl
  rw[s,bN] at M;have h6:((c.map (·.1)).map (·.map (aN:Int->aK))).Nodup:=by rw[<-e6];exact M
  exact alo _ (λa b K e=>K (by rw[e])) h6
section
variable{X:a_}
def LP{s:ak}{c:List Int}(I:aA X a d H s)(e:bI X.K H l (c.map af.int)):∃b,Reads s.heap 5#l (.list<|c.map iL) b:=by
 obtain⟨f,r,p,_⟩:=I.list e;obtain⟨o,g,h,n,i⟩:=p.isList;exact(_,.list g h i<|(afu<|pJ r).reads s.heap)
def LK(a:List Int):za (.list<|a.map iL)=ae:=by
 simp[za,Jf,afv,CZ,aft]
def MU(a:List Int):(Jb .int).has (.list<|a.map iL)=ae:=by simp[yY]
end
section
variable{prog:bu}{w:bf}{K:Type}[DecidableEq K]{knd:HeapKind prog w K}{A:bO}{E:Ω}{s:ak}
def ad8{id:String}{a b:W}{G R:List (K×W×aa)}{Q:Bool->ak->Prop}(hu:knd.room A)(ha:(a==jK)=aB)(hb:(b==jK)=aB)(hx:s.heap.DictOfH knd a G)(hy:s.heap.DictOfH knd b R)(hl:G.length=R.length)(hv:∀(i:Nat) k p v,G[i]?=V (aez k (aez p v))->∃(j:Nat)(q:W)(n:Int)(t S:hU),v=.int n t/\R[j]?=V (aez k (aez q (.int n S))))(h:Q ae s):ax 2#0 A (zi id a b) Q E s:=by
 obtain⟨oa,g,pa,d,a3,f,H,T,a4⟩:=hx;obtain⟨ob,eb,pb,l,a5,m,o,U,I⟩:=hy;have sa:=IN (knd:=knd) H;have sb:=IN (knd:=knd) o;unfold zi zh;rw[am (by rw[ha];exact dY),am (by rw[hb];exact dY)];refine ag<|aG<|ag<|aG ?_;refine ag<|nJ d f ?_;dsimp only;refine ag<|nJ l m ?_;rw[am (by rw[sa,sb,hl];simp)];refine ag<|uj d f ?_;refine ag ?_;rw[ajz];simp only[ajy,Sy,Du,Nat.div_one];refine yM _ (λc r M=>M=s/\r.1=Y/\∃i,c=aie i (g.size-i)/\i<=g.size) _ ?_ ?_ _ _ (O,O,0,by simp,eY _)
 ·rintro x c r M ⟨rfl,u,i,P,hi⟩
  have L:i<g.size:=by
   rcases kX i g.size with h|h
   ·exact h
   ·rw[Nat.sub_eq_zero_of_le h] at P;simp at P
  obtain⟨rfl,z⟩:x=i/\c=aie (i+1) (g.size-(i+1)):=by
   have e:g.size-i=(g.size-(i+1))+1:=ω
   rw[e,List.range'_succ] at P;injection P with h1 h2
   exact(h1,h2)
  obtain⟨⟨k,p,v⟩,C⟩:∃y,G[x]?=V y:=(G[x]'(by rw[<-sa];exact L),cB _);obtain⟨j0,q,n,t,S,rfl,D⟩:=hv x k p v C;have X:g[x]?=V (knd.hash k,.ref p,.int n t):=by rw[entry_at H x,C];rfl
  have a0:knd.is M.heap k p:=T _<|dh C;refine ag<|nJ d f ?_;rw[X];dsimp only;refine ag<|fO<|ag<|wpAny_dictFind_heap hu a0 l m o U I (λa1=>bh D<|a1 j0 _) λj pj hj=>?_;obtain rfl:=idxH_unique I hj D;dsimp only;refine ag<|nJ l m ?_;have a2:eb[j]?=V (knd.hash k,.ref q,.int n S):=by rw[entry_at o j,D];rfl
  rw[a2];dsimp only;refine fO<|Ra ?_;rw[am 0#0];refine ag<|uj d f ?_;rw[am 0#0];exact aG (O,O,x+1,z,L)
 ·rintro⟨r1,r2⟩ M ⟨rfl,u,_⟩
  simp only at u;subst u;exact aG h
def ad9{a b:W}{j k:List (K×W×aa)}{Q:Bool->ak->Prop}(m:(a==jK)=aB)(n:(b==jK)=aB)(o:s.heap.DictOfH knd a j)(p:s.heap.DictOfH knd b k)(q:j.length≠k.length)(h:Q aB s):ax 2#0 A (zi l a b) Q E s:=by
 obtain⟨D,G,H,c,r,d,e,t,u⟩:=o;obtain⟨I,L,M,f,v,g,i,x,y⟩:=p;have z:=IN (knd:=knd) e;have C:=IN (knd:=knd) i;unfold zi zh;rw[am (by rw[m];exact dY),am (by rw[n];exact dY)];refine ag<|aG<|ag<|aG ?_;refine ag<|nJ c d ?_;dsimp only;refine ag<|nJ f g ?_;rw[av (by rw[z,C];simpa using q)];exact ag<|mD<|aG h
def aea{a b:W}{Q:Ω}(c:A.units<dB)(d:s.TypeIs 5#a "dict")(f:s.TypeIs 5#b "dict")(i:∀(j:String)(R:Bool->ak->Prop)(k:Ω)(g:bO),g.units<=A.units+8->R r s->ax 2#0 g (zi j a b) R k s)(h:Q (.bool<|!r) s):ax 2#0 A (iW .NotEq 5#a<|.ref b) Q E s:=by
 show ax _ _ (yR .NotEq 5#a<|.ref b) _ _ _;refine wpAny_richCompare_same_room (op:=.NotEq) d f agj (mE agj d F.entry_dict_ne ?_<|F.args_dict_ne_2 _ _) c;unfold Builtin.«dict.__ne__»
 wp_delta
 refine ag ?_;unfold ali;refine ag<|IE d ?_;refine ag<|show ax _ _ (aX (aez (Z a) ([Z b]))) _ _ _ from aG ?_;refine aG ?_;dsimp only;refine ag<|CA f QB ?_;simp only[nZ,dK,da];refine ag<|show ax _ _ (aX a) _ _ _ from aG ?_;refine ag<|show ax _ _ (aX b) _ _ _ from aG ?_;refine ag<|i _ _ _ _ (by show A.units+1<=_;exact ð ü) ?_;refine aG (_,O,(λe=>nomatch e),?_);cases r<;>exact h
end
def FS(H:ab)(a b:W)(r:Bool):Prop:=∃(d c:List (List aK×af))(f e:Ξ)(g:List Int),cA H a (.a d)/\cA H b (.a c)/\d.map (·.1)=f.map (·.map aN)/\c.map (·.1)=e.map (·.map aN)/\d.map (·.2)=g.map af.int/\
 ((r=ae/\d.length=c.length/\∀h∈d,h∈c)\/(r=aB/\d.length≠c.length))
section
variable{X:a_}
def Xy{s:ak}{a b:W}(I:aA X d σ H s)(hu:X.A.units+64<dB)(h:FS H a b r):s.TypeIs 5#a "dict"/\s.TypeIs 5#b "dict"/\
  ∀(A:String)(R:Bool->ak->Prop)(C:Ω)(l:bO),l.units<=X.A.units+8->R r s->ax 3#0 l (zi A a b) R C s:=by
 obtain⟨a0,D,a1,E,ns,ha,hb,G,f,hv,hc⟩:=h;obtain⟨K,xs,o,al,a5⟩:=Np I.a ha G;obtain⟨L,c,q,bl,b5⟩:=Np I.a hb f;refine((o X.prog X.w).typeIs,(q X.prog X.w).typeIs,λA R C l hA M=>?_);rcases hc with ⟨rfl,hl,hm⟩|⟨rfl,hl⟩
 ·refine ad8 (knd:=kC<|qV X.prog X.w) (show l.units<dB from ω) K L (o _ _) (q _ _) (û (à (à (å al) (å hl)) (æ bl)) (à (à (å bl) (æ hl)) (æ al))) (λi k p v e=>?_) M
  obtain⟨g1,m,u,P⟩:=a5 i _ e;obtain⟨j,w⟩:=zA<|hm m<|dh u;have x:j<c.length:=by have:=(bY.mp w).1;exact à this (æ bl)
  have Q:c[j]?=V c[j]:=cB x;obtain⟨f1,a2,S,T⟩:=b5 j c[j] Q;rw[w] at S;obtain rfl:=bM S;have k1:m.1=k.map aN:=by
   have:=fj (·[i]?) G;simp only[bV,u,g1,nj,oZ] at this;exact this
  have k2:m.1=c[j].1.map aN:=by
   have:=fj (·[j]?) f;simp only[bV,w,f1,nj,oZ] at this;exact this
  have ek:c[j].1=k:=nA.mp<|k2.symm.trans k1;have g:=fj (·[i]?) hv;simp only[bV,u,nj] at g;cases U:ns[i]? with
  |none=>rw[U] at g;simp at g
  |some n=>
   rw[U] at g;have y:m.2=af.int n:=by simpa using g
   rw[y] at P T;obtain⟨t,et⟩:=(show ∃t,v=aQ n t from P);obtain⟨t',z⟩:=(show ∃t,c[j].2.2=aQ n t from T);refine(j,c[j].2.1,n,t,t',et,?_);rw[Q,<-ek,<-z]
 ·exact ad9 (knd:=kC<|qV X.prog X.w) K L (o _ _) (q _ _) ω M
def MA(d:X.A.units+64<dB):fZ X (iW .NotEq) (λx y H Q=>∃a b r,x=.ref a/\y=.ref b/\FS H a b r/\Q (.c<|!r) H):=by
 intro c s l H x y v u Q I e f h;obtain⟨a,b,r,rfl,rfl,g,q⟩:=h;cases e;cases f;obtain⟨i,j,k⟩:=Xy I d g;exact aea (ê d) i j k (.c<|!r,H,I,O,q)
end
noncomputable abbrev Bs:cJ:=dW 29
noncomputable abbrev He:cJ:=dW 30
noncomputable abbrev Hd:cJ:=dW 33
section
variable{P:bu}{w:bf}{K:aY}{mg:aq->Option aa}{base:aW}{f:W}{fd:cW}
def abk{f:ab}{l:List W}{Q:aU}(r:bI K f L (l.map af.ref))(n:bA f l h)(s:f d=V (.a<|kx a))(G:h.length<=1000)(q:f D=Y)(H:∀(c:ab),aL f c->c D=V (.lst<|(h.map λp=>aE<|p∈a).map af.c)->Q 5#D c):dU (gY K L) (dw 0) ie (EG (bw 0)<|bw 1) [Y,V<|.ref d] f D Q:=by
 have t:=n.B;refine jT (xs:=l.map af.ref) (λj m i c=>∃(v:Option af),m=[v,V<|.ref d]/\aL f c/\c D=V (.lst i)/\i=((h.map λp=>aE<|p∈a).take j).map af.c) ?_ ?_ ?_ ?_
 ·exact(Y,O,aL.B q,az,O)
 ·rintro j m i c ⟨v,rfl,g,b,rfl⟩
  exact g.A1 r
 ·rintro j m i c x u w y ⟨v,rfl,g,b,rfl⟩
  obtain⟨o,z,rfl⟩:=fG u;obtain⟨p,A,C⟩:=n.F z;have E:(l.map af.ref).length<=bD:=by rw[au];exact bR (â (à (å t) G))
  have e:(h.map λp=>aE<|p∈a)[j]?=V (aE<|p∈a):=by rw[bV,A];rfl
  refine jD (_,O,_,O,d,_,O,gN.t (k:=p.map aN) (g _ _ s) (by rw[bN];exact g.J C),?_);rw[Pz];exact fz E w y b (_,O,g.N q,az,by rw[cG e,bU];rfl)
 ·rintro m i c ⟨v,rfl,g,b,rfl⟩
  rw[eV (by rw[au,au];exact æ t)] at b;exact H c g b
inductive GM(K:aY)(vs:List af)(H:ab)(Q:aU)(E':db):Prop
 |a:∀l as pss,(vs=[.ref l])->(bI K H l<|as.map af.ref)->(bA H as pss)->(pss.length<=200)->(∀b H',(b=ae↔ky pss)->aL H H'->Q (.c b) H')->GM K vs H Q E'
def GY:dG ["order","seen","piece"] ["order"] (bX Bs):=(O,O,O,δ,O,δ,δ)
def ψ(F:b_ K "is_order" "is_order" Bs f fd)(a8:fN mg)(L:mg "MOST_PIECES"=V (.int 200 I))(Ci:eG P w K mg base bx "is_piece" ["numbers"] 1 AW)(Cr:eG P w K mg base bx "rims_of" ["piece"] 1 tT):ce P w K mg base bx 2 f fd ["order"] (GM K):=by
 refine F.B GY (λvs H Q E h=>?_) (λa7 A a0 s H vs Q E hr h=>?_)
 ·obtain⟨l,as,b,rfl,_⟩:=h;rfl
 ·obtain⟨l,as,b,rfl,hl,ht,a6,k⟩:=h
  have hu:=ko hr;refine(_,bj (fL (dD xB (dM fX O a8.a fq<|ao 7#0 aF) (vn O L (v:=.int 200) (_,O))<|dF _) (bF<|cX kn) fV)
   (bj (cq (i:=1) GY.a O (aw O) pH)
   (bj (gz ga O (eO<|ah 0) (cx (i:=2) GY.a O<|ai O)
    (bj (fL (tK.B<|ES (vm<|xr<|eE Ci hr O cF<|ao 7#2 aF)<|ER<|Mj (Fb hu 7#2<|ah 1) (by with_unfolding_all rfl)) (bF<|cX kn) fV)
    (bj (fL (vm (xr (dM (FG O) O a8.all HN (ao (fe ["order","seen","piece"] ["rim","seen"] [Y,V 1] (eO<|eE Cr hr O cF<|ao 7#2 aF) (λcl C q t ex=>cx (i:=0) (eF ["rim","seen"]) O<|ai O) (λcl C q t ex=>iu)
     (λcl C q t ex=>Wi (Fb hu 7#0<|ah 1) (by with_unfolding_all rfl)) (hfr:=ii (bX Bs) δ) (te:=EG (bw 0)<|bw 1)) aF)))) (bF<|cX kn) fV)
   <|bF<|lZ hu 7#1 7#2 kn O)))
  <|bF<|cX kn)),?_)
  have a1:=ht.B;refine(_,O,l,_,O,.inl hl,_,_,O,O,_,O,?_);rw[au,cw ω];refine dT λd hd=>?_;refine(_,O,l,O,(_,(aL.B hd).A1 hl),me (K:=K) (a:=l) (xs:=as.map af.ref) (λi S G=>∃(v:Option af),S=[V<|.ref l,V<|.ref d,v]/\aL H G/\G d=V (.a<|kx<|b.take i)/\ky (b.take i))
   (Y,O,aL.B hd,az,Qf) (λi S G _ (_,_,g,_)=>g.A1 hl) ?_ ?_)
  ·rintro i x S G hx ⟨v,rfl,g,j,m⟩
   obtain⟨a,ea,rfl⟩:=fG hx;obtain⟨p,T,U⟩:=ht.F ea;have hi:i<b.length:=(bY.mp T).1;have no:pT (b.take i) p=aB->∀X,aL H X->Q (.c aB) X:=λe X s'=>k aB X (λz=>(by cases z),λz=>by rw[z i p T] at e;cases e) s';refine(_,O,a,p,O,g.J U,λH3 u=>(_,O,?_));cases n:iB p with
   |false=>exact eS<|no (by unfold pT;rw[n];rfl) H3<|g.F u
   |true=>
   have h5:p.length<=5:=(kP.mp (by rw[<-BV];exact n)).2.1;refine dT (_,O,_,O,d,_,O,gN.t (k:=p.map aN) (u _ _ j) (by rw[bN];exact(g.F u).J U),_,O,?_);rw[Pz]
   by_cases o:p∈b.take i
   ·rw[bT o]
    exact eS<|no (by unfold pT;rw[n,bT o];rfl) H3<|g.F u
   rw[cw o];have M:=g.F u;refine dT (_,O,a,p,O,M.J U,h5,λRL H4 rs s4 _ R a2=>(RL,O,(_,bI.B R),λD hD=>eP<|abk (bI.B R) a2 (s4 _ _<|u _ _ j) (dq (sd p) (â h5)) hD λH5 s5 a3=>(D,_,O,bI.B a3,_,O,?_)));have y:=M.F<|s4.F s5;have a4:=s5 _ _<|s4 _ _<|u _ _ j;cases c:(((dP p).map λr=>aE<|r∈b.take i).all id) with
   |false=>exact eS<|no (by unfold pT;rw[SZ] at c;rw[show((dP p).all λr=>aE<|r∈b.take i)=aB from c,wV]) H5 y
   |true=>
   have a5:pT (b.take i) p=ae:=by unfold pT;rw[SZ] at c;rw[n,cw o,show((dP p).all λr=>aE<|r∈b.take i)=ae from c];rfl
   refine dT (_,O,_,O,d,_,O,AF.t (k:=p.map aN) a4 (by rw[bN];exact y.J U)<|jm<|dq (Hz _) (by rw[dR];omega),(_,O,y.N hd,?_,?_))
   ·rw[az,Hk,<-cG T]
   ·rw[cG T];exact Qe m a5
  ·rintro S G ⟨v,rfl,g,j,m⟩
   rw[au,a1,gE] at m;exact k ae G (λ_=>m,λ_=>O) g
inductive GF(K:aY)(vs:List af)(H:ab)(Q:aU)(E':db):Prop
 |a:∀l as pss,(vs=[.ref l])->(bI K H l<|as.map af.ref)->(bA H as pss)->(pss.length<=200)->(ky pss)->(∀H',aL H H'->Q .non H')->GF K vs H Q E'
def YR:dG ["order"] ["order"] (bX He):=(O,O,O,δ,O,δ,δ)
def γ(F:b_ K "must_be_order" "must_be_order" He f fd)(g:eG P w K mg base bx "is_order" ["order"] 2 (GM K)):ce P w K mg base bx 3 f fd ["order"] (GF K):=by
 refine F.B YR (λi H Q E h=>?_) (λj A d s H i Q E m h=>?_)
 ·obtain⟨l,e,a,rfl,_⟩:=h;rfl
 ·obtain⟨l,e,a,rfl,n,o,c,p,k⟩:=h
  refine(_,bF<|fL (vm<|xr<|eE g m O cF<|ao 7#0 aF) ET fV,?_);refine(_,O,l,e,a,O,n,o,c,λb q r t=>(_,O,?_));obtain rfl:b=ae:=r.mpr p;exact dT<|k q t
inductive GD(vs:List af)(H:ab)(Q:aU)(E':db):Prop
 |a:∀p:Int,(vs=[.int p])->((p=2\/p=3\/p=5\/p=7))->(Q .non H)->GD vs H Q E'
def YQ:dG ["prime"] ["prime"] (bX Hd):=(O,O,O,δ,O,δ,δ)
def Z'{t:W}(F:b_ K "must_be_prime" "must_be_prime" Hd f fd)(b:mg "PRIMES"=V 5#t)(c:∀H,fg K H t [.int 2,.int 3,.int 5,.int 7]):ce P w K mg base bx 1 f fd ["prime"] GD:=by
 refine F.B YQ (λd H Q E h=>?_) (λe A a s H d Q E i h=>?_)
 ·obtain⟨p,rfl,_⟩:=h;rfl
 ·obtain⟨p,rfl,g,k⟩:=h
  refine(_,bF<|fL (dD Wm 7#0 (vn (v:=.ref t) O b O) (by with_unfolding_all rfl)) ET fV,?_);refine(_,O,t,_,O,.inr<|c _,O,O,_,O,?_);rcases g with rfl|rfl|rfl|rfl<;>exact dT k
end
structure AA(o:df):Prop where
 t:∀ps,o≠.tbl ps
 d:∀k,o≠.a k
 z:∀ob k,o≠.frz ob (.a k)
structure iH(P:W)(pos:ci)(q:aq)(H H':ab):Prop where
 d:∀b o,AA o->H b=V o->H' b=V o
 a:∀{b kvs},cA H b (.a kvs)->cA H' b (.a kvs)
 c:∀{b},H' b=Y->H b=Y
 e:kI H P pos q->kI H' P pos q
section
variable{P:W}{pos:ci}{q:aq}{H H' H1 H2:ab}{a b d l:W}
def iH.refl(H:ab):iH P pos q H H:=(λ_ _ _ h=>h,λh=>h,λh=>h,λh=>h)
noncomputable def iH.B(x:iH P pos q H H1)(y:iH P pos q H1 H2):iH P pos q H H2:=(λb o n h=>y.d b o n<|x.d b o n h,λh=>y.a<|x.a h,λh=>x.c<|y.c h,λh=>y.e<|x.e h)
def aL.sf(s:aL H H'):iH P pos q H H':=(λb o _ h=>s b o h,λh=>h.B s,λh=>s.A0 h,λt=>t.B s)
def VX{a:List af}:AA (.lst a):=((λ_ z=>nomatch z),(λ_ z=>nomatch z),(λ_ _ z=>nomatch z))
def VW{a:List af}:AA (.tup a):=((λ_ z=>nomatch z),(λ_ z=>nomatch z),(λ_ _ z=>nomatch z))
def VY{a:List (aK×af)}:AA (.b a):=((λ_ z=>nomatch z),(λ_ z=>nomatch z),(λ_ _ z=>nomatch z))
def iH.lst(x:iH P pos q H H'){b:List af}(h:H a=V (.lst b)):H' a=V (.lst b):=x.d _ _ VX h
def iH.tup(x:iH P pos q H H'){b:List af}(h:H a=V (.tup b)):H' a=V (.tup b):=x.d _ _ VW h
def iH.dK(x:iH P pos q H H'){b:List (aK×af)}(h:H a=V (.b b)):H' a=V (.b b):=x.d _ _ VY h
def iH.F(x:iH P pos q H H'){b:List Int}(h:de H a b):de H' a b:=x.tup h
noncomputable def iH.J(x:iH P pos q H H'){b:List W}{a:Ξ}(h:bA H b a):bA H' b a:=jF h λ_ _ q=>x.F q
def iH.A3{K:aY}(x:iH P pos q H H'){a:List af}(h:bI K H l a):bI K H' l a:=by
 rcases h with (z|⟨o,z⟩)|z
 ·exact .inl<|.inl<|x.lst z
 ·exact .inl<|.inr (o,x.d _ _ ((λ_ z=>nomatch z),(λ_ z=>nomatch z),(λ_ _ z=>nomatch z)) z)
 ·exact .inr z
def kI.F{o b:df}(t:kI H P pos q)(h:H a=V b)(g:∀i,b≠.tbl i)(j:∀k u,b≠.frz k u):kI (aD H a o) P pos q:=by
 have d:P≠a:=λz=>by subst z;rcases t with e|⟨_,e,_⟩<;>exact g _<|bM<|h.symm.trans e
 rcases t with e|⟨c,e,l,m,n,f,r⟩
 ·exact .inl (by rw[aZ d];exact e)
 ·exact .inr (c,by rw[aZ d];exact e,l,m,n,by rw[aZ (λz=>by subst z;exact j _ _<|bM<|h.symm.trans f)];exact f,r)
def vk{a:List (List aK×af)}(h:cA H d (.a a)):∃o,H d=V o:=by
 rcases h with e|⟨o,e⟩
 ·exact(_,e)
 ·exact(_,e)
noncomputable def iH.M{o c:df}(x:iH P pos q H H1)(i:H a=Y)(h:H1 a=V c)(j:∀d,c≠.tbl d:=by intro d r;cases r)(l:∀f p,c≠.frz f p:=by intro f p r;cases r):iH P pos q H (aD H1 a o):=by
 have g:∀{b:W}{p:df},H b=V p->b≠a:=λe=>cN e i;refine(λb p n e=>by rw[aZ<|g e];exact x.d b p n e,λ{b k} e=>?_,λ{b} e=>?_,λt=>(x.e t).F h j l)
 ·obtain⟨p,m⟩:=vk e
  unfold cA;rw[aZ<|g m];exact x.a e
 ·by_cases r:b=a
  ·subst r;rw[az] at e;cases e
  ·rw[aZ r] at e;exact x.c e
def iH.N{a:List (List aK×af)}(i:cA H d (.a a))(h:cA H1 d (.a a))(f:∀b,b≠d->H1 b=H b):iH P pos q H H1:=by
 have g:∀{b:W}{u:df},H b=V u->(∀k,u≠.a k)->(∀j k,u≠.frz j (.a k))->b≠d:=λ{b u} e o p z=>by
  subst z;rcases i with r|⟨j,r⟩
  ·exact o _<|bM<|e.symm.trans r
  ·exact p _ _<|bM<|e.symm.trans r
 refine(λb u n e=>by rw[f b<|g e n.d n.z];exact e,λ{b k} e=>?_,λ{b} e=>?_,λt=>?_)
 ·by_cases z:b=d
  ·subst z
   have:df.a k=df.a a:=by
    rcases e with e|⟨x,e⟩<;>rcases i with r|⟨y,r⟩<;>rw[e] at r<;>cases r<;>rfl
   rw[this];exact h
  ·unfold cA;rw[f b z];exact e
 ·by_cases z:b=d
  ·subst z
   obtain⟨u,l⟩:=vk h;rw[e] at l;cases l
  ·rw[f b z] at e;exact e
 ·rcases t with e|⟨c,e,s,v,w,m,r⟩
  ·exact .inl (by rw[f _<|g e (λ_ z=>nomatch z) (λ_ _ z=>nomatch z)];exact e)
  ·exact .inr (c,by rw[f _<|g e (λ_ z=>nomatch z) (λ_ _ z=>nomatch z)];exact e,s,v,w,by rw[f _<|g m (λ_ z=>nomatch z) (λ_ _ z=>nomatch z)];exact m,r)
def iH.A0(s:kt H H1)(a:∀b c,b≠P->H b=V (.tbl c)->H1 b=V (.tbl c))(d:kI H1 P pos q):iH P pos q H H1:=
 (λb o n e=>s b o n.t e,λ{b k} e=>by
  rcases e with e|⟨o,e⟩
  ·exact .inl<|s _ _ (λ_ z=>nomatch z) e
  ·exact .inr (o,s _ _ (λ_ z=>nomatch z) e),λh=>s.F a d h,λ_=>d)
end
section
variable{X:a_}{scope:fw}{N':List aq}{caps:List (Option Nat)}{tg iter elt:bz}{ifs:List bz}{wi:jE}{g:gD}{tc:dO}{te:bd}{pos:ci}
def Mm{i:Nat}{x:aq}{d w:ci}(P:X.b=ae)(hk:scope.kind=.function)(l:∀y∈scope.names,y.2=.cell->scope.names.lookup y.1=V .cell)(p:∀y∈scope.names,y.2=.free->scope.names.lookup y.1=V .free)(r:∀y∈scope.names,y.2=.local->scope.names.lookup y.1=V .local)(Q:∀y∈scope.names,y.2=.free->X.env.kindOf y.1=V .cell\/X.env.kindOf y.1=V .free)(E:vG X.N N' caps scope)(hi:jU X tg iter wi)(hg:∀G C j k K,lH (jf X scope N' G C j k K) tg g)(ht:∀G C j k K,oD (jf X scope N' G C j k K) ifs tc)(he:∀G C j k K,bG (jf X scope N' G C j k K) elt te)(hs:∀x,sB iter X.env x=aX x)(hN:X.N.Nodup)(S:X.N[i]?=V x)(A:rM X.env.scope x)(hf:X.f x=ae\/X.env.scope.names.lookup x=V .local)(T:wq (.ListComp elt [(tg,iter,ifs,0)] scope pos) (V<|.Name x d) w.line X.env=aX ae):lG X (.Assign [.Name x d] (.ListComp elt [(tg,iter,ifs,0)] scope pos) w) (vg (on wi caps g tc te)<|dw i):=by
 intro M s σ H D I h;rw[exec_Assign_Name_used _ _ _ _ T];refine ag<|QU<|ag ?_;show ax _ X.A (do let _ <-Rx (.ListComp elt [(tg,iter,ifs,0)] scope pos) scope X.env _ (IR []) (Ru [(tg,iter,ifs,0)]) (Rt [(tg,iter,ifs,0)] X.env) (V<|wv (.Name x d) X.env)) _ _ s;refine ag<|kB (Ns (use:=V<|wv (.Name x d) X.env) (R:=λ_ s'=>xM X M D .next s') P hk l p r Q E hi hg ht he hs I h λDl C H' s4 f L q=>?_) (λ_ s' hq=>aG<|aG hq) λ_ _ e=>e;show ax _ X.A (wv (.Name x d) X.env<|.ref Dl) _ _ s4;refine ae9<|LG (v:=.ref Dl) (L.e s4.heap<|Jm _ _) hN S A O (λs5 U (a,a0,ha)=>?_) hf;have a1:C≠a:=by
  rcases ha with e|e
  ·rw[e];exact L.d
  ·exact λz=>L.b x a e z.symm
 obtain⟨m,hn⟩:=L.ns;refine(m,hn.sameBut a0 a1,λh' t=>(_,H',?_,q));refine U.A8 (s':={s5 with heap:=h'}) (ch:=[C]) O (λb o q n hb A=>?_,λb o q n hb A=>?_,λb o q n A=>n,λb o q A=>?_,λb xs q=>q,λb o u q=>q,λb ps q=>(#[],by simpa using q)) ?_ U.d λb hb=>?_
 ·exact(t.2 b 6#A).trans q
 ·exact(o.slots,(t.2 b 6#A).trans q)
 ·exact(o,(t.2 b 6#A).trans q)
 ·intro b u e
  refine(U.a b u e).B (λc v P q=>(t.2 c ?_).trans q) (λ_ q=>q) λ_ _ q=>q;rintro rfl;rcases P with z|z
  ·rw[<-z,L.a] at e;cases e
  ·rw[L.a] at z;cases z
 ·have e:b=C:=by simpa using hb
  subst e;exact(.inr L.g,L.d,L.b,L.f)
def VR{i:Nat}{x:aq}{k l:ci}(q:X.b=ae)(r:scope.kind=.function)(c:∀y∈scope.names,y.2≠.cell)(h:∀y∈scope.names,y.2=.free->scope.names.lookup y.1=V .free)(j:∀y∈scope.names,y.2=.local->scope.names.lookup y.1=V .local)(n:∀y∈scope.names,y.2=.free->X.env.kindOf y.1=V .cell\/X.env.kindOf y.1=V .free)(m:vG X.N N' caps scope)(s:jU X tg iter wi)(t:∀d C a b f,lH (kq X scope N' d C a b f) tg g)(u:∀d C a b f,oD (kq X scope N' d C a b f) ifs tc)(v:∀d C a b f,bG (kq X scope N' d C a b f) elt te)(w:∀x,sB iter X.env x=aX x)(z:X.N.Nodup)(o:X.N[i]?=V x)(A:rM X.env.scope x)(D:X.f x=ae\/X.env.scope.names.lookup x=V .local)(p:wq (.ListComp elt [(tg,iter,ifs,0)] scope pos) (V<|.Name x k) l.line X.env=aX ae):lG X (.Assign [.Name x k] (.ListComp elt [(tg,iter,ifs,0)] scope pos) l) (vg (on wi caps g tc te)<|dw i):=
 Mm q r (λy E e=>bh e<|c y E) h j n m s (λd C a b f=>vB (X:=X) (N':=N') c d C a b f▸t d C a b f) (λd C a b f=>vB (X:=X) (N':=N') c d C a b f▸u d C a b f) (λd C a b f=>vB (X:=X) (N':=N') c d C a b f▸v d C a b f) w z o A D p
end
section
variable{X:a_}{scope:fw}{caps:List (Option Nat)}{tg iter elt:bz}{ifs:List bz}{wi:jE}{g:gD}{tc:dO}{te:bd}{pos:ci}
def Ml{i:Nat}{e f:ci}(n:X.N.Nodup)(o:X.N[i]?=V x)(q:rM X.env.scope x)(E m:List aq)(caps:List (Option Nat))(r:jU X tg iter wi)(s:∀j C a b k,lH (kq X scope m j C a b k) tg g)(t:∀j C a b k,oD (kq X scope m j C a b k) ifs tc)(u:∀j C a b k,bG (kq X scope m j C a b k) elt te)(v:X.b=ae:=by rfl)(w:scope.kind=.function:=by rfl)(h:∀y∈scope.names,y.2≠.cell:=by decide +kernel)(c:∀y∈scope.names,y.2=.free->scope.names.lookup y.1=V .free:=by decide +kernel)(d:∀y∈scope.names,y.2=.local->scope.names.lookup y.1=V .local:=by decide +kernel)(hfr:∀y∈scope.names,y.2=.free->X.env.kindOf y.1=V .cell\/X.env.kindOf y.1=V .free)(z:X.N=E:=by rfl)(l:xJ E m caps scope=ae:=by decide +kernel)(A:∀x,sB iter X.env x=aX x:=by intro _;rfl)(D:X.f x=ae\/X.env.scope.names.lookup x=V .local:=by first|exact .inl rfl|exact .inr rfl|assumption)(p:wq (.ListComp elt [(tg,iter,ifs,0)] scope pos) (V<|.Name x e) f.line X.env=aX ae:=by rfl):lG X (.Assign [.Name x e] (.ListComp elt [(tg,iter,ifs,0)] scope pos) f) (vg (on wi caps g tc te)<|dw i):=
 VR v w h c d hfr (FB (by rw[z];exact l)) r s t u A n o q D p
end
noncomputable def b_.J{P:bu}{w:bf}{K:aY}{v:aq->Option aa}{d:aW}{x b:aq}{j:cJ}{a0 m:List aq}{k:Nat}{n:lD}(F:b_ K x b j f l)(y:l.code=.ref c)(S:dG a0 m (bX j))(o:∀g H Q E,n g H Q E->g.length=m.length)(i:∀(A:bO)(a:List gm)(s:ak)(H:ab)(g:List af)(Q:aU)(E:db),fM k (A.deeper<|qd b (bX j) s⁻¹ f<|.ref c)->n g H Q E->
   ∃t,kJ (qv bx P w K v d a0 b (bX j) f 5#c A a s H E).M (pK j) t/\t {a:=λ_ z=>Q .non z,d:=Q} (qo a0 g) H):ce P w K v d bx (k+1) f l m n:=by
 obtain⟨L,M,R,C,T,U,p,X,D,rfl,G,r⟩:=F.b;have e:p=.ref c:=y;subst e;refine Na G r S o λA a s H g Q E I u=>?_;obtain⟨t,h,q⟩:=i A a s H g Q E I u;exact(t,h.B,q)
noncomputable abbrev Hb:cJ:=dW 36
noncomputable abbrev G_:cJ:=dW 38
noncomputable abbrev Bf:cJ:=dW 39
noncomputable abbrev Bt:cJ:=dW 40
noncomputable abbrev Bm:cJ:=dW 41
def vZ:iY "max"=V (.builtin "max"):=δ
noncomputable abbrev vT:ci:=(149,32,149,58)
noncomputable abbrev vP:aq:=(("youngest_of":aq)++".<locals>.")++"<lambda>"
abbrev iT(a:W)(H b:ab):Prop:=iH a vT vP H b
abbrev rY(a:W)(H:ab):Prop:=kI H a vT vP
noncomputable def jY(a:Ξ):aM:=a.zipIdx.map λq=>(aez q.1 ((q.2:Int)))
def Ob(a:Ξ):aI (jY a)=a:=by
 unfold aI jY;rw[bN];exact JP 0 a
def F_{a:Ξ}(b:a.Nodup){t:Nat}(h:a[t]?=V y):fm (bB<|jY a) (y.map aN)=V (.int t):=by
 have c:(aez y ((t:Int)))∈jY a:=aO.mpr ((aez y t),by rw[aii];exact h,O);exact mh (by rw[Ob];exact b) _ c
section
variable{P:bu}{w:bf}{K:aY}{mg:aq->Option aa}{base:aW}{f:W}{fd:cW}{Pt:W}
def YG{H i:ab}(s:eT d H i)(j:cA H d (.a a))(h:cA i d (.a a)):iH Pt g q H i:=by
 have f:∀{b:W}{u:df},H b=V u->(∀k,u≠.a k)->(∀l k,u≠.frz l (.a k))->b≠d:=λ{b u} e v w z=>by
  subst z;rcases j with r|⟨l,r⟩
  ·exact v _<|bM<|e.symm.trans r
  ·exact w _ _<|bM<|e.symm.trans r
 refine(λb u n e=>s _ _ (f e n.d n.z) e,λ{b k} e=>?_,λ{b} e=>?_,λt=>?_)
 ·by_cases z:b=d
  ·subst z
   have:df.a k=df.a a:=by
    rcases e with e|⟨C,e⟩<;>rcases j with r|⟨D,r⟩<;>rw[e] at r<;>cases r<;>rfl
   rw[this];exact h
  ·rcases e with e|⟨o,e⟩
   ·exact .inl<|s _ _ z e
   ·exact .inr (o,s _ _ z e)
 ·by_cases z:b=d
  ·subst z
   obtain⟨u,m⟩:=vk h;rw[e] at m;cases m
  ·cases q:H b with
   |none=>rfl
   |some o=>rw[s _ _ z q] at e;cases e
 ·rcases t with e|⟨c,e,x,y,A,p,r⟩
  ·exact .inl<|s _ _ (f e (λ_ z=>nomatch z) (λ_ _ z=>nomatch z)) e
  ·exact .inr (c,s _ _ (f e (λ_ z=>nomatch z) (λ_ _ z=>nomatch z)) e,x,y,A,s _ _ (f p (λ_ z=>nomatch z) (λ_ _ z=>nomatch z)) p,r)
def Ps{p:ab}{m:aM}{h:List (Option af)}{G:bd}{g:List Int×Int->Int}{Q:aU}(H:p d=V (.frz U<|.a<|bB m))(M:m.length<=1000)(step:∀(c:List Int×Int)(b:W)(a:ab)(R:aU),c∈m->aL p a->de a b c.1->(∀t,a t=Y->R 5#t (aD a t<|.tup [.ref b,.int<|g c]))->G (V 5#b::h) a R)(I:p D=Y)(k:∀(a:ab)(l:List W),aL p a->a D=V (.lst<|l.map af.ref)->gQ a l (m.map λc=>(aez c.1 (g c)))->Q 5#D a):dU (vD d U<|bB m) (dw 0) ie G (Y::h) p D Q:=by
 refine tH m.length (λj s q a=>∃(v:Option af)(l:List W),s=v::h/\aL p a/\a D=V (.lst q)/\q=l.map af.ref/\gQ a l ((m.map λc=>(aez c.1 (g c))).take j)) ?_ ?_ ?_ ?_ ?_
 ·exact(Y,[],O,aL.B I,az,O,.nil)
 ·rintro s q a ⟨v,l,rfl,n,f,rfl,r⟩
  exact((nD m).symm,n _ _ H)
 ·rintro i s q a A ⟨v,l,rfl,n,f,rfl,r⟩
  exact(by rw[nD];exact A,n _ _ H)
 ·rintro i s q a x P A L ⟨v,l,rfl,n,f,rfl,r⟩ ⟨rfl,S,b,C,rfl,u⟩
  obtain⟨c,K,rfl⟩:=PU C;have w:=dh K;have e:(m.map λc=>(aez c.1 (g c)))[i]?=V (aez c.1 (g c)):=by rw[bV,K];rfl
  refine jD<|step c b _ _ w n (AH u) λt E=>?_;have y:=aL.B (o:=.tup [.ref b,.int<|g c]) E;refine fz (bR (â M)) A L (y _ _ f) (_,l++[t],O,(n.F y).N I,az,by rw[bU];rfl,?_);rw[cG e];exact gQ.J (gQ.M (r.B y) (b,az,y.J<|AH u)) (y _ _ f) (by intro T z;cases z)
 ·rintro s q a ⟨v,l,rfl,n,f,rfl,r⟩
  rw[eV (by rw[au];exact aV _)] at r;exact k a l n f r
inductive Gv(K:aY)(vs:List af)(H:ab)(Q:aU)(E':db):Prop
 |a:∀l as oo,(vs=[.ref l])->(bI K H l<|as.map af.ref)->(bA H as oo)->(oo.Nodup)->(oo.length<=200)->(∀D H',aL H H'->H D=Y->H' D=V (.a<|bB<|jY oo)->Q 5#D H')->Gv K vs H Q E'
def Ba:dG ["order","times","time","piece"] ["order"] (bX Hb):=(O,O,O,δ,O,δ,δ)
def ZP(F:b_ K "times_of" "times_of" Hb f fd)(a0:fN mg):ce P w K mg base bx 1 f fd ["order"] (Gv K):=by
 refine F.B Ba (λT H Q E h=>?_) (λU A t s H T Q E X h=>?_)
 ·obtain⟨l,u,c,rfl,_⟩:=h;rfl
 ·obtain⟨l,u,c,rfl,M,R,nd,S,k⟩:=h
  have hu:=ko X;have v:=R.B;refine(_,bj (cq (i:=1) Ba.a O (ai O) pH)
   (bj (gz ga O (EY O a0.e HL<|ao 7#0 aF) (xx O<|pG (cx (i:=2) Ba.a O<|ai O)<|pG (cx (i:=3) Ba.a O<|ai O) xu)
   <|bF<|lZ hu 7#1 7#3 7#2 O)
  <|bF<|cX<|ah 1),?_)
  intro d q;refine(_,O,l,O,(_,(aL.B q).A1 M),MZ (K:=K) (a:=l) (xs:=u.map af.ref) (λi r g=>∃(C D:Option af),r=[V<|.ref l,V<|.ref d,C,D]/\aL H g/\g d=V (.a<|bB<|(jY c).take i))
   (Y,Y,O,aL.B q,az) (λi r g _ (_,_,_,m,_)=>m.A1 M) ?_ ?_)
  ·rintro i x p r g hx ⟨C,D,rfl,m,b⟩ hp
   obtain⟨a,ea,rfl⟩:=fG hx;obtain⟨y,G,hy⟩:=R.F ea;have I:=aL.B (o:=.tup [.int i,.ref a]) hp;have e:(jY c)[i]?=V (aez y ((i:Int))):=by unfold jY;rw[bV,SO,G];simp
   have hi:i<c.length:=(bY.mp G).1;have n:y∉aI ((jY c).take i):=λz=>by
    unfold aI at z;rw[Dy] at z;have z:y∈(aI<|jY c).take i:=z;rw[Ob] at z;obtain⟨j,L⟩:=gW.mp z;have hj:j<i:=by
     have:=(bY.mp L).1;rw[dR] at this;omega
    rw[uL hj] at L;have:=(sX (à hj (ì hi)) nd).mp<|L.trans G.symm;exact ø hj (æ this)
   refine(p,_,O,fg.B az,O,_,_,O,_,_,O,O,?_);refine(_,O,_,O,_,O,d,_,O,AF.t (k:=y.map aN) (I _ _ b) (by rw[bN];exact I.J<|m.J hy)<|jm (by rw[nD,dR];omega),(_,_,O,(m.F I).N q,?_));rw[az,vQ,Hm _ n,cG e]
  ·rintro r g ⟨C,D,rfl,m,b⟩
   have:(u.map af.ref).length=(jY c).length:=by unfold jY;rw[au,au,SM];exact v
   rw[this,gE] at b;exact(_,O,k d g m q b)
def BN(a:Ξ)(b:aM)(y:List Int)(t:Nat):Prop:=y∈aI b/\a[t]?=V y/\∀x∈aI b,∀u,a[u]?=V x->u<=t
inductive AR(Pt:W)(vs:List af)(H:ab)(Q:aU)(E':db):Prop
 |a:∀d T cs oo,(vs=[.ref d,.ref T])->(cA H d<|.a<|bB cs)->(cA H T<|.a<|bB<|jY oo)->(oo.Nodup)->(cs≠[])->((∀q∈aI cs,q∈oo))->(rY Pt H)->(∀b y t H',iT Pt H H'->de H' b y->BN oo cs y t->Q 5#b H')->AR Pt vs H Q E'
def YJ:dG ["chain","times"] ["chain","times"] (bX G_):=(O,O,O,δ,O,δ,δ)
def ZL(F:b_ K "youngest_of" "youngest_of" G_ f fd)(a5:fN mg)(D:mg "max"=Y)(G:fd.code=.ref c)(hC:RN base c Pt)(I:rP mg base):ce P w K mg base bx 4 f fd ["chain","times"] (AR Pt):=by
 refine F.J G YJ (λvs H Q E h=>?_) (λA M s H vs Q E hr h=>?_)
 ·obtain⟨d,T,l,b,rfl,_⟩:=h;rfl
 ·obtain⟨d,T,l,b,rfl,hd,hT,nd,R,p,tb,k⟩:=h
  refine(_,bF (cX (Wd (k:=1) (iy:=1) (x:="piece") (y:="times") (te:=nx (bw 1)<|bw 0) hr O D vZ hC O I O O O O (O,O,O,O,O,δ,WI) (λ_ _ _ _ _ _=>O)
    (λs H f a3 c'=>gi (ko<|(fM.F hr).M _) 7#1 7#0 (λ_ _=>O)) (ao (gA (qx O) O a5.list j_<|ao 7#0 aF) aF) O)),?_)
  refine(_,O,d,bB l,O,hd,λbs S L hL=>?_);have U:=pQ S;have kl:=U.B;rw[oJ] at kl;have q:=aL.B (o:=.lst<|bs.map af.ref) hL;have a4:∀y∈aI l,∃t:Nat,b[t]?=V y:=λy i=>gW.mp<|p y i;have X:∀y∈aI l,b[b.idxOf y]?=V y:=λy i=>by
   have h:=ain<|p y i;rw[cB h,aip h]
  refine(L,bs,(aI l).map λy=>(b.idxOf y:Int),.ref T,O,bI.B az,by rw[au,oJ];exact û (æ kl) (å kl),?_,O,tb.B q,λH2 m j a n ea v=>?_,λH2 j a n m a0 a1 ea v a2=>?_)
  ·cases l with
   |nil=>exact bh O R
   |cons c r=>simp at kl;omega
  ·obtain⟨y,C,i⟩:=(q.M U).F ea
   rw[bV,C] at v;obtain rfl:=bM v;have g:=dh C;have rT:cA H2 T (.a<|bB<|jY b):=by
    rcases hT.B q with e|⟨o,e⟩
    ·exact .inl<|m _ _ (λ_ z=>nomatch z) e
    ·exact .inr (o,m _ _ (λ_ z=>nomatch z) e)
   refine(_,O,_,O,T,.int<|b.idxOf y,O,.inr (bB<|jY b,y.map aN,a,rT,O,by rw[bN];exact m.B i,(F_ nd<|X y g).symm),O,O)
  ·obtain⟨y,C,i⟩:=(q.M U).F ea
   rw[bV,C] at v;obtain rfl:=bM v;have g:=dh C;refine k a y (b.idxOf y) H2 ((aL.sf q).B<|iH.A0 m a0 a1) (m.B i) (g,X y g,λx hx u eu=>?_);have h1:=a2 (b.idxOf x:Int)<|aO.mpr (x,hx,O);have h2:=(sX (bY.mp eu).1 nd).mp<|eu.trans (X x hx).symm;have h1:((b.idxOf x:Nat):Int)<=((b.idxOf y:Nat):Int):=h1;omega
inductive AS(Pt:W)(vs:List af)(H:ab)(Q:aU)(E':db):Prop
 |a:∀d cs p,(vs=[.ref d,.int p])->(cA H d<|.a<|bB cs)->((aI cs).Nodup)->(cs.length<=1000)->(0<p)->(∀D H',iT Pt H H'->H D=Y->H' D=V (.a<|bB<|tX p cs)->Q 5#D H')->AS Pt vs H Q E'
def YK:dG ["chain","prime"] ["chain","prime"] (bX Bf):=(O,O,O,δ,O,δ,δ)
abbrev Yn:bd:=mQ<|eR (bw 0)<|eR (dk (lp (λ_ j=>0<j) λi j=>.int<|i%j) (nx (bw 1)<|bw 0)<|bw 2) gg
def ZO(F:b_ K "taken_by" "taken_by" Bf f fd)(T:eG P w K mg base bx "sum_of" ["terms"] 1 (xW K)):ce P w K mg base bx 2 f fd ["chain","prime"] (AS Pt):=by
 refine F.B YK (λU H Q E h=>?_) (λX A m s H U Q E x h=>?_)
 ·obtain⟨d,n,p,rfl,_⟩:=h;rfl
 ·obtain⟨d,n,p,rfl,y,nd,z,hp,k⟩:=h
  have hu:=ko x;refine(_,bF (cX (eE T x O cF (ao (fe ["chain","prime"] ["piece","chain","prime"] [Y,V 0,V 1] (Ai<|ah 0) (λG C a e I=>cx (i:=0) (eF ["piece","chain","prime"]) O<|ai O) (λG C a e I=>iu)
   (λG C a e I=>jC<|ao 7#0<|ao (bW kH (gi hu 7#1 7#0 (λ_ _=>O))<|ah 2) aF) (hfr:=ii (bX Bf) δ) (te:=Yn)) aF))),?_)
  refine(_,O,d,bB n,O,y,λo H1 j l=>λD hD=>eP<|Ps (g:=λc=>c.2%p) j z (λc b L R hc sm hb kk=>?_) hD λH2 ts M q r=>?_)
  ·refine(_,O,_,O,_,O,d,_,O,.inr (bB n,c.1.map aN,b,.inr (o,sm _ _ j),O,by rw[bN];exact hb,(mh nd c hc).symm),_,O,_,_,O,O,hp,bR 0#0,λt ht=>kk t ht)
  ·have S:iT Pt H H1:=iH.N y (.inr (o,j)) l
   refine(D,ts,_,O,bI.B q,r,by rw[au];exact z,λR L s3 u v=>?_);exact k R L (S.B<|aL.sf<|M.F s3) (S.c<|M.A0 u) v
inductive GN(vs:List af)(H:ab)(Q:aU)(E':db):Prop
 |a:∀wt g p,(vs=[.int wt,.int g,.int p])->((-(2 ^ 64)<wt/\wt<2 ^ 64))->(2<=p)->(p<=100)->((∃k:Nat,(k:Int)<p/\p ∣ (k:Int)*wt-g))->(∀(k:Int) H',0<=k->k<p->p ∣ k*wt-g->aL H H'->Q (.int k) H')->GN vs H Q E'
def YW:dG ["weight","goal","prime"] ["weight","goal","prime"] (bX Bt):=(O,O,O,δ,O,δ,δ)
abbrev Oh:dO:=jd<|dk qp (dk (lp (λ_ j=>0<j) λi j=>.int<|i%j) (dk (jB λi j=>.int<|i-j) (dk (lp rO λi j=>.int<|i*j) (bw 0)<|bw 1)<|bw 2)<|bw 3)<|gh<|.int 0
def abi{d:ab}{c g p:Int}{n:Nat}{Q:aU}(t:n<=100)(hw:-(2 ^ 64)<c/\c<2 ^ 64)(s:0<p)(q:d D=Y)(k:∀b,aL d b->b D=V (.lst<|((cr n).filter λj:Nat=>aE<|((j:Int)*c-g)%p=0).map λj:Nat=>af.int j)->Q 5#D b):dU (jX 0 n) (dw 0) Oh (bw 0) [Y,V<|.int c,V<|.int g,V<|.int p] d D Q:=by
 refine qw (λj m f b=>∃(v:Option af),m=[v,V<|.int c,V<|.int g,V<|.int p]/\aL d b/\b D=V (.lst f)/\f=(((cr n).take j).filter λj:Nat=>aE<|((j:Int)*c-g)%p=0).map λj:Nat=>af.int j) ?_ ?_ ?_
 ·exact(Y,O,aL.B q,az,O)
 ·rintro i m f b o r ⟨v,rfl,l,a,rfl⟩
  have e:(cr n)[i]?=V i:=by rw[pf o]
  refine(_,O,_,O,_,_,O,O,.inr hw,_,O,_,_,O,O,_,O,_,_,O,O,s,O,_,O,?_);rw[show(0:Int)+(i:Int)=i from ω]
  by_cases h:((i:Int)*c-g)%p=0
  ·rw[bT<|fj af.int h]
   refine eS (_,O,fz (bR (â t)) o r a (_,O,l.N q,az,?_));rw[cG e,jb,mL (by exact bT h),qg,bU]
   rfl
  ·rw[cw (λz=>h (by injection z))]
   refine dT<|oB o r (_,O,l,a,?_);rw[cG e,jb,k_ 6#h,qg,jy]
 ·rintro m f b ⟨v,rfl,l,a,rfl⟩
  rw[eV (by rw[lT];exact aV _)] at a;exact k b l a
def Δ(F:b_ K "times_into" "times_into" Bt f fd)(a0:fN mg):ce P w K mg base bx 1 f fd ["weight","goal","prime"] GN:=by
 refine F.B YW (λu H Q E h=>?_) (λv A l s H u Q E T h=>?_)
 ·obtain⟨d,g,p,rfl,_⟩:=h;rfl
 ·obtain⟨d,g,p,rfl,x,U,m,⟨y,X,z⟩,k⟩:=h
  refine(_,bF (cX (eK lw (fe ["weight","goal","prime"] ["often","weight","goal","prime"] [Y,V 0,V 1,V 2] (ou O a0.b<|ao 7#2 aF) (λo C a b q=>cx (i:=0) (eF ["often","weight","goal","prime"]) O<|ai O) (λo C a b q=>lq<|dD jS (bW kH (bW mS (bW mT 7#0<|ah 1)<|ah 2)<|ah 3) bb<|dF _)
   (λo C a b q=>ah 0) (hfr:=ii (bX Bt) δ) (tc:=Oh) (te:=bw 0)) bb (λ_ _=>O))),?_)
  refine(_,O,p,O,ω,ω,λD G=>eP<|abi (n:=p.toNat) ω x ω G λI L c=>?_);have t:y∈(cr p.toNat).filter λj:Nat=>aE<|((j:Int)*d-g)%p=0:=eW.mpr (fJ.mpr ω,bT<|Km z);cases e:(cr p.toNat).filter λj:Nat=>aE<|((j:Int)*d-g)%p=0 with
  |nil=>rw[e] at t;cases t
  |cons j r=>
   have M:j∈(cr p.toNat).filter λj:Nat=>aE<|((j:Int)*d-g)%p=0:=by rw[e];exact .head _
   obtain⟨R,S⟩:=eW.mp M;have:=fJ.mp R;rw[e] at c;exact(D,_,0,.int j,O,O,bI.B c,jg (j:=0) O,k j I ω ω (wT<|fc S) L)
inductive GI(Pt:W)(vs:List af)(H:ab)(Q:aU)(E':db):Prop
 |c:∀d e a b k p,(vs=[.ref d,.int k,.ref e,.int p])->(cA H d<|.a<|bB a)->(cA H e<|.a<|bB b)->((aI a).Nodup)->((aI b).Nodup)->(a.length<=200)->(b.length<=200)->(0<p)->((-(2 ^ 64)<k/\k<2 ^ 64))->(∀D H',iT Pt H H'->H D=Y->H' D=V (.a<|bB<|pO p a k b)->Q 5#D H')->GI Pt vs H Q E'
def OE:dG ["chain","often","other","prime","taken"] ["chain","often","other","prime"] (bX Bm):=(O,O,O,δ,O,δ,δ)
abbrev Yo:bd:=mQ<|eR (bw 0)<|eR (dk (lp rO λi j=>.int<|i*j) (EE (xp λi=>.int<|-i)<|bw 1)<|nx (bw 2)<|bw 0) gg
def ο(F:b_ K "less_by" "less_by" Bm f fd)(b0:fN mg)(Cs:eG P w K mg base bx "sum_of" ["terms"] 1 (xW K))(Ct:eG P w K mg base bx "taken_by" ["chain","prime"] 2 (AS Pt)):ce P w K mg base bx 3 f fd ["chain","often","other","prime"] (GI Pt):=by
 refine F.B OE (λvs H Q E h=>?_) (λa6 A M s H vs Q E T h=>?_)
 ·obtain⟨d,e,a,b,k,p,rfl,_⟩:=h;rfl
 ·obtain⟨d,e,a,b,n,p,rfl,hd,he,na,nb,la,lb,hp,hn,k⟩:=h
  have hu:=ko T;refine(_,bj (Ml (i:=4) OE.a O (ai O) ["chain","often","other","prime","taken"] ["piece","often","other"] [Y,V 1,V 2] (Ai<|ah 2) (λcl C j m ex=>cx (i:=0) (eF ["piece","often","other"]) O<|ai O) (λcl C j m ex=>iu)
    (λcl C j m ex=>jC<|ao 7#0<|ao (bW mT (EZ EC<|ah 1)<|gi hu 7#2 7#0 (λ_ _=>O)) aF) (hfr:=ii (bX Bm) δ) (te:=Yo))
  <|bF<|cX<|eE Ct T O cF<|ao (eE Cs T O cF<|ao (bW vo (gA (XG O) O b0.list j_<|ao (Wg<|ah 0) aF)<|ah 4) aF)<|ao 7#3 aF,?_)
  refine(_,O,e,bB b,O,he,λo H1 x z=>λD hD=>eP<|Ps (g:=λc=>-n*c.2) x (â lb) (λc t H3 R hc sm hb kk=>?_) hD λH2 ts s2 U G=>?_)
  ·refine(_,O,_,O,_,O,_,O,_,O,e,_,O,.inr (bB b,c.1.map aN,t,.inr (o,sm _ _ x),O,by rw[bN];exact hb,(mh nb c hc).symm),_,_,O,O,.inl ω,bR 0#0,λt ht=>kk t ht)
  ·have f1:iT Pt H H1:=iH.N he (.inr (o,x)) z
   have X:iT Pt H H2:=f1.B<|aL.sf s2;refine(_,O,d,bB a,O,O,X.a hd,λv hv=>?_);have s3:=aL.B (o:=xF v d) hv;refine(v,d,bB a,O,az,(X.a hd).B s3,λL l u s4 a7 a0 a1=>(_,O,?_));have I:gQ L u a:=by
    have:∀{u:List W}{a:aM},eI (λt(kv:List aK×af)=>∃b,L t=V (.tup [.ref b,kv.2])/\L b=V (.tup<|kv.1.map cR)) u (bB a)->gQ L u a:=by
     intro u a
     induction a generalizing u with
     |nil=>intro h;cases h;exact .nil
     |cons c r ih=>
      intro h;cases h with
      |cons q t=>
       obtain⟨b,q1,q2⟩:=q;exact .cons (b,q1,AH q2)<|ih t
    exact this a1
   have y:=s3.F s4;have a8:=I.F;have a2:=G.F;rw[au] at a2;refine(l,D,_,_,O,O,a0,y _ _ U,by rw[au,au];exact bR ω,λq hq=>?_);have s5:=aL.B (o:=.lst<|u.map af.ref++ts.map af.ref) hq;refine(q,u++ts,a++b.map λc=>(aez c.1 (-n*c.2)),O,bI.B (by rw[az,bU]),(I.A0<|G.B y).B s5,by rw[c_,au];exact â (à (ñ lb) (ð la)),λS H6 s6 a9 a3=>?_);have f6:iT Pt H H6:=X.B<|aL.sf<|(y.F s5).F s6;refine(_,O,S,_,p,O,.inl a3,qA _,dq (Gg _) (by rw[c_,au];exact â (à (ñ lb) (ð la))),hp,λD7 H7 f7 a4 a5=>?_);exact k D7 H7 (f6.B f7) (f6.c a4) a5
end
noncomputable abbrev G':cJ:=dW 37
structure fh where
 x:dI
 t:W
 c:W
 g:W
def qI(H:ab)(r:fh):Prop:=cA H r.c (.a<|bB r.x.c)/\((r.x.d=Y/\H r.t=V (.tup [.int r.x.a,.int r.x.b,.non,.ref r.c,.non]))\/∃e:Nat,r.x.d=V e/\cA H r.g (.a<|bB r.x.g)/\H r.t=V (.tup [.int r.x.a,.int r.x.b,.int e,.ref r.c,.ref r.g]))
noncomputable def qI.B{b:ci}(h:qI H r)(s:iH P b q H c):qI c r:=by
 obtain⟨d,a⟩:=h;refine(s.a d,?_);rcases a with ⟨e,a⟩|⟨e,a,f,g⟩
 ·exact .inl (e,s.tup a)
 ·exact .inr (e,a,s.a f,s.tup g)
noncomputable def jH(L:List fh):List (aK×af):=L.map λr=>(aez ((aN (r.x.b:Int):aK)) (af.ref r.t))
noncomputable abbrev gZ(L:List fh):List dI:=L.map fh.x
def Hy:∀{L:List fh},((gZ L).map (·.b)).Nodup->∀{r:fh},r∈L->fm (jH L) (aN (r.x.b:Int))=V (.ref r.t)
 |q::L,c,r,d=>by
  rw[show(gZ<|q::L).map (·.b)=q.x.b::(gZ L).map (·.b) from O,jM] at c;show fm ((aez (aN (q.x.b:Int)) (af.ref q.t))::jH L) _=_
  by_cases e:(q.x.b:Int)=r.x.b
  ·rcases cz.mp d with rfl|a
   ·exact xm O
   ·exact bh (aO.mpr (r.x,aO.mpr (r,a,O),ω)) c.1
  ·rw[xn (λz=>e (by injection z))]
   rcases cz.mp d with rfl|a
   ·exact bh O e
   ·exact Hy c.2 a
def BB{b:Ξ}(c:(aI a).Nodup)(h:∀q∈aI a,q∈b):a.length<=b.length:=by
 have:=c.length_le_of_subset h
 rwa [oJ] at this
noncomputable def BN.B{b:aM}{t:Nat}(h:BN a b y t)(e:jp a)(c:jq p b)(d:0<p):fH p (dz a b) t:=NW e c d h.1 h.2.1 h.2.2
def OW{a:aM}(h:¬a.length=0):a≠[]:=λz=>h (by rw[z];rfl)
section
variable{P:bu}{w:bf}{K:aY}{mg:aq->Option aa}{base:aW}{f:W}{fd:cW}{Pt:W}
structure BO(Pt:W)(H:ab)(R T:W)(L:List fh)(oo:Ξ)(p:Int)(t:Nat):Prop where
 hR:H R=V (.b<|jH L)
 c:∀r∈L,qI H r
 hT:cA H T (.a<|bB<|jY oo)
 O:jp oo
 e:oo.length<=200
 f:kR p
 g:p<=7
 a:hG p oo t (gZ L)
 d:rY Pt H
noncomputable def BO.B{H a:ab}{R T:W}{b:Ξ}{t:Nat}(x:BO Pt H R T L b p t)(s:iT Pt H a):BO Pt a R T L b p t:=
 (s.dK x.hR,λr c=>(x.c r c).B s,s.a x.hT,x.O,x.e,x.f,x.g,x.a,s.e x.d)
inductive Gq(Pt:W)(vs:List af)(H:ab)(Q:aU)(E':db):Prop
 |b:∀a R T L q oo t p,(vs=[.ref a,.ref R,.ref T,.int p])->(de H a q)->(BO Pt H R T L oo p t)->(oo[t]?=V q)->(∀u c g left fill H',iT Pt H H'->H c=Y->H g=Y->c≠g->H u=Y->H' u=V (.tup [.ref c,.ref g])->cA H' c (.a<|bB left)->cA H' g (.a<|bB fill)->qH p oo t q left fill->(left=[]\/∃y t0,BN oo left y t0/\∃r∈L,r.x.b=t0/\r.x.d=Y)->Q 5#u H')->Gq Pt vs H Q E'
noncomputable abbrev aaj:List aq:=["piece","rows","times","prime","filling","left","young","row","often"]
def rU:dG aaj ["piece","rows","times","prime"] (bX G'):=(O,O,O,δ,O,δ,δ)
def ZM(F:b_ K "worked_off" "worked_off" G' f fd)(d6:fN mg)(Cm:eG P w K mg base bx "seam_of" ["chain"] 3 Gx)(Ct:eG P w K mg base bx "taken_by" ["chain","prime"] 2 (AS Pt))(Cy:eG P w K mg base bx "youngest_of" ["chain","times"] 4 (AR Pt))(Ci:eG P w K mg base bx "times_into" ["weight","goal","prime"] 1 GN)(a6:eG P w K mg base bx "less_by" ["chain","often","other","prime"] 3 (GI Pt)):ce P w K mg base bx 5 f fd ["piece","rows","times","prime"] (Gq Pt):=by
 refine F.B rU (λvs H Q E h=>?_) (λd2 A b7 s H vs Q E X h=>?_)
 ·obtain⟨a,R,T,L,q,oo,t,p,rfl,_⟩:=h;rfl
 ·obtain⟨a,R,T,L,q,oo,t,p,rfl,ha,I,hq,k⟩:=h
  have hu:=ko X;have h2:=I.f.c;have h7:=I.g;have a7:=dh hq;refine(_,bj (cq (i:=4) rU.a O (ai O)<|Mx hu 7#0 bb)
   (bj (cq (i:=5) rU.a O (ai O)<|eE Ct X O cF<|ao (eE Cm X O cF<|ao 7#4 aF)<|ao 7#3 aF)
   (bj (EU ga (dD xB (dM FE O d6.a fq<|ao 7#5 aF) bb<|dF _)
    (bj (cq (i:=6) rU.a O (ai O)<|eE Cy X O cF<|ao 7#5<|ao 7#2 aF)
    (bj (cq (i:=7) rU.a O (ai O)<|gi hu 7#1 (gi hu 7#2 7#6 (λ_ _=>O)) (λ_ _=>O))
    (bj (fL (dD MC (eK ig 7#7 bb (λ_ _=>O)) xy<|dF _) (bF VS) fV)
    (bj (cq (i:=8) rU.a O (ai O)<|eE Ci X O cF<|ao (gi hu (eK ig 7#7 bb (λ_ _=>O)) 7#6 (λ_ _=>O))<|ao (gi hu 7#5 7#6 (λ_ _=>O))<|ao 7#3 aF)
    (bj (cq (i:=5) rU.a O (ai O)<|eE a6 X O cF<|ao 7#5<|ao 7#8<|ao (eK ig 7#7 bb (λ_ _=>O))<|ao 7#3 aF)
   <|bF<|cq (i:=4) rU.a O (ai O)<|eE a6 X O cF<|ao 7#4<|ao 7#8<|ao (eK ig 7#7 bb (λ_ _=>O))<|ao 7#3 aF))))))
  <|bF<|cX<|jC<|ao 7#5<|ao 7#4 aF)),?_)
  intro g0 a0;have b8:=aL.B (o:=.a []) a0;refine(_,O,a,q.map aN,.int 1,O,az,by rw[bN];exact b8.J ha,?_);rw[Ls];have s1:=aL.B (o:=.a [(aez ((q.map aN:List aK)) (af.int 1))]) a0;have a1:aD H g0 (.a [(aez ((q.map aN:List aK)) (af.int 1))]) g0=V (.a<|bB [(aez q 1)]):=az;generalize aD H g0 (.a [(aez ((q.map aN:List aK)) (af.int 1))])=H1 at s1 a1;refine(_,O,g0,[(aez q 1)],O,.inl a1,by simp[aI],by simp,λc hc=>by rw[cT.mp hc];exact I.O.c q a7,λM H2 b9 a2 d3 c1=>?_);have f2:iT Pt H H2:=(aL.sf s1).B<|YG b9 (.inl a1) a2;have a3:(qB [(aez q ((1:Int)))]).length<=1000:=by
   refine dq (Gg _) ?_;have:=vV (cs:=[(aez q ((1:Int)))]) λc hc=>by rw[cT.mp hc];exact I.O.c q a7
   simp at this ⊢;exact â this
  refine(_,O,M,_,p,O,.inl c1,qA _,a3,ω,λc0 H3 f3 a8 c2=>?_);have c3:=f2.B f3;refine(λm σ H4=>∃(d j:aM)(c g:W)(v6 v7 v8:Option af),σ=[V<|.ref a,V<|.ref R,V<|.ref T,V<|.int p,V<|.ref g,V<|.ref c,v6,v7,v8]/\iT Pt H H4/\H c=Y/\H g=Y/\c≠g/\cA H4 c (.a<|bB d)/\cA H4 g (.a<|bB j)/\qH p oo t q d j/\oR p (dz oo d) m,
   (t,_,_,c0,g0,Y,Y,Y,O,c3,f2.c a8,a0,λz=>?_,.inl c2,f3.a a2,NX I.O h2 hq,(NX I.O h2 hq).a.c),?_)
  ·subst z
   obtain⟨o,eo⟩:=vk a2;rw[a8] at eo;cases eo
  ·rintro m σ H4 ⟨d,j,c,g,v6,v7,v8,rfl,f4,hc,hg,c4,rc,rg,d7,bl⟩
   have a9:∀(v6 v7 v8:Option af)(n:ab),iT Pt H4 n->(d=[]\/∃y t0,BN oo d y t0/\∃r∈L,r.x.b=t0/\r.x.d=Y)->mQ (eR (bw 5)<|eR (bw 4) gg) [V<|.ref a,V<|.ref R,V<|.ref T,V<|.int p,V<|.ref g,V<|.ref c,v6,v7,v8] n Q:=by
    intro v6 v7 v8 n S hw;have l:=f4.B S;refine(_,O,_,O,bR 0#0,λu b0=>?_);have s6:=aL.B (o:=.tup [.ref c,.ref g]) b0;exact k u c g d j _ (l.B<|aL.sf s6) hc hg c4 (l.c b0) az ((S.a rc).B s6) ((S.a rg).B s6) d7 hw
   refine(_,O,c,bB d,O,rc,_,_,O,O,_,O,?_);rw[nD]
   by_cases hl:d.length=0
   ·have c5:d=[]:=kh hl
    rw[cw ω];exact dT<|a9 v6 v7 v8 H4 (iH.refl H4)<|.inl c5
   rw[bT ω];have I4:=I.B f4;refine eS (_,λd4 H' h=>h,?_);refine(_,O,_,O,c,T,d,oo,O,rc,I4.hT,I.O.a,OW hl,λz U=>(d7.b z U).1,I4.d,λb y t0 n S hb hy=>?_);have l:=f4.B S;have I5:=I4.B S;have a4:=hy.B I.O d7.l ω;obtain⟨x,hx,ex⟩:=Yc I.f I.O I.a d7 a4;obtain⟨r,a5,rfl⟩:=aO.mp hx;subst ex;have gT:gN n T 5#b (V<|.int r.x.b):=.inr (bB<|jY oo,y.map aN,b,I5.hT,O,by rw[bN];exact hb,(F_ I.O.a hy.2.1).symm);have c6:((gZ L).map (·.b)).Nodup:=I.a.c.imp λh=>(õ h)
   have gR:gN n R (.int r.x.b) (V<|.ref r.t):=by
    have:=gN.k (k:=aN (r.x.b:Int)) I5.hR
    rwa [Hy c6 a5] at this
   refine(_,O,_,O,_,O,T,_,O,gT,R,_,O,gR,?_);obtain⟨b1,h5⟩:=I5.c r a5;have ow:=I.a.a r.x hx;obtain⟨y',ey,b2⟩:=Bv I.a hx;rw[hy.2.1] at ey;cases ey;rcases h5 with ⟨ed,ht⟩|⟨e,ed,c7,ht⟩
   ·refine(_,O,r.t,_,2,.non,O,O,fg.B ht,O,O,_,O,eS ?_)
    exact a9 _ _ v8 n S<|.inr (y,_,hy,r,a5,O,ed)
   ·refine(_,O,r.t,_,2,.int e,O,O,fg.B ht,O,O,_,O,dT ?_)
    obtain⟨b3,c8⟩:=ow.g e ed;have b4:n b=V (.tup<|(y.map aN:List aK).map cR):=by rw[bN];exact hb
    have g1:gN n r.c 5#b (V<|.int<|aS r.x.c y):=by
     obtain⟨cc,v,rfl⟩:=aO.mp b2;refine .inr (bB r.x.c,cc.1.map aN,b,b1,O,b4,?_);rw[mh ow.c.a cc v,qF ow.c.a cc v]
    have g2:gN n c 5#b (V<|.int<|aS d y):=by
     obtain⟨cc,v,e3⟩:=aO.mp hy.1;subst e3;refine .inr (bB d,cc.1.map aN,b,S.a rc,O,b4,?_);rw[mh d7.l.a cc v,qF d7.l.a cc v]
    have d5:=ow.c.B b2;refine(_,O,r.t,_,3,.ref r.c,O,O,fg.B ht,O,_,O,r.c,_,O,g1,_,O,_,O,c,_,O,g2,_,O,_,_,p,O,ω,h2,ω,I.f.e _ _ (λz=>by have:=wS ω z;omega),λkk H6 k0 k1 kd s6=>?_);have C:iT Pt n H6:=aL.sf s6;have lc:d.length<=200:=dq (BB d7.l.a λz U=>(d7.b z U).1) I.e;have lr:r.x.c.length<=200:=dq (BB ow.c.a λz U=>(ow.a z U).1) I.e;have lf:j.length<=200:=dq (BB d7.f.a λz U=>(d7.c z U).1) I.e;have lg:r.x.g.length<=200:=dq (BB b3.a λz U=>(c8 z U).1) I.e;refine(_,O,_,O,_,O,r.t,_,3,.ref r.c,O,O,fg.B<|C.tup ht,O,_,O,c,r.c,d,r.x.c,kk,p,O,C.a<|S.a rc,C.a b1,d7.l.a,ow.c.a,lc,lr,ω,ω,λc' H7 f7 b5 b6=>?_);have D:=C.B f7;refine(_,O,_,O,_,O,r.t,_,4,.ref r.g,O,O,fg.B<|D.tup ht,O,_,O,g,r.g,j,r.x.g,kk,p,O,D.a<|S.a rg,D.a c7,d7.f.a,b3.a,lf,lg,ω,ω,λg' H8 f8 G c9=>?_);have d0:=(l.B D).B f8;obtain⟨W',d1⟩:=Yb ω I.a d7 hx ed a4 hy.2.1 hy.1 kd;refine(r.x.b,?_,_,_,c',g',_,_,_,O,d0,(l.B C).c b5,(l.B D).c G,λz=>?_,f8.a<|.inl b6,.inl c9,W',d1)
    ·refine ah5 λz=>a4.1<|bl _ z
    ·subst z
     rw[b6] at G;cases G
end
def LQ{b:W}{k a:List (List aK×af)}(e:cA H b (.a k))(r:cA H b (.a a)):k=a:=by
 rcases e with e|⟨c,e⟩<;>rcases r with r|⟨d,r⟩<;>rw[e] at r<;>cases r<;>rfl
def iH.A2{H d:ab}(h:∀b,d b=H b\/∃a,cA H b (.a a)/\cA d b (.a a)):iH P g q H d:=by
 have f:∀{b:W}{u:df},H b=V u->(∀k,u≠.a k)->(∀j k,u≠.frz j (.a k))->d b=V u:=λ{b u} e m o=>by
  rcases h b with z|⟨k,r,_⟩
  ·rw[z];exact e
  ·rcases r with r|⟨j,r⟩
   ·exact bh (bM<|e.symm.trans r)<|m _
   ·exact bh (bM<|e.symm.trans r)<|o _ _
 refine(λb u n e=>f e n.d n.z,λ{b k} e=>?_,λ{b} e=>?_,λt=>?_)
 ·rcases h b with z|⟨p,r,i⟩
  ·unfold cA;rw[z];exact e
  ·rw[LQ e r];exact i
 ·rcases h b with z|⟨p,r,i⟩
  ·rw[<-z];exact e
  ·obtain⟨u,l⟩:=vk i
   rw[e] at l;cases l
 ·rcases t with e|⟨c,e,s,v,w,x,r⟩
  ·exact .inl<|f e (λ_ z=>nomatch z) (λ_ _ z=>nomatch z)
  ·exact .inr (c,f e (λ_ z=>nomatch z) (λ_ _ z=>nomatch z),s,v,w,f x (λ_ z=>nomatch z) (λ_ _ z=>nomatch z),r)
section
variable{X:a_}{pins:Ψ}{σ:aR}{H:ab}{s:ak}
def aA.thaws(I:aA X pins σ H s):∀g:List W,(∀a∈g,X.h a=Y/\∃d,cA H a (.a d))->∃e,aA X pins σ e s/\(∀b,b∉g->e b=H b)/\∀a∈g,∀d,cA H a (.a d)->e a=V (.a d)
 |[],_=>(H,I,λ_ _=>O,λa v=>nomatch v)
 |a::g,h=>by
  obtain⟨e,n,o,p⟩:=I.thaws g λb f=>h b<|.tail _ f
  by_cases m:a∈g
  ·exact(e,n,λb f=>o b λz=>f<|.tail _ z,λb f=>by
    rcases cz.mp f with rfl|q
    ·exact p b m
    ·exact p b q)
  ·obtain⟨w,d,r⟩:=h a<|.head _
   have x:=o a m;have i:cA e a (.a d):=by unfold cA;rw[x];exact r
   have j:∀l:ab,aA X pins σ l s->l a=V (.a d)->(∀b,b≠a->l b=e b)->∃e,aA X pins σ e s/\(∀b,b∉a::g->e b=H b)/\∀c∈a::g,∀d,cA H c (.a d)->e c=V (.a d):=λl y A t=>by
    refine(l,y,λb f=>?_,λc C k u=>?_)
    ·rw[cz,not_or] at f
     rw[t b f.1];exact o b f.2
    ·by_cases z:c=a
     ·subst z;rw[LQ u r];exact A
     ·rw[t c z];exact p c ((cz.mp C).resolve_left z) k u
   rcases i with i|⟨D,i⟩
   ·exact j e n i λ_ _=>O
   ·exact j _ (n.D6 w i) az λb f=>aZ f
def Vk(g:ab)(t:bd):bd:=λσ H Q=>t σ H λx d=>∃e:List W,(∀a∈e,g a=Y/\∃c,cA d a (.a c))/\∀f,(∀b,b∉e->f b=d b)->(∀a∈e,∀c,cA d a (.a c)->f a=V (.a c))->Q x f
def Wb{t:bd}(h:bG X e t):bG X e (Vk X.h t):=by
 intro pins s σ H Q I q;refine bH (h pins s σ H _ I q) λv l (x,m,b,c,d,f,k)=>?_;obtain⟨a,g,i,j⟩:=b.thaws d f;exact(x,a,g,c,k a i j)
def Vi{d g:ab}{e:List W}(h:∀a∈e,∃c,cA d a (.a c))(i:∀b,b∉e->g b=d b)(j:∀a∈e,∀c,cA d a (.a c)->g a=V (.a c)):iH P f q d g:=
 iH.A2 λb=>by
  by_cases m:b∈e
  ·obtain⟨k,r⟩:=h b m
   exact .inr (k,r,.inl<|j b m k r)
  ·exact .inl<|i b m
end
section
open PySem.SetTable
section
variable{prog:bu}{w:bf}{A:bO}{E:Ω}{s:ak}{S:W}
def UN{n:Nat}{R:List aa->ak->Prop}(K:RM prog w T r d n P u)(C:A.handled=Y)(m:u s.heap)(D:n<=bD)(h:∀(i:aW)(j:Nat)(a:Array aa),s⁻¹<=i.objs.size->(∀b o,s.heap.get? b=V o->i.get? b=V o)->Jj P a n->R a.toList {s with heap:=i,toks:=j}):ax 2#0 A (collect<|.ref r) R E s:=by
 obtain⟨G,H⟩:=K.there _ m;unfold collect;refine ag<|wpAny_runValue<|iC entry_proto_collect' ?_;rw[ja PySem.F.plain_proto_collect _];show ax _ A.in1 (do again (.builtin "list.__iadd__" ([<-IR [],.ref r],[]))) _ _ s;refine ag<|nc<|aG (iK agp _,iC entry_list_iadd' ?_);rw[ja agp _];show ax _ A.in1 (Dg (.ref s⁻¹) 5#r<|.ref s⁻¹) _ _ _;have p:∀(i:aW)(j:Nat)(a:Array aa)(c:Nat),(∀b o,s.heap.get? b=V o->i.get? b=V o)->i.get? s⁻¹=V {cls:=.type "list",dict:=Y,data:=.seq a c,slots:=#[]}->Jj P a n->
   ax 2#0 A (do match (<-load s⁻¹).data with
    |.seq I _=>aX I.toList
    |_=>Rc "internal:collect") R E {s with heap:=i,toks:=j}:=λi j a c l k g=>ag<|wpAny_load k<|aG<|h i j a (qe<|cy k) l g
 refine kB (kdl_extend (A:=A) (s:={s with heap:=s.heap.push {cls:=.type "list",data:=.seq ([]:List aa).toArray}})
  (R:=λq t=>∃i j a c,q=Except.ok (fQ<|.ref s⁻¹)/\t={s with heap:=i,toks:=j}/\(∀b o,s.heap.get? b=V o->i.get? b=V o)/\i.get? s⁻¹=V {cls:=.type "list",dict:=Y,data:=.seq a c,slots:=#[]}/\Jj P a n)
  K C (K.keep _ _ m λb _ o e=>bQ _ e) s⁻¹ (jx G) (jx H) (.ref s⁻¹) 0 (dg _ O)
  (λi j a c l k g=>(i,j,a,c,O,O,λb o e=>l b o (cM<|cy e)<|bQ _ e,k,g)) D) (λf t x=>?_) λe t x=>?_
 ·cases f with
  |done f=>
   obtain⟨i,j,a,c,e,rfl,l,k,g⟩:=x;cases e;exact p i j a c l k g
  |again v=>
   refine(x.1,p_ x.2 λq z y=>?_);obtain⟨i,j,a,c,rfl,rfl,l,k,g⟩:=y;exact p i j a c l k g
 ·obtain⟨_,_,_,_,L,_⟩:=x
  cases L
end
end
section
variable{X:a_}
def Wk{b:List aa}{j:List aa}(v:fC b c)(o:rC (c.map λn=>[n]) b j):∃r:List Int,co (r.map af.int) j/\r.Perm c/\r.Pairwise (·<=·):=by
 obtain⟨a,w,o,y⟩:=o;have x:b.length=c.length:=v.length;have f:∀p∈a,∃n t,p.1=[n]/\p.2=aQ n t:=λp s=>by
  obtain⟨i,e⟩:=gW.mp<|w.mem_iff.mp s;rw[pF,bV] at e;cases d:c[i]? with
  |none=>rw[d] at e;simp at e
  |some n=>
   obtain⟨t,g⟩:=v.get i n d;rw[d,g] at e;simp only[nj,ah2,oZ] at e;subst e;exact(n,t,O,O)
 have z:∀a:List (List Int×aa),(∀p∈a,∃n t,p.1=[n]/\p.2=aQ n t)->co ((a.map λp=>p.1.headD 0).map af.int) (a.map (·.2)):=by
  intro a
  induction a with
  |nil=>intro _;exact .nil
  |cons p a A=>
   intro h;obtain⟨n,t,d,g⟩:=h p fE;refine .cons ?_<|A λq C=>h q<|gd _ C;show cg (af.int<|p.1.headD 0) p.2;rw[d,g];exact(t,O)
 refine(a.map λp=>p.1.headD 0,by rw[o];exact z a f,?_,?_)
 ·have k:=w.map (λp:List Int×aa=>p.1.headD 0)
  have e:((c.map λn=>[n]).zip b).map (λp:List Int×aa=>p.1.headD 0)=c:=by
   rw[show(λp:List Int×aa=>p.1.headD 0)=(λl:List Int=>l.headD 0) ∘ ni from O,<-bN,zx (by rw[au];lia),bN];exact zw c
  rw[e] at k;exact k
 ·rw[ip]
  refine y.imp_of_mem λ{p q} k D u=>?_;obtain⟨n,t,d,_⟩:=f p k;obtain⟨m,E,g,_⟩:=f q D;rw[d,g,lL] at u;rw[d,g];show n<=m
  by_cases e:m=n
  ·lia
  ·rw[am e] at u
   have:=oe u
   lia
end
section
open PySem.SetTable
section
variable{prog:bu}{w:bf}{A:bO}{E:Ω}{s:ak}
def Uj{n:Nat}{Q:Ω}(K:RM prog w T r d n P u)(z:A.handled=Y)(q:u s.heap)(G:n<1000)(l:∀a:Array aa,Jj P a n->fC a.toList ns)(h:∀(D:W)(f:aW)(p e:Nat)(j:List aa)(c:Array aa),s⁻¹<=D->(∀b o,s.heap.get? b=V o->f.get? b=V o)->f.get? D=V (cj "list" c e)->fC j ns->rC (ns.map λn=>[n]) j c.toList->Q 5#D {s with heap:=f,toks:=p}):ax 2#0 A (im (.builtin "sorted") [.ref r]) Q E s:=by
 refine Sh Sq Sm Sr (args_sorted1 _) ?_;unfold Builtin.«sorted»;refine ag (m:=Rz "sorted" 1 1 _)<|aG ?_;refine ag<|UN (A:=A.in1) K z q (by rw[jt];exact â (ì G)) λf p a t v g=>?_;have l:=l a g;have x:a.toList.length=n:=by rw[gJ];exact g.1
 refine ag<|wp ?_ (by rw[x,jt];exact â (ì G));have i:(f.push<|cj "list" a.toList.toArray 0).get? f.objs.size=V (cj "list" a.toList.toArray 0):=dg _ O;refine ag<|fO<|mE Sl (_,i,O) Ss (K' (s:={s with heap:=f.push<|cj "list" a.toList.toArray 0,toks:=p}) (good:=λ_=>True) i (Lc l) (λ_ _=>trivial) (by rw[x,jt];exact â (ì G)) (à (ï (å x)) G) λc k=>(_,O,?_))<|args_list_sort _;obtain⟨e,C⟩:=sortedHeap_at (out:=c) i;refine aG (_,O,h f.objs.size _ p e a.toList c t (λb o e=>?_) C l k);have y:b<f.objs.size:=cy<|v b o e;rw[sortedHeap_old (cM y) (by rw[wJ];exact lR y)];exact bQ _<|v b o e
end
end
section
variable{X:a_}
noncomputable abbrev No(a:List (Int×af)):df:=.b<|a.map λp=>(aez (aN p.1) p.2)
def WU{b:List (Int×af)}:∀{m:List (aK×aa)}{a:List aa},jV (b.map λp=>(aez ((aN p.1:aK)) p.2)) m->a.length=m.length->(∀(i:Nat) v,a[i]?=V v->∃k x,m[i]?=V (aez k x)/\(ff X.prog X.w).is k v=ae)->fC a (b.map (·.1)):=by
 induction b with
 |nil=>
  intro m a q c _;cases q;cases a with
  |nil=>exact .nil
  |cons _ _=>simp at c
 |cons p b j=>
  intro m a q c d;cases q with
  |@cons _ r _ s f t=>
   cases a with
   |nil=>simp at c
   |cons v a=>
    obtain⟨k,x,g,l⟩:=d 0 v O;simp only[SQ,oZ] at g;have n:(aN p.1:aK)=k:=by rw[g] at f;exact f.1
    subst n;obtain⟨h,o⟩:∃h,v=aQ p.1 h:=Fu l;subst o;exact .cons _ _ (j t 6#c λi v e=>by simpa using d (i+1) v 6#e)
def XC(A:X.b=ae):iS X (.builtin "sorted") (λm H Q=>∃a c,m=[.ref a]/\H a=V (No c)/\c.length<1000/\∀(D:W)(g:List Int),g.Perm (c.map (·.1))->g.Pairwise (·<=·)->H D=Y->Q 5#D (aD H D<|.lst<|g.map af.int)):=by
 intro n s U H m us Q I r h;obtain⟨a,c,rfl,C,hz,q⟩:=h;obtain⟨u,rfl,E⟩:=ir r;cases E;obtain⟨z,y,p,d,j⟩:=tG I.a C;obtain⟨t,j⟩:=j.dictAt;have hl:c.length=p.length:=by simpa using d.B
 refine Uj (ns:=c.map (·.1)) (afw (knd:=ff X.prog X.w) (kvs:=p) (ep:=t) y) (I.b.a A) j (à (ï (æ hl)) hz) (λG w=>WU (X:=X) d (by simpa using w.1) λi v e=>w.2 i v 6#e) λD h' tk e K k f L M P R=>?_;obtain⟨l,S,x,T⟩:=Wk P R;have hk:l.length=c.length:=by simpa using x.length_eq
 refine(.ref D,_,I.F (o:=.lst<|l.map af.int) (λb u e=>L b u e) f<|show di X.prog X.w _ _ _ (.lst<|l.map af.int) from(by rw[au,jt];exact â (à (å hk) (ì hz)),k.toList,e,S,by simpa using M),O,q _ _ x T<|I.a.B f)
end
noncomputable abbrev Hi:cJ:=dW 34
noncomputable abbrev Bj:cJ:=dW 35
noncomputable def nC(L:List fh)(x:fh):List fh:=L.map λy=>if y.x.b=x.x.b then x else y
def Ya(L:List fh)(a:fh):gZ (nC L a)=tW (gZ L) a.x:=by
 unfold gZ nC tW;rw[bN,bN];refine fS λy _=>?_;show(if y.x.b=a.x.b then a else y).x=if y.x.b=a.x.b then a.x else y.x;split<;>rfl
def aa5{L:List fh}{b:Nat}{t:W}(h:∀r∈L,r.x.b≠b):dZ (jH L) (aN (b:Int)) 5#t=jH L++[(aez (aN (b:Int)) 5#t)]:=by
 unfold dZ;rw[am];intro z;obtain⟨d,a,e⟩:=wQ.mp z;obtain⟨r,c,rfl⟩:=aO.mp a;have e:=fc e;have:(r.x.b:Int)=b:=by injection e
 exact h r c ω
def aa4{L:List fh}{x:fh}(h:∃r∈L,r.x.b=x.x.b):dZ (jH L) (aN (x.x.b:Int)) (.ref x.t)=jH (nC L x):=by
 obtain⟨r,a,e⟩:=h;unfold dZ;have b:((jH L).any λc=>aE<|c.1=(aN (x.x.b:Int):aK))=ae:=wQ.mpr (_,aO.mpr (r,a,O),bT (by show(aN (r.x.b:Int):aK)=_;rw[e]));rw[av b];unfold jH nC;rw[bN,bN];refine fS λy _=>?_;show(if(aN (y.x.b:Int):aK)=aN (x.x.b:Int) then(aez ((aN (y.x.b:Int):aK)) (af.ref x.t)) else(aez (aN (y.x.b:Int)) (af.ref y.t)))=(aez (aN ((if y.x.b=x.x.b then x else y).x.b:Int)) (af.ref (if y.x.b=x.x.b then x else y).t))
 by_cases z:y.x.b=x.x.b
 ·rw[av (by rw[z]),av z,z]
 ·have d:¬(aN (y.x.b:Int):aK)=aN (x.x.b:Int):=λq=>z<|Int.ofNat.inj<|Cx q
  rw[am d,am z]
noncomputable def fA(r:fh):List W:=match r.x.d with
 |none=>[r.c]
 |some _=>[r.c,r.g]
def PO(h:qI H r){a:W}(b:a∈fA r):∃c,cA H a (.a c):=by
 obtain⟨d,f⟩:=h;unfold fA at b;rcases f with ⟨e,_⟩|⟨e,g,i,_⟩
 ·rw[e] at b
  rw[cT.mp b];exact(_,d)
 ·rw[g] at b
  rcases cz.mp b with rfl|b
  ·exact(_,d)
  ·rw[cT.mp b];exact(_,i)
structure wd(H:ab)(L:List fh):Prop where
 c:(L.flatMap fA).Nodup
 b:∀a∈L.flatMap fA,H a=Y
def wd.F(h:wd H L)(d:(fA r).Nodup)(f:∀a∈fA r,H a=Y)(g:∀a∈fA r,a∉L.flatMap fA):wd H (L++[r]):=by
 have e:(L++[r]).flatMap fA=L.flatMap fA++fA r:=by rw[SS];simp
 refine(?_,λa c=>?_)
 ·rw[e,kg]
  exact(h.c,d,λa c b i z=>g b i<|z▸c)
 ·rw[e] at c
  rcases dt.mp c with c|c
  ·exact h.b a c
  ·exact f a c
def Hl{a:W}(h:a∈(nC L x).flatMap fA):a∈L.flatMap fA\/a∈fA x:=by
 obtain⟨y,c,b⟩:=jN.mp h;obtain⟨z,d,rfl⟩:=aO.mp c
 by_cases e:z.x.b=x.x.b
 ·rw[av e] at b;exact .inr b
 ·rw[am e] at b;exact .inl<|jN.mpr (z,d,b)
noncomputable def wd.B(h:wd H L)(g:((gZ L).map (·.b)).Nodup)(n:(fA x).Nodup)(o:∀a∈fA x,H a=Y)(p:∀a∈fA x,a∉L.flatMap fA):wd H (nC L x):=by
 refine(?_,λa d=>?_)
 ·have k:∀M:List fh,((gZ M).map (·.b)).Nodup->(M.flatMap fA).Nodup->(∀a∈fA x,a∉M.flatMap fA)->((nC M x).flatMap fA).Nodup:=by
   intro M
   induction M with
   |nil=>intro _ _ _;exact lS
   |cons y M r=>
    intro g j m;rw[show(gZ<|y::M).map (·.b)=y.x.b::(gZ M).map (·.b) from O,jM] at g;rw[nr,kg] at j;have f:∀a∈fA x,a∉M.flatMap fA:=λa d z=>m a d (by rw[nr];exact jO _ z);have i:=r g.2 j.2.1 f;show(((if y.x.b=x.x.b then x else y)::nC M x).flatMap fA).Nodup;rw[nr,kg]
    by_cases e:y.x.b=x.x.b
    ·rw[av e]
     refine(n,i,λa d u c z=>?_);subst z;rcases Hl c with q|q
     ·exact f a d q
     ·have l:nC M x=M:=by
       unfold nC;refine(fS λz s=>?_).trans<|zw _;rw[am];intro t;exact g.1<|aO.mpr (z.x,aO.mpr (z,s,O),(û (à (å t) (æ e)) (à (å e) (æ t))))
      rw[l] at c;exact f a d c
    ·rw[am e]
     refine(j.1,i,λa d u c z=>?_);subst z;rcases Hl c with q|q
     ·exact j.2.2 a d a q O
     ·exact m a q (by rw[nr];exact kF _ d)
  exact k L g h.c p
 ·rcases Hl d with q|q
  ·exact h.b a q
  ·exact o a q
def Bx{a R:W}{b:List (List aK×af)}(h:cA H a (.a b))(hR:H R=V (.b c)):cA (aD H R o) a (.a b):=by
 have d:a≠R:=λz=>by
  subst z;rcases h with e|⟨_,e⟩<;>(rw[hR] at e;cases e)
 unfold cA;rw[aZ d];exact h
def Bu{R:W}(h:qI H r)(hR:H R=V (.b c)):qI (aD H R o) r:=by
 obtain⟨d,a⟩:=h;refine(Bx d hR,?_);rcases a with ⟨e,a⟩|⟨e,a,f,b⟩
 ·exact .inl (e,by rw[aZ<|fW a hR (by intro z;cases z)];exact a)
 ·exact .inr (e,a,Bx f hR,by rw[aZ<|fW b hR (by intro z;cases z)];exact b)
def abj{l m:List Int}(c:l.Perm m)(d:l.Pairwise (·<=·))(e:m.Pairwise (·<=·)):l=m:=
 ai8 (λa b _ _ f g=>Int.le_antisymm f g) d e c
noncomputable def rX(L:List fh):List Int:=L.map λr=>(r.x.b:Int)
section
variable{P:bu}{w:bf}{K:aY}{mg:aq->Option aa}{base:aW}{f:W}{fd:cW}{Pt:W}
def Y_{S R D:W}{Q:aU}(p:bI K d S ((rX L).map af.int))(hR:d R=V (.b<|jH L))(q:((gZ L).map (·.b)).Nodup)(u:L.length<=1000)(m:d D=Y)(w:∀(a:ab),aL d a->a D=V (.lst<|L.map λr=>af.ref r.t)->Q 5#D a):dU (gY K S) (dw 0) ie (nx (bw 1)<|bw 0) [Y,V<|.ref R] d D Q:=by
 have n:((rX L).map af.int).length=L.length:=by unfold rX;rw[au,au]
 refine jT (xs:=(rX L).map af.int) (λj i h a=>∃(v:Option af),i=[v,V<|.ref R]/\aL d a/\a D=V (.lst h)/\h=(L.map λr=>af.ref r.t).take j) ?_ ?_ ?_ ?_
 ·exact(Y,O,aL.B m,az,O)
 ·rintro j i h a ⟨v,rfl,f,c,rfl⟩
  exact f.A1 p
 ·rintro j i h a x l s t ⟨v,rfl,f,c,rfl⟩
  unfold rX at l;rw[bN,bV] at l;obtain⟨r,o,rfl⟩:=o_.mp l;have e:(L.map λr=>af.ref r.t)[j]?=V (.ref r.t):=by rw[bV,o];rfl
  have g:gN a R (.int r.x.b) (V<|.ref r.t):=by
   have:=gN.k (k:=aN (r.x.b:Int))<|f _ _ hR
   rwa [Hy q<|dh o] at this
  refine jD (_,O,_,O,R,_,O,g,fz (by rw[n];exact bR (â u)) s t c (_,O,f.N m,az,by rw[cG e]))
 ·rintro i h a ⟨v,rfl,f,c,rfl⟩
  rw[n,eV (by rw[au];exact aV _)] at c;exact w a f c
structure acn(p:Int)(oo:Ξ)(H':ab)(D:W)(L:List fh):Prop where
 b:H' D=V (.lst<|L.map λr=>af.ref r.t)
 c:∀r∈L,qI H' r
 a:hG p oo oo.length (gZ L)
def Ho(h:hG p a T (gZ L))(f:T<=a.length):L.length<=a.length:=by
 have c:((gZ L).map (·.b)).Nodup:=h.c.imp λh=>(õ h)
 have:=c.length_le_of_subset (l₂:=cr a.length) λg d=>by
  obtain⟨x,e,rfl⟩:=aO.mp d;have:=(pN h e).a;have this:x.b<T:=this;exact fJ.mpr (à this f)
 rw[lT,au,au] at this;exact this
def lJ(p:Int):Prop:=p=2\/p=3\/p=5\/p=7
noncomputable def lJ.B(h:lJ p):kR p/\p<=7:=by
 rcases h with rfl|rfl|rfl|rfl
 ·exact(aep,ξ)
 ·exact(aeo,ξ)
 ·exact(aen,ξ)
 ·exact(aem,ξ)
inductive Gz(K:aY)(Pt:W)(vs:List af)(H:ab)(Q:aU)(E':db):Prop
 |b:∀l as oo p,(vs=[.ref l,.int p])->(bI K H l<|as.map af.ref)->(bA H as oo)->(ky oo)->(oo.length<=200)->(lJ p)->(rY Pt H)->(∀D L H',iT Pt H H'->H D=Y->acn p oo H' D L->wd H L->(∀a∈L.flatMap fA,∃kvs,H' a=V (.a kvs))->Q 5#D H')->Gz K Pt vs H Q E'
noncomputable abbrev OX:List aq:=["order","prime","times","rows","time","piece","found","born"]
def tU:dG OX ["order","prime"] (bX Bj):=(O,O,O,δ,O,δ,δ)
def ZY(F:b_ K "paper" "paper" Bj f fd)(e6:fN mg)(Co:eG P w K mg base bx "must_be_order" ["order"] 3 (GF K))(Cp:eG P w K mg base bx "must_be_prime" ["prime"] 1 GD)(Ct:eG P w K mg base bx "times_of" ["order"] 1 (Gv K))(Cw:eG P w K mg base bx "worked_off" ["piece","rows","times","prime"] 5 (Gq Pt))(Cy:eG P w K mg base bx "youngest_of" ["chain","times"] 4 (AR Pt)):ce P w K mg base bx 6 f fd ["order","prime"] (Gz K Pt):=by
 refine F.B tU (λvs H Q E h=>?_) (λe2 A d2 s H vs Q E j h=>?_)
 ·obtain⟨l,as,oo,p,rfl,_⟩:=h;rfl
 ·obtain⟨l,as,oo,p,rfl,hl,ht,ho,v,hp,tb,k⟩:=h
  have hu:=ko j;have e7:=OR ho;obtain⟨a2,a7⟩:=hp.B;have h2:=a2.c;have d3:=ht.B;refine(_,bj (mR<|eE Co j O cF<|ao 7#0 aF) (bj (mR<|eE Cp j O cF<|ao 7#1 aF)
   (bj (cq (i:=2) tU.a O (ai O)<|eE Ct j O cF<|ao 7#0 aF)
   (bj (cq (i:=3) tU.a O (aw O) xz)
   (bj (gz ga O (EY O e6.e HL<|ao 7#0 aF) (xx O<|pG (cx (i:=4) tU.a O<|ai O)<|pG (cx (i:=5) tU.a O<|ai O) xu)
    (bj (cq (i:=6) tU.a O (ai O)<|eE Cw j O cF<|ao 7#5<|ao 7#3<|ao 7#2<|ao 7#1 aF)
    (bF (fL (dD jS (dM FE O e6.a fq<|ao (eK ig 7#6 bb (λ_ _=>O)) aF) bb<|dF _)
     (bF<|lZ hu 7#3 7#4 (jC<|ao (bW mS (dM fX O e6.a fq<|ao 7#5 aF) bb)<|ao 7#4<|ao xy<|ao (eK ig 7#6 bb (λ_ _=>O))<|ao xy aF) O)
     (bj (cq (i:=7) tU.a O (ai O)<|gi hu 7#2 (eE Cy j O cF<|ao (eK ig 7#6 bb (λ_ _=>O))<|ao 7#2 aF) (λ_ _=>O))
    <|bF<|lZ hu 7#3 7#7 (jC<|ao (bW mS (dM fX O e6.a fq<|ao 7#5 aF) bb)<|ao 7#7<|ao 7#4<|ao (eK ig 7#6 bb (λ_ _=>O))<|ao (eK ig 7#6 bb (λ_ _=>O)) aF) O)))))
   (bF (cX (Wb (fe OX ["born","rows"] [Y,V 3] (eO<|dM (XC O) O e6.d BL<|ao 7#3 aF) (λcl C a4 a5 ex=>cx (i:=0) (eF ["born","rows"]) O<|ai O) (λcl C a4 a5 ex=>iu)
    (λcl C a4 a5 ex=>gi hu 7#1 7#0 (λ_ _=>O)) (hfr:=ii (bX Bj) δ) (te:=nx (bw 1)<|bw 0))))))))),?_)
  refine(_,O,l,as,oo,O,hl,ht,v,ho,λH1 s1=>?_);refine(_,O,p,O,hp,?_);refine(_,O,l,as,oo,O,s1.A1 hl,s1.M ht,e7.a,v,λT H2 s2 e3 d4 R hR=>?_);have b6:=s1.F s2;have s3:=aL.B (o:=.b []) hR;have sh:=b6.F s3;have b7:H R=Y:=b6.A0 hR;refine(_,O,l,O,(_,sh.A1 hl),MZ (K:=K) (a:=l) (xs:=as.map af.ref) (λi σ H4=>∃(v4 v5 v6 v7:Option af)(L:List fh),σ=[V<|.ref l,V<|.int p,V<|.ref T,V<|.ref R,v4,v5,v6,v7]/\iT Pt H H4/\BO Pt H4 R T L oo p i/\wd H L)
   (Y,Y,Y,Y,[],O,aL.sf sh,(az,(λr j=>nomatch j),.inl<|s3 _ _ d4,e7,v,a2,a7,ZG,tb.B sh),(lS,(λa ha=>nomatch ha))) (λi σ H4 _ (_,_,_,_,_,_,f,_)=>f.A3 hl) ?_ ?_)
  ·rintro i x pr σ H4 hx ⟨v4,v5,v6,v7,L,rfl,f4,I4,ap⟩ b8
   obtain⟨a,ea,rfl⟩:=fG hx;obtain⟨q,eq,hq⟩:=ht.F ea;have hi:i<oo.length:=(bY.mp eq).1;have s5:=aL.B (o:=.tup [.int i,.ref a]) b8;have f5:=f4.B<|aL.sf s5;have I5:=I4.B<|aL.sf s5;refine(pr,_,O,fg.B az,O,_,_,O,_,_,O,O,?_);generalize aD H4 pr (.tup [.int i,.ref a])=H5 at s5 f5 I5;refine(_,O,_,O,_,O,_,O,a,R,T,L,q,oo,i,p,O,f5.F hq,I5,eq,λu c g m n H6 f6 b9 a8 d5 e4 a3 a9 c0 e8 hw=>?_);have b0:=f5.B f6;have I6:=I5.B f6;have a6:∀b∈L.flatMap fA,∃o,H5 b=V o:=λb d=>by
    obtain⟨r,j,d⟩:=jN.mp d;obtain⟨X,hk⟩:=PO (I5.c r j) d;exact vk hk
   have cn:c∉L.flatMap fA:=λz=>by obtain⟨o,e⟩:=a6 c z;rw[b9] at e;cases e
   have gn:g∉L.flatMap fA:=λz=>by obtain⟨o,e⟩:=a6 g z;rw[a8] at e;cases e
   refine(_,O,u,_,0,.ref c,O,O,fg.B a3,O,c,bB m,O,a9,O,_,O,?_);rw[nD];have c1:=Ho I5.a<|qe hi;have a0:(jH L).length<bD:=by unfold jH;rw[au];exact jm (â (à c1 v))
   have b1:((gZ L).map (·.b)).Nodup:=I5.a.c.imp λh=>(õ h)
   by_cases hz:m.length=0
   ·have d6:m=[]:=kh hz
    subst d6;rw[bT (by rfl)];refine eS (_,O,a,_,O,.inr<|fg.B<|b0.F hq,_,_,O,O,_,O,_,O,u,_,1,.ref g,O,O,fg.B a3,O,bR 0#0,λt d8=>?_);have s7:=aL.B (o:=.tup [.int<|(aj af.int q).length-1,.int i,.non,.ref g,.non]) d8;refine(_,O,_,O,R,_,O,AF.k (k:=aN (i:Int)) (s7 _ _ I6.hR) a0,?_);have d:∀r∈L,r.x.b≠i:=λr j=>by
     have:=(pN I5.a<|aO.mpr (r,j,O)).a;have this:r.x.b<i:=this;exact õ this
    rw[aa5 d];have b2:jH L++[(aez ((aN (i:Int):aK)) (af.ref t))]=jH (L++[(((q.length:Int)-1,i,Y,n,[]),t,g,g)]):=by unfold jH;rw[bU];rfl
    have I:=s7 _ _ I6.hR;have M:=b0.B<|aL.sf (P:=Pt) (pos:=vT) (q:=vP) s7;have I7:=I6.B<|aL.sf (P:=Pt) (pos:=vT) (q:=vP) s7;have c2:=c0.B s7;have a1:=az (H:=H6) (a:=t) (o:=.tup [.int<|(aj af.int q).length-1,.int i,.non,.ref g,.non]);generalize aD H6 t (.tup [.int<|(aj af.int q).length-1,.int i,.non,.ref g,.non])=H7 at s7 I M I7 c2 a1;rw[au] at a1;refine(_,_,_,_,L++[(((q.length:Int)-1,i,Y,n,[]),t,g,g)],O,M.M b7 I,(by rw[az,b2],λr j=>?_,Bx I7.hT I,e7,v,a2,a7,?_,I7.d.F I (by intro ps z;cases z) (by intro ob u z;cases z)),ap.F (by simp[fA]) (λb d=>?_) (λb d=>?_))
    ·rcases dt.mp j with j|j
     ·exact Bu (I7.c r j) I
     ·rw[cT.mp j]
      exact Bu (c2,.inl (O,a1)) I
    ·have e:gZ (L++[(((q.length:Int)-1,i,Y,n,[]),t,g,g)])=gZ L++[((q.length:Int)-1,i,Y,n,[])]:=by unfold gZ;rw[bU];rfl
     rw[e];exact ZI e7 I5.a e8
    ·rw[cT.mp<|show b∈[g] from d];exact f5.c a8
    ·rw[cT.mp<|show b∈[g] from d];exact gn
   ·rw[cw (λz=>hz (by injection z with z;omega))]
    rcases hw with hw|⟨y,t0,hy,U,c3,eb,ed⟩
    ·exact bh (by rw[hw];rfl) hz
    subst eb;refine dT (_,O,_,O,u,_,0,.ref c,O,O,fg.B a3,O,_,O,c,T,m,oo,O,a9,I6.hT,e7.a,OW hz,λz b3=>(e8.b z b3).1,I6.d,λb y' e5 H7 M d9 c4=>?_);have c5:=hy.B e7 e8.l ω;have c6:=c4.B e7 e8.l ω;have et:=c5.B c6;subst et;have c7:=b0.B M;have I7:=I6.B M;have gT:gN H7 T 5#b (V<|.int U.x.b):=.inr (bB<|jY oo,y'.map aN,b,I7.hT,O,by rw[bN];exact d9,(F_ e7.a c4.2.1).symm);have c8:=M.tup a3;refine(T,_,O,gT,?_);refine(_,O,a,_,O,.inr<|fg.B<|c7.F hq,_,_,O,O,_,O,_,O,_,O,u,_,0,.ref c,O,O,fg.B c8,O,_,O,u,_,1,.ref g,O,O,fg.B c8,O,bR 0#0,λt a1=>?_);have s8:=aL.B (o:=.tup [.int<|(aj af.int q).length-2,.int U.x.b,.int i,.ref c,.ref g]) a1;have G:=s8 _ _ I7.hR;have f8:=c7.B<|aL.sf (P:=Pt) (pos:=vT) (q:=vP) s8;have I8:=I7.B<|aL.sf (P:=Pt) (pos:=vT) (q:=vP) s8;have c9:=(M.a a9).B s8;have d0:=(M.a c0).B s8;have b4:=az (H:=H7) (a:=t) (o:=.tup [.int<|(aj af.int q).length-2,.int U.x.b,.int i,.ref c,.ref g]);refine(_,O,_,O,R,_,O,AF.k (k:=aN (U.x.b:Int)) G a0,?_);generalize aD H7 t (.tup [.int<|(aj af.int q).length-2,.int U.x.b,.int i,.ref c,.ref g])=H8 at s8 G f8 I8 c9 d0 b4;rw[au] at b4;have b2:dZ (jH L) (aN (U.x.b:Int)) 5#t=jH (nC L (((q.length:Int)-2,U.x.b,V i,m,n),t,c,g)):=aa4 (x:=(((q.length:Int)-2,U.x.b,V i,m,n),t,c,g)) (U,c3,O);rw[b2];refine(_,_,_,_,nC L (((q.length:Int)-2,U.x.b,V i,m,n),t,c,g),O,f8.M b7 G,(az,λr j=>?_,Bx I8.hT G,e7,v,a2,a7,?_,I8.d.F G (by intro ps z;cases z) (by intro ob u z;cases z)),ap.B b1 ?_ (λb d=>?_) (λb d=>?_))
    ·obtain⟨z,b3,rfl⟩:=aO.mp j
     by_cases e:z.x.b=U.x.b
     ·rw[av e]
      exact Bu (c9,.inr (i,O,d0,b4)) G
     ·rw[am e]
      exact Bu (I8.c z b3) G
    ·rw[Ya]
     exact ZH e7 I5.a e8 (aO.mpr (U,c3,O)) ed c5
    ·show [c,g].Nodup
     simp[d5]
    ·have d:b∈[c,g]:=d
     rcases cz.mp d with rfl|d
     ·exact f5.c b9
     ·rw[cT.mp d];exact f5.c a8
    ·have d:b∈[c,g]:=d
     rcases cz.mp d with rfl|d
     ·exact cn
     ·rw[cT.mp d];exact gn
  ·rintro σ H4 ⟨v4,v5,v6,v7,L,rfl,f4,I4,ap⟩
   rw[au,d3] at I4;have c1:=Ho I4.a<|aV _;have b1:((gZ L).map (·.b)).Nodup:=I4.a.c.imp λh=>(õ h)
   have ez:(.b (jH L):df)=No (L.map λr=>(aez ((r.x.b:Int)) (af.ref r.t))):=by
    unfold jH;show _=df.b _;rw[bN];rfl
   refine(_,O,R,L.map λr=>(aez ((r.x.b:Int)) (af.ref r.t)),O,by rw[<-ez];exact I4.hR,by rw[au];exact â (à (ï c1) (ï v)),λS ms e0 d1 hS=>?_);have em:ms=rX L:=by
    refine abj (e0.trans ?_) d1 ?_
    ·rw[bN];exact DJ _
    ·have:=I4.a.c
     unfold rX;rw[ip] at this ⊢;rw[ip] at this;exact this.imp λh=>ω
   subst em;have s5:=aL.B (o:=.lst<|(rX L).map af.int) hS;refine(S,O,(_,bI.B az),λD hD=>eP<|Y_ (bI.B az) (s5 _ _ I4.hR) b1 (â (à c1 v)) hD λH6 s6 e1=>?_);have f6:iT Pt H4 H6:=aL.sf<|s5.F s6;have I6:=I4.B f6;have b5:∀b∈L.flatMap fA,∃X,cA H6 b (.a X):=λb d=>by
    obtain⟨r,j,d⟩:=jN.mp d;exact PO (I6.c r j) d
   refine(L.flatMap fA,λb d=>(ap.b b d,b5 b d),λH7 o7 d7=>?_);have M:iT Pt H6 H7:=Vi b5 o7 d7;refine k D L H7 ((f4.B f6).B M) ((f4.B<|aL.sf s5).c hD) (M.lst e1,λr j=>(I6.c r j).B M,I4.a) ap λb d=>?_;obtain⟨X,hk⟩:=b5 b d;exact(X,d7 b d X hk)
end
noncomputable def jj(x:dI):List af:=[.int x.a,.int x.b,match x.d with|none=>.non|some e=>.int e]
section
variable{P:bu}{w:bf}{K:aY}{mg:aq->Option aa}{base:aW}{f:W}{fd:cW}{Pt:W}
def qI.all(h:qI H r):∃a b:af,H r.t=V (.tup<|jj r.x++[a,b]):=by
 obtain⟨_,⟨e,h⟩|⟨e,c,_,h⟩⟩:=h
 ·exact(.ref r.c,.non,by rw[h];unfold jj;rw[e];rfl)
 ·exact(.ref r.c,.ref r.g,by rw[h];unfold jj;rw[c];rfl)
abbrev Os(K:aY):bd:=Ab (EN K) (bw 0) Ad<|Ac<|gh<|.int 3
def ab0{f:ab}{L:List fh}{Q:aU}(C:bI K f S (L.map λr=>af.ref r.t))(E:∀r∈L,qI f r)(P:L.length<=1000)(p:f D=Y)(k:∀(b:ab)(d:List W),aL f b->b D=V (.lst<|d.map af.ref)->eI (λu x=>b u=V (.tup x)) d ((gZ L).map jj)->Q 5#D b):dU (gY K S) (dw 0) ie (Os K) [Y] f D Q:=by
 have q:(L.map λr=>af.ref r.t).length=L.length:=au _;refine jT (xs:=L.map λr=>af.ref r.t) (λj n i b=>∃(v:Option af)(d:List W),n=[v]/\aL f b/\b D=V (.lst i)/\i=d.map af.ref/\eI (λu x=>b u=V (.tup x)) d (((gZ L).map jj).take j)) ?_ ?_ ?_ ?_
 ·exact(Y,[],O,aL.B p,az,O,.nil)
 ·rintro j n i b ⟨v,d,rfl,g,c,rfl,l⟩
  exact g.A1 C
 ·rintro j n i b x s G H ⟨v,d,rfl,g,c,rfl,l⟩
  rw[bV] at s;obtain⟨r,t,rfl⟩:=o_.mp s;have e:((gZ L).map jj)[j]?=V (jj r.x):=by rw[bV,bV,t];rfl
  obtain⟨w,y,I⟩:=(E r<|dh t).all;refine jD (_,O,3,O,r.t,_,O,fg.B<|g _ _ I,(show ¬(cC 5 0 Y=0/\cC 5 5 (V 3)=5) from ξ),λu M=>?_);have m:=aL.B (o:=.tup<|kr (jj r.x++[w,y]) Y<|V 3) M;refine fz (by rw[q];exact bR (â P)) G H (m _ _ c) (_,d++[u],O,(g.F m).N p,az,by rw[bU];rfl,?_);rw[cG e];have A:∀{a:W}{x:List af},aD b u (.tup<|kr (jj r.x++[w,y]) Y<|V 3) a=V (.tup x)->a≠D:=λh=>fW h (m _ _ c) (by intro z;cases z);refine wA (jF l λa x h=>?_) ?_
  ·rw[aZ<|A<|m _ _ h];exact m _ _ h
  ·rw[aZ<|A az,az];rfl
 ·rintro n i b ⟨v,d,rfl,g,c,rfl,l⟩
  rw[q,eV (by rw[au,au];exact aV _)] at l;exact k b d g c l
inductive AZ(K:aY)(Pt:W)(vs:List af)(H:ab)(Q:aU)(E':db):Prop
 |a:∀l as oo p,(vs=[.ref l,.int p])->(bI K H l<|as.map af.ref)->(bA H as oo)->(ky oo)->(oo.length<=200)->(lJ p)->(rY Pt H)->(∀D us xs H',iT Pt H H'->H D=Y->H' D=V (.lst<|us.map af.ref)->eI (λu x=>H' u=V (.tup x)) us (xs.map jj)->hG p oo oo.length xs->Q 5#D H')->AZ K Pt vs H Q E'
def YZ:dG ["order","prime"] ["order","prime"] (bX Hi):=(O,O,O,δ,O,δ,δ)
def aae(F:b_ K "bars" "bars" Hi f fd)(v:eG P w K mg base bx "paper" ["order","prime"] 6 (Gz K Pt)):ce P w K mg base bx 7 f fd ["order","prime"] (AZ K Pt):=by
 refine F.B YZ (λx H Q E h=>?_) (λy A g s H x Q E z h=>?_)
 ·obtain⟨l,n,o,p,rfl,_⟩:=h;rfl
 ·obtain⟨l,n,o,p,rfl,G,I,M,c,R,S,k⟩:=h
  refine(_,bF (cX (fe ["order","prime"] ["row"] [Y] (eO<|eE v z O cF<|ao 7#0<|ao 7#1 aF) (λq C a b r=>cx (i:=0) (eF ["row"]) O<|ai O) (λq C a b r=>iu)
   (λq C a b r=>qq EJ 7#0 nz<|ny bb) (hfr:=oy δ) (te:=Os K))),?_)
  refine(_,O,_,O,l,n,o,p,O,G,I,M,c,R,S,λD L H1 t T d ap hf=>?_);have u:=Ho d.a<|aV _;refine(D,O,(_,bI.B d.b),λU e=>eP<|ab0 (bI.B d.b) d.c (â (à u c)) e λX us s3 j m=>?_);exact k U us (gZ L) X (t.B<|aL.sf s3) (t.c e) j m d.a
end
noncomputable abbrev yp:cJ:=dW 20
noncomputable abbrev Hj:cJ:=dW 21
def HK:iY "sum"=V (.builtin "sum"):=δ
abbrev Oo(K:aY):bd:=oq (yr K)<|eR (bw 0) gg
section
variable{P:bu}{w:bf}{K:aY}{mg:aq->Option aa}{base:aW}
def aaz{f:List W}{Q:aU}(n:bI K c L (f.map af.ref))(l:bA c f g)(z:g.length<=1000)(m:c D=Y)(k:∀b,aL c b->b D=V (.lst<|(nF g).map af.int)->Q 5#D b):dU (gY K L) (dw 0) ie (Oo K) [Y] c D Q:=by
 have i:=l.B;refine jT (xs:=f.map af.ref) (λj h e b=>∃v:Option af,h=[v]/\aL c b/\b D=V (.lst e)/\e=(nF<|g.take j).map af.int) ?_ ?_ ?_ ?_
 ·exact(Y,O,aL.B m,az,O)
 ·rintro j h e b ⟨v,rfl,d,a,rfl⟩
  exact d.A1 n
 ·rintro j h e b x q r s ⟨v,rfl,d,a,rfl⟩
  obtain⟨o,t,rfl⟩:=fG q;obtain⟨p,u,w⟩:=l.F t;have y:(f.map af.ref).length<=bD:=by rw[au];exact bR (â (à (å i) z))
  refine jD ?_;refine(_,O,o,_,O,.inr<|fg.B<|d.J w,fz y r s a (_,O,d.N m,az,?_));unfold nF;rw[cG u,bU,bU,au]
  rfl
 ·rintro h e b ⟨v,rfl,d,a,rfl⟩
  rw[au,i,eV<|aV _] at a;exact k b d a
def aa0{M:Int}(h:M∈nF a):0<=M:=by
 obtain⟨p,_,rfl⟩:=aO.mp h;omega
def aa1(h:nF a=[]):(0:Int)=(mw a:Int):=by
 have:a=[]:=DA.mp h;rw[this];rfl
end
abbrev Gf(K:aY):bd:=EH K "list" Ag (bw 1)<|eR (dk (jB λi j=>.int<|i+j) (bw 0)<|gh<|.int 1) gg
section
variable{P:bu}{w:bf}{K:aY}{mg:aq->Option aa}{base:aW}
def ab4{d:ab}{n:Nat}{Q:aU}(i:d L=V (.lst<|(nF c).map af.int))(p:n<=1000)(l:d D=Y)(k:∀a,aL d a->a D=V (.lst<|((cr n).map<|mZ c).map af.int)->Q 5#D a):dU (jX 0 n) (dw 0) ie (Gf K) [Y,V<|.ref L] d D Q:=by
 refine qw (λj h g a=>∃v:Option af,h=[v,V<|.ref L]/\aL d a/\a D=V (.lst g)/\g=(((cr n).map<|mZ c).take j).map af.int) ?_ ?_ ?_
 ·exact(Y,O,aL.B l,az,O)
 ·rintro j h g a m o ⟨v,rfl,f,b,rfl⟩
  have e:((cr n).map<|mZ c)[j]?=V (mZ c j):=by rw[bV,pf m];rfl
  refine jD ?_;refine(_,O,.inl (O,_,bI.B<|f _ _ i),_,O,_,_,O,O,L,nF c,_,O,O,f _ _ i,?_);rw[show(0:Int)+((j:Nat):Int)+1=((j:Nat):Int)+1 from ω,ac5];exact fz (bR (â p)) m o b (_,O,f.N l,az,by rw[cG e,bU];rfl)
 ·rintro h g a ⟨v,rfl,f,b,rfl⟩
  rw[eV 0#0] at b;exact k a f b
inductive GO(K:aY)(vs:List af)(H:ab)(Q:aU)(E':db):Prop
 |a:∀l as pss,(vs=[.ref l])->(bI K H l<|as.map af.ref)->(bA H as pss)->(rQ pss)->(∀D H2,aL H H2->H D=Y->H2 D=V (.lst<|(sj<|bC pss).map af.int)->Q 5#D H2)->GO K vs H Q E'
def OF:dG ["web","lengths"] ["web"] (bX yp):=(O,O,O,δ,O,δ,δ)
def PR(hw:jr a=ae):∀p∈bC a,p.length<=5:=λp c=>by
 obtain⟨_,b,_,_⟩:=ua hw;obtain⟨q,d,e⟩:=jN.mp<|sf.mp c;exact(kP.mp<|HZ (b q d) e).2.1
def aab{f t:W}(F:b_ K "counts" "counts" yp f T)(a1:fN mg)(bm:mg "max"=Y)(Fp:b_ K "pieces" "pieces" yk t d)(bp:eQ K d ["web"] [])(mp:mg "pieces"=V 5#t)(Gp:ce P w K mg base bx 8 t d ["web"] (AV K)):ce P w K mg base bx 9 f T ["web"] (GO K):=by
 refine F.B OF (λvs H Q E h=>?_) (λa0 A u s H vs Q E hr h=>?_)
 ·obtain⟨l,U,c,rfl,_⟩:=h;rfl
 ·obtain⟨l,U,c,rfl,hl,ht,v,k⟩:=h
  obtain⟨_,_,_,X⟩:=ua v.1;have h5:=Qk<|PR v.1;refine(_,bj (cq (i:=1) OF.a O (aw O) (fe ["web","lengths"] ["piece"] [Y] (eO<|gB Gp hr O mp Fp.a bp .nil cF<|ao 7#0 aF) (λe C a b g=>cx (i:=0) (eF ["piece"]) O<|ai O)
    (λe C a b g=>iu) (λe C a b g=>dM fX O a1.a fq<|ao 7#0 aF) (hfr:=oy δ) (te:=Oo K)))
   (bF (cX (fe ["web","lengths"] ["k","lengths"] [Y,V 1] (ou O a1.b<|ao (We O bm vZ (ao 7#1 aF) bb O) aF) (λe C a b g=>cx (i:=0) (eF ["k","lengths"]) O<|ai O)
    (λe C a b g=>iu) (λe C a b g=>lv nM Js RU Ff 7#1<|ao (bW iv 7#0 bb) aF) (hfr:=ii (bX yp) δ) (te:=Gf K)))),?_)
  refine(_,O,l,U,c,O,hl,ht,v,λL H2 bs sm hL m hb=>(L,O,(_,bI.B m),λD hD=>eP<|aaz (bI.B m) hb (by rw[sn];exact â X) hD λH3 n o=>?_));have p:∀M:Int,M=(mw (bC c):Int)->∃j:Int,[af.int M]=[af.int j]/\-(2 ^ 62)<=j/\j<2 ^ 62/\∀r,H3 r=Y->dU (jX 0 j.toNat) (dw 0) ie (Gf K) [Y,V<|.ref D] H3 r Q:=by
   rintro M rfl;refine(_,O,ω,ω,λr q=>ab4 o ω q λH4 x y=>k r H4 ((sm.F n).F x) (sm.A0<|n.A0 q) y)
  refine(_,O,D,nF<|bC c,_,O,O,bI.B o,λh0=>?_,λM hM z=>?_)
  ·obtain⟨j,G,I,R,S⟩:=p 0<|aa1 h0
   exact(j,G,I,R,S)
  ·obtain⟨j,G,I,R,S⟩:=p M<|ac0 (aa0 hM) (.inr hM) z
   exact(j,G,I,R,S)
inductive A_(K:aY)(vs:List af)(H:ab)(Q:aU)(E':db):Prop
 |a:∀l as pss,(vs=[.ref l])->(bI K H l<|as.map af.ref)->(bA H as pss)->(rQ pss)->(∀H2,aL H H2->Q (.int<|oQ<|sj<|bC pss) H2)->A_ K vs H Q E'
def OG:dG ["web","told"] ["web"] (bX Hj):=(O,O,O,δ,O,δ,δ)
def OM(a:List Int)(b:Option Int)(c:b=Y\/b=V 1)(h:a.length<=5):(ot a b Y<|V 2).length<=bD:=by
 refine VZ a _ _ _<|bR ?_;have:∀n,n<=5->(yP (il Y Y (V 2) n).fst (il Y Y (V 2) n).snd.fst (il Y Y (V 2) n).snd.snd).length<=100000/\(yP (il (V 1) Y (V 2) n).fst (il (V 1) Y (V 2) n).snd.fst (il (V 1) Y (V 2) n).snd.snd).length<=100000:=δ
 rcases c with rfl|rfl
 ·exact(this _ h).1
 ·exact(this _ h).2
def aaf{n b:cW}(F:b_ K "balance" "balance" Hj f n)(p:mg "sum"=Y)(t:b_ K "counts" "counts" yp g b)(u:eQ K b ["web"] [])(v:mg "counts"=V 5#g)(x:ce P w K mg base bx 9 g b ["web"] (GO K)):ce P w K mg base bx 10 f n ["web"] (A_ K):=by
 refine F.B OG (λy H Q E h=>?_) (λz A j s H y Q E C h=>?_)
 ·obtain⟨l,q,a,rfl,_⟩:=h;rfl
 ·obtain⟨l,q,a,rfl,D,G,r,k⟩:=h
  have I:=Qk<|PR r.1;have c:(sj<|bC a).length<=5:=by unfold sj;simpa using I
  refine(_,bj (cq (i:=1) OG.a O (ai O)<|gB x C O v t.a u .nil cF<|ao 7#0 aF)
  <|bF<|cX<|bW mS (dM (FC O) O p HK<|ao (Mv 7#1 nz nz<|ny bb) aF)<|dM (FC O) O p HK<|ao (Mv 7#1 (ny bb) nz<|ny bb) aF,?_)
  refine(_,O,l,q,a,O,D,G,r,λT S L U d=>?_);refine(_,O,_,O,T,_,O,bI.B d,ξ,OM _ _ (.inl O) c,λM e=>(M,_,O,bI.B az,?_));refine(_,O,_,O,_,O,T,_,O,bI.B<|aL.B e _ _ d,ξ,OM _ _ (.inr O) c,λR m=>(R,_,O,bI.B az,_,_,O,O,?_));have:=k _<|(L.F<|aL.B e).F<|aL.B (o:=.lst<|(ot (sj<|bC a) (V 1) Y<|V 2).map af.int) m;rw[<-ada _ c] at this;exact this
end
noncomputable abbrev yi:cJ:=dW 22
noncomputable abbrev Bh:cJ:=dW 23
def BP(d:W)(H a:ab):Prop:=∀b u,b≠d->H b=V u->a b=V u
noncomputable def eH(a:Int->Int)(l:List Int):List (aK×af):=l.map λp=>(aez (aN p) (af.int<|a p))
def aak(b:Int->Int){l:List Int}(h:l.Nodup):((eH b l).map (·.1)).Nodup:=by
 unfold eH;rw[bN];exact ip.mpr<|h.imp λa e=>a 6#e
def Hs(a:Int->Int){l:List Int}(h:l.Nodup){p:Int}(b:p∈l):fm (eH a l) (aN p)=V (af.int<|a p):=
 Lr (aak a h)<|aO.mpr (p,b,O)
def O_(a:Int->Int){l:List Int}{p:Int}(h:p∉l):dZ (eH a l) (aN p) (af.int<|a p)=eH a (l++[p]):=by
 rw[Mi _<|Lq λd b e=>?_]
 ·unfold eH;rw[bU];rfl
 ·obtain⟨q,c,rfl⟩:=aO.mp b
  have:q=p:=by simpa using e
  exact h<|this▸c
section
variable{P:bu}{w:bf}{K:aY}{mg:aq->Option aa}{base:aW}
inductive Gy(vs:List af)(H:ab)(Q:aU)(E':db):Prop
 |a:∀d new old nm l,(vs=[.ref d,.int new,.int old])->(H d=V (.b<|eH nm l))->(l.Nodup)->(l.length<=1000)->(∀T H2,BP d H H2->H T=Y->H2 T=V (.b<|eH (λp=>if nm p=old then new else nm p) l)->Q 5#T H2)->Gy vs H Q E'
def GX:dG ["names","new","old","told","point"] ["names","new","old"] (bX Bh):=(O,O,O,δ,O,δ,δ)
def ZU(F:b_ K "renamed" "renamed" Bh f fd):ce P w K mg base bx 1 f fd ["names","new","old"] Gy:=by
 refine F.B GX (λvs H Q E h=>?_) (λa2 A X s H vs Q E hr h=>?_)
 ·obtain⟨d,m,j,a,l,rfl,_⟩:=h;rfl
 ·obtain⟨d,m,j,a,l,rfl,hd,hn,hl,k⟩:=h
  have hu:=ko hr;refine(_,bj (cq (i:=3) GX.a O (ai O) xz)
   (bj (gz ga O (Mr<|ah 0) (cx (i:=4) GX.a O<|ai O)
   <|bF<|lZ hu 7#3 7#4 (Mw (dD jS (gi hu 7#0 7#4 (λ_ _=>O)) 7#2<|dF _) 7#1<|gi hu 7#0 7#4 (λ_ _=>O)) O)
  <|bF<|cX<|ah 3),?_)
  intro T M;have x:d≠T:=cN hd M;have a0:aD H T (.b []) d=V (.b<|eH a l):=by rw[aZ x];exact hd
  refine(_,O,d,_,O,a0,λo=>M_ (λi R n=>∃v:Option af,R=[V<|.ref d,V<|.int m,V<|.int j,V<|.ref T,v]/\BP d H n/\n d=V (.frz o<|.b<|eH a l)/\n T=V (.b<|eH (λp=>if a p=j then m else a p)<|l.take i))
   (Y,O,λb u hb e=>by rw[aZ hb,aZ<|cN e M];exact e,az,by rw[aZ x.symm];exact az) (λi R n _ (_,_,_,h,_)=>h) ?_ ?_)
  ·rintro i kv R n y ⟨v,rfl,sx,z,r⟩
   have C:(eH a l).length=l.length:=by unfold eH;rw[au]
   have S:i<l.length:=by rw[<-C];exact(bY.mp y).1
   have D:l[i]?=V l[i]:=cB S;have a1:kv=(aez (aN l[i]) (af.int<|a l[i])):=by
    have:(eH a l)[i]?=V (aez (aN l[i]) (af.int<|a l[i])):=by unfold eH;rw[bV,D];rfl
    rw[this] at y;exact(bM y).symm
   subst a1;have t:l[i]∈l:=mK S;generalize l[i]=q at D t;have g:gN n d (cR<|aN q) (V<|af.int<|a q):=.inl (_,aN q,.inr (o,z),O,(Hs a hn t).symm);have G:q∉l.take i:=λhm=>by
    have:=hn;rw[<-uH i l,pn S,kg] at this;refine this.2.2 q hm q ?_ O;have:l[i]=q:=by rw[cB S] at D;exact bM D
    rw[this];exact fE
   have I:∀(c:Int),c=(if a q=j then m else a q)->dZ (eH (λp=>if a p=j then m else a p)<|l.take i) (aN q) (af.int c)=eH (λp=>if a p=j then m else a p) (l.take<|i+1):=by
    rintro c rfl;rw[cG D];exact O_ _ G
   have L:∀(c:Int),c=(if a q=j then m else a q)->∃v:Option af,[V<|af.ref d,V<|.int m,V<|.int j,V<|.ref T,V<|cR<|aN q]=[V<|af.ref d,V<|.int m,V<|.int j,V<|.ref T,v]/\BP d H (aD n T<|.b<|dZ (eH (λp=>if a p=j then m else a p)<|l.take i) (aN q)<|af.int c)/\
     aD n T (.b<|dZ (eH (λp=>if a p=j then m else a p)<|l.take i) (aN q)<|af.int c) d=V (.frz o<|.b<|eH a l)/\aD n T (.b<|dZ (eH (λp=>if a p=j then m else a p)<|l.take i) (aN q)<|af.int c) T=V (.b<|eH (λp=>if a p=j then m else a p)<|l.take<|i+1):=by
    intro c hc;refine(_,O,λb u hb e=>?_,?_,?_)
    ·rw[aZ<|cN e M];exact sx b u hb e
    ·rw[aZ x];exact z
    ·rw[az,I c hc]
   have hz:(eH (λp=>if a p=j then m else a p)<|l.take i).length<bD:=EI (by unfold eH;rw[au,dR];omega);refine(_,O,_,O,d,_,O,g,_,O,O,_,O,?_);refine oz (λU=>?_) (λU=>?_)
   ·have:a q=j:=by have:=fc U;injection this
    exact(_,O,_,O,_,O,T,_,O,AF.k r hz,L m (by rw[av this]))
   ·have:¬a q=j:=λe=>by rw[e] at U;simp at U
    exact(_,O,_,O,d,_,O,g,_,O,_,O,T,_,O,AF.k r hz,L (a q) (by rw[am this]))
  ·rintro R n ⟨v,rfl,sx,z,r⟩
   rw[show(eH a l).length=l.length by unfold eH;rw[au],eV<|aV _] at r;exact(_,O,k T n sx M r)
end
def oP(H:ab)(c:List W)(b:Ξ):Prop:=c.length=b.length/\∀(j:Nat) a l,c[j]?=V a->b[j]?=V l->H a=V (.lst<|l.map af.int)
noncomputable def oP.B{b:Ξ}(h:oP H d b)(s:aL H c):oP c d b:=(h.1,λj a l e f=>s _ _<|h.2 j a l e f)
def oP.F{b:Ξ}(h:oP H c b){j:Nat}(e:c[j]?=V a):∃l,b[j]?=V l/\H a=V (.lst<|l.map af.int):=by
 have d:j<b.length:=by rw[<-h.1];exact(bY.mp e).1
 exact(_,cB d,h.2 j a _ e<|cB d)
noncomputable def oP.J(h:oP H d c){b:W}(i:b∉d):oP (aD H b o) d c:=
 (h.1,λj a l g k=>by
  have f:a≠b:=λe=>i (by rw[<-e];exact dh g);rw[aZ f];exact h.2 j a l g k)
noncomputable def jZ(a:List Int)(b:List W):List (aK×af):=(a.zip b).map λx=>(aez (aN x.1) (af.ref x.2))
def abb{a:List Int}{b:List W}(c:b.length=a.length):(jZ a b).map (·.1)=a.map aN:=by
 unfold jZ;rw[bN,show((λ(x:aK×af)=>x.1) ∘ λ(x:Int×W)=>(aez ((aN x.1:aK)) (af.ref x.2)))=(aN ∘ ni) from O,<-bN,zx (æ c)]
def aa9{a:List Int}{c:List W}(d:c.length=a.length)(f:a.Nodup):((jZ a c).map (·.1)).Nodup:=by
 rw[abb d];exact ip.mpr<|f.imp λb e=>b 6#e
def aa7{b:List Int}{a:List W}(c:a.length=b.length):(jZ b a).map (·.2)=a.map af.ref:=by
 unfold jZ;rw[bN,show((λ(x:aK×af)=>x.2) ∘ λ(x:Int×W)=>(aez ((aN x.1:aK)) (af.ref x.2)))=(af.ref ∘ nh) from O,<-bN,SL (å c)]
def abc{c:List Int}{b:List W}(g:b.length=c.length)(h:c.Nodup){k:Int}(i:k∈c):∃(j:Nat)(a:W),c[j]?=V k/\b[j]?=V a/\fm (jZ c b) (aN k)=V 5#a:=by
 obtain⟨j,l,e⟩:=np.mp i;have d:c[j]?=V k:=by rw[cB l,e]
 have f:b[j]?=V b[j]:=cB (à l (æ g));refine(j,b[j],d,f,Lr (aa9 g h) ?_);unfold jZ;refine aO.mpr ((aez k (b[j])),?_,O);exact gW.mpr (j,by rw[pF,d,f];rfl)
def aba{a:List Int}{b:List W}{k:Int}(c:k∉a):fm (jZ a b) (aN k)=Y:=Lq λf h e=>by
 obtain⟨x,d,rfl⟩:=aO.mp h;have:x.1=k:=by simpa using e
 exact c<|this▸(zt d).1
def aa8{b:List Int}{c:List W}(d:c.length=b.length)(k:Int)(a:W):jZ b c++[(aez (aN k) (af.ref a))]=jZ (b++[k]) (c++[a]):=by
 unfold jZ;rw[List.zip_append d.symm,bU]
 rfl
def OK(l:Ξ)(x:Int):dJ (l++[[x]])=dJ l++[x]:=by unfold dJ;rw[jb,bU];rfl
def ZC(l:Ξ){p:List Int}(h:p.length≠1):dJ (l++[p])=dJ l:=by unfold dJ;rw[jb,k_ 6#h,qg,jy]
noncomputable def BP.B(g:BP d H e)(i:H d=V (.b c)){b:Ξ}(h:bA H f b):bA e f b:=
 jF h λa j q=>g a _ (fW q i (by intro z;cases z)) q
noncomputable abbrev pR(a:Int->Int)(l:List Int)(k:Int):List Int:=l.filter λp=>aE<|a p=k
def BG(a:Int->Int)(l:List Int)(p k:Int):pR a (l++[p]) k=pR a l k++(if a p=k then [p] else []):=by
 unfold pR;rw[jb]
 by_cases h:a p=k
 ·rw[av h,mL 6#h];rfl
 ·rw[am h,k_ 6#h];rfl
def yu{d:Type}{l:List d}(h:l.Nodup){i j:Nat}{a b:d}(o:l[i]?=V a)(p:l[j]?=V b)(c:i≠j):a≠b:=λe=>by
 subst e;obtain⟨f,g⟩:=bY.mp o;obtain⟨k,m⟩:=bY.mp p;have n:=pc.mp h;rcases SB c with q|q
 ·exact n i j f k q<|g.trans m.symm
 ·exact n j i k f q<|m.trans g.symm
def oP.N{i:List W}{d l:List Int}{j:Nat}(h:oP H i (d.map<|pR f l))(p:i.Nodup)(r:d.Nodup)(n:d[j]?=V (f q))(o:i[j]?=V a):oP (aD H a<|.lst<|(pR f l<|f q).map af.int++[.int q]) i (d.map<|pR f<|l++[q]):=by
 refine(by rw[h.1,au,au],λm b x k g=>?_);rw[bV] at g;cases c:d[m]? with
 |none=>rw[c] at g;cases g
 |some s=>
  rw[c] at g;obtain rfl:=bM g
  by_cases e:m=j
  ·subst e
   rw[o] at k;obtain rfl:=bM k;rw[n] at c;obtain rfl:=bM c;rw[az,BG,av O,bU]
   rfl
  ·rw[aZ<|yu p k o e,BG,am<|yu r n c<|dp e,jy]
   exact h.2 m b _ k (by rw[bV,c];rfl)
noncomputable def oP.M{g:W}{i:List W}{a l:List Int}(h:oP H i (a.map<|pR c l))(m:c q∉a)(o:g∉i)(r:∀p∈l,c p∈a):oP (aD H g<|.lst [.int q]) (i++[g]) ((a++[c q]).map<|pR c<|l++[q]):=by
 have n:i.length=a.length:=by rw[h.1,au]
 refine(by simp[n],λj b x d f=>?_);rw[bV] at f
 by_cases e:j<a.length
 ·rw[ph e,cB e] at f
  rw[ph (à e (æ n))] at d;obtain rfl:=bM f;have k:b≠g:=λz=>o (by rw[<-z];exact dh d);rw[aZ k,BG,am (λz=>m (by rw[z];exact mK e)),jy];exact h.2 j b _ d (by rw[bV,cB e];rfl)
 ·have s:j=a.length:=by
   have:=(bY.mp d).1;simp at this;exact û (à (ò this) (å n)) (ô e)
  subst s;rw[pg<|aV _,wM] at f;rw[pg (å n),n,wM] at d;obtain rfl:=bM f;obtain rfl:=bM d;rw[az,BG,av O,show pR c l (c q)=[] from SU.mpr λp t z=>m<|(fc z)▸r p t]
  rfl
section
variable{P:bu}{w:bf}{K:aY}{mg:aq->Option aa}{base:aW}
noncomputable abbrev vS(a:Ξ):Int->Int:=kb<|mx<|bC a
inductive AT(K:aY)(vs:List af)(H:ab)(Q:aU)(E':db):Prop
 |b:∀l as pss,(vs=[.ref l])->(bI K H l<|as.map af.ref)->(bA H as pss)->(rQ pss)->(∀D H2 ls,aL H H2->H D=Y->(∀a∈ls,H a=Y)->ls.Nodup->D∉ls->H2 D=V (.lst<|ls.map af.ref)->oP H2 ls (BS (vS pss)<|dJ<|bC pss)->Q 5#D H2)->AT K vs H Q E'
def rV:dG ["web","every","names","piece","found","point"] ["web"] (bX yi):=(O,O,O,δ,O,δ,δ)
def ZS(F:b_ K "shares" "shares" yi f fd)(f7:fN mg)(Fp:b_ K "pieces" "pieces" yk fp b6)(bp:eQ K b6 ["web"] [])(mp:mg "pieces"=V 5#fp)(Gp:ce P w K mg base bx 8 fp b6 ["web"] (AV K))(Fr:b_ K "renamed" "renamed" Bh fr b7)(br:eQ K b7 ["names","new","old"] [])(mr:mg "renamed"=V 5#fr):ce P w K mg base bx 9 f fd ["web"] (AT K):=by
 have Gr:ce P w K mg base bx 1 fr b7 ["names","new","old"] Gy:=ZU Fr;refine F.B rV (λvs H Q E h=>?_) (λd7 A b8 s H vs Q E hr h=>?_)
 ·obtain⟨l,as,c,rfl,_⟩:=h;rfl
 ·obtain⟨l,as,c,rfl,hl,ht,hw,k⟩:=h
  have hu:=ko hr;have d8:fM 1 _:=hr.B ξ;obtain⟨_,f4,_,c2⟩:=ua hw.1;have d9:(bC c).length<=200:=by rw[sn];exact c2
  have e1:=Qc c;have b0:(dJ<|bC c).Nodup:=e1.imp aja;have f5:(dJ<|bC c).length<=200:=by unfold dJ;rw[au];exact dq (sW _ _) d9
  have c3:∃tt,kJ (qv bx P w K mg base ["web","every","names","piece","found","point"] "shares" (bX yi) f d7 A b8 s H E).M (po 4<|pK yi) tt/\
    ∀(EV d:W)(v3:Option af)(n:Int->Int)(H2:ab),n=vS c->aL H H2->H d=Y->H2 d=V (.b<|eH n<|dJ<|bC c)->
     tt {a:=λ_ H'=>Q .non H',d:=Q} [V<|.ref l,V<|.ref EV,V<|.ref d,v3,Y,Y] H2:=by
   refine(_,bj (cq (i:=4) rV.a O (ai O) xz)
    (bj (gz ga O (Mr<|ah 2) (cx (i:=5) rV.a O<|ai O)
    <|bF<|mR<|lv nM uz wD rI (lv Jt agi PySem.F.type_dict_setdefault Wv 7#4<|ao (gi hu 7#2 7#5 (λ_ _=>O))<|ao (je aF) aF)<|ao 7#5 aF)
   <|bF<|cX<|gA (XE O) O f7.list j_<|ao (Wj Jt agh PySem.F.type_dict_values Wt<|ah 4) aF),?_)
   intro EV d v3 n H2 e2 sm a7 hd;intro F' hF;subst e2;generalize vS c=n at hd k;have c4:H F'=Y:=sm.A0 hF;have b9:d≠F':=cN hd hF;have e3:aD H2 F' (.b []) d=V (.b<|eH n<|dJ<|bC c):=by rw[aZ b9];exact hd
   refine(_,O,d,_,O,e3,λo=>M_ (λi σ M=>∃(v5:Option af)(R:List W),σ=[V<|.ref l,V<|.ref EV,V<|.ref d,v3,V<|.ref F',v5]/\aL H M/\M d=V (.frz o<|.b<|eH n<|dJ<|bC c)/\R.Nodup/\(∀a∈R,H a=Y/\a≠F'/\a≠d)/\
     M F'=V (.b<|jZ (gF<|((dJ<|bC c).take i).map n) R)/\oP M R ((gF<|((dJ<|bC c).take i).map n).map<|pR n<|(dJ<|bC c).take i))
    (Y,[],O,λb u e=>by rw[aZ<|cN e a7,aZ<|cN e c4];exact sm _ _ e,az,lS,(λa ha=>bh ha 0#0),by rw[aZ b9.symm];exact az,O,λj a x hj _=>by simp at hj) (λi σ M _ (_,_,_,_,h,_)=>h) ?_ ?_)
   ·rintro i kv σ M c0 ⟨v5,R,rfl,C,t,a8,G,I,S⟩
    generalize f2:dJ (bC c)=m at *;have c5:(eH n m).length=m.length:=by unfold eH;rw[au]
    have hi:i<m.length:=by rw[<-c5];exact(bY.mp c0).1
    have el:m[i]?=V m[i]:=cB hi;have b2:m[i]∈m:=mK hi;have e4:kv=(aez (aN m[i]) (af.int<|n m[i])):=by
     have:(eH n m)[i]?=V (aez (aN m[i]) (af.int<|n m[i])):=by unfold eH;rw[bV,el];rfl
     rw[this] at c0;exact(bM c0).symm
    subst e4;generalize m[i]=q at el b2;have g:∀H4:ab,H4 d=V (.frz o<|.b<|eH n m)->gN H4 d (cR<|aN q) (V<|af.int<|n q):=λH4 h4=>.inl (_,aN q,.inr (o,h4),O,(Hs n b0 b2).symm);have b1:R.length=(gF<|(m.take i).map n).length:=by rw[S.1,au]
    have c6:∀p∈m.take i,n p∈gF ((m.take i).map n):=λp hp=>(BY _ _).mpr<|Dx hp;have f6:(gF<|(m.take i).map n).length<=200:=by
     have:=(Ia<|(m.take i).map n).length_le_of_subset (l₂:=(m.take i).map n) λx h=>(BY _ x).mp h;rw[au,dR] at this;omega
    have hz:(jZ (gF<|(m.take i).map n) R).length<bD:=EI (by unfold jZ;rw[au,uK];omega);have a1:gF ((m.take<|i+1).map n)=pV (gF<|(m.take i).map n) (n q):=by rw[cG el,bU];exact B_ _ _
    have c7:m.take (i+1)=m.take i++[q]:=cG el;refine(_,O,.inr<|.inr<|.inl (O,.inl (_,I)),_,O,_,O,d,_,O,g M t,bR 0#0,λL0 a6=>(F',_,aN<|n q,.ref L0,O,O,aL.B a6 _ _ I,hz,?_));have b3:H L0=Y:=C.A0 a6;have c1:L0≠F':=(cN I a6).symm;have c8:L0≠d:=(cN t a6).symm;have b4:L0∉R:=λhm=>by
     obtain⟨j,hj⟩:=zA hm;obtain⟨x,_,hx⟩:=S.F hj;exact bh a6 (by rw[hx];simp)
    have sN:=aL.B (o:=.lst []) a6;have a2:=S.B sN;have c9:=sN _ _ I;have r:=sN _ _ t;have d0:aD M L0 (.lst []) L0=V (.lst []):=az;have L:=C.F sN;generalize aD M L0 (.lst [])=H4 at a2 c9 r d0 L
    by_cases hk:n q∈gF ((m.take i).map n)
    ·obtain⟨j,a,ej,ea,ev⟩:=abc b1 (Ia _) hk
     have d1:=a2.2 j a _ ea (by rw[bV,ej];rfl);obtain⟨e5,e6,e7⟩:=G a<|dh ea;have U:pV (gF<|(m.take i).map n) (n q)=gF ((m.take i).map n):=by unfold pV;rw[av hk]
     refine .inl (_,ev,.inl (O,_,bI.B d1),_,O,a,_,_,O,O,d1,jm (by rw[au];exact dq (sW _ _) (by rw[dR];omega)),(_,R,O,λb u e=>by rw[aZ<|cN e e5];exact L _ _ e,by rw[aZ e7.symm];exact r,a8,G,?_,?_))
     ·rw[aZ e6.symm,a1,U];exact c9
     ·rw[a1,U,c7]
      exact a2.N a8 (Ia _) ej ea
    ·have U:pV (gF<|(m.take i).map n) (n q)=gF ((m.take i).map n)++[n q]:=by unfold pV;rw[am hk]
     have e0:fm (jZ (gF<|(m.take i).map n) R) (aN<|n q)=Y:=aba hk;have d2:aD H4 F' (.b<|dZ (jZ (gF<|(m.take i).map n) R) (aN<|n q)<|.ref L0) L0=V (.lst []):=by rw[aZ c1];exact d0
     refine .inr (e0,.inl (O,_,bI.B d2),_,O,L0,_,_,O,O,d2,jm 0#0,(_,R++[L0],O,λb u e=>by rw[aZ<|cN e b3,aZ<|cN e c4];exact L _ _ e,?_,?_,?_,?_,?_))
     ·rw[aZ c8.symm,aZ b9];exact r
     ·rw[kg]
      exact(a8,by simp,λa ha b hb e=>by
       have:b=L0:=by simpa using hb
       subst this;subst e;exact b4 ha)
     ·intro a ha
      rcases dt.mp ha with h|h
      ·exact G a h
      ·have:a=L0:=by simpa using h
       subst this;exact(b3,c1,c8)
     ·rw[aZ c1.symm,az,Mi _ e0,aa8 b1,a1,U]
     ·rw[a1,U,c7]
      exact oP.M (a2.J λhm=>(G _ hm).2.1 O) hk b4 c6
   ·rintro σ M ⟨v5,R,rfl,C,t,a8,G,I,S⟩
    rw[show(eH n<|dJ<|bC c).length=(dJ<|bC c).length by unfold eH;rw[au],eV<|aV _] at I S;have b1:R.length=(gF<|(dJ<|bC c).map n).length:=by rw[S.1,au]
    refine(_,O,.inr<|.inr<|.inl (O,.inl (_,I)),F',_,O,O,I,λv hv=>(v,F',_,O,az,aL.B hv _ _ I,λD hD=>?_));have s5:=(C.F<|aL.B (o:=tC v F') hv);have s6:=s5.F (aL.B (o:=.lst ((jZ (gF<|(dJ<|bC c).map n) R).map (·.2))) hD);have d3:=(S.B<|aL.B (o:=tC v F') hv).B (aL.B (o:=.lst ((jZ (gF<|(dJ<|bC c).map n) R).map (·.2))) hD);refine k D _ R s6 (s5.A0 hD) (λa ha=>(G a ha).1) a8 (λhm=>?_) (by rw[az,aa7 b1]) d3;obtain⟨j,hj⟩:=zA hm;obtain⟨x,_,hx⟩:=(S.B<|aL.B (o:=tC v F') hv).F hj;exact bh hD (by rw[hx];simp)
  obtain⟨tt,e8,d4⟩:=c3;refine(_,bj (cq (i:=1) rV.a O (ai O)<|gB Gp hr O mp Fp.a bp .nil cF<|ao 7#0 aF)
   (bj (cq (i:=2) rV.a O (ai O) xz)
   (bj (gz ga O (eO<|ah 1) (cx (i:=3) rV.a O<|ai O)
   <|bF<|fL (dD jS (dM fX O f7.a fq<|ao 7#3 aF) bb<|dF _) (bF<|lZ hu 7#2 (eK ig 7#3 bb (λ_ _=>O)) (eK ig 7#3 bb (λ_ _=>O)) O) fV)
   (bj (gz ga O (eO<|ah 1) (cx (i:=3) rV.a O<|ai O)
    (bF (fL (dD jS (dM fX O f7.a fq<|ao 7#3 aF) bb<|dF _) (bF (cq (i:=2) rV.a O (ai O) (gB Gr d8 O mr Fr.a br .nil cF
    <|ao 7#2<|ao (gi hu 7#2 (eK ig 7#3 bb (λ_ _=>O)) (λ_ _=>O))<|ao (gi hu 7#2 (eK ig 7#3 bb (λ_ _=>O)) (λ_ _=>O)) aF))) fV)))
   e8))),?_)
  refine(_,O,l,as,c,O,hl,ht,hw,λEV H1 es d5 f3 a9 b5 d hd=>?_);have a7:H d=Y:=d5.A0 hd;have e9:EV≠d:=cN a9 hd;have G:=b5.B;refine(_,O,EV,O,(_,bI.B<|aL.B hd _ _ a9),me (K:=K) (a:=EV) (xs:=es.map af.ref) (λi σ M=>∃v3:Option af,σ=[V<|.ref l,V<|.ref EV,V<|.ref d,v3,Y,Y]/\aL H M/\M EV=V (.lst<|es.map af.ref)/\bA M es (bC c)/\M d=V (.b<|eH id<|dJ<|(bC c).take i))
   (Y,O,d5.N a7,aL.B hd _ _ a9,(aL.B hd).M b5,az) (λi σ M _ (_,_,_,h,_)=>bI.B h) ?_ ?_)
  ·rintro i x σ M hx ⟨v3,rfl,C,X,a0,t⟩
   obtain⟨o,eo,rfl⟩:=fG hx;obtain⟨p,ep,hp⟩:=a0.F eo;refine(_,O,o,_,O,.inr<|fg.B hp,O,_,O,?_)
   by_cases h1:p.length=1
   ·rw[show aE (af.int ((p.map af.int).length:Int)=af.int 1)=ae from bT (by rw[au,h1];rfl)]
    obtain⟨x,rfl⟩:∃x,p=[x]:=by
     match p,h1 with
     |[x],_=>exact(x,O)
    have d6:(dJ<|(bC c).take<|i+1).Nodup:=b0.sublist<|((SI _ _).filter _).map _;rw[cG ep,OK,kg] at d6;have f0:x∉dJ ((bC c).take i):=λhm=>d6.2.2 x hm x 0#0 O;have hz:(eH id<|dJ<|(bC c).take i).length<bD:=EI (by
     unfold eH dJ;rw[au,au];exact dq (sW _ _) (by rw[dR];omega))
    refine eS (_,O,o,_,_,.int x,O,O,fg.B hp,jg (j:=0) O,_,O,_,O,o,_,_,.int x,O,O,fg.B hp,jg (j:=0) O,d,_,O,AF.k (k:=aN x) t hz,(_,O,λb u e=>by rw[aZ<|cN e a7];exact C _ _ e,by rw[aZ e9];exact X,ka a0 t (by intro xs z;cases z),?_));rw[az,cG ep,OK];exact fj (λz=>V<|df.b z)<|O_ id f0
   ·rw[show aE (af.int ((p.map af.int).length:Int)=af.int 1)=aB from cw λz=>h1 (by injection z with z;rw[au] at z;omega)]
    refine dT (_,O,C,X,a0,?_);rw[cG ep,ZC _ h1];exact t
  ·rintro σ M ⟨v3,rfl,C,X,a0,t⟩
   rw[au,G,eV<|aV _] at t;refine(_,O,EV,O,(_,bI.B X),me (K:=K) (a:=EV) (xs:=es.map af.ref) (λi σ H4=>∃(v3:Option af)(d':W),σ=[V<|.ref l,V<|.ref EV,V<|.ref d',v3,Y,Y]/\aL H H4/\H4 EV=V (.lst<|es.map af.ref)/\bA H4 es (bC c)/\H d'=Y/\H4 d'=V (.b<|eH (kb<|mx<|(bC c).take i)<|dJ<|bC c))
    (v3,d,O,C,X,a0,a7,t) (λi σ H4 _ (_,_,_,_,h,_)=>bI.B h) ?_ ?_)
   ·rintro i x σ H4 hx ⟨v3,d',rfl,L,a3,a4,a5,r⟩
    obtain⟨o,eo,rfl⟩:=fG hx;obtain⟨p,ep,hp⟩:=a4.F eo;refine(_,O,o,_,O,.inr<|fg.B hp,O,_,O,?_)
    by_cases h2:p.length=2
    ·rw[show aE (af.int ((p.map af.int).length:Int)=af.int 2)=ae from bT (by rw[au,h2];rfl)]
     obtain⟨x,y,rfl⟩:∃x y,p=[x,y]:=by
      match p,h2 with
      |[x,y],_=>exact(x,y,O)
     obtain⟨hx,hy⟩:=Qp<|dh ep;have a1:kb (mx<|(bC c).take<|i+1)=se (kb<|mx<|(bC c).take i) (aez x y):=by rw[cG ep,ac2,Ib]
     generalize kb (mx<|(bC c).take i)=n at r a1;have g:∀z,z∈dJ (bC c)->gN H4 d' (cR<|aN z) (V<|af.int<|n z):=λz hz=>.inl (_,aN z,.inl r,O,(Hs n b0 hz).symm);refine eS (_,O,_,O,_,O,o,_,_,.int x,O,O,fg.B hp,jg (j:=0) O,d',_,O,g x hx,_,O,_,O,o,_,_,.int y,O,O,fg.B hp,jg (j:=1) O,d',_,O,g y hy,?_);refine(d',n x,n y,n,_,O,r,b0,(â f5),λT H5 sx f1 hT=>(_,T,O,λb u e=>sx b u (cN e a5)<|L _ _ e,sx _ _ (fW a3 r (by intro z;cases z)) a3,sx.B r a4,L.A0 f1,?_));rw[a1];exact hT
    ·rw[show aE (af.int ((p.map af.int).length:Int)=af.int 2)=aB from cw λz=>h2 (by injection z with z;rw[au] at z;omega)]
     refine dT (_,d',O,L,a3,a4,a5,?_);rw[cG ep,ac3 _ h2];exact r
   ·rintro σ H4 ⟨v3,d',rfl,L,a3,a4,a5,r⟩
    rw[au,G,eV<|aV _] at r;exact d4 EV d' v3 _ H4 O L a5 r
end
noncomputable abbrev Bn:cJ:=dW 56
def HM:iY "dict"=V (.type "dict"):=δ
def HG(a:aM):(aI a).Nodup->vY a=a:=BE (P:=λa=>(aI a).Nodup->vY a=a) (λ_=>O) (λl t c h=>by
 have b:(aI l++[t.1]).Nodup:=by
  have:aI (l++[t])=aI l++[t.1]:=by unfold aI;rw[bU];rfl
  rw[<-this];exact h
 rw[kg] at b;have d:vY (l++[t])=jl (vY l) t.1 t.2:=by unfold vY;rw[s_];rfl
 rw[d,c b.1,Hm _ (λz=>b.2.2 t.1 z t.1 0#0 O)]) a
def YF(k:Nat)(n:Int):n*(1-(k:Int)%2*2)=jG k n:=by
 unfold jG
 by_cases h:(k:Int)%2=0
 ·rw[av h,h];simp
 ·have:(k:Int)%2=1:=ω
  rw[am h,this];simp
def Ys{a:List Int}(h:a.length=1)(n:Int):dH a n=[]:=by unfold dH dP;rw[av h];rfl
def Yu{a:List Int}(h:a.length≠1)(n:Int){k:Nat}(b:k<a.length):(dH a n)[k]?=V (aez (a.take k++a.drop (k+1)) (jG k n)):=by
 unfold dH dP;rw[am h,bV,SO,bV,pf b];simp
abbrev Ge:dO:=jd<|dk EO (nx (bw 1)<|bw 0)<|gh<|.int 0
abbrev Gd:bd:=mQ<|eR (bw 0)<|eR (nx (bw 1)<|bw 0) gg
section
variable{P:bu}{w:bf}{K:aY}{mg:aq->Option aa}{base:aW}
def OL{q:ab}{A:List W}{Q:aU}(T:q L=V (.lst<|A.map af.ref))(M:bA q A (aI l))(U:q d=V (.a<|bB l))(X:(aI l).Nodup)(hz:l.length<=3000)(P:q D=Y)(k:∀(b:ab)(i:List W),aL q b->b D=V (.lst<|i.map af.ref)->gQ b i (l.filter g_)->Q 5#D b):dU (gY K L) (dw 0) Ge Gd [Y,V<|.ref d] q D Q:=by
 have u:=M.B;rw[oJ] at u;refine jT (xs:=A.map af.ref) (λj C w b=>∃(v:Option af)(i:List W),C=[v,V<|.ref d]/\aL q b/\b D=V (.lst w)/\w=i.map af.ref/\gQ b i ((l.take j).filter g_)) ?_ ?_ ?_ ?_
 ·exact(Y,[],O,aL.B P,az,O,.nil)
 ·rintro j C w b ⟨v,i,rfl,m,e,rfl,s⟩
  exact bI.B<|m _ _ T
 ·rintro j C w b x hx R S ⟨v,i,rfl,m,e,rfl,s⟩
  obtain⟨a,ea,rfl⟩:=fG hx;obtain⟨ps,f,y⟩:=M.F ea;unfold aI at f;rw[bV] at f;obtain⟨c,E,rfl⟩:∃c,l[j]?=V c/\c.1=ps:=by
   cases h:l[j]? with
   |none=>rw[h] at f;cases f
   |some c=>rw[h] at f;exact(c,O,bM f)
  have G:(A.map af.ref).length<=bD:=by rw[au];exact bR (â (à (å u) hz))
  have g:∀H,aL b H->gN H d 5#a (V<|.int c.2):=λH p=>.inr (bB l,c.1.map aN,a,.inl<|p _ _<|m _ _ U,O,mq<|p.J<|m.J y,(mh X c<|dh E).symm);refine(_,O,_,O,d,_,O,g b<|aL.refl _,O,_,O,?_);cases n:g_ c with
  |true=>
   have r:(!aE (af.int c.2=af.int 0))=ae:=n;rw[r];refine eS (_,O,_,O,_,O,d,_,O,g b<|aL.refl _,bR 0#0,λt I=>?_);have p:=aL.B (o:=.tup [.ref a,.int c.2]) I;refine fz G R S (p _ _ e) (_,i++[t],O,(m.F p).N P,az,by rw[bU];rfl,?_);rw[cG E,jb,mL n];exact gQ.J (gQ.M (s.B p) (a,az,p.J<|m.J y)) (p _ _ e) (by intro xs z;cases z)
  |false=>
   have r:(!aE (af.int c.2=af.int 0))=aB:=n;rw[r];refine dT<|oB R S (_,i,O,m,e,O,?_);rw[cG E,jb,k_ (by rw[n];decide),qg,jy];exact s
 ·rintro C w b ⟨v,i,rfl,m,e,rfl,s⟩
  rw[au,u,gE] at s;exact k b i m e s
def Hx(h:gQ H a c):eI (λt(d:List aK×af)=>∃b,H t=V (.tup [.ref b,d.2])/\H b=V (.tup<|d.1.map cR)) a (bB c):=by
 unfold bB
 induction h with
 |nil=>exact .nil
 |cons r t e=>
  obtain⟨b,f,g⟩:=r;exact .cons (b,f,mq g) e
inductive xY(vs:List af)(H:ab)(Q:aU)(E':db):Prop
 |a:∀d cs,(vs=[.ref d])->(cA H d<|.a<|bB cs)->((aI cs).Nodup)->((∀c∈cs,c.1.length<=5/\c.1≠[]))->(cs.length<=100)->(∀D H',aL H H'->H D=Y->H' D=V (.a<|bB<|mj<|cs.flatMap λc=>dH c.1 c.2)->Q 5#D H')->xY vs H Q E'
def ya:dG ["chain","found","piece","k","rim"] ["chain"] (bX Bn):=(O,O,O,δ,O,δ,δ)
def ζ(F:b_ K "_law_seam" "_law_seam" Bn f fd)(d1:fN mg)(b3:mg "dict"=Y):ce P w K mg base bx 1 f fd ["chain"] xY:=by
 refine F.B ya (λvs H Q E h=>?_) (λc9 A b4 s H vs Q E hr h=>?_)
 ·obtain⟨d,e,rfl,_⟩:=h;rfl
 ·obtain⟨d,e,rfl,hd,b5,h5,hz,k⟩:=h
  have hu:=ko hr;have X:=hr.units;refine(_,bj (cq (i:=1) ya.a O (aw O) pH)
   (bj (gz ga O (eO<|gA (qx O) O d1.list j_<|ao 7#0 aF) (cx (i:=2) ya.a O<|ai O)
    (bF (gz ga O (ou O d1.b<|ao (dM fX O d1.a fq<|ao 7#2 aF) aF) (cx (i:=3) ya.a O<|ai O)
     (bj (cq (i:=4) ya.a O (ai O)<|bW xC (qq vh 7#2 nz<|ny<|ah 3)<|qq vh 7#2 (ny<|bW iv 7#3 bb) nz)
     (bF (fL (dD (Fd X) 7#4 (jC aF)<|dF _)
      (bF<|lZ hu 7#1 7#4 (bW iv (E_ hu 7#1 7#4 bb (O,O,O,O))<|bW mT (gi hu 7#0 7#2 (λ_ _=>O))<|bW mS bb<|bW mT (bW kH 7#3 bb) bb) O) fV))))))
   (bF (cX (gA (FF O X) O b3 HM (ao
    (fe ["chain","found","piece","k","rim"] ["rim","found"] [Y,V 1] (eO<|gA (qx O) O d1.list j_<|ao 7#1 aF) (λcl C a0 a1 ex=>cx (i:=0) (eF ["rim","found"]) O<|ai O)
     (λcl C a0 a1 ex=>lq<|dD rH (gi hu 7#1 7#0 (λ_ _=>O)) bb<|dF _) (λcl C a0 a1 ex=>jC<|ao 7#0<|ao (gi hu 7#1 7#0 (λ_ _=>O)) aF) (hfr:=ii (bX Bn) δ) (tc:=Ge) (te:=Gd)) aF))))),?_)
  intro S hS;have sS:=aL.B (o:=.a []) hS;refine(_,O,d,bB e,O,hd.B sS,λbs pb L hL=>?_);have tb:=pQ pb;have sL:=aL.B (o:=.lst<|bs.map af.ref) hL;have b6:S≠L:=cN (az (H:=H) (a:=S) (o:=.a [])) hL;have a5:=tb.B;rw[oJ] at a5;refine(L,O,(_,bI.B az),me (K:=K) (a:=L) (xs:=bs.map af.ref) (λi σ H2=>∃(v2 v3 v4:Option af),σ=[V<|.ref d,V<|.ref S,v2,v3,v4]/\aL H H2/\H2 L=V (.lst<|bs.map af.ref)/\bA H2 bs (aI e)/\H2 S=V (.a<|bB<|jk<|(e.take i).flatMap λc=>dH c.1 c.2))
   (Y,Y,Y,O,sS.F sL,az,sL.M tb,sL _ _ az) (λi σ H2 _ (_,_,_,_,_,h,_)=>bI.B h) ?_ ?_)
  ·rintro i x σ H2 hx ⟨v2,v3,v4,rfl,sm,a6,a3,m⟩
   obtain⟨b,eb,rfl⟩:=fG hx;obtain⟨ps,q,a7⟩:=a3.F eb;unfold aI at q;rw[bV] at q;obtain⟨c,ec,rfl⟩:∃c,e[i]?=V c/\c.1=ps:=by
    cases h:e[i]? with
    |none=>rw[h] at q;cases q
    |some c=>rw[h] at q;exact(c,O,bM q)
   have a2:=dh ec;obtain⟨d0,b7⟩:=h5 c a2;have hi:i<e.length:=(bY.mp ec).1;refine(_,O,b,_,O,.inr<|fg.B a7,_,O,by rw[au];omega,by rw[au];omega,?_);rw[au];refine xH (lo:=0) (n:=((c.1.length:Int)).toNat) (λj σ H3=>∃(v3 v4:Option af),σ=[V<|.ref d,V<|.ref S,V<|.ref b,v3,v4]/\aL H H3/\H3 L=V (.lst<|bs.map af.ref)/\bA H3 bs (aI e)/\de H3 b c.1/\H3 S=V (.a<|bB<|jk<|(e.take i).flatMap (λc=>dH c.1 c.2)++(dH c.1 c.2).take j))
    (_,_,O,sm,a6,a3,a7,by rw[Dv,jy];exact m) ?_ ?_
   ·rintro j σ H3 hj ⟨v3,v4,rfl,v,I,T,g,r⟩
    have b8:j<c.1.length:=ω
    refine(_,O,_,O,_,O,b,_,O,g,λp1 H4 U a8=>(_,O,_,O,_,_,O,O,_,O,b,_,O,U _ _ g,λp2 H5 a9 b0=>?_));rw[show(0:Int)+((j:Nat):Int)=((j:Nat):Int) from ω,HH _ _ (by rw[au];exact ì b8),<-Dy] at a8;rw[show(0:Int)+((j:Nat):Int)+1=((j+1:Nat):Int) from ω,HI _ _ (by rw[au];exact b8),<-DB] at b0;refine(p1,p2,_,_,O,O,a9 _ _ a8,b0,bR (by simp;omega),λp3 H6 b9 b1=>?_);rw[<-bU] at b1;have s6:=(U.F a9).F b9;refine(_,O,bR 0#0,λt c0=>?_);have sT:=aL.B (o:=.tup []) c0;have u:=s6.F sT;have a4:de _ p3 (c.1.take j++c.1.drop (j+1)):=sT _ _ b1;refine .inl (p3,t,_,[],O,O,a4,az,_,O,?_);rw[av O];have G:=u _ _ r
    by_cases h1:c.1.length=1
    ·have c1:j=0:=ω
     subst c1;have e0:c.1.take 0++c.1.drop (0+1)=[]:=by
      rw[Dv,List.nil_append];exact SX (å h1)
     rw[e0,bT O];refine dT (_,_,O,v.F u,u _ _ I,u.M T,u.J g,?_);rw[Ys h1,ah9] at r ⊢;exact u _ _ r
    ·have c2:¬(c.1.take j++c.1.drop (j+1)=[]):=λz=>by
      have e9:=fj ar z;rw[c_,dR,pd,nq] at e9;have:c.1.length≠0:=λy=>b7<|kh y;omega
     rw[cw c2];have c3:=Yu h1 c.2 b8;have c4:((e.take i).flatMap (λc=>dH c.1 c.2)++(dH c.1 c.2).take j).length<=600:=by
      have:=vV (cs:=e.take i) λc hc=>(h5 c<|wO hc).1;rw[dR] at this;have h2:=AQ c.1 c.2;have h3:=sd c.1;rw[c_,dR];omega
     have b2:(bB<|jk<|(e.take i).flatMap (λc=>dH c.1 c.2)++(dH c.1 c.2).take j).length<bD:=by
      rw[nD];have:=xV<|(e.take i).flatMap (λc=>dH c.1 c.2)++(dH c.1 c.2).take j;exact jm (â (à this c4))
     have c5:=(hd.B<|v.F u);refine eS (_,O,S,O,.inr (_,.inl G),_,O,_,.inr (_,(c.1.take j++c.1.drop (j+1)).map aN,p3,.inl G,O,mq a4,O),?_);rw[FV];refine(_,O,_,O,d,.int c.2,O,.inr (bB e,c.1.map aN,b,c5,O,mq<|u.J g,(mh b5 c a2).symm),_,O,_,_,O,O,(by show(0:Int)<2;decide),_,_,O,O,.inr (ξ,ξ),_,_,O,O,_,_,O,O,.inr (?_,?_),_,_,O,O,_,O,_,O,S,_,O,AF.t (k:=(c.1.take j++c.1.drop (j+1)).map aN) G (mq a4) b2,(_,_,O,(v.F u).N hS,?_,ka (u.M T) G (by intro xs z;cases z),?_,?_))
     ·show -(18446744073709551616:Int)<1-(0+(j:Int))%2*2
      omega
     ·show 1-(0+(j:Int))%2*2<(18446744073709551616:Int)
      omega
     ·rw[aZ<|dp b6];exact u _ _ I
     ·show aD _ S _ b=_
      rw[aZ<|fW (show _=V _ from u.J g) G (by intro z;cases z)];exact u.J g
     ·rw[az,show(0:Int)+(j:Int)=(j:Int) from ω,YF,vQ,cG c3,<-lV,xU]
      rfl
   ·rintro σ H3 ⟨v3,v4,rfl,v,I,T,g,r⟩
    refine(_,_,_,O,v,I,T,?_);rw[PH _ ec];rw[show(dH c.1 c.2).take ((c.1.length:Int)).toNat=dH c.1 c.2 from eV (by rw[AQ];have:=sd c.1;omega)] at r;exact r
  ·rintro σ H2 ⟨v2,v3,v4,rfl,sm,a6,a3,m⟩
   rw[au,a5,gE] at m;unfold mj at k;have hn:=AN<|e.flatMap λc=>dH c.1 c.2;have c6:=xV<|e.flatMap λc=>dH c.1 c.2;have c4:=vV (cs:=e) λc hc=>(h5 c hc).1;generalize jk (e.flatMap λc=>dH c.1 c.2)=ss at m hn c6 k;refine(_,O,S,bB ss,O,.inl m,λes pe M hM=>(M,O,(_,bI.B az),λD hD=>eP<|OL az ((aL.B hM).M<|pQ pe) (aL.B hM _ _ m) hn ω hD λH4 ts U c7 c8=>?_));refine(D,ts,bB<|ss.filter g_,O,bI.B c7,Hx c8,λR hR=>?_);rw[HC,HG _<|hn.sublist<|(uM (p:=g_) (l:=ss)).map _];have s4:=(sm.F<|aL.B hM).F U;exact k R _ (s4.F<|aL.B hR) (s4.A0 hR) az
end
section
variable{κ:Type}
noncomputable def cp:List Int->List (κ->Int)->κ->Int
 |a::c,v::L=>λu=>a*v u+cp c L u
 |_,_=>λ_=>0
noncomputable def pX(p:Nat):Nat->Ξ
 |0=>[[]]
 |n+1=>(pX p n).flatMap λc=>(cr p).map λa:Nat=>(a:Int)::c
def Iy(p:Nat):∀n,(pX p n).length=p ^ n
 |0=>O
 |n+1=>by
  have:∀l:Ξ,(l.flatMap λc=>(cr p).map λa:Nat=>(a:Int)::c).length=l.length*p:=by
   intro l
   induction l with
   |nil=>simp
   |cons c l b=>rw[nr,c_,au,lT,b,dj,Nat.add_mul];omega
  show(((pX p n).flatMap λc=>(cr p).map λa:Nat=>(a:Int)::c)).length=_;rw[this,Iy p n,Sz]
def yJ:∀{n:Nat}{c:List Int},c∈pX p n↔c.length=n/\∀x∈c,0<=x/\x<(p:Int)
 |0,c=>by
  show c∈[[]]↔_;rw[cT];constructor
  ·rintro rfl;exact(O,λx b=>nomatch b)
  ·intro h;exact kh h.1
 |n+1,c=>by
  show c∈(pX p n).flatMap (λc=>(cr p).map λa:Nat=>(a:Int)::c)↔_;rw[jN];constructor
  ·rintro⟨d,i,h⟩
   obtain⟨a,g,rfl⟩:=aO.mp h;obtain⟨e,f⟩:=yJ.mp i;have:=fJ.mp g;refine(by rw[dj,e],λx b=>?_);rcases cz.mp b with rfl|b
   ·omega
   ·exact f x b
  ·rintro⟨e,f⟩
   cases c with
   |nil=>simp at e
   |cons a d=>
    have g:=f a<|.head _;refine(d,yJ.mpr (by simpa using e,λx b=>f x<|.tail _ b),aO.mpr (a.toNat,fJ.mpr ω,?_));rw[Int.toNat_of_nonneg g.1]
def QR(p:Nat):∀n,(pX p n).Nodup
 |0=>by simp[pX]
 |n+1=>by
  show((pX p n).flatMap λc=>(cr p).map λa:Nat=>(a:Int)::c).Pairwise (·≠·);rw[List.pairwise_flatMap];refine(λc _=>?_,(QR p n).imp λ{a b} h x d y f g=>?_)
  ·rw[ip]
   exact zu.imp λh g=>h (by injection g with g;omega)
  ·obtain⟨i,_,rfl⟩:=aO.mp d
   obtain⟨j,_,rfl⟩:=aO.mp f;injection g with _ g
   exact h g
def QN:∀(c d:List Int)(L:List (κ->Int)),c.length=L.length->d.length=L.length->∀u,cp (JO (λa b=>a-b) c d) L u=cp c L u-cp d L u
 |c,d,[],e,f,u=>by rw[kh e,kh f];rfl
 |[],_,_::_,e,_,_=>by simp at e
 |_::_,[],_::_,_,f,_=>by simp at f
 |a::c,b::d,v::L,e,f,u=>by
  show(a-b)*v u+cp _ L u=a*v u+cp c L u-(b*v u+cp d L u);rw[QN c d L 6#e 6#f,Td];omega
def QO(p:Int):∀(c:List Int)(L:List (κ->Int))(u:κ),p ∣ cp c L u-cp (c.map (·%p)) L u
 |[],[],_=>dC _
 |[],_::_,_=>dC _
 |_::_,[],_=>dC _
 |a::c,v::L,u=>by
  show p ∣ a*v u+cp c L u-(a%p*v u+cp (c.map (·%p)) L u);have b:=QO p c L u;have d:p ∣ (a-a%p)*v u:=lj (a / p,by have:=ajg a p;omega)<|wU _ _;have:=mM d b
  rwa [show(a-a%p)*v u+(cp c L u-cp (c.map (·%p)) L u)=a*v u+cp c L u-(a%p*v u+cp (c.map (·%p)) L u) by rw[Td];omega] at this
def QP(k:Int):∀(c d:List Int)(L:List (κ->Int)),c.length=L.length->d.length=L.length->∀u,cp (JO (λa b=>k*a+b) c d) L u=k*cp c L u+cp d L u
 |c,d,[],e,f,u=>by rw[kh e,kh f];show(0:Int)=k*0+0;omega
 |[],_,_::_,e,_,_=>by simp at e
 |_::_,[],_::_,_,f,_=>by simp at f
 |a::c,b::d,v::L,e,f,u=>by
  show(k*a+b)*v u+cp _ L u=k*(a*v u+cp c L u)+(b*v u+cp d L u);rw[QP k c d L 6#e 6#f,Tg,Tf,Te];omega
def dA(p:Int)(a:List (κ->Int))(f:κ->Int):Prop:=∃d:List Int,d.length=a.length/\∀u,p ∣ f u-cp d a u
def Iv:∀(L:List (κ->Int))(u:κ),cp (L.map λ_=>0) L u=0
 |[],_=>O
 |v::L,u=>by show 0*v u+cp (L.map λ_=>0) L u=0;rw[Iv L u];omega
def qO{p:Int}{f:κ->Int}(h:∀u,p ∣ f u):dA p a f:=(a.map λ_=>0,au _,λu=>by rw[Iv];simpa using h u)
def qQ{p k:Int}{n:List (κ->Int)}(e:dA p n f)(h:dA p n g):dA p n λu=>k*f u+g u:=by
 obtain⟨c,i,j⟩:=e;obtain⟨d,l,m⟩:=h;refine(JO (λa b=>k*a+b) c d,by rw[aik];omega,λu=>?_);rw[QP k c d n i l];have:=mM (lj (j u)<|rt k _)<|m u
 rwa [show k*(f u-cp c n u)+(g u-cp d n u)=k*f u+g u-(k*cp c n u+cp d n u) by rw[Kk];omega] at this
def mB{p:Int}{f g:κ->Int}(h:∀u,p ∣ f u-g u)(a:dA p e g):dA p e f:=by
 obtain⟨d,b,c⟩:=a;refine(d,b,λu=>?_);have:=mM (h u)<|c u
 rwa [show f u-g u+(g u-cp d e u)=f u-cp d e u from ω] at this
def Ip:∀(c:List Int)(A:List (κ->Int)),(∀v∈A,dA p d v)->dA p d (cp c A)
 |[],[],_=>qO λu=>dC _
 |[],_::_,_=>qO λu=>dC _
 |_::_,[],_=>qO λu=>dC _
 |a::c,v::A,h=>qQ (h v<|.head _) (Ip c A λw b=>h w<|.tail _ b)
def qP(h:dA p A f)(a:∀v∈A,dA p e v):dA p e f:=by
 obtain⟨d,c,b⟩:=h;exact mB b<|Ip d A a
def nH:∀{c:List (κ->Int)}{v:κ->Int},v∈c->dA p c v
 |w::c,v,h=>by
  rcases cz.mp h with rfl|h
  ·refine(1::c.map λ_=>0,by rw[dj,au,dj],λu=>?_)
   show p ∣ v u-(1*v u+cp (c.map λ_=>0) c u);rw[Iv,DM,ajh,rr];exact dC _
  ·obtain⟨d,a,b⟩:=nH h
   refine(0::d,by rw[dj,dj,a],λu=>?_);show p ∣ v u-(0*w u+cp d c u);rw[Kg,Kh];exact b u
def IA(p:Int)(A:List (κ->Int)):Prop:=∀c:List Int,c.length=A.length->(∀u,p ∣ cp c A u)->∀x∈c,p ∣ x
def QD{p:Int}:∀{c d:List Int},c.length=d.length->(∀x∈c,0<=x/\x<p)->(∀x∈d,0<=x/\x<p)->(∀x∈JO (λa b=>a-b) c d,p ∣ x)->c=d
 |[],[],_,_,_,_=>O
 |a::c,b::d,j,g,i,h=>by
  have e:p ∣ a-b:=h _<|.head _;have l:=g a<|.head _;have m:=i b<|.head _;have:a=b:=by
   obtain⟨k,n⟩:=e;have:k=0:=by
    rcases Int.lt_trichotomy k 0 with z|z|z
    ·have:p*k<=p*(-1):=ajc ω ω
     omega
    ·exact z
    ·have:p*1<=p*k:=ajc ω ω
     omega
   subst this;omega
  rw[this,QD 6#j (λx f=>g x<|.tail _ f) (λx f=>i x<|.tail _ f) λx f=>h x<|.tail _ f]
def QQ{D:Nat}(C:2<=D){A B:List (κ->Int)}(ind:IA (D:Int) A)(i:∀v∈A,dA (D:Int) B v):A.length<=B.length:=by
 have f:∀c:List Int,∃d:List Int,d.length=B.length/\(∀x∈d,0<=x/\x<(D:Int))/\∀u,(D:Int) ∣ cp c A u-cp d B u:=λc=>by
  obtain⟨d,j,k⟩:=Ip c A i;refine(d.map (·%(D:Int)),by rw[au];exact j,λx l=>?_,λu=>?_)
  ·obtain⟨y,_,rfl⟩:=aO.mp l
   exact(qh _ ω,qi _ ω)
  ·have:=mM (k u)<|QO (D:Int) d B u
   rwa [show cp c A u-cp d B u+(cp d B u-cp (d.map (·%(D:Int))) B u)=cp c A u-cp (d.map (·%(D:Int))) B u from ω] at this
 have m:((pX D A.length).map λc=>(f c).choose).Nodup:=by
  unfold bv;rw[ip];refine(QR D A.length).imp_of_mem λ{a b} n o g e=>g ?_;obtain⟨q,r⟩:=yJ.mp n;obtain⟨s,t⟩:=yJ.mp o;refine QD (p:=(D:Int)) (û (à (å q) (æ s)) (à (å s) (æ q))) r t<|ind _ (by rw[aik];omega) λu=>?_;rw[QN a b A q s];have h:=(f a).choose_spec.2.2 u;have w:=(f b).choose_spec.2.2 u;rw[e] at h;have:=nt h w
  rwa [show cp a A u-cp (f b).choose B u-(cp b A u-cp (f b).choose B u)=cp a A u-cp b A u from ω] at this
 have:=m.length_le_of_subset (l₂:=pX D B.length) λd z=>by
  obtain⟨c,_,rfl⟩:=aO.mp z;exact yJ.mpr ((f c).choose_spec.1,(f c).choose_spec.2.1)
 rw[au,Iy,Iy] at this;exact(Nat.pow_le_pow_iff_right C).mp this
end
def QH:∀(c:List Int)(L:List (Nat×bZ)),mC p L (cp c (L.map (·.2)))
 |[],[]=>λu=>dC _
 |_::_,[]=>λu=>dC _
 |[],_::_=>Cq λu=>dC _
 |a::c,r::L=>(a,yI (λu=>by
   show p ∣ a*r.2 u+cp c (L.map (·.2)) u-a*r.2 u-cp c (L.map (·.2)) u;rw[show a*r.2 u+cp c (L.map (·.2)) u-a*r.2 u-cp c (L.map (·.2)) u=0 from ω];exact dC _)<|QH c L)
def QK(P:kR p):∀{L:List (Nat×bZ)},(L.map (·.1)).Nodup->(∀r∈L,fH p r.2 r.1)->IA p (L.map (·.2))
 |[],_,_,c,f,_,x,b=>by
  rw[zv,nq] at f;rw[kh f] at b;cases b
 |r::L,g,h,c,f,l,x,b=>by
  rw[cY,jM] at g;cases c with
  |nil=>cases b
  |cons a c=>
   have d:∀u,p ∣ a*r.2 u+cp c (L.map (·.2)) u:=l;have i:=h r<|.head _;have j:p ∣ a:=qj λm=>by
    have k:fH p (cp c (L.map (·.2))) r.1:=by
     refine(λz=>?_,λu n=>?_)
     ·have:=nt (d r.1) z
      rw[show a*r.2 r.1+cp c (L.map (·.2)) r.1-cp c (L.map (·.2)) r.1=a*r.2 r.1 from ω] at this;exact(P.d _ _ this).elim m i.1
     ·have:=nt (d u)<|lj (i.2 u n)<|rt a _
      rwa [show a*r.2 u+cp c (L.map (·.2)) u-a*r.2 u=cp c (L.map (·.2)) u from ω] at this
    rcases Iq P g.2 (λq e=>h q<|.tail _ e) (QH c L) with z|⟨q,e,z⟩
    ·exact k.F z
    ·exact g.1<|aO.mpr (q,e,z.B k)
   have o:∀u,p ∣ cp c (L.map (·.2)) u:=λu=>by
    have:=nt (d u)<|lj j<|wU a<|r.2 u
    rwa [show a*r.2 u+cp c (L.map (·.2)) u-a*r.2 u=cp c (L.map (·.2)) u from ω] at this
   rcases cz.mp b with rfl|b
   ·exact j
   ·exact QK P g.2 (λq e=>h q<|.tail _ e) c 6#f o x b
structure sv(p:Int)(order:Ξ)(A:List (Nat×(List Int->Int))):Prop where
 a:(A.map (·.1)).Nodup
 b:∀r∈A,fH p (hJ order r.2) r.1
def Ix(b:Ξ):∀(c:List Int)(A:List (List Int->Int))(u:Nat),hJ b (cp c A) u=cp c (A.map<|hJ b) u
 |[],[],u=>by unfold hJ;cases b[u]?<;>rfl
 |[],_::_,u=>by unfold hJ;cases b[u]?<;>rfl
 |_::_,[],u=>by unfold hJ;cases b[u]?<;>rfl
 |a::c,v::A,u=>by
  have d:=Ix b c A u;show _=a*hJ b v u+cp c (A.map<|hJ b) u;rw[<-d];cases e:b[u]? with
  |none=>unfold hJ;rw[e];show(0:Int)=a*0+0;omega
  |some x=>rw[pW e,pW e,pW e];rfl
def sv.ind(P:kR p){a:Ξ}(h:sv p a A):IA p (A.map (·.2)):=λc b d=>by
 have e:(A.map λr=>(aez r.1 (hJ a r.2))).map (·.1)=A.map (·.1):=by rw[bN];rfl
 have f:(A.map λr=>(aez r.1 (hJ a r.2))).map (·.2)=(A.map (·.2)).map (hJ a):=by rw[bN,bN];rfl
 have:=QK P (L:=A.map λr=>(aez r.1 (hJ a r.2))) (by rw[e];exact h.a) (λr g=>by
  obtain⟨q,i,rfl⟩:=aO.mp g;exact h.b q i)
 rw[f] at this;refine this c (by rw[au];exact b) λu=>?_;rw[<-Ix];unfold hJ;cases a[u]? with
 |none=>exact dC _
 |some x=>exact d x
def QI{p:Nat}(P:kR (p:Int))(h:sv p f A)(i:sv p g l)(j:∀r∈A,dA (p:Int) (l.map (·.2)) r.2)(k:∀r∈l,dA (p:Int) (A.map (·.2)) r.2):A.length=l.length:=by
 have e:2<=p:=by have:=P.c;omega
 have a:=QQ e (h.ind P) (B:=l.map (·.2)) λv c=>by
  obtain⟨r,d,rfl⟩:=aO.mp c;exact j r d
 have b:=QQ e (i.ind P) (B:=A.map (·.2)) λv c=>by
  obtain⟨r,d,rfl⟩:=aO.mp c;exact k r d
 rw[au,au] at a b;exact û a b
def Ez:∀{a:List aa}{b:List Int}{i:Nat},fC a b->(h:i<a.length)->∃n t,b[i]?=V n/\a[i]=.int n t
 |_,_,0,.cons n t _,_=>(n,t,O,O)
 |_,_,i+1,.cons n t r,h=>by
  obtain⟨m,c,d,e⟩:=Ez (i:=i) r 6#h;exact(m,c,by simpa using d,by simpa using e)
def Ey:∀{a:List aa}{b:List Int},fC a b->a.length=b.length
 |_,_,.nil=>O
 |_,_,.cons _ _ r=>by rw[dj,dj,Ey r]
def UZ{b:bu}{s:ak}{a c:Int}{t u:hU}{Q:Ω}(h:Q (.bool<|aE<|c<a) s):ax (aH b w) A (yR .Gt (.int a t)<|.int c u) Q E s:=JE h
def UX(l b:W)(j f:Array aa)(n n2:Nat)(dd v:Option W)(sl C:Array (Option aa))(o p:List Int):C_ (Builtin.«tuple.__gt__» ([.ref l,.ref b],[]))
   (λA R s=>s.heap.get? l=V {cls:=.type "tuple",dict:=dd,data:=.seq j n,slots:=sl}/\s.heap.get? b=V {cls:=.type "tuple",dict:=v,data:=.seq f n2,slots:=C}/\
    fC j.toList o/\fC f.toList p/\R (.ok<|.ret<|.bool<|bJ p o) s):=
 .of_wp λP w A R s h=>by
  obtain⟨Q,g,d,S,T⟩:=s;obtain⟨hl,hb,U,X,h⟩:=h;have f2:=ahl;have n1:=Ey U;have D:=Ey X;have hZ:(j.toList.zip f.toList).length=gc j.size f.size:=by simp
  wp_walk using ae2 hl,ae2 hb,yM _ (λk b E=>b.1=Y/\E=(Q,g,d,S,T)/\∃i,k=(j.toList.zip f.toList).drop i/\i<=gc j.size f.size/\
   R (.ok<|.ret<|.bool<|bJ (p.drop i)<|o.drop i) (Q,g,d,S,T)) _
  case turn=>
   rintro⟨y,x⟩ k b E ⟨q,rfl,i,r,hi,m⟩;have u:i<(j.toList.zip f.toList).length:=by
    rcases kX i (j.toList.zip f.toList).length with t|t
    ·exact t
    ·rw[SW t] at r;cases r
   have hm:i<gc j.size f.size:=hZ▸u;have h1:i<j.size:=fI hm<|ah4 _ _;have h2:i<f.size:=fI hm<|JJ _ _;rw[pn u] at r;injection r with hyx hrest
   have hy:y=j[i]:=by have:=fj ni hyx;simpa using this
   have hx:x=f[i]:=by have:=fj nh hyx;simpa using this
   obtain⟨a,ta,ea,va⟩:=Ez U (i:=i) 6#h1;obtain⟨c,tc,ec,vc⟩:=Ez X (i:=i) 6#h2;have G:y=.int a ta:=by rw[hy];simpa using va
   have H:x=.int c tc:=by rw[hx];simpa using vc
   subst G H;obtain⟨la,I⟩:=bY.mp ea;obtain⟨lc,K⟩:=bY.mp ec;rw[pn la,pn lc,I,K,lL] at m;refine ag<|Ra ?_
   by_cases e:a=c
   ·subst e
    rw[av O] at m;simp only[beq_self_eq_true]
    wp_walk
    exact(O,O,i+1,hrest,hm,m)
   ·have L:(a==c)=aB:=by simpa using e
    rw[am (λz=>e z.symm)] at m;rw[L]
    wp_walk using UZ
    exact(_,O,m)
  case fin=>
   rintro⟨b1,b2⟩ E ⟨q,rfl,i,r,hi,m⟩;simp only at q;subst q;have a0:gc j.size f.size<=i:=by
    rcases kX i (j.toList.zip f.toList).length with t|t
    ·rw[pn t] at r;cases r
    ·exact hZ▸t
   have ei:i=gc j.size f.size:=(û hi a0)
   wp_walk
   refine(_,O,?_);have e1:o.length=j.size:=by rw[<-n1];simp
   have e2:p.length=f.size:=by rw[<-D];simp
   have:bJ (p.drop i) (o.drop i)=aE (f.size<j.size):=by
    by_cases z:f.size<j.size
    ·rw[bT z,SW (show p.length<=i from ω)]
     have M:i<o.length:=ω
     rw[pn M];rfl
    ·rw[cw z,SW (show o.length<=i from ω)]
     cases p.drop i<;>rfl
   rw[this] at m
   simpa[ag8] using m
  case h=>
   exact(O,O,0,O,eY _,by simpa using h)
def UY{A:bO}{s:ak}{l b:W}{Q:Ω}(v:s.heap.IsTuple l c)(y:s.heap.IsTuple b a)(z:fC c.toList e)(C:fC a.toList f)(D:A.units<dB)(h:Q (.bool<|bJ f e) s):ax (aH d w) A (yR .Gt 5#l<|.ref b) Q E s:=by
 obtain⟨⟨G,H,p,I⟩,q,r,n,t⟩:=id v;obtain⟨⟨u,k,m,o⟩,g,i,K,j⟩:=id y;simp only at r t i j;subst r t i j;exact afg (op:=.Gt) (_,q,O) (_,g,O) F.slot_tuple_gt F.entry_tuple_gt (F.args_tuple_gt_2 _ _) (UX l b c a n K H k I o e f)
  (q,g,z,C,show eX (bJ f e)≠afy/\Q (.bool<|bJ f e) s from((λx=>nomatch x),h)) D
def xD:∀{a b:List Int},bJ a b=ae->bJ b a=aB
 |[],[],h=>by cases h
 |[],_::_,_=>O
 |_::_,[],h=>by cases h
 |x::a,y::b,h=>by
  rw[lL] at h ⊢
  by_cases e:x=y
  ·rw[av e] at h;rw[av e.symm];exact xD h
  ·rw[am e] at h;rw[am (λz=>e z.symm)]
   have:=fc h;exact cw ω
def Fl:∀{a b c:List Int},bJ b a=aB->bJ c b=aB->bJ c a=aB
 |[],_,[],_,_=>O
 |[],_,_::_,_,_=>O
 |x::a,[],_,h,_=>by cases h
 |x::a,y::b,[],_,h=>by cases h
 |x::a,y::b,z::c,e,d=>by
  rw[lL] at e d ⊢
  by_cases g:y=x
  ·subst g
   rw[av O] at e
   by_cases f:z=y
   ·rw[av f] at d ⊢;exact Fl e d
   ·rw[am f] at d ⊢;exact d
  ·rw[am g] at e
   have e:=oe e
   by_cases f:z=y
   ·rw[f,am g];exact cw e
   ·rw[am f] at d
    have d:=oe d;rw[am ω];exact cw ω
section
variable{X:a_}{pins:Ψ}{σ:aR}{H:ab}{s:ak}
def WB{h:List W}{R:sH->ak->Prop}(hh:X.A.handled=Y)(hu:X.A.units+1<dB)(hl:bI X.K H l (h.map af.ref))(ht:bA H h D)(U:fF X pins H S)(a0:fF X pins H I)(G:S≠I)(a8:l≠I)(hR:∀(j:Nat) a n f,aA X pins σ H f->h[j]?=V a->D[j]?=V n->(∀m∈D,bJ n m=aB)->R (.ok<|.ret<|.ref a) f):∀(r j i:Nat)(f:ak)(a:W)(n:List Int)(c:Nat),h.length-(j+1)=r->j+1<=h.length->aA X pins σ H f->f.heap.get? S=V (cj "list" #[.ref a,.ref a] c)->
   f.heap.IsListIter I l (j+1)->h[i]?=V a->D[i]?=V n->(∀(y:Nat) m,y<=j->D[y]?=V m->bJ n m=aB)->
   iD 3#0 X.A (.builtin "max.loop" ([.ref I,.none,.ref S],[])) R f:=by
 have b7:=ht.B;have t:(qR "max"++qR ".loop":String)="max.loop":=ξ
 have c0:=qZ (prog:=X.prog) (w:=X.w) (A:=X.A.in1) hh I l a8 (h.map Z).toArray;have a1:(h.map Z).toArray.size=h.length:=by rw[cP,au]
 have a3:∀f,aA X pins σ H f->f.heap.IsList l (h.map Z).toArray:=λf L=>by
  obtain⟨b8,r1,p1,_⟩:=L.list hl;obtain rfl:=nw r1;exact p1.isList
 intro r
 induction r with
 |zero=>
  intro j i f a n c hr hj L nS M ea en g;have a9:j+1=h.length:=ω
  refine iC rj ?_;rw[ja i' _];show ax _ X.A.in1 (um 5#S >>= _) _ _ _;refine ag<|iU nS O ?_;show ax _ X.A.in1 (rp (iV<|.ref I) _ >>= _) _ _ _;refine ag<|lN<|c0.done _ _ _ (by rw[a1,<-a9];exact M,a3 _ L) λC d u=>?_;have T:aA X pins σ H {f with heap:=C,toks:=d}:=aA.M (t':=d) (ch:=[I]) L (md a0) λb o P q=>u b o P q;have x:=u S _ 6#G nS;have s1:=jw C S<|cD λ_=>(#[]:Array aa);show ax _ X.A.in1 (qT S (λ_=>#[]) >>= _) _ _ _;refine ag ?_;refine m_ (s:={f with heap:=C,toks:=d}) x O<|ag<|kf<|aG ?_;refine hR i a n _ (aA.M (s:={f with heap:=C,toks:=d}) (t':=d) (ch:=[S]) T (md U) λb o P q=>(s1.2 b (λz=>P (by simp[z]))).trans q) ea en λm hm=>?_;obtain⟨y,e'⟩:=gW.mp hm;have:=(bY.mp e').1;exact g y m ω e'
 |succ r ih=>
  intro j i f a n c hr hj L nS M ea en g;have k:j+1<h.length:=ω
  refine iC rj ?_;rw[ja i' _];show ax _ X.A.in1 (um 5#S >>= _) _ _ _;refine ag<|iU nS O ?_;show ax _ X.A.in1 (rp (iV<|.ref I) _ >>= _) _ _ _;refine ag<|lN<|c0.item (j+1) _ _ _ (by rw[a1];exact k) (M,a3 _ L) λv C d hP E u=>?_;have e1:h[j+1]?=V (h[j+1]'(k)):=cB k;have e2:D[j+1]?=V (D[j+1]'(à k (å b7))):=cB (à k (å b7));have hv:v=.ref (h[j+1]'(k)):=by
   have:(h.map Z)[j+1]?=V v:=by simpa using hP
   rw[bV,e1] at this;exact(bM this).symm
  subst hv;have T:aA X pins σ H {f with heap:=C,toks:=d}:=aA.M (t':=d) (ch:=[I]) L (md a0) λb o P q=>u b o P q;have x:=u S _ 6#G nS;generalize h[j+1]'(k)=p at e1 ⊢;generalize (D[j+1]'(à k (å b7)))=n2 at e2;obtain⟨b9,a4,b0⟩:=ht.F e1;rw[e2] at a4;obtain rfl:=bM a4;obtain⟨n',a5,b1⟩:=ht.F ea;rw[en] at a5;obtain rfl:=bM a5;obtain⟨i1,r1,p1,_⟩:=T.B<|fg.B (K:=X.K) b0;obtain⟨i2,r2,p2,_⟩:=T.B<|fg.B (K:=X.K) b1;show ax _ X.A.in1 (rp (sy [.ref p,.ref p]<|yR .Gt 5#p 5#a >>= _) _ >>= _) _ _ _;refine ag<|lN<|fO<|ag<|UY p1 p2 (by simpa using pJ r1) (by simpa using pJ r2) (by show X.A.units+1<dB;exact hu) ?_;refine ag<|fO<|sw ?_;refine ag<|kf<|aG ?_;cases a6:bJ n n2 with
  |true=>
   have s1:=jw C S<|cD λ_=>#[.ref p,.ref p];obtain⟨c2,b2⟩:∃c2,(C.update S<|cD λ_=>#[.ref p,.ref p]).get? S=V (cj "list" #[.ref p,.ref p] c2):=(_,sP x λ_=>#[.ref p,.ref p]);simp only[eD];refine ag ?_;refine m_ (s:={f with heap:=C,toks:=d}) x O<|ag<|kf ?_;rw[t];obtain⟨b3,a7,b4,b5⟩:=id E.1;refine aG (iK i' _,ih (j+1) (j+1) _ p n2 c2 ω k (aA.M (s:={f with heap:=C,toks:=d}) (t':=d) (ch:=[S]) T (md U) λb o P q=>(s1.2 b (λz=>P (by simp[z]))).trans q) b2 (b3,(s1.2 I G.symm).trans a7,b4,b5) e1 e2 λy m b6 Q=>?_)
   by_cases e:y=j+1
   ·subst e
    rw[e2] at Q;cases Q;cases q:bJ n2 n2 with
    |false=>rfl
    |true=>rw[xD q] at q;cases q
   ·exact Fl (g y m ω Q)<|xD a6
  |false=>
   simp only[dK,da];refine ag<|kf ?_;rw[t];refine aG (iK i' _,ih (j+1) i _ a n c ω k T x E.1 ea en λy m b6 Q=>?_)
   by_cases e:y=j+1
   ·subst e
    rw[e2] at Q;cases Q;exact a6
   ·exact g y m ω Q
def FD(hc:X.b=ae)(hu:X.A.units+64<dB):iS X (.builtin "max") (λxs H Q=>∃(l:W)(c:List W)(i:Ξ),xs=[.ref l]/\bI X.K H l (c.map af.ref)/\bA H c i/\i≠[]/\∀(j:Nat) a n,c[j]?=V a->i[j]?=V n->(∀m∈i,bJ n m=aB)->Q 5#a H):=by
 intro pins s σ H xs us Q I r h;obtain⟨l,c,i,rfl,hl,ht,p,h⟩:=h;obtain⟨u,rfl,ru⟩:=ir r;cases ru;have hh:=I.b.a hc;have a6:=ht.B;have d:0<c.length:=by have:=ail.mpr p;exact à this (æ a6)
 have e:(qR "max"++qR ".loop":String)="max.loop":=ξ
 have t:∀R,aA X pins σ H R->R.heap.IsList l (c.map Z).toArray:=λR Ik=>by
  obtain⟨a7,r1,p1,_⟩:=Ik.list hl;obtain rfl:=nw r1;exact p1.isList
 have x:=t s I;obtain⟨ol,T,_⟩:=id x;have U:l<s⁻¹:=cy T;refine call_function_tree R_ RZ Sb (PySem.F.args_max1 _) ?_;show ax _ X.A.in1 (Di "max" ["key","default"] 0 ([],[]) >>= _) _ _ s;refine ag<|oU (show Di "max" ["key","default"] 0 ([],[])=aX [Y,Y] from O) ?_;refine ag<|aG ?_;refine ag<|ui x ?_;refine ag<|wp ?_<|eY _;rw[e];have hS:(1#0).objs.size=s⁻¹+1:=wJ ..;have y:l≠s⁻¹:=cM U;have k:(1#0).objs.size≠s⁻¹:=by rw[hS];exact jx<|zn _
 have C:fF X pins H s⁻¹:=I.A0 (aV _)<|I.a.B<|aV _;have D:fF X pins H (1#0).objs.size:=I.A0 (by rw[hS];exact nR _)<|I.a.B (by rw[hS];exact nR _);refine aG (iK i' _,?_);have I0:aA X pins σ H {s with heap:=(1#0).push<|cj "list" #[] 0}:=I.J (t':=s.toks) λb u q=>bQ _<|bQ _ q;have gI:((1#0).push<|cj "list" #[] 0).get? s⁻¹=V {cls:=.type "list_iterator",data:=.fields #[.ref l,.int 0 0]}:=
  bQ _<|dg _ O
 have gS:((1#0).push<|cj "list" #[] 0).get? (1#0).objs.size=V (cj "list" #[] 0):=dg _ O;have a9:=qZ (prog:=X.prog) (w:=X.w) (A:=X.A.in1) hh s⁻¹ l y (c.map Z).toArray;have a0:(c.map Z).toArray.size=c.length:=by rw[cP,au]
 generalize (s.heap.push {cls:=.type "list_iterator",data:=.fields #[.ref l,.int 0 0]}).objs.size=S at *;refine iC rj ?_;rw[ja i' _];show ax _ X.A.in1 (um 5#S >>= _) _ _ _;refine ag<|iU gS O ?_;show ax _ X.A.in1 (rp (iV<|.ref s⁻¹) _ >>= _) _ _ _;refine ag<|lN<|a9.item 0 _ _ _ (by rw[a0];exact d) ((_,gI,O,O),t _ I0) λv E f hP G K=>?_;have e1:c[0]?=V (c[0]'(d)):=cB d;have e2:i[0]?=V (i[0]'(à d (å a6))):=cB (à d (å a6));have hv:v=.ref (c[0]'(d)):=by
  have:(c.map Z)[0]?=V v:=by simpa using hP
  rw[bV,e1] at this;exact(bM this).symm
 subst hv;obtain⟨a1,L,a3,a4⟩:=id G.1;have I1:aA X pins σ H {s with heap:=E,toks:=f}:=aA.M (s:={s with heap:=(1#0).push<|cj "list" #[] 0}) (t':=f) (ch:=[s⁻¹]) I0 (md C) λb o M q=>K b o M q;have P:=K S _ 6#k gS;generalize c[0]'(d)=g at e1 ⊢;generalize (i[0]'(à d (å a6)))=n2 at e2;have s1:=jw E S<|cD λ_=>#[.ref g,.ref g];obtain⟨c2,a5⟩:∃c2,(E.update S<|cD λ_=>#[.ref g,.ref g]).get? S=V (cj "list" #[.ref g,.ref g] c2):=(_,sP P λ_=>#[.ref g,.ref g]);show ax _ X.A.in1 (qT S (λ_=>#[.ref g,.ref g]) >>= _) _ _ _;refine ag ?_;refine m_ (s:={s with heap:=E,toks:=f}) P O ?_;rw[e];refine aG (iK i' _,WB hh ω hl ht D C k y (λj a n R Ij ea en M=>?_) _ 0 0 _ g n2 c2 O d (aA.M (s:={s with heap:=E,toks:=f}) (t':=f) (ch:=[S]) I1 (md D) λb o M q=>(s1.2 b (λz=>M (by simp[z]))).trans q) a5 (a1,(s1.2 _ k.symm).trans L,a3,a4) e1 e2 λj' m a8 em=>?_)
 ·exact(.ref a,H,Ij,O,h j a n ea en M)
 ·obtain rfl:j'=0:=(û a8 ú)
  rw[e2] at em;cases em;cases q:bJ n2 n2 with
  |false=>rfl
  |true=>rw[xD q] at q;cases q
end
def Hu(h:(aI a).Nodup):(aI<|a.filter g_).Nodup:=(uM.map _).nodup h
def Hr:g_ c=ae↔c.2≠0:=by
 unfold g_;simp
noncomputable def ml(p:Int)(a:aM):aM:=(a.map λc=>(aez c.1 (c.2%p))).filter g_
def Pc(b:(aI a).Nodup):(aI<|ml p a).Nodup:=Hu (by rw[BD];exact b)
def Pd(b:(aI a).Nodup)(x:List Int):aS (ml p a) x=aS a x%p:=by
 unfold ml;rw[BH x (by rw[BD];exact b),HB (g:=λv=>v%p)<|Tc p]
def aam{p:Int}(f:0<p)(g:(aI a).Nodup):jq p (ml p a):=(Pc g,λc h=>by
 obtain⟨i,e⟩:=eW.mp h;obtain⟨d,j,rfl⟩:=aO.mp i;have:=Hr.mp e;have:=qh d.2 (b:=p) ω;have:=qi d.2 f;show 1<=d.2%p/\d.2%p<p;have k:d.2%p≠0:=Hr.mp e;omega)
def Pu{a:aM}{q:List Int}(h:q∈aI (a.filter g_)):q∈aI a:=by
 obtain⟨c,b,rfl⟩:=aO.mp h;exact aO.mpr (c,(eW.mp b).1,O)
def Zy{b:List Int}{n:Int}{c:List Int×Int}(h:c∈jl a b n):c∈a\/c=(aez b n):=by
 unfold jl at h;split at h
 ·obtain⟨d,f,e⟩:=aO.mp h
  split at e
  ·rename_i q
   exact .inr (by rw[<-e,q])
  ·exact .inl<|e▸f
 ·rcases dt.mp h with h|h
  ·exact .inl h
  ·exact .inr<|cT.mp h
def aan{q:List Int}(h:q∈aI (ml p a)):q∈aI a:=by
 rw[<-BD (λc=>c.2%p) a];exact Pu h
noncomputable def mm(p k:Int)(h:aM)(c:List Int×Int):aM:=jl h c.1<|(aS h c.1-k*c.2)%p
noncomputable def oG(p k:Int)(h b:aM):aM:=(b.foldl (mm p k) h).filter g_
def BA{p k:Int}:∀(b h:aM),(aI h).Nodup->(aI<|b.foldl (mm p k) h).Nodup
 |[],_,n=>n
 |c::b,h,n=>BA b _ (OH _ _ n)
def Ph{p k:Int}(e:0<p):∀(b h:aM),(∀c∈h,0<=c.2/\c.2<p)->∀c∈b.foldl (mm p k) h,0<=c.2/\c.2<p
 |[],_,n=>n
 |c::b,h,n=>Ph e b _ λd a=>by
  rcases Zy a with a|rfl
  ·exact n d a
  ·exact(qh _ ω,qi _ e)
def Pj{p k:Int}:∀(b h:aM){q:List Int},q∈aI (b.foldl (mm p k) h)->q∈aI h\/q∈aI b
 |[],_,_,n=>.inl n
 |c::b,h,q,n=>by
  rcases Pj b _ n with n|n
  ·rcases ZA n with n|rfl
   ·exact .inl n
   ·exact .inr<|.head _
  ·exact .inr<|.tail _ n
def Pk{p k:Int}(x:List Int):∀(b h:aM),(aI b).Nodup->aS (b.foldl (mm p k) h) x=if x∈aI b then(aS h x-k*aS b x)%p else aS h x
 |[],h,_=>(am (λz=>nomatch z)).symm
 |c::b,h,n=>by
  have d:c.1∉aI b/\(aI b).Nodup:=jM.mp n;show aS (b.foldl (mm p k)<|mm p k h c) x=_;rw[Pk x b _ d.2];unfold mm;rw[PB];have f:aI (c::b)=c.1::aI b:=O
  by_cases e:x=c.1
  ·subst e
   rw[am d.1,av O,av (by rw[f];exact .head _),qF n c<|.head _]
  ·rw[am e,f]
   have g:aS (c::b) x=aS b x:=by
    unfold aS;rw[aiv (by simpa using λz=>e z.symm)]
   by_cases a:x∈aI b
   ·rw[av a,av<|.tail _ a,g]
   ·rw[am a,am (λz=>(cz.mp z).elim e a)]
def Pl{p k:Int}(e:0<p){h b:aM}(a:jq p h):jq p (oG p k h b):=(Hu<|BA _ _ a.a,λc f=>by
 obtain⟨g,i⟩:=eW.mp f;have:=Hr.mp i;have:=Ph e b h (λd j=>by have:=a.lo d j;omega) c g;omega)
def aas{p k:Int}(c:0<p){h b:aM}(a:jq p h)(d:(aI b).Nodup)(x:List Int):aS (oG p k h b) x=(aS h x-k*aS b x)%p:=by
 unfold oG;rw[BH x<|BA _ _ a.a,Pk x b h d]
 by_cases e:x∈aI b
 ·rw[av e]
 ·rw[am e,kN e,zF,zE]
  have:=a.F c x;exact(aje this.1 this.2).symm
def aar{p k:Int}{h b:aM}{q:List Int}(a:q∈aI (oG p k h b)):q∈aI h\/q∈aI b:=Pj b h<|Pu a
abbrev rZ(U:Ξ):Prop:=U.Pairwise λa b=>bJ a b=ae
def aax{a b c:List Int}(h:bJ a b=ae)(g:bJ b c=ae):bJ a c=ae:=by
 cases d:bJ a c with
 |true=>rfl
 |false=>rw[Fl (a:=c) (b:=a) (c:=b) d<|xD h] at g;cases g
def Pe:∀(U:Ξ)(k:List Int),rZ U->∃o,rZ o/\o.length<=U.length+1/\∀x,x∈o↔x=k\/x∈U
 |[],k,_=>([k],aif _ _,aV _,λx=>by simp)
 |a::U,k,h=>by
  obtain⟨g,j⟩:=uI.mp h
  by_cases e:k=a
  ·exact(a::U,h,nR _,λx=>by subst e;simp)
  cases c:bJ k a with
  |true=>
   refine(k::a::U,uI.mpr (λb f=>?_,h),aV _,λx=>by simp);rcases cz.mp f with rfl|f
   ·exact c
   ·exact aax c<|g b f
  |false=>
   have l:bJ a k=ae:=by
    cases d:bJ a k with
    |true=>rfl
    |false=>exact bh (BZ k a c d) e
   obtain⟨o,m,n,i⟩:=Pe U k j;refine(a::o,uI.mpr (λb f=>?_,m),Sx n,λx=>?_)
   ·rcases(i b).mp f with rfl|f
    ·exact l
    ·exact g b f
   ·rw[cz,i,cz]
    constructor
    ·rintro(q|q|q)
     ·exact .inr<|.inl q
     ·exact .inl q
     ·exact .inr<|.inr q
    ·rintro(q|q|q)
     ·exact .inr<|.inl q
     ·exact .inl q
     ·exact .inr<|.inr q
def Pf:∀a:Ξ,∃U,rZ U/\U.length<=a.length/\∀x,x∈U↔x∈a
 |[]=>([],Kd,aV _,λ_=>Iff.rfl)
 |k::a=>by
  obtain⟨U,b,f,c⟩:=Pf a;obtain⟨h,d,g,e⟩:=Pe U k b;exact(h,d,by rw[dj];exact à g (ï f),λx=>by rw[e,c,cz])
def tZ(a:aM)(y:List Int):Prop:=y∈aI a/\∀m∈aI a,bJ y m=aB
section
variable{p:Int}{U:Ξ}{R:List aM}{es:List (List Int×aM)}{row here:aM}{m:Nat}
def Pg(h:rZ U){u t:Nat}(a:U[u]?=V x)(b:U[t]?=V y)(l:bJ y x=aB):u<=t:=by
 refine SE λz=>?_;obtain⟨c,rfl⟩:=bY.mp a;obtain⟨d,rfl⟩:=bY.mp b;rw[pc.mp h t u d c z] at l;cases l
def Yk(h:rZ U)(g:0<p)(d:jq p a)(b:tZ a y){t:Nat}(c:U[t]?=V y):fH p (dz U a) t:=by
 refine(λz=>?_,λu i=>?_)
 ·rw[kO c] at z
  have:=d.B b.1;have:=wS ω z;omega
 ·cases e:U[u]? with
  |none=>rw[pS 6#e];exact dC _
  |some x=>
   rw[kO e];have:x∉aI a:=λf=>by have:=Pg h e c<|b.2 x f;exact ø i this
   rw[kN this];exact dC _
structure yA(p:Int)(U:Ξ)(R:List aM)(es:List (List Int×aM)):Prop where
 b:(es.map (·.1)).Nodup
 a:∀e∈es,jq p e.2/\tZ e.2 e.1/\∀q∈aI e.2,q∈U
 sp:∀e∈es,dA p (R.map aS) (aS e.2)
noncomputable abbrev tP(es:List (List Int×aM)):List (List Int->Int):=es.map λe=>aS e.2
def BF{y:List Int}(h:y∈U):U[U.idxOf y]?=V y:=by
 rw[cB<|ain h,aip]
noncomputable def yA.B(h:yA p U R es)(i:0<p)(j:rZ U):sv p U (es.map λe=>(aez (U.idxOf e.1) (aS e.2))):=by
 have c:∀e∈es,e.1∈U:=λe d=>(h.a e d).2.2 _ (h.a e d).2.1.1;refine(?_,λr k=>?_)
 ·rw[bN]
  have:=h.b;rw[uJ,ip] at this ⊢;refine(Tb.mp this).imp λ{a b} (l,m,f) z=>f ?_;have g:=BF<|c a l;have n:=BF<|c b m;rw[show U.idxOf a.1=U.idxOf b.1 from z] at g;exact bM<|g.symm.trans n
 ·obtain⟨e,d,rfl⟩:=aO.mp k
  exact Yk j i (h.a e d).1 (h.a e d).2.1<|BF<|c e d
def Ye:(es.map λe=>(aez (U.idxOf e.1) (aS e.2))).map (·.2)=tP es:=by rw[bN];rfl
structure wa(p:Int)(U:Ξ)(R:List aM)(es:List (List Int×aM))(row here:aM)(m:Nat):Prop where
 a:jq p here
 u:∀q∈aI here,∃u,u<m/\U[u]?=V q
 b:dA p (tP es) λx=>aS row x-aS here x
 c:dA p (R.map aS) (aS here)
def abm(b:0<p)(c:row∈R)(a:(aI row).Nodup)(d:∀q∈aI row,q∈U):wa p U R es row (ml p row) U.length:=by
 refine(aam b a,λq f=>?_,qO λx=>?_,mB (λx=>?_)<|nH<|aO.mpr (row,c,O))
 ·obtain⟨u,e⟩:=gW.mp<|d q<|aan f
  exact(u,(bY.mp e).1,e)
 ·rw[Pd a];exact vW _ _
 ·rw[Pd a]
  have:=vW (aS row x) p;rw[show aS row x%p-aS row x=-(aS row x-aS row x%p) from ω];exact uO.mpr this
def abl(f:0<p)(v:rZ U)(j:yA p U R es)(h:wa p U R es row here m){b:aM}(g:(aez y b)∈es)(n:tZ here y){G:Int}(w:G*aS b y%p=aS here y):∃u,u<m/\wa p U R es row (oG p G here b) u:=by
 obtain⟨o,A,r⟩:=h.u y n.1;obtain⟨i,C,D⟩:=j.a _ g;have c:=λx=>aas (k:=G) f h.a i.a x;have s:∀x,p ∣ (aS here x-G*aS b x)-aS (oG p G here b) x:=λx=>by rw[c];exact vW _ _
 refine(o,A,Pl f h.a,λq a=>?_,mB (λx=>?_)<|qQ (k:=G) (nH<|aO.mpr (_,g,O)) h.b,mB (λx=>?_)<|qQ (k:=-G) (j.sp _ g) h.c)
 ·have E:q≠y:=λz=>by
   subst z;have t:=(Pl (k:=G) (b:=b) f h.a).B a;rw[c,<-w] at t;have:p ∣ (G*aS b q%p-G*aS b q):=by
    have:=vW (G*aS b q) p;rw[show G*aS b q%p-G*aS b q=-(G*aS b q-G*aS b q%p) from ω];exact uO.mpr this
   rw[Km this] at t;omega
  have d:∀u,U[u]?=V q->bJ y q=aB->∃u,u<o/\U[u]?=V q:=λu e l=>by
   have:=Pg v e r l;refine(u,Nat.lt_of_le_of_ne this λz=>?_,e);subst z;exact E<|bM<|e.symm.trans r
  rcases aar a with a|a
  ·obtain⟨u,_,e⟩:=h.u q a
   exact d u e<|n.2 q a
  ·obtain⟨u,e⟩:=gW.mp<|D q a
   exact d u e<|C.2 q a
 ·have:=s x
  rw[show aS row x-aS (oG p G here b) x-(G*aS b x+(aS row x-aS here x))=aS here x-G*aS b x-aS (oG p G here b) x from ω];exact this
 ·have:=uO.mpr<|s x
  rw[show -(aS here x-G*aS b x-aS (oG p G here b) x)=aS (oG p G here b) x-(-G*aS b x+aS here x) by rw[Kj];omega] at this;exact this
def OC{e:List Int×aM}(h:dA p (tP es) f):dA p (tP<|es++[e]) f:=qP h λv a=>by
 obtain⟨q,b,rfl⟩:=aO.mp a;exact nH<|aO.mpr (q,kF _ b,O)
def abo(h:wa p U R es row [] m):dA p (tP es) (aS row):=mB (λx=>by
 show p ∣ aS row x-(aS row x-0);rw[zE,rr];exact dC _) h.b
def abn(d:yA p U R es)(h:wa p U R es row here m)(f:tZ here y)(g:y∉es.map (·.1)):yA p U R (es++[(aez y here)])/\dA p (tP<|es++[(aez y here)]) (aS row):=by
 refine((?_,λn c=>?_,λn c=>?_),?_)
 ·rw[bU,kg]
  refine(d.b,by simp,λa i b j z=>?_);obtain rfl:b=y:=by simpa using j
  exact g<|z▸i
 ·rcases dt.mp c with c|c
  ·exact d.a n c
  ·obtain rfl:=cT.mp c
   exact(h.a,f,λq l=>by obtain⟨u,_,n⟩:=h.u q l;exact dh n)
 ·rcases dt.mp c with c|c
  ·exact d.sp n c
  ·obtain rfl:=cT.mp c
   exact h.c
 ·refine mB (λx=>?_)<|qQ (k:=1) (OC (e:=(aez y here)) h.b)<|nH<|aO.mpr ((aez y here),jO _<|.head _,O)
  show p ∣ aS row x-(1*(aS row x-aS here x)+aS here x);rw[show aS row x-(1*(aS row x-aS here x)+aS here x)=0 from ω];exact dC _
def Px(c:rZ U)(b:jq p a)(h:∀q∈aI a,q∈U):a.length<=U.length:=by
 rw[<-oJ];exact b.a.length_le_of_subset h
end
noncomputable abbrev vM:cJ:=dW 54
abbrev By:lE:=lp (λ_ j=>0<j) λi j=>.int<|i%j
abbrev Og:dO:=jd<|dk EO (dk By (nx (bw 1)<|bw 0)<|bw 2)<|gh<|.int 0
abbrev Od:bd:=mQ<|eR (bw 0)<|eR (dk By (nx (bw 1)<|bw 0)<|bw 2) gg
section
variable{P:bu}{w:bf}{K:aY}{mg:aq->Option aa}{base:aW}{f:W}{fd:cW}
def aal{n:ab}{C:List W}{p:Int}{Q:aU}(u:0<p)(X:n L=V (.lst<|C.map af.ref))(P:bA n C (aI h))(hd:n d=V (.a<|bB h))(hn:(aI h).Nodup)(hz:h.length<=3000)(R:n D=Y)(k:∀(b:ab)(f:List W),aL n b->b D=V (.lst<|f.map af.ref)->gQ b f (ml p h)->Q 5#D b):dU (gY K L) (dw 0) Og Od [Y,V<|.ref d,V<|.int p] n D Q:=by
 have w:=P.B;rw[oJ] at w;refine jT (xs:=C.map af.ref) (λj E y b=>∃(v:Option af)(f:List W),E=[v,V<|.ref d,V<|.int p]/\aL n b/\b D=V (.lst y)/\y=f.map af.ref/\gQ b f (ml p<|h.take j)) ?_ ?_ ?_ ?_
 ·exact(Y,[],O,aL.B R,az,O,.nil)
 ·rintro j E y b ⟨v,f,rfl,i,e,rfl,s⟩
  exact bI.B<|i _ _ X
 ·rintro j E y b x hx S T ⟨v,f,rfl,i,e,rfl,s⟩
  obtain⟨a,ea,rfl⟩:=fG hx;obtain⟨ps,q,A⟩:=P.F ea;unfold aI at q;rw[bV] at q;obtain⟨c,G,rfl⟩:=o_.mp q;have H:(C.map af.ref).length<=bD:=by rw[au];exact bR (â (à (å w) hz))
  have g:∀I,aL b I->gN I d 5#a (V<|.int c.2):=λI m=>.inr (bB h,c.1.map aN,a,.inl<|m _ _<|i _ _ hd,O,mq<|m.J<|i.J A,(mh hn c<|dh G).symm);refine(_,O,_,O,d,_,O,g b<|aL.refl _,_,O,_,_,O,O,u,O,_,O,?_);have U:ml p (h.take j++[c])=ml p (h.take j)++[(aez c.1 (c.2%p))].filter g_:=by unfold ml;rw[bU,jb];rfl
  cases l:g_ (aez c.1 (c.2%p)) with
  |true=>
   have r:(!aE (af.int (c.2%p)=af.int 0))=ae:=l;rw[r];refine eS (_,O,_,O,_,O,d,_,O,g b<|aL.refl _,_,O,_,_,O,O,u,bR 0#0,λt M=>?_);have m:=aL.B (o:=.tup [.ref a,.int<|c.2%p]) M;refine fz H S T (m _ _ e) (_,f++[t],O,(i.F m).N R,az,by rw[bU];rfl,?_);rw[cG G,U,mL l];exact gQ.J (gQ.M (s.B m) (a,az,m.J<|i.J A)) (m _ _ e) (by intro xs z;cases z)
  |false=>
   have r:(!aE (af.int (c.2%p)=af.int 0))=aB:=l;rw[r];refine dT<|oB S T (_,f,O,i,e,O,?_);rw[cG G,U,k_ (by rw[l];decide),qg,jy];exact s
 ·rintro E y b ⟨v,f,rfl,i,e,rfl,s⟩
  rw[au,w,gE] at s;exact k b f i e s
abbrev t_:=List<|W×List Int×aM
noncomputable def oH(a:t_):List (List aK×af):=a.map λh=>(aez (h.2.1.map aN) (af.ref h.1))
noncomputable abbrev jI(a:t_):List (List Int×aM):=a.map (·.2)
def HA(a:t_):(jI a).map (·.1)=a.map λh=>h.2.1:=by unfold jI;rw[bN];rfl
def PA(a:t_)(q:List Int):(fm (oH a)<|q.map aN).isSome=aE (q∈(jI a).map (·.1)):=by
 rw[<-vf,uQ,wQ,iE,HA];unfold oH;constructor
 ·rintro⟨f,b,e⟩
  obtain⟨h,c,rfl⟩:=aO.mp b;exact aO.mpr (h,c,nA.mp<|fc e)
 ·intro h
  obtain⟨e,d,rfl⟩:=aO.mp h;exact(_,aO.mpr (e,d,O),bT O)
def NY:∀{a:t_},((jI a).map (·.1)).Nodup->∀h∈a,fm (oH a) (h.2.1.map aN)=V (.ref h.1)
 |[],_,h,b=>bh b 0#0
 |d::a,n,h,b=>by
  have e:d.2.1∉(jI a).map (·.1)/\((jI a).map (·.1)).Nodup:=jM.mp n;rcases cz.mp b with rfl|b
  ·exact xm (p:=(aez (h.2.1.map aN) (af.ref h.1))) O
  ·have c:¬d.2.1.map aN=(h.2.1.map aN:List aK):=λz=>e.1 (by rw[nA.mp z,HA];exact aO.mpr (h,b,O))
   exact(xn (p:=(aez (d.2.1.map aN) (af.ref d.1))) c).trans<|NY e.2 h b
def Zx{q:List Int}(h:q∉(jI a).map (·.1)):dZ (oH a) (q.map aN) 5#c=oH (a++[(aez c (aez q cs))]):=by
 unfold dZ;rw[am (by
  rw[vf,PA]
  simpa using h)]
 unfold oH;rw[bU]
 rfl
def Hw{H:ab}(g:H L=Y)(h:eI (λ(p:List aK×af) b=>H b=V (.tup<|p.1.map cR)) (bB c) d){j:Nat}{n:List Int}(i:d[j]?=V a)(e:(aI c)[j]?=V n)(k:∀m∈aI c,bJ n m=aB):de (aD H L<|.lst<|d.map af.ref) a n/\tZ c n:=by
 have s:=aL.B (o:=.lst<|d.map af.ref) g;have l:=s.M<|pQ h;obtain⟨q,f,r⟩:=l.F i;rw[e] at f;cases f;exact(r,dh e,k)
def Ht{H:ab}{c z:W}{b:aM}(d:H c=V (.a<|bB b))(e:H z=V (.a [])):FS H c z (aE<|b=[]):=by
 refine(bB b,[],aI b,[],b.map (·.2),.inl d,.inl e,?_,O,?_,?_)
 ·unfold bB aI;rw[bN,bN];rfl
 ·unfold bB;rw[bN,bN];rfl
 ·cases b with
  |nil=>exact .inl (by simp,O,λf h=>nomatch h)
  |cons a r=>exact .inr (by simp,by unfold bB;simp)
abbrev Oe:dO:=jd<|dk qp (dk By (dk (lp rO λi j=>.int<|i*j) (bw 0)<|nx (bw 1)<|bw 2)<|bw 3)<|nx (bw 4)<|bw 2
def aag{c:ab}{D o t h:W}{wt g p:Int}{n:Nat}{Q:aU}(x:n<=100)(hw:-(2 ^ 64)<wt/\wt<2 ^ 64)(s:0<p)(q:c D=Y)(u:∀a,aL c a->gN a o 5#t (V<|.int wt))(w:∀a,aL c a->gN a h 5#t (V<|.int g))(k:∀a,aL c a->a D=V (.lst<|((cr n).filter λj:Nat=>aE<|(1+(j:Int))*wt%p=g).map λj:Nat=>af.int<|1+j)->Q 5#D a):dU (jX 1 n) (dw 0) Oe (bw 0) [Y,V<|.ref o,V<|.ref t,V<|.int p,V<|.ref h] c D Q:=by
 refine qw (λj l f a=>∃(v:Option af),l=[v,V<|.ref o,V<|.ref t,V<|.int p,V<|.ref h]/\aL c a/\a D=V (.lst f)/\f=(((cr n).take j).filter λj:Nat=>aE<|(1+(j:Int))*wt%p=g).map λj:Nat=>af.int<|1+j) ?_ ?_ ?_
 ·exact(Y,O,aL.B q,az,O)
 ·rintro i l f a m r ⟨v,rfl,d,b,rfl⟩
  have e:(cr n)[i]?=V i:=by rw[pf m]
  refine(_,O,_,O,_,O,o,_,O,u a d,_,_,O,O,.inr hw,_,O,_,_,O,O,s,_,O,_,O,h,_,O,w a d,O,_,O,?_)
  by_cases h:(1+(i:Int))*wt%p=g
  ·rw[bT<|fj af.int h]
   refine eS (_,O,fz (bR (â x)) m r b (_,O,d.N q,az,?_));rw[cG e,jb,mL (by exact bT h),qg,bU]
   rfl
  ·rw[cw (λz=>h (by injection z))]
   refine dT<|oB m r (_,O,d,b,?_);rw[cG e,jb,k_ 6#h,qg,jy]
 ·rintro l f a ⟨v,rfl,d,b,rfl⟩
  rw[eV (by rw[lT];exact aV _)] at b;exact k a d b
end
section
variable{P:bu}{w:bf}{K:aY}{mg:aq->Option aa}{base:aW}{f:W}{fd:cW}
def Oa(a:tZ c x)(b:tZ c y):x=y:=BZ x y (a.2 y b.1)<|b.2 x a.1
def aah{p a g:Int}(c:lJ p)(hw:1<=a/\a<p)(d:1<=g/\g<p):∃j:Nat,j<(p-1).toNat/\(1+(j:Int))*a%p=g:=by
 obtain⟨k,f,b⟩:=c.B.1.e a g λz=>by have:=wS ω z;omega
 cases k with
 |zero=>
  rw[show(((0:Nat):Int))*a-g=-g by simp] at b;have:=wS ω<|uO.mp b;omega
 |succ j=>
  refine(j,ω,?_);have e:(1+(j:Int))*a=((j+1:Nat):Int)*a-g+g:=by
   rw[show((j+1:Nat):Int)=1+(j:Int) from ω];omega
  rw[e,Int.add_emod,Km b,Kh,ajf,aje ω d.2]
inductive AU(K:aY)(vs:List af)(H:ab)(Q:aU)(E':db):Prop
 |a:∀(l:W)(ds:List W)(rows:List aM)(p:Int),(vs=[.ref l,.int p])->(bI K H l<|ds.map af.ref)->(eI (λd cs=>H d=V (.a<|bB cs)) ds rows)->((∀cs∈rows,(aI cs).Nodup))->((rows.flatMap aI).length<=1000)->(rows.length<=1000)->(lJ p)->(∀U A H',aL H H'->sv p U A->(∀r∈A,dA p (rows.map aS) r.2)->(∀cs∈rows,dA p (A.map (·.2)) (aS cs))->Q (.int A.length) H')->AU K vs H Q E'
noncomputable abbrev Bz:List aq:=["rows","prime","heads","row","here","top","other","often","key"]
def qD:dG Bz ["rows","prime"] (bX vM):=(O,O,O,δ,O,δ,δ)
def ZV(F:b_ K "_law_rank" "_law_rank" vM f fd)(i5:fN mg)(d7:mg "dict"=Y)(c4:mg "max"=Y):ce P w K mg base bx 1 f fd ["rows","prime"] (AU K):=by
 refine F.B qD (λvs H Q E h=>?_) (λh9 A f6 s H vs Q E hr h=>?_)
 ·obtain⟨l,ds,t,p,rfl,_⟩:=h;rfl
 ·obtain⟨l,ds,t,p,rfl,hl,d8,f7,i0,i1,hp,k⟩:=h
  have hu:=ko hr;have S:=hr.units;have b0:0<p:=by have:=hp.B.1.c;omega
  have i2:=hp.B.2;obtain⟨U,lu,lU,mU⟩:=Pf<|t.flatMap aI;have f8:∀cs∈t,∀q∈aI cs,q∈U:=λcs hc q hq=>(mU q).mpr<|jN.mpr (cs,hc,hq);refine(_,bj (cq (i:=2) qD.a O (ai O) pH)
   (bj (gz ga O (eO<|ah 0) (cx (i:=3) qD.a O<|aw O)
    (bj (cq (i:=4) qD.a O (aw O) (gA (FF O S) O d7 HM (ao (fe Bz ["key","row","prime"] [Y,V 3,V 1] (eO<|gA (qx O) O i5.list j_<|ao 7#3 aF) (λcl C G I ex=>cx (i:=0) (eF ["key","row","prime"]) O<|ai O)
     (λcl C G I ex=>lq<|dD rH (bW kH (gi hu 7#1 7#0 (λ_ _=>O))<|ah 2) bb<|dF _) (λcl C G I ex=>jC<|ao 7#0<|ao (bW kH (gi hu 7#1 7#0 (λ_ _=>O))<|ah 2) aF) (hfr:=ii (bX vM) δ) (tc:=Og) (te:=Od)) aF)))
    (bj (EU ga (tK.B<|Mh (dD (MA S) 7#4 pH<|dF _)<|Mg<|Mj (Fb hu (dM (FD O S) O c4 vZ<|ao (gA (qx O) O i5.list j_<|ao 7#4 aF) aF)<|ah 2) (by with_unfolding_all rfl))
     (bj (cq (i:=5) qD.a O (aw O)<|dM (FD O S) O c4 vZ<|ao (gA (qx O) O i5.list j_<|ao 7#4 aF) aF)
     (bj (cq (i:=6) qD.a O (aw O)<|gi hu 7#2 7#5 (λ_ _=>O))
     (bj (cq (i:=7) qD.a O (ai O) (eK lw (fe Bz ["k","other","top","prime","here"] [Y,V 6,V 5,V 1,V 4] (EX O i5.b<|ao bb<|ao 7#1 aF) (λcl C G I ex=>cx (i:=0) (eF ["k","other","top","prime","here"]) O<|ai O)
      (λcl C G I ex=>lq<|dD jS (bW kH (bW mT 7#0<|gi hu 7#1 7#2 (λ_ _=>O))<|ah 3) (gi hu 7#4 7#2 (λ_ _=>O))<|dF _) (λcl C G I ex=>ah 0) (hfr:=ii (bX vM) δ) (tc:=Oe) (te:=bw 0)) bb (λ_ _=>O)))
     (bj (gz ga O (eO<|gA (qx O) O i5.list j_<|ao 7#6 aF) (cx (i:=8) qD.a O<|ai O)
     <|bF<|lZ hu 7#4 7#8 (bW kH (bW mS (E_ hu 7#4 7#8 bb (O,O,O,O))<|bW mT 7#7<|gi hu 7#6 7#8 (λ_ _=>O))<|ah 1) O)
     (bF (cq (i:=4) qD.a O (aw O) (gA (FF O S) O d7 HM (ao (fe Bz ["key","here"] [Y,V 4] (eO<|gA (qx O) O i5.list j_<|ao 7#4 aF) (λcl C G I ex=>cx (i:=0) (eF ["key","here"]) O<|ai O)
      (λcl C G I ex=>lq<|dD rH (gi hu 7#1 7#0 (λ_ _=>O)) bb<|dF _) (λcl C G I ex=>jC<|ao 7#0<|ao (gi hu 7#1 7#0 (λ_ _=>O)) aF) (hfr:=ii (bX vM) δ) (tc:=Ge) (te:=Gd)) aF)))))))))
   <|bF<|fL (dD (MA S) 7#4 pH<|dF _) (bF<|lZ hu 7#2 (dM (FD O S) O c4 vZ<|ao (gA (qx O) O i5.list j_<|ao 7#4 aF) aF) 7#4 O) fV)))
  <|bF<|cX<|dM FE O i5.a fq<|ao 7#2 aF),?_)
  intro hd d9;have f9:ds.length=t.length:=d8.length;have s0:=aL.B (o:=.a []) d9;refine(_,O,l,O,(_,s0.A1 hl),me (K:=K) (a:=l) (xs:=ds.map af.ref) (λi σ H2=>∃(hs:t_)(v3 v4 v5 v6 v7 v8:Option af),σ=[V<|.ref l,V<|.int p,V<|.ref hd,v3,v4,v5,v6,v7,v8]/\aL H H2/\H2 hd=V (.a<|oH hs)/\(∀h∈hs,H2 h.1=V (.a<|bB h.2.2)/\h.1≠hd)/\hs.length<=i/\yA p U t (jI hs)/\∀cs∈t.take i,dA p (tP<|jI hs) (aS cs))
   ([],Y,Y,Y,Y,Y,Y,O,s0,az,(λh z=>nomatch z),aV _,(lS,(λe z=>nomatch z),(λe z=>nomatch z)),λcs z=>nomatch z) (λi σ H2 _ (_,_,_,_,_,_,_,_,sm,_)=>sm.A1 hl) ?_ ?_)
  ·rintro i x σ H2 hx ⟨hs,v3,v4,v5,v6,v7,v8,rfl,sm,T,a2,g0,HD,a4⟩
   obtain⟨d,ed,rfl⟩:=fG hx;have hi:i<t.length:=by have:=(bY.mp ed).1;exact à this (å f9)
   obtain⟨a1,er⟩:∃r,t[i]?=V r:=(_,cB hi);have a9:=dh er;have e0:H2 d=V (.a<|bB a1):=sm _ _<|ox d8 i _ _ ed er;have c5:=f7 a1 a9;have h8:a1.length<=1000:=by
    have:=(List.sublist_flatten_of_mem (aO.mpr (a1,a9,O)):(aI a1).Sublist (t.map aI).flatten).length_le;rw[<-List.flatMap_def,oJ] at this;exact à this i0
   refine(_,O,d,bB a1,O,.inl e0,λbs pb L hL=>(L,O,(_,bI.B az),λD hD=>eP<|aal b0 az ((aL.B hL).M<|pQ pb) (aL.B hL _ _ e0) c5 (â h8) hD λH3 ts s3 c6 g1=>?_));refine(D,ts,bB<|ml p a1,O,bI.B c6,Hx g1,λc0 e1=>?_);rw[HC,HG _<|Pc c5];have e2:=(aL.B hL).F s3;have g2:=e2.F<|aL.B (o:=.a<|bB<|ml p a1) e1;have b2:∀{c:W},H2 c=Y->hd≠c:=λe z=>by subst z;rw[T] at e;cases e
   have g3:∀{c:W},H2 c=Y->∀h∈hs,h.1≠c:=λe h hh z=>by subst z;rw[(a2 h hh).1] at e;cases e
   refine(λm σ H4=>∃(n:aM)(c:W)(v5 v6 v7 v8:Option af),σ=[V<|.ref l,V<|.int p,V<|.ref hd,V<|.ref d,V<|.ref c,v5,v6,v7,v8]/\aL H2 H4/\H2 c=Y/\H4 c=V (.a<|bB n)/\wa p U t (jI hs) a1 n m,
    (U.length,ml p a1,c0,_,_,_,_,O,g2,e2.A0 e1,az,abm b0 a9 c5<|f8 a1 a9),?_)
   rintro m σ H4 ⟨n,c,v5,v6,v7,v8,rfl,s4,hc,c7,HR⟩;have b3:=HR.a;have lh:n.length<=1000:=dq (Px lu b3 λq hq=>by obtain⟨u,_,e⟩:=HR.u q hq;exact dh e) (à lU i0);refine(_,O,λz hz=>(c,z,_,O,O,Ht (aL.B hz _ _ c7) az,_,O,?_));have sz:=aL.B (o:=.a []) hz
   by_cases a5:n=[]
   ·rw[bT a5]
    refine dT ?_;refine dT ?_;have s5:=s4.F sz;refine(_,O,λz2 b4=>(c,z2,_,O,O,Ht (aL.B b4 _ _<|sz _ _ c7) az,_,O,?_));rw[bT a5];have s6:=s5.F<|aL.B (o:=.a []) b4;refine dT (hs,_,_,_,_,_,_,O,sm.F s6,s6 _ _ T,λh hh=>(s6 _ _ (a2 h hh).1,(a2 h hh).2),(í g0),HD,λcs v=>?_);rw[cG er] at v;rcases dt.mp v with v|v
    ·exact a4 cs v
    ·obtain rfl:=cT.mp v
     subst a5;exact abo HR
   rw[cw a5];have e3:=sz _ _ c7;refine eS (_,O,c,bB n,O,.inl e3,λe4 e5 L1 c1=>(L1,e4,aI n,O,bI.B az,(aL.B c1).M<|pQ e5,λz=>a5<|DA.mp z,λj1 a0 y g4 g5 g6=>?_));obtain⟨g7,ty⟩:=Hw c1 e5 g4 g5 g6;refine(_,O,hd,_,O,.inr (oH hs,y.map aN,a0,.inl<|aL.B c1 _ _<|sz _ _<|s4 _ _ T,O,mq g7,O),_,O,?_);have e6:=aL.B (o:=.lst<|e4.map af.ref) c1;have s5:=s4.F<|sz.F e6;have c2:=e6 _ _ e3;rw[PA]
   by_cases hy:y∈(jI hs).map (·.1)
   ·rw[bT hy]
    refine eS (_,λi3 H' h=>h,?_);refine(_,O,c,bB n,O,.inl c2,λa6 b5 L2 a7=>(L2,a6,aI n,O,bI.B az,(aL.B a7).M<|pQ b5,λz=>a5<|DA.mp z,λj2 a y' c8 c9 d0=>?_));obtain⟨ha,d1⟩:=Hw a7 b5 c8 c9 d0;obtain rfl:=Oa ty d1;have a8:=aL.B (o:=.lst<|a6.map af.ref) a7;have s6:=s5.F a8;have b1:=a8 _ _ c2;generalize aD _ L2 (.lst<|a6.map af.ref)=H6 at a8 s6 b1 ha;rw[HA] at hy;obtain⟨h,hh,ey⟩:=aO.mp hy;obtain⟨o,y',b⟩:=h;obtain rfl:y'=y:=ey;have hb:(aez y' b)∈jI hs:=aO.mpr (_,hh,O);obtain⟨b6,tb,ub⟩:=HD.a _ hb;have ho:H6 o=V (.a<|bB b):=s6 _ _ (a2 _ hh).1;have lb:b.length<=1000:=dq (Px lu b6 ub) (à lU i0);have wb:1<=aS b y'/\aS b y'<p:=b6.B tb.1;have wh:=b3.B ty.1;have gO:∀H7,aL H6 H7->gN H7 o 5#a (V<|.int<|aS b y'):=λH7 s7=>.inr (bB b,y'.map aN,a,.inl<|s7 _ _ ho,O,mq<|s7.J ha,(by
     obtain⟨cc,b7,e⟩:=aO.mp tb.1;have e:cc.1=y':=e;rw[<-e,qF b6.a cc b7];exact(mh b6.a cc b7).symm))
    have gH:∀H7,aL H6 H7->gN H7 c 5#a (V<|.int<|aS n y'):=λH7 s7=>.inr (bB n,y'.map aN,a,.inl<|s7 _ _ b1,O,mq<|s7.J ha,(by
     obtain⟨cc,b7,e⟩:=aO.mp ty.1;rw[<-e,qF b3.a cc b7];exact(mh b3.a cc b7).symm))
    refine(_,O,_,O,hd,_,O,.inr (oH hs,y'.map aN,a,.inl<|s6 _ _ T,O,mq ha,(NY HD.b _ hh).symm),?_);refine(_,O,1,p,O,(ω,ω,ω,ω),λD2 g8=>eP<|aag (wt:=aS b y') (g:=aS n y') ω (ω,ω) b0 g8 gO gH λH7 s7 e7=>?_);obtain⟨j0,j1,j2⟩:=aah hp wb wh;have hm:j0∈(cr (p-1).toNat).filter λj:Nat=>aE<|(1+(j:Int))*aS b y'%p=aS n y':=eW.mpr (fJ.mpr j1,bT j2);cases e:(cr (p-1).toNat).filter λj:Nat=>aE<|(1+(j:Int))*aS b y'%p=aS n y' with
    |nil=>rw[e] at hm;cases hm
    |cons j r=>
    have hj:j∈(cr (p-1).toNat).filter λj:Nat=>aE<|(1+(j:Int))*aS b y'%p=aS n y':=by rw[e];exact .head _
    obtain⟨j3,j4⟩:=eW.mp hj;have j5:=fJ.mp j3;have j6:(1+(j:Int))*aS b y'%p=aS n y':=fc j4;rw[e] at e7;refine(D2,_,0,.int<|1+j,O,O,bI.B e7,jg (j:=0) O,?_);have b8:=s7 _ _ b1;have g9:=s7 _ _ ho;have h0:=s6.F s7;refine(_,O,o,bB b,O,.inl g9,λc3 h1 L3 e8=>?_);have d2:=aL.B (o:=.lst<|c3.map af.ref) e8;have e9:=d2.M<|pQ h1;have cL:c≠L3:=cN b8 e8;have f0:=e9.B;rw[oJ] at f0;refine(L3,O,(_,bI.B az),me (K:=K) (a:=L3) (xs:=c3.map af.ref) (λi σ H8=>∃(v8:Option af),σ=[V<|.ref l,V<|.int p,V<|.ref hd,V<|.ref d,V<|.ref c,V<|.ref a,V<|.ref o,V<|.int<|1+j,v8]/\aL H2 H8/\H8 L3=V (.lst<|c3.map af.ref)/\bA H8 c3 (aI b)/\H8 c=V (.a<|bB<|(b.take i).foldl (mm p<|1+j) n)/\((b.take i).foldl (mm p<|1+j) n).length<=1000+i)
     (_,O,h0.F d2,az,e9,d2 _ _ b8,by simpa using lh) (λi σ H8 _ (_,_,_,h,_)=>bI.B h) ?_ ?_)
    ·rintro i x σ H8 hx ⟨v8,rfl,s8,f1,d3,a3,b9⟩
     obtain⟨q0,h2,rfl⟩:=fG hx;obtain⟨ps,d4,d5⟩:=d3.F h2;unfold aI at d4;rw[bV] at d4;obtain⟨cc,ec,rfl⟩:=o_.mp d4;have i4:i<b.length:=(bY.mp ec).1;have f2:=dh ec;refine(_,O,c,O,.inr (_,.inl a3),_,O,_,.inr (_,cc.1.map aN,q0,.inl a3,O,mq d5,O),?_);rw[FV];refine(_,O,_,O,_,O,o,.int cc.2,O,.inr (bB b,cc.1.map aN,q0,.inl<|s8 _ _ (a2 _ hh).1,O,mq d5,(mh b6.a cc f2).symm),_,_,O,O,.inl (ω,ω),_,_,O,O,_,O,_,_,O,O,b0,_,O,_,O,c,_,O,AF.t (k:=cc.1.map aN) a3 (mq d5)<|jm (by rw[nD];omega),(_,O,s8.N hc,?_,ka d3 a3 (by intro xs z;cases z),?_,?_))
     ·rw[aZ<|dp cL];exact f1
     ·rw[az,vQ,cG ec,s_]
      rfl
     ·rw[cG ec,s_]
      show(jl _ cc.1 _).length<=_;have:=OI ((b.take i).foldl (mm p<|1+j) n) cc.1<|(aS ((b.take i).foldl (mm p<|1+j) n) cc.1-(1+(j:Int))*cc.2)%p;exact à this (ï b9)
    ·rintro σ H8 ⟨v8,rfl,s8,f1,d3,a3,b9⟩
     rw[au,f0,gE] at a3 b9;have nX:=BA (p:=p) (k:=1+j) b n b3.a;have XF:oG p (1+j) n b=(b.foldl (mm p<|1+j) n).filter g_:=O;obtain⟨u,h3,d6⟩:=abl b0 lu HD HR hb ty j6;rw[XF] at d6;generalize b.foldl (mm p<|1+j) n=X at a3 b9 nX d6;refine(_,O,c,bB X,O,.inl a3,λes pe M hM=>(M,O,(_,bI.B az),λD3 c6=>eP<|OL az ((aL.B hM).M<|pQ pe) (aL.B hM _ _ a3) nX ω c6 λH9 ts s9 h4 h5=>?_));refine(D3,ts,bB<|X.filter g_,O,bI.B h4,Hx h5,λR hR=>?_);rw[HC,HG _<|Hu nX];have f3:=(s8.F<|aL.B hM).F s9;exact(u,h3,X.filter g_,R,_,_,_,_,O,f3.F<|aL.B hR,f3.A0 hR,az,d6)
   ·rw[cw hy]
    refine dT ?_;refine(_,O,λz2 b4=>(c,z2,_,O,O,Ht (aL.B b4 _ _ c2) az,_,O,?_));have f4:=aL.B (o:=.a []) b4;rw[cw a5];have s6:=s5.F f4;have b1:=f4 _ _ c2;refine eS (_,O,_,O,_,O,c,bB n,O,.inl b1,λa6 b5 L2 a7=>(L2,a6,aI n,O,bI.B az,(aL.B a7).M<|pQ b5,λz=>a5<|DA.mp z,λj2 a y' c8 c9 d0=>?_));obtain⟨ha,d1⟩:=Hw a7 b5 c8 c9 d0;obtain rfl:=Oa ty d1;have a8:=aL.B (o:=.lst<|a6.map af.ref) a7;have s7:=s6.F a8;have b8:=a8 _ _ b1;generalize aD _ L2 (.lst<|a6.map af.ref)=H7 at a8 s7 b8 ha;obtain⟨h6,h7⟩:=abn HD HR ty hy;have f5:=s7 _ _ T;refine(hd,_,O,AF.t (k:=y.map aN) f5 (mq ha)<|jm (by unfold oH;rw[au];exact â (à (à g0 (ì hi)) i1)),hs++[(aez c (aez y n))],_,_,_,_,_,_,O,(sm.F s7).N d9,?_,λh hh=>?_,by rw[c_];simp;exact g0,?_,λcs v=>?_)
    ·rw[az,Zx (cs:=n) hy]
    ·rcases dt.mp hh with hh|hh
     ·exact(by rw[aZ (a2 h hh).2];exact s7 _ _ (a2 h hh).1,(a2 h hh).2)
     ·obtain rfl:=cT.mp hh
      exact(by rw[aZ<|dp<|b2 hc];exact b8,dp<|b2 hc)
    ·rw[show jI (hs++[(aez c (aez y n))])=jI hs++[(aez y n)] by unfold jI;rw[bU];rfl]
     exact h6
    ·rw[show jI (hs++[(aez c (aez y n))])=jI hs++[(aez y n)] by unfold jI;rw[bU];rfl]
     rw[cG er] at v;rcases dt.mp v with v|v
     ·exact OC<|a4 cs v
     ·obtain rfl:=cT.mp v
      exact h7
  ·rintro σ H2 ⟨hs,v3,v4,v5,v6,v7,v8,rfl,sm,T,a2,g0,HD,a4⟩
   rw[au,f9,gE] at a4;refine(_,O,hd,_,O,.inl T,?_);have:=k U ((jI hs).map λe=>(aez (U.idxOf e.1) (aS e.2))) H2 sm (HD.B b0 lu) (λr hr=>by
    obtain⟨e,he,rfl⟩:=aO.mp hr;exact HD.sp e he) (λcs v=>by rw[Ye];exact a4 cs v)
   rw[au,au] at this;unfold oH;rw[au];exact this
end
section
variable{p:Int}{oo:Ξ}{xs:List dI}
def OB:∀{L:List (Nat×bZ)}{f:bZ},mC p L f->dA p (L.map (·.2)) f
 |[],f,h=>([],O,λu=>by
   show p ∣ f u-0;rw[zE];exact h u)
 |r::L,f,(a,h)=>by
  obtain⟨d,b,c⟩:=OB h;refine(a::d,by simpa using b,λu=>?_);have:=c u;rw[show f u-cp (a::d) ((r::L).map (·.2)) u=f u-a*r.2 u-cp d (L.map (·.2)) u by
   show f u-(a*r.2 u+cp d (L.map (·.2)) u)=_;omega]
  exact this
def OA{a:Type}{A d:List (a->Int)}{f:a->Int}(h:dA p A f)(b:∀v∈A,v∈d\/∀u,p ∣ v u):dA p d f:=qP h λv c=>(b v c).elim nH qO
noncomputable def kL{a:Type}(m:a->Bool)(f:a->Int):a->Int:=λu=>if m u=ae then f u else 0
def PP{b:Type}(m:b->Bool):∀(d:List Int)(e:List (b->Int))(u:b),cp d (e.map<|kL m) u=kL m (cp d e) u
 |[],[],u=>by unfold kL;split<;>rfl
 |[],_::_,u=>by unfold kL;split<;>rfl
 |_::_,[],u=>by unfold kL;split<;>rfl
 |a::d,v::e,u=>by
  have c:=PP m d e u;show a*kL m v u+cp d (e.map<|kL m) u=_;rw[c];unfold kL
  by_cases h:m u=ae
  ·rw[av h,av h,av h];rfl
  ·rw[am h,am h,am h];omega
def Yx{a:Type}(m:a->Bool){e:List (a->Int)}{f:a->Int}(h:dA p e f):dA p (e.map<|kL m) (kL m f):=by
 obtain⟨d,b,c⟩:=h;refine(d,by rw[au];exact b,λu=>?_);rw[PP];unfold kL;split
 ·exact c u
 ·exact dC _
def PQ:∀(d:List Int)(A:List (List Int->Int)),(∀v∈A,v y=0)->cp d A y=0
 |[],[],_=>O
 |[],_::_,_=>O
 |_::_,[],_=>O
 |a::d,v::A,h=>by
  show a*v y+cp d A y=0;rw[h v<|.head _,PQ d A λw b=>h w<|.tail _ b,zF];rfl
def Yy{A:List (List Int->Int)}(h:dA p (A.map<|hJ oo) (hJ oo f))(b:∀v∈A,∀y,y∉oo->v y=0)(c:∀y,y∉oo->p ∣ f y):dA p A f:=by
 obtain⟨d,g,i⟩:=h;refine(d,by rw[g,au],λy=>?_)
 by_cases a:y∈oo
 ·obtain⟨u,e⟩:=gW.mp a
  have:=i u;rw[<-Ix,pW e,pW e] at this;exact this
 ·rw[PQ d A λv j=>b v j y a,zE]
  exact c y a
noncomputable abbrev mW(q:List Int):List Int->Int:=aS<|qB [(aez q 1)]
def Oz(q y:List Int):mW q y=ix q y:=by
 show aS (qB [(aez q 1)]) y=_;rw[xZ,Pp];show 1*ix q y+0=_;omega
def Po(g:jp oo){b:aM}(a:∀q∈aI b,q∈oo){y:List Int}(d:y∉oo):p ∣ jn b y:=by
 refine wT ?_;rw[<-GZ];refine kN λz=>d ?_;obtain⟨c,e,f⟩:=Be z;exact g.b _ (a _<|aO.mpr (c,e,O)) _ f
noncomputable def vX(e:Nat)(x:dI):Bool:=match x.d with|some t=>aE (t<=e)|none=>aB
def BI:vX e x=ae↔∃t,x.d=V t/\t<=e:=by
 unfold vX;cases x.d with
 |none=>simp
 |some t=>simp
noncomputable abbrev oM(e:Nat)(h:Int)(x:dI):Bool:=vX e x&&aE (x.a=h)
def PS(R:hG p oo oo.length xs){x:dI}(a:x∈xs){y:List Int}(b:y∉oo):aS x.c y=0:=kN λz=>b ((R.a x a).a y z).1
def Yw{q y:List Int}(h:(y.length:Int)≠(q.length:Int)-1):p ∣ mW q y:=by
 refine wT ?_;show aS (qB [(aez q 1)]) y%p=0;rw[xZ,<-GZ];refine kN λz=>h ?_;obtain⟨c,a,b⟩:=Be z;obtain rfl:=cT.mp a;have:=Bw b;show(y.length:Int)=(q.length:Int)-1;have this:y.length+1=q.length:=this;omega
def Yv(P:kR p)(L:jp oo)(R:hG p oo oo.length xs){t e:Nat}(k:oo[t]?=V q)(G:t<=e)(H:e<oo.length):dA p ((xs.filter<|oM e<|(q.length:Int)-2).map λx=>aS x.c) (mW q):=by
 have m:=dh k;have f:∀z∈aI [(aez q ((1:Int)))],z∈oo:=λz g=>by
  obtain rfl:z=q:=by simpa[aI] using g
  exact m
 have i:(aI [(aez q ((1:Int)))]).Nodup:=by simp[aI]
 have n:oR p (dz oo [(aez q 1)]) (e+1):=λu I=>by
  cases a:oo[u]? with
  |none=>rw[pS 6#a];exact dC _
  |some y=>
   rw[kO a];rw[kN λz=>?_]
   ·exact dC _
   ·obtain rfl:y=q:=by simpa[aI] using z
    have:=(sX (bY.mp a).1 L.a).mp<|a.trans k.symm;exact ø (à I (å this)) G
 have o:=OB<|Cu P (wl p oo ix) R.d (e+1) H _ n;have s:dA p ((xs.filter<|vX e).map λx=>aS x.c) (mW q):=by
  refine Yy (oo:=oo) ?_ (λv c y j=>?_) λy j=>?_
  ·refine OA (mB (λu=>?_) o) λv c=>.inl ?_
   ·cases a:oo[u]? with
    |none=>
     rw[Iw 6#a];have:kc oo ix (dz oo [(aez q 1)]) u=0:=by unfold kc;rw[a]
     rw[this,rr];exact dC _
    |some y=>
     have:=GR L i f a;have this:kc oo ix (dz oo [(aez q 1)]) u=jn [(aez q 1)] y:=this;rw[pW a,this];show p ∣ aS (qB [(aez q 1)]) y-_;rw[xZ,rr];exact dC _
   ·obtain⟨r,A,rfl⟩:=aO.mp c
    obtain⟨x,b,d,C,K,rfl⟩:=wm.mp A;obtain⟨z,g,rfl⟩:=aO.mp b;rw[bN];exact aO.mpr (z,eW.mpr (g,BI.mpr (d,C,(ò K))),O)
  ·obtain⟨x,b,rfl⟩:=aO.mp c
   exact PS R (eW.mp b).1 j
  ·show p ∣ aS (qB [(aez q 1)]) y
   rw[xZ];exact Po L f j
 have D:=Yx (λy:List Int=>aE<|(y.length:Int)=(q.length:Int)-1) s;refine mB (λy=>?_)<|OA D λv c=>?_
 ·unfold kL
  by_cases h:(y.length:Int)=(q.length:Int)-1
  ·rw[av<|bT h,rr];exact dC _
  ·rw[am (λz=>h<|fc z),zE];exact Yw h
 ·rw[bN] at c
  obtain⟨x,b,rfl⟩:=aO.mp c;obtain⟨b,E⟩:=eW.mp b
  by_cases l:x.a=(q.length:Int)-2
  ·left
   refine aO.mpr (x,eW.mpr (b,by rw[jP];exact(E,bT l)),funext λy=>?_);show aS x.c y=kL _ (aS x.c) y;unfold kL;split
   ·rfl
   ·rename_i z
    exact kN λw=>z<|bT (by have:=((R.a x b).a y w).2;omega)
  ·right
   intro y;show p ∣ kL _ (aS x.c) y;unfold kL;split
   ·rename_i z
    have z:=fc z;rw[kN λw=>l (by have:=((R.a x b).a y w).2;omega)];exact dC _
   ·exact dC _
def Pn{e:List (List Int->Int)}:∀(a:aM),(∀c∈a,mW c.1∈e)->dA p e (jn a)
 |[],_=>qO λu=>dC _
 |c::a,h=>by
  have:=qQ (k:=c.2) (nH (p:=p)<|h c<|.head _)<|Pn a λd b=>h d<|.tail _ b;refine mB (λu=>?_) this;rw[Pp,Oz,rr];exact dC _
noncomputable abbrev oF(oo:Ξ)(e:Nat)(s:Int):Ξ:=(oo.take<|e+1).filter λq=>aE<|(q.length:Int)=s
def tQ{s:Int}{q:List Int}:q∈oF oo e s↔(∃t,t<=e/\oo[t]?=V q)/\(q.length:Int)=s:=by
 unfold oF;rw[eW,iE,gW];constructor
 ·rintro⟨⟨t,a⟩,e⟩
  rw[aiq] at a;split at a
  ·exact((t,ω,a),e)
  ·cases a
 ·rintro⟨⟨t,h,a⟩,e⟩
  exact((t,by rw[aiq,av ω];exact a),e)
def ab7(w:jp oo)(R:hG p oo oo.length xs){x:dI}(f:x∈xs){t e:Nat}(m:x.d=V t)(v:t<=e):dA p ((oF oo e<|x.a+2).map mW) (aS x.c):=by
 have o:=(pN R f).b t m;obtain⟨a,h⟩:=(R.a x f).g t m;refine mB (λy=>?_)<|Pn x.g λc r=>?_
 ·by_cases i:y∈oo
  ·obtain⟨u,b⟩:=gW.mp i
   have d:=o.2.2.2 u;have d:p ∣ jo oo (dz oo x.g) u-dz oo x.c u:=d;rw[GR w a.a (λq j=>(h q j).1) b,kO b] at d;have:=uO.mpr d
   rwa [show -(jn x.g y-aS x.c y)=aS x.c y-jn x.g y from ω] at this
  ·rw[PS R f i,Int.zero_sub]
   exact uO.mpr<|Po w (λq j=>(h q j).1) i
 ·have n:c.1∈aI x.g:=aO.mpr (c,r,O)
  obtain⟨k,l⟩:=h c.1 n;obtain⟨u,b⟩:=gW.mp k;have s:fH p (dz oo x.g) t:=o.2.2.1;have:=X_ a s n b;exact aO.mpr (c.1,tQ.mpr ((u,(à this v),b),l),O)
end
section
variable{p:Int}{oo:Ξ}{xs:List dI}
def lJ.F(h:lJ p):∃n:Nat,p=(n:Int):=by
 rcases h with rfl|rfl|rfl|rfl
 ·exact(2,O)
 ·exact(3,O)
 ·exact(5,O)
 ·exact(7,O)
def Ox(R:hG p oo oo.length xs)(F:dI->Bool):((xs.filter F).map (·.b)).Nodup:=by
 have:(xs.map (·.b)).Nodup:=R.c.imp λh=>(õ h)
 exact this.sublist<|uM.map _
def Zt(i:lJ p)(C:jp oo)(R:hG p oo oo.length xs){e:Nat}{s:Int}(j:e<oo.length)(k:sv p U A)(l:∀r∈A,dA p ((oF oo e s).map mW) r.2)(m:∀q∈oF oo e s,dA p (A.map (·.2)) (mW q)):A.length=(xs.filter<|oM e<|s-2).length:=by
 have P:=i.B.1;obtain⟨n,rfl⟩:=i.F;have o:sv (n:Int) oo ((xs.filter<|oM e<|s-2).map λx=>(aez x.b (aS x.c))):=by
  refine(by rw[bN];exact Ox R _,λr a=>?_);obtain⟨x,b,rfl⟩:=aO.mp a;exact(pN R (eW.mp b).1).c
 have u:((xs.filter<|oM e<|s-2).map λx=>(aez x.b (aS x.c))).map (·.2)=(xs.filter<|oM e<|s-2).map λx=>aS x.c:=by rw[bN];rfl
 have:=QI P k o (λr a=>?_) λr a=>?_
 ·rw[this,au]
 ·rw[u]
  refine qP (l r a) λv c=>?_;obtain⟨q,d,rfl⟩:=aO.mp c;obtain⟨⟨t,f,g⟩,w⟩:=tQ.mp d;have:=Yv P C R g f j
  rwa [w] at this
 ·obtain⟨x,b,rfl⟩:=aO.mp a
  obtain⟨b,y⟩:=eW.mp b;obtain⟨z,h⟩:=DO.mp y;obtain⟨t,g,f⟩:=BI.mp z;have h:=fc h;have:=ab7 C R b g f;rw[h,show s-2+2=s from ω] at this;refine qP this λv c=>?_;obtain⟨q,d,rfl⟩:=aO.mp c;exact m q d
noncomputable abbrev BJ(e:Nat)(h:Int)(x:dI):Bool:=aE (x.a=h)&&aE (x.b<=e)
def yw(a:jp oo){t:Nat}(h:oo[t]?=V q):oo.idxOf q=t:=by
 have:=BF (U:=oo)<|dh h;exact(sX (bY.mp this).1 a.a).mp<|this.trans h.symm
def aao(a0:jp oo)(R:hG p oo oo.length xs){e:Nat}(s:Int)(he:e<oo.length):(oF oo e s).length=(xs.filter<|BJ e<|s-1).length+(xs.filter<|oM e<|s-2).length:=by
 have Q:((oF oo e s).map oo.idxOf).Nodup:=by
  have S:(oF oo e s).Nodup:=(a0.a.sublist<|SI _ _).sublist uM;rw[uJ,ip];refine(Tb.mp S).imp λ{a b} (l,m,o) z=>o ?_;obtain⟨⟨t,_,d⟩,_⟩:=tQ.mp l;obtain⟨⟨u,_,H⟩,_⟩:=tQ.mp m;rw[yw a0 d,yw a0 H] at z;subst z;exact bM<|d.symm.trans H
 have v:∀{x:dI},x∈xs.filter (oM e<|s-2)->x∈xs/\∃t,x.d=V t/\t<=e/\x.a=s-2:=λ{x} c=>by
  obtain⟨c,A⟩:=eW.mp c;obtain⟨w,I⟩:=DO.mp A;obtain⟨t,d,n⟩:=BI.mp w;exact(c,t,d,n,fc I)
 have T:((xs.filter<|BJ e<|s-1).map (·.b)++(xs.filter<|oM e<|s-2).map λx=>x.d.getD 0).Nodup:=by
  rw[kg];refine(Ox R _,?_,λa l b m z=>?_)
  ·rw[uJ,ip]
   have:=R.c;rw[ip] at this;refine(Tb.mp<|this.sublist<|uM (p:=oM e<|s-2)).imp λ{a b} (l,m,o) z=>?_;obtain⟨l,t,K,_⟩:=v l;obtain⟨m,u,L,_⟩:=v m;rw[K,L] at z;have z:t=u:=z;subst z;have:=fj js.b<|R.d.e _ (aO.mpr (a,l,O)) _ (aO.mpr (b,m,O)) t K L;have this:a.b=b.b:=this;exact ø o (æ this)
  ·obtain⟨x,c,rfl⟩:=aO.mp l
   obtain⟨y,h,rfl⟩:=aO.mp m;obtain⟨h,t,M,_⟩:=v h;rw[M] at z;have z:x.b=t:=z;exact R.d.d _ (aO.mpr (x,(eW.mp c).1,O)) _ (aO.mpr (y,h,O)) (by show y.d=V x.b;rw[M,z])
 have i:∀{x:dI}{t:Nat},x∈xs->x.d=V t->∃y,oo[t]?=V y/\(y.length:Int)=x.a+2:=λ{x t} c w=>by
  have U:fH p (dz oo x.g) t:=((pN R c).b t w).2.2.1;obtain⟨y,f,h⟩:=FU U;exact(y,f,(((R.a x c).g t w).2 y h).2)
 have j:∀{x:dI},x∈xs->∃y,oo[x.b]?=V y/\(y.length:Int)=x.a+1:=λ{x} c=>by
  obtain⟨y,f,h⟩:=Bv R c;exact(y,f,((R.a x c).a y h).2)
 have C:=Q.length_le_of_subset (l₂:=(xs.filter<|BJ e<|s-1).map (·.b)++(xs.filter<|oM e<|s-2).map λx=>x.d.getD 0) λt d=>by
  obtain⟨q,X,rfl⟩:=aO.mp d;obtain⟨⟨t,n,d⟩,hs⟩:=tQ.mp X;rw[yw a0 d];rcases R.d.all t (à (ï n) he) with ⟨r,D,k⟩|⟨r,D,k⟩
  ·obtain⟨x,c,rfl⟩:=aO.mp D
   have k:x.b=t:=k;subst k;obtain⟨y,f,h⟩:=j c;rw[d] at f;cases f;exact kF _<|aO.mpr (x,eW.mpr (c,DO.mpr (bT ω,bT n)),O)
  ·obtain⟨x,c,rfl⟩:=aO.mp D
   have k:x.d=V t:=k;obtain⟨y,f,h⟩:=i c k;rw[d] at f;cases f;exact jO _<|aO.mpr (x,eW.mpr (c,DO.mpr (BI.mpr (t,k,n),bT ω)),by rw[k];rfl)
 have E:=T.length_le_of_subset (l₂:=(oF oo e s).map oo.idxOf) λt d=>by
  rcases dt.mp d with d|d
  ·obtain⟨x,c,rfl⟩:=aO.mp d
   obtain⟨c,A⟩:=eW.mp c;obtain⟨P,G⟩:=DO.mp A;have P:=fc P;have G:=fc G;obtain⟨y,f,h⟩:=j c;exact aO.mpr (y,tQ.mpr ((x.b,G,f),ω),yw a0 f)
  ·obtain⟨x,c,rfl⟩:=aO.mp d
   obtain⟨c,t,d,n,I⟩:=v c;obtain⟨y,f,h⟩:=i c d;rw[d];exact aO.mpr (y,tQ.mpr ((t,n,f),ω),yw a0 f)
 rw[c_,au,au,au] at C E;exact û C E
def OP(F G:dI->Bool):∀L:List dI,(L.filter F).length=(L.filter λx=>F x&&G x).length+(L.filter λx=>F x&&!G x).length
 |[]=>O
 |x::L=>by
  have a:=OP F G L;cases f:F x<;>cases g:G x<;>simp[f,g]<;>omega
end
section
variable{p:Int}
def qJ(p:Int)(a:List (List Int->Int))(n:Nat):Prop:=∃(U:Ξ)(A:List (Nat×(List Int->Int))),sv p U A/\(∀r∈A,dA p a r.2)/\(∀v∈a,dA p (A.map (·.2)) v)/\A.length=n
def Zg{j C:List (List Int->Int)}{n:Nat}(h:qJ p j n)(a:∀v∈j,dA p C v)(b:∀v∈C,dA p j v):qJ p C n:=by
 obtain⟨U,A,c,d,e,f⟩:=h;exact(U,A,c,λr g=>qP (d r g) a,λv i=>qP (b v i) e,f)
def Zi{b C:List (List Int->Int)}{n:Nat}(h:qJ p b n)(e:∀v,v∈b↔v∈C):qJ p C n:=Zg h (λv a=>nH<|(e v).mp a) λv a=>nH<|(e v).mpr a
def Zj(b:lJ p){n m:Nat}(h:qJ p q n)(g:qJ p q m):n=m:=by
 obtain⟨k,rfl⟩:=b.F;obtain⟨U,A,c,d,e,rfl⟩:=h;obtain⟨l,o,f,i,j,rfl⟩:=g;exact QI b.B.1 c f (λr a=>qP (d r a) j) λr a=>qP (i r a) e
def Zf{c:List (List Int->Int)}(h:∀v∈c,∀y,p ∣ v y):qJ p c 0:=([],[],(lS,λr a=>nomatch a),(λr a=>nomatch a),(λv b=>qO<|h v b),O)
noncomputable abbrev iz(L:Ξ)(s:Int):Ξ:=L.filter λq=>aE<|(q.length:Int)=s
abbrev v_(p:Int)(L:Ξ)(s:Int)(n:Nat):Prop:=qJ p ((iz L s).map mW) n
def AL{s:Int}{q:List Int}:q∈iz L s↔q∈L/\(q.length:Int)=s:=by
 unfold iz;rw[eW,iE]
end
noncomputable def cf(x:Int):List Int->Int:=λy=>if [x]=y then 1 else 0
def abv(x:Int):cf x [x]=1:=av O
def HE{x y:Int}(h:x≠y):cf x [y]=0:=am λe=>h (by injection e)
def Oy(x y:Int):mW [x,y]=λw=>cf y w-cf x w:=funext λw=>by
 rw[Oz];show(if [y]=w then(1:Int) else 0)+((if [x]=w then(-1:Int) else 0)+0)=(if [y]=w then 1 else 0)-(if [x]=w then 1 else 0);split<;>split<;>rfl
section
variable{p:Int}
def PE(l:List Int)(k:Int):(gF<|l++[k]).length=(gF l).length+if k∈l then 0 else 1:=by
 rw[B_];unfold pV
 by_cases h:k∈l
 ·rw[av<|(BY l k).mpr h,av h];rfl
 ·rw[am (λz=>h<|(BY l k).mp z),am h,c_];rfl
structure acl(p:Int)(nm:Int->Int)(l:List Int)(A:List (Nat×(List Int->Int))):Prop where
 n:A.length+(gF<|l.map nm).length=l.length
 a:(A.map (·.1)).Nodup
 v:∀r∈A,∃x y,l[r.1]?=V x/\y∈l.take r.1/\nm y=nm x/\r.2=λw=>cf x w-cf y w
 sp:∀x∈l,∀y∈l,nm x=nm y->dA p (A.map (·.2)) λw=>cf y w-cf x w
def Yg(h:Int->Int)(l:List Int):∃A,acl p h l A:=by
 induction l using yC with
 |nil=>exact([],O,lS,(λr d=>nomatch d),λx f=>nomatch f)
 |append_singleton l R H=>
  obtain⟨A,I,t,z,C⟩:=H;have D:∀r∈A,r.1<l.length:=λr d=>by
   obtain⟨x,_,e,_⟩:=z r d;exact(bY.mp e).1
  have i:∀(S:List (List Int->Int))(x:Int),dA p S λw=>cf x w-cf x w:=λS x=>qO λw=>by
   show p ∣ cf x w-cf x w;rw[rr];exact dC _
  have E:∀(r:Nat×(List Int->Int)),r∈A->∃x y,(l++[R])[r.1]?=V x/\y∈(l++[R]).take r.1/\h y=h x/\r.2=λw=>cf x w-cf y w:=λr d=>by
   obtain⟨x,y,K,L,M⟩:=z r d;have:=D r d;exact(x,y,by rw[ph this];exact K,by rw[aia (ì this)];exact L,M)
  rw[show l.map h=l.map h from O] at I
  by_cases n:h R∈l.map h
  ·obtain⟨u,q,s⟩:=aO.mp n
   refine(A++[(aez l.length (λw=>cf R w-cf u w))],?_,?_,λr d=>?_,?_)
   ·rw[bU,aij,PE,av n,c_,c_,zy,zy];omega
   ·rw[bU,kg]
    refine(t,by simp,λa P b G e=>?_);obtain⟨r,d,rfl⟩:=aO.mp P;have G:b=l.length:=by simpa using G
    have:=D r d;exact ø (à this (æ G)) (æ e)
   ·rcases dt.mp d with d|d
    ·exact E r d
    ·obtain rfl:=cT.mp d
     refine(R,u,by rw[pg<|aV _,wM];rfl,?_,s,O);show u∈(l++[R]).take l.length;rw[List.take_left];exact q
   ·have j:∀x∈l,∀y∈l,h x=h y->dA p ((A++[(aez l.length (λw=>cf R w-cf u w))]).map (·.2)) λw=>cf y w-cf x w:=λx f y c e=>qP (C x f y c e) λv Q=>nH (by rw[bU];exact kF _ Q)
    have o:dA p ((A++[(aez l.length (λw=>cf R w-cf u w))]).map (·.2)) λw=>cf R w-cf u w:=nH (by rw[bU];exact jO _<|.head _);intro x m y g e;rcases dt.mp m with f|f
    ·rcases dt.mp g with c|c
     ·exact j x f y c e
     ·obtain rfl:=cT.mp c
      refine mB (λw=>?_)<|qQ (k:=1) o<|j x f u q<|e.trans s.symm;show p ∣ cf y w-cf x w-(1*(cf y w-cf u w)+(cf u w-cf x w));rw[show cf y w-cf x w-(1*(cf y w-cf u w)+(cf u w-cf x w))=0 from ω];exact dC _
    ·obtain rfl:=cT.mp f
     rcases dt.mp g with c|c
     ·refine mB (λw=>?_)<|qQ (k:=-1) o<|j u q y c<|s.trans e
      show p ∣ cf y w-cf x w-(-1*(cf x w-cf u w)+(cf y w-cf u w));rw[show cf y w-cf x w-(-1*(cf x w-cf u w)+(cf y w-cf u w))=0 from ω];exact dC _
     ·obtain rfl:=cT.mp c
      exact i _ _
  ·refine(A,?_,t,E,?_)
   ·rw[bU,aij,PE,am n,c_,zy];exact û (ï (å I)) (ï (æ I))
   ·intro x m y g e
    rcases dt.mp m with f|f
    ·rcases dt.mp g with c|c
     ·exact C x f y c e
     ·obtain rfl:=cT.mp c
      exact bh (aO.mpr (x,f,e)) n
    ·obtain rfl:=cT.mp f
     rcases dt.mp g with c|c
     ·exact bh (aO.mpr (y,c,e.symm)) n
     ·obtain rfl:=cT.mp c
      exact i _ _
noncomputable abbrev GS(a:Ξ):Ξ:=BS (vS a)<|dJ<|bC a
def ZB(L:Ξ):(dJ L).length=(iz L 1).length:=by
 unfold dJ iz;rw[au]
 congr 1
 refine DE λq _=>decide_eq_decide.mpr ω
def YE(C:lJ p)(a:Ξ):∃n,v_ p (bC a) 2 n/\n+(GS a).length=(iz (bC a) 1).length:=by
 obtain⟨A,T⟩:=Yg (p:=p) (vS a)<|dJ<|bC a;have D:=C.B.1.c;have i:(dJ<|bC a).Nodup:=(Qc a).imp aja;refine(A.length,((dJ<|bC a).map λR=>[R],A,(T.a,λr l=>?_),λr l=>?_,λv E=>?_,O),?_)
 ·obtain⟨R,y,c,s,_,m⟩:=T.v r l
  obtain⟨j,G,d⟩:=np.mp s;rw[dR] at G;rw[SN] at d;have u:(dJ<|bC a)[j]?=V y:=by rw[cB ω,d]
  have U:∀t,((dJ<|bC a).map λR=>[R])[t]?=(dJ<|bC a)[t]?.map λR=>[R]:=λt=>bV;rw[m];refine(?_,λt Q=>?_)
  ·rw[pW (x:=[R]) (by rw[U,c];rfl),abv,HE<|yu i u c ω]
   intro z;have:=wS ξ z;omega
  ·cases f:(dJ<|bC a)[t]? with
   |none=>rw[Iw (by rw[au];simpa using f)];exact dC _
   |some w=>
    rw[pW (x:=[w]) (by rw[U,f];rfl),HE<|yu i c f (õ Q),HE<|yu i u f ω];exact dC _
 ·obtain⟨R,y,c,s,d,m⟩:=T.v r l
  rw[m];have H:=acy (λq=>dA p ((iz (bC a) 2).map mW) λw=>cf q w-cf y w) (mx<|bC a) (λe I=>?_) R y d.symm
  ·refine H.mpr<|qO λw=>?_
   show p ∣ cf y w-cf y w;rw[rr];exact dC _
  ·have K:=Qh.mp I
   have o:dA p ((iz (bC a) 2).map mW) (mW [e.1,e.2]):=nH<|aO.mpr (_,AL.mpr (K,O),O);rw[Oy] at o;constructor
   ·intro h
    refine mB (λw=>?_)<|qQ (k:=1) o h;show p ∣ cf e.2 w-cf y w-(1*(cf e.2 w-cf e.1 w)+(cf e.1 w-cf y w));rw[show cf e.2 w-cf y w-(1*(cf e.2 w-cf e.1 w)+(cf e.1 w-cf y w))=0 from ω];exact dC _
   ·intro h
    refine mB (λw=>?_)<|qQ (k:=-1) o h;show p ∣ cf e.1 w-cf y w-(-1*(cf e.2 w-cf e.1 w)+(cf e.2 w-cf y w));rw[show cf e.1 w-cf y w-(-1*(cf e.2 w-cf e.1 w)+(cf e.2 w-cf y w))=0 from ω];exact dC _
 ·obtain⟨q,L,rfl⟩:=aO.mp E
  obtain⟨g,b⟩:=AL.mp L
  match q,g,b with
  |[R,y],g,_=>
   rw[Oy];obtain⟨M,P⟩:=Qp g;exact T.sp R M y P<|acx _ (aez R y)<|Qh.mpr g
  |[],_,b=>exact bh b ξ
  |[_],_,b=>exact bh b (by simp only[dj,nq];omega)
  |_::_::_::_,_,b=>exact bh b (by simp only[dj];omega)
 ·rw[<-ZB,<-T.n]
  unfold GS BS;rw[au]
end
section
variable{X:a_}{scope:fw}{caps:List (Option Nat)}{tg iter elt:bz}{ifs:List bz}{wi:jE}{g:gD}{tc:dO}{te:bd}{pos:ci}
def Mk{i:Nat}{f h:ci}(n:X.N.Nodup)(o:X.N[i]?=V x)(q:rM X.env.scope x)(E m:List aq)(caps:List (Option Nat))(r:jU X tg iter wi)(s:∀j C a b k,lH (jf X scope m j C a b k) tg g)(t:∀j C a b k,oD (jf X scope m j C a b k) ifs tc)(u:∀j C a b k,bG (jf X scope m j C a b k) elt te)(v:X.b=ae:=by rfl)(w:scope.kind=.function:=by rfl)(c:∀y∈scope.names,y.2=.cell->scope.names.lookup y.1=V .cell:=by decide +kernel)(d:∀y∈scope.names,y.2=.free->scope.names.lookup y.1=V .free:=by decide +kernel)(e:∀y∈scope.names,y.2=.local->scope.names.lookup y.1=V .local:=by decide +kernel)(hfr:∀y∈scope.names,y.2=.free->X.env.kindOf y.1=V .cell\/X.env.kindOf y.1=V .free)(z:X.N=E:=by rfl)(l:xJ E m caps scope=ae:=by decide +kernel)(A:∀x,sB iter X.env x=aX x:=by intro _;rfl)(D:X.f x=ae\/X.env.scope.names.lookup x=V .local:=by first|exact .inl rfl|exact .inr rfl|assumption)(p:wq (.ListComp elt [(tg,iter,ifs,0)] scope pos) (V<|.Name x f) h.line X.env=aX ae:=by rfl):lG X (.Assign [.Name x f] (.ListComp elt [(tg,iter,ifs,0)] scope pos) h) (vg (on wi caps g tc te)<|dw i):=
 Mm v w c d e hfr (FB (by rw[z];exact l)) r s t u A n o q D p
end
def Fx{c d:gm}{a b:fw}(f:c.scope=relabel b d)(h:a.names.all (λy=>aE (y.2≠.free)|| decide (b.names.lookup y.1=V .cell)|| decide (b.names.lookup y.1=V .free))=ae):∀y∈a.names,y.2=.free->c.kindOf y.1=V .cell\/c.kindOf y.1=V .free:=by
 intro y i e;have:=pv.mp h y i;simp only[Th,iE] at this;have g:b.names.lookup y.1=V .free\/b.names.lookup y.1=V .cell:=by
  rcases this with (q|q)|q
  ·exact bh e q
  ·exact .inr q
  ·exact .inl q
 have:=EK (scope:=b) (env:=d) g;unfold Se;rw[f];rcases this with q|q
 ·exact .inr q
 ·exact .inl q
noncomputable abbrev yo:cJ:=dW 55
noncomputable abbrev qC(q:List Int):aM:=qB [(aez q 1)]
def YI{q:List Int}(h:q.length<=5):(qC q).length<=5:=by
 refine dq (Gg _) ?_;have:=vV (cs:=[(aez q ((1:Int)))]) λc a=>by rw[cT.mp a];exact h
 simpa using this
abbrev Ym:bd:=xo xY [] xS<|eR (LB (bw 0)<|gh<|.int 1) gg
abbrev Ol:bd:=mQ<|eR (bw 0)<|eR Ym gg
abbrev RoW:Type:=List<|List Int×aM
def BQ(H:ab)(t:W)(c:List Int×aM):Prop:=∃a d,H t=V (.tup [.ref a,.ref d])/\de H a c.1/\H d=V (.a<|bB c.2)
abbrev oO(H:ab)(b:List W)(a:RoW):Prop:=eI (BQ H) b a
noncomputable def BQ.B{H b:ab}{t:W}(h:BQ H t c)(s:aL H b):BQ b t c:=by
 obtain⟨a,d,e,f,g⟩:=h;exact(a,d,s _ _ e,s.J f,s _ _ g)
noncomputable def oO.B{H b:ab}(h:oO H c a)(s:aL H b):oO b c a:=jF h λ_ _ q=>q.B s
noncomputable def oO.J{b:RoW}(h:oO H f b){k l:List af}(e:H L=V (.lst k)):oO (aD H L<|.lst l) f b:=jF h λt c (a,d,g,i,j)=>
 (a,d,by rw[aZ<|fW g e (by intro z;cases z)];exact g,by show aD H L _ a=_;rw[aZ<|fW (show _=V _ from i) e (by intro z;cases z)];exact i,by rw[aZ<|fW j e (by intro z;cases z)];exact j)
def oO.F{b:List W}(h:oO H b a){i:Nat}{t:W}(e:b[i]?=V t):∃c,a[i]?=V c/\BQ H t c:=by
 have f:=iM h;have d:i<a.length:=by have:=(bY.mp e).1;exact à this (å f)
 exact(a[i],cB d,ox h i _ _ e<|cB d)
abbrev wc(H:ab)(b:List W)(a:List aM):Prop:=eI (λd c=>H d=V (.a<|bB c)) b a
noncomputable def wc.B(h:wc H d c)(e:H L=V (.lst f)):wc (aD H L<|.lst g) d c:=jF h λa b q=>by
 rw[aZ<|fW q e (by intro z;cases z)];exact q
noncomputable abbrev kw(a:RoW)(s:Int):RoW:=a.filter λc=>aE<|(c.1.length:Int)=s
def AM{a:RoW}{i:Nat}(h:a[i]?=V c)(s:Int):kw (a.take<|i+1) s=kw (a.take i) s++if(c.1.length:Int)=s then [c] else []:=by
 unfold kw;rw[cG h,jb]
 by_cases e:(c.1.length:Int)=s
 ·rw[av e,mL (by exact bT e)];rfl
 ·rw[am e,k_ 6#e];rfl
def PL(s:Int):∀a:RoW,(((kw a s).map (·.2)).flatMap aI).length<=(a.flatMap λc=>aI c.2).length
 |[]=>aV _
 |c::a=>by
  have b:=PL s a;rw[nr,c_]
  by_cases e:(c.1.length:Int)=s
  ·rw[show kw (c::a) s=c::kw a s from mL (by exact bT e),cY,nr,c_];exact ñ b
  ·rw[show kw (c::a) s=kw a s from k_ 6#e];exact î b
abbrev xT(K:aY):dO:=jd<|dk qp (oq (yr K)<|eR (dk (tD K) (bw 0)<|gh<|.int 0) gg)<|bw 1
abbrev Gb(K:aY):bd:=dk (tD K) (bw 0)<|gh<|.int 1
abbrev Oc(K:aY):bd:=xo (AU K) [] xS<|eR (on (Fw K<|bw 2) [Y,V 0] (dw 0) (xT K)<|Gb K)<|eR (bw 1) gg
section
variable{P:bu}{w:bf}{K:aY}{mg:aq->Option aa}{base:aW}{f:W}{fd:cW}
def YH{i:ab}{s:List W}{Q:aU}(S:bI K i L (s.map af.ref))(G:bA i s l)(T:∀q∈l,q.length<=5/\q≠[])(hz:l.length<=1000)(H:i D=Y)(k:∀b I,aL i b->b D=V (.lst<|I.map af.ref)->oO b I (l.map λq=>(aez q (qC q)))->Q 5#D b):dU (gY K L) (dw 0) ie Ol [Y] i D Q:=by
 have u:=G.B;refine jT (xs:=s.map af.ref) (λj r m b=>∃(v:Option af)(g:List W),r=[v]/\aL i b/\b D=V (.lst m)/\m=g.map af.ref/\oO b g ((l.take j).map λq=>(aez q (qC q)))) ?_ ?_ ?_ ?_
 ·exact(Y,[],O,aL.B H,az,O,.nil)
 ·rintro j r m b ⟨v,g,rfl,h,e,rfl,n⟩
  exact h.A1 S
 ·rintro j r m b x U X hy ⟨v,g,rfl,h,e,rfl,n⟩
  obtain⟨a,ea,rfl⟩:=fG U;obtain⟨q,M,P⟩:=G.F ea;have w:=dh M;refine jD ?_;refine(_,O,?_);intro y p;have z:=aL.B (o:=.a []) p;refine(_,O,a,q.map aN,.int 1,O,az,by rw[bN];exact z.J<|h.J P,?_);rw[Ls];have s1:=aL.B (o:=.a [(aez ((q.map aN:List aK)) (af.int 1))]) p;have A:aD b y (.a [(aez ((q.map aN:List aK)) (af.int 1))]) y=V (.a<|bB [(aez q 1)]):=az;refine(y,[(aez q 1)],O,.inl A,by simp[aI],λc hc=>by rw[cT.mp hc];exact T q w,by simp,λd H4 s4 a0 C=>?_);refine(bR 0#0,λt E=>?_);have R:=aL.B (o:=.tup [.ref a,.ref d]) E;have f:=(s1.F s4).F R;refine fz (by rw[au];exact bR (â (à (å u) hz))) X hy (f _ _ e) (_,g++[t],O,(h.F f).N H,az,by rw[bU];rfl,?_);rw[cG M,bU];exact oO.J (wA (n.B f) (a,d,az,f.J<|h.J P,R _ _ C))<|f _ _ e
 ·rintro r m b ⟨v,g,rfl,h,e,rfl,n⟩
  rw[au,u,gE] at n;exact k b g h e n
def Y'{o:List W}{b:RoW}{s:Int}{Q:aU}(G:bI K l L (o.map af.ref))(u:oO l o b)(R:b.length<=1000)(w:l D=Y)(k:∀g h,aL l g->g D=V (.lst<|h.map af.ref)->wc g h ((kw b s).map (·.2))->Q 5#D g):dU (gY K L) (dw 0) (xT K) (Gb K) [Y,V<|.int s] l D Q:=by
 have q:=iM u;refine jT (xs:=o.map af.ref) (λS p n g=>∃(v:Option af)(h:List W),p=[v,V<|.int s]/\aL l g/\g D=V (.lst n)/\n=h.map af.ref/\wc g h ((kw (b.take S) s).map (·.2))) ?_ ?_ ?_ ?_
 ·exact(Y,[],O,aL.B w,az,O,.nil)
 ·rintro S p n g ⟨v,h,rfl,i,f,rfl,m⟩
  exact i.A1 G
 ·rintro S p n g x H y A ⟨v,h,rfl,i,f,rfl,m⟩
  obtain⟨t,I,rfl⟩:=fG H;obtain⟨c,C,a,d,E,M,P⟩:=oO.F u I;have r:(o.map af.ref).length<=bD:=by rw[au];exact bR (â (à (å q) R))
  refine(_,O,t,_,0,_,O,O,fg.B<|i _ _ E,jg (j:=0) O,a,_,O,.inr<|fg.B<|i.J M,_,O,O,_,O,?_)
  by_cases e:(c.1.length:Int)=s
  ·rw[show aE (af.int ((c.1.map af.int).length:Int)=af.int s)=ae from bT (by rw[au,e])]
   refine eS (_,O,t,_,1,_,O,O,fg.B<|i _ _ E,jg (j:=1) O,fz r y A f (_,h++[d],O,i.N w,az,by rw[bU];rfl,?_));rw[AM C,av e,bU];exact wc.B (wA m<|i _ _ P) f
  ·rw[show aE (af.int ((c.1.map af.int).length:Int)=af.int s)=aB from cw λz=>e (by rw[au] at z;injection z)]
   refine dT<|oB y A (_,h,O,i,f,O,?_);rw[AM C,am e,jy];exact m
 ·rintro p n g ⟨v,h,rfl,i,f,rfl,m⟩
  rw[au,q,gE] at m;exact k g h i f m
def Za{i:ab}{n:List W}{b:RoW}{s:Int}{Q:aU}(E:bI K i L (n.map af.ref))(r:oO i n b)(P:b.length<=1000)(u:i D=Y)(k:∀g(w:List af),aL i g->g D=V (.lst w)->w.length=(kw b s).length->Q 5#D g):dU (gY K L) (dw 0) (xT K) (bw 0) [Y,V<|.int s] i D Q:=by
 have p:=iM r;refine jT (xs:=n.map af.ref) (λS o l g=>∃(v:Option af),o=[v,V<|.int s]/\aL i g/\g D=V (.lst l)/\l.length=(kw (b.take S) s).length) ?_ ?_ ?_ ?_
 ·exact(Y,O,aL.B u,az,O)
 ·rintro S o l g ⟨v,rfl,h,f,m⟩
  exact h.A1 E
 ·rintro S o l g x G y A ⟨v,rfl,h,f,m⟩
  obtain⟨t,H,rfl⟩:=fG G;obtain⟨c,C,a,d,I,M,R⟩:=oO.F r H;have q:(n.map af.ref).length<=bD:=by rw[au];exact bR (â (à (å p) P))
  refine(_,O,t,_,0,_,O,O,fg.B<|h _ _ I,jg (j:=0) O,a,_,O,.inr<|fg.B<|h.J M,_,O,O,_,O,?_)
  by_cases e:(c.1.length:Int)=s
  ·rw[show aE (af.int ((c.1.map af.int).length:Int)=af.int s)=ae from bT (by rw[au,e])]
   refine eS (_,O,fz q y A f (_,O,h.N u,az,?_));rw[AM C,av e,c_,c_,m]
   rfl
  ·rw[show aE (af.int ((c.1.map af.int).length:Int)=af.int s)=aB from cw λz=>e (by rw[au] at z;injection z)]
   refine dT<|oB y A (_,O,h,f,?_);rw[AM C,am e,jy];exact m
 ·rintro o l g ⟨v,rfl,h,f,m⟩
  rw[au,p,gE] at m;exact k g l h f m
abbrev yx(p:Int)(a:RoW)(s:Int)(n:Nat):Prop:=qJ p (((kw a s).map (·.2)).map aS) n
def Ze{H:List W}{Q:aU}(I:bI K h l (H.map af.ref))(P:oO h H a)(s:∀c∈a,(aI c.2).Nodup)(t:(a.flatMap λc=>aI c.2).length<=1000)(R:a.length<=1000)(S:lJ p)(L:h D=Y)(k:∀d(b:List Nat),aL h d->b.length=6->(∀(j n:Nat),b[j]?=V n->yx p a (1+(j:Int)) n)->d D=V (.lst<|b.map λn:Nat=>af.int n)->Q 5#D d):dU (jX 1 6) (dw 0) ie (Oc K) [Y,V<|.int p,V<|.ref l] h D Q:=by
 refine qw (λj u q d=>∃(v:Option af)(b:List Nat),u=[v,V<|.int p,V<|.ref l]/\aL h d/\d D=V (.lst q)/\q=b.map (λn:Nat=>af.int n)/\b.length=j/\∀(j n:Nat),b[j]?=V n->yx p a (1+(j:Int)) n) ?_ ?_ ?_
 ·exact(Y,[],O,aL.B L,az,O,O,λj n e=>by simp at e)
 ·rintro i u q d T X ⟨v,b,rfl,m,f,rfl,r,w⟩
  refine jD ?_;refine(_,O,l,O,(_,m.A1 I),λD' x=>eP<|Y' (m.A1 I) (P.B m) R x λH4 ds s4 y z=>?_);refine(_,O,D',ds,_,p,O,bI.B y,z,λM g=>?_,dq (PL _ a) t,?_,S,λU A H5 s5 lz C E=>?_)
  ·obtain⟨c,hc,rfl⟩:=aO.mp g
   exact s c (eW.mp hc).1
  ·rw[au]
   exact dq (sW _ _) R
  have o:=s4.F s5;refine fz (bR ä) T X (o _ _ f) (_,b++[A.length],O,(m.F o).N L,az,by rw[bU];rfl,by rw[c_,r];rfl,λj n e=>?_)
  by_cases G:j<b.length
  ·rw[ph G] at e
   exact w j n e
  ·have h1:=(bY.mp e).1
   rw[c_,zy] at h1;have G:j=b.length:=(û (ò h1) (ô G))
   subst G;rw[pg<|aV _,wM] at e;obtain rfl:=bM e;rw[r];exact(U,A,lz,C,λv hv=>by obtain⟨M,g,rfl⟩:=aO.mp hv;exact E M g,O)
 ·rintro u q d ⟨v,b,rfl,m,f,rfl,r,w⟩
  exact k d b m r w f
noncomputable abbrev Hv:List aq:=["rows","prime","ranks","found","size","many"]
def ye:dG Hv ["rows","prime"] (bX yo):=(O,O,O,δ,O,δ,δ)
noncomputable def tY(a:RoW)(g:Nat->Nat):List Int:=(cr 5).map λj:Nat=>((kw a<|1+(j:Int)).length:Int)-g j-g (j+1)
inductive AY(K:aY)(vs:List af)(H:ab)(Q:aU)(E':db):Prop
 |a:∀(l:W)(ts:List W)(rows:RoW)(p:Int),(vs=[.ref l,.int p])->(bI K H l<|ts.map af.ref)->(oO H ts rows)->((∀c∈rows,(aI c.2).Nodup))->((rows.flatMap λc=>aI c.2).length<=1000)->(rows.length<=1000)->(lJ p)->(∀D H'(g:Nat->Nat),aL H H'->H D=Y->(∀j:Nat,j<6->yx p rows (1+(j:Int)) (g j))->H' D=V (.lst<|(tY rows g).map af.int)->Q 5#D H')->AY K vs H Q E'
def aaa(F:b_ K "_law_holes" "_law_holes" yo f fd)(a7:fN mg)(Cr:eG P w K mg base bx "_law_rank" ["rows","prime"] 1 (AU K)):ce P w K mg base bx 2 f fd ["rows","prime"] (AY K):=by
 refine F.B ye (λvs H Q E h=>?_) (λa6 A R s H vs Q E hr h=>?_)
 ·obtain⟨l,ts,c,p,rfl,_⟩:=h;rfl
 ·obtain⟨l,ts,c,p,rfl,S,ht,T,U,hz,hp,k⟩:=h
  refine(_,bj (Mk (i:=2) ye.a O (ai O) Hv ["size","prime","rows"] [Y,V 1,V 0] (EX O a7.b<|ao bb<|ao bb aF) (λg C a b m=>cx (i:=0) (eF ["size","prime","rows"]) O<|aw O) (λg C a b m=>iu)
    (λg C a b m=>eE Cr hr O cF (ao (fe ["size","prime","rows"] ["row","size"] [Y,V 0] (eO<|ah 2) (λg C a b m=>cx (i:=0) (eF ["row","size"]) O<|ai O)
     (λg C a b m=>lq<|dD jS (dM fX O a7.a fq<|ao (eK ig 7#0 bb (λ_ _=>O)) aF) 7#1<|dF _) (λg C a b m=>eK ig 7#0 bb (λ_ _=>O)) (hfr:=Fx O δ) (tc:=xT K) (te:=Gb K))<|ao 7#1 aF)) (hfr:=ii (bX yo) δ) (te:=Oc K))
   (bj (cq (i:=3) ye.a O (ai O)<|je aF)
   (bj (gz ga O (EX O a7.b<|ao bb<|ao bb aF) (cx (i:=4) ye.a O<|aw O)
    (bj (cq (i:=5) ye.a O (ai O) (dM fX O a7.a fq (ao (fe Hv ["row","size"] [Y,V 4] (eO<|ah 0) (λg C a b m=>cx (i:=0) (eF ["row","size"]) O<|ai O)
     (λg C a b m=>lq<|dD jS (dM fX O a7.a fq<|ao (eK ig 7#0 bb (λ_ _=>O)) aF) 7#1<|dF _) (λg C a b m=>ah 0) (hfr:=ii (bX yo) δ) (tc:=xT K) (te:=bw 0)) aF)))
   <|bF<|mR<|lv nM uz wD rI 7#3<|ao (bW mS (bW mS 7#5<|eK lw 7#2 (bW mS 7#4 bb) (λ_ _=>O))<|eK lw 7#2 7#4 (λ_ _=>O)) aF))
  <|bF<|cX<|ah 3)),?_)
  refine(1,7,O,(ξ,ξ,ξ,ξ),λy X=>eP<|Ze S ht T U hz hp X λH2 d s2 hn a0 z=>?_);refine(bR 0#0,λu q=>?_);have s3:=aL.B (o:=.lst []) q;have a3:y≠u:=cN z q;have G:H u=Y:=s2.A0 q;have r:∀j,j<6->d[j]?=V (d.getD j 0):=λj hj=>by
   rw[wP,cB (à hj (æ hn))];rfl
  have a4:=s2.F s3;refine(1,6,O,(ξ,ξ,ξ,ξ),xH (lo:=1) (n:=(6-1:Int).toNat) (λi σ v=>∃(v4 v5:Option af),σ=[V<|.ref l,V<|.int p,V<|.ref y,V<|.ref u,v4,v5]/\aL H v/\v y=V (.lst<|d.map λn:Nat=>af.int n)/\v u=V (.lst<|((tY c λj=>d.getD j 0).take i).map af.int))
   (Y,Y,O,a4,s3 _ _ z,az) ?_ ?_)
  ·rintro i σ v hi ⟨v4,v5,rfl,x,I,e⟩
   have hi:i<5:=hi;refine(_,O,l,O,(_,x.A1 S),λD hD=>eP<|Za (x.A1 S) (ht.B x) hz hD λH4 vs s4 a5 L=>?_);refine(D,_,O,.inl<|bI.B a5,?_);have t:=s4 _ _ I;have M:=s4 _ _ e;have a1:lC (d.map λn:Nat=>af.int n) (1+(i:Int)-1)=V (.int ((d.getD i 0:Nat):Int)):=by
    rw[show 1+(i:Int)-1=(i:Int) from ω];exact jg (by rw[bV,r i (â hi)];rfl)
   have a2:lC (d.map λn:Nat=>af.int n) (1+(i:Int))=V (.int ((d.getD (i+1) 0:Nat):Int)):=by
    rw[show 1+(i:Int)=((i+1:Nat):Int) from ω];exact jg (by rw[bV,r (i+1) (ï hi)];rfl)
   have eh:(tY c λj=>d.getD j 0)[i]?=V (((kw c<|1+(i:Int)).length:Int)-((d.getD i 0:Nat):Int)-((d.getD (i+1) 0:Nat):Int)):=by
    unfold tY;rw[bV,pf hi]
    rfl
   refine(_,O,.inl (O,_,bI.B M),_,O,_,O,_,O,_,_,O,O,y,_,_,_,O,O,bI.B t,a1,_,_,O,O,_,O,_,O,y,_,_,_,O,O,bI.B t,a2,_,_,O,O,u,_,_,O,O,M,?_,?_)
   ·rw[au,dR];exact jm ω
   refine(_,_,O,(x.F s4).N G,by rw[aZ a3];exact t,?_);rw[az,cG eh,bU,L]
   rfl
  ·rintro σ v ⟨v4,v5,rfl,x,I,e⟩
   rw[eV (by unfold tY;rw[au,lT];decide)] at e;exact(_,O,k u v (λj=>d.getD j 0) x G (λj hj=>a0 j _<|r j hj) e)
end
def Hn(h:hG p a T L):L.length<=T:=by
 have c:(L.map (·.b)).Nodup:=h.c.imp λh=>(õ h)
 have:=c.length_le_of_subset (l₂:=cr T) λf d=>by
  obtain⟨x,e,rfl⟩:=aO.mp d;have:=(pN h e).a;have this:x.b<T:=this;exact fJ.mpr this
 rw[au,lT] at this;exact this
section
variable{K:aY}
def PG{i:ab}{m:List W}{g:List dI}{A:dO}{d:aR}{p:dI->Bool}{Q:aU}(t:∀(u:W)(x:dI)(b:ab)(R:Bool->ab->Prop),b u=V (.tup<|jj x)->R (p x) b->A (V 5#u::d) b R)(I:bI K i S (m.map af.ref))(C:eI (λu x=>i u=V (.tup x)) m (g.map jj))(U:g.length<=1000)(E:i D=Y)(k:∀(b:ab)(e:List W),aL i b->b D=V (.lst<|e.map af.ref)->eI (λu x=>b u=V (.tup x)) e ((g.filter p).map jj)->Q 5#D b):dU (gY K S) (dw 0) A (bw 0) (Y::d) i D Q:=by
 have L:m.length=g.length:=by rw[C.length,au]
 refine jT (xs:=m.map af.ref) (λj q n b=>∃(v:Option af)(e:List W),q=v::d/\aL i b/\b D=V (.lst n)/\n=e.map af.ref/\eI (λu x=>b u=V (.tup x)) e (((g.take j).filter p).map jj)) ?_ ?_ ?_ ?_
 ·exact(Y,[],O,aL.B E,az,O,.nil)
 ·rintro j q n b ⟨v,e,rfl,f,c,rfl,l⟩
  exact f.A1 I
 ·rintro j q n b x M s G ⟨v,e,rfl,f,c,rfl,l⟩
  obtain⟨u,P,rfl⟩:=fG M;have T:j<m.length:=by rw[au] at s;exact s
  obtain⟨r,w⟩:∃r,g[j]?=V r:=(_,cB ω);have y:=ox C j _ _ P (by rw[bV,w];rfl);refine t u r b _ (f _ _ y) ?_;cases o:p r with
  |false=>
   refine dT<|oB s G (_,e,O,f,c,O,?_);rw[cG w,jb,k_ (by rw[o];intro z;cases z),qg,jy];exact l
  |true=>
   refine eS (_,O,fz (by rw[au];exact bR (â (à (å L) U))) s G c (_,e++[u],O,f.N E,az,by rw[bU];rfl,?_));rw[cG w,jb,mL o,qg,bU];have H:∀{a:W}{x:List af},b a=V (.tup x)->a≠D:=λh=>fW h c (by intro z;cases z);refine wA (jF l λa x h=>?_) ?_
   ·rw[aZ<|H h];exact h
   ·rw[aZ<|H<|f _ _ y];exact f _ _ y
 ·rintro q n b ⟨v,e,rfl,f,c,rfl,l⟩
  rw[au,L,gE] at l;exact k b e f c l
abbrev Zv:lE:=λx y H Q=>y=.non/\Q (.c<|aE<|x=.non) H
abbrev vI(K:aY)(j:Int):bd:=dk (tD K) (bw 0)<|gh<|.int j
end
noncomputable abbrev qG(h:Int)(x:dI):Bool:=aE<|x.a=h
noncomputable abbrev oN(h:Int)(x:dI):Bool:=aE (x.a=h)&&x.d.isSome
noncomputable abbrev BC(h:Int)(x:dI):Bool:=aE (x.a=h)&&x.d.isNone
noncomputable abbrev kM(a:List dI):List Int:=(a.filter λx=>x.d.isNone).map (·.a)
section
variable{p:Int}{oo:Ξ}{xs:List dI}
def FW{e:Nat}(h:e+1=oo.length)(s:Int):oF oo e s=iz oo s:=by
 unfold oF iz;rw[h,List.take_length]
def Pw(R:hG p oo oo.length xs){e:Nat}(h:e+1=oo.length)(s:Int):xs.filter (oM e s)=xs.filter (oN s):=DE λx a=>by
 show(vX e x&&aE (x.a=s))=(aE (x.a=s)&&x.d.isSome);rw[Bool.and_comm]
 congr 1
 unfold vX;cases b:x.d with
 |none=>rfl
 |some t=>
  have c:fH p (dz oo x.g) t:=((pN R a).b t b).2.2.1;obtain⟨y,d,_⟩:=FU c;have:=(bY.mp d).1;exact bT ω
def ab8(R:hG p oo oo.length xs){e:Nat}(h:e+1=oo.length)(s:Int):xs.filter (BJ e s)=xs.filter (qG s):=DE λx a=>by
 have b:=(pN R a).a;have b:x.b<oo.length:=b;show(aE (x.a=s)&&aE (x.b<=e))=aE (x.a=s);rw[bT (show x.b<=e from ω),Tk]
def ack(c:jp oo)(R:hG p oo oo.length xs)(s:Int):(iz oo s).length=(xs.filter<|qG<|s-1).length+(xs.filter<|oN<|s-2).length:=by
 cases h:oo.length with
 |zero=>
  have a:oo=[]:=kh h;have:=Hn R;have b:xs=[]:=kh (û (à this (å h)) ú);subst a;subst b
  rfl
 |succ d=>
  have:=aao c R (e:=d) s (æ h);rw[FW h.symm,ab8 R h.symm,Pw R h.symm] at this;exact this
def aci(a:lJ p)(l:jp oo)(R:hG p oo oo.length xs){m:Int}{n:Nat}(k:v_ p oo m n):n=(xs.filter<|oN<|m-2).length:=by
 cases h:oo.length with
 |zero=>
  have c:oo=[]:=kh h;have:=Hn R;have d:xs=[]:=kh (û (à this (å h)) ú);subst c;subst d;exact Zj a k (Zf λv f=>nomatch f)
 |succ o=>
  obtain⟨U,A,g,i,j,rfl⟩:=k;have:=Zt a l R (e:=o) (s:=m) (æ h) g (by rw[FW h.symm];exact i) λq b=>j _<|aO.mpr (q,by rw[FW h.symm] at b;exact b,O);rw[Pw R h.symm] at this;exact this
def aaq(h:Int)(xs:List dI):(kM xs).countP (·==h)=(xs.filter<|BC h).length:=by
 induction xs with
 |nil=>rfl
 |cons x xs c=>
  have a:(((xs.filter λx=>x.d.isNone).map (·.a)).countP (·==h))=(xs.filter<|BC h).length:=c;show((((x::xs).filter λx=>x.d.isNone).map (·.a)).countP (·==h))=((x::xs).filter<|BC h).length;cases b:x.d with
  |some t=>
   rw[k_ (by rw[b];simp),k_ (by show ¬(aE (x.a=h)&&x.d.isNone)=ae;rw[b];simp)];exact a
  |none=>
   rw[mL (by rw[b];rfl),cY,uN,a]
   by_cases e:x.a=h
   ·rw[mL (by show(aE (x.a=h)&&x.d.isNone)=ae;rw[b,bT e];rfl),dj,av 6#e]
   ·rw[k_ (by show ¬(aE (x.a=h)&&x.d.isNone)=ae;rw[cw e];simp),am 6#e]
    rfl
def PT(h:Int)(xs:List dI):(xs.filter<|qG h).length=(xs.filter<|oN h).length+(xs.filter<|BC h).length:=by
 have:=OP (qG h) (λx=>x.d.isSome) xs;rw[this]
 congr 2
 refine DE λx _=>?_;show(aE (x.a=h)&&!x.d.isSome)=(aE (x.a=h)&&x.d.isNone);cases x.d<;>rfl
def Gj:∀l:List Int,(∀x∈l,0<=x/\x<5)->(l.map λh=>1-2*(h%2)).sum=(l.countP (·==0):Int)-(l.countP (·==1):Int)+(l.countP (·==2):Int)-(l.countP (·==3):Int)+(l.countP (·==4):Int)
 |[],_=>O
 |x::l,h=>by
  have a:=Gj l λy b=>h y<|.tail _ b;have c:=h x<|.head _;have e:x=0\/x=1\/x=2\/x=3\/x=4:=ω
  rw[cY,mJ,a,uN,uN,uN,uN,uN];rcases e with rfl|rfl|rfl|rfl|rfl<;>simp<;>omega
def yv(h:Int)(a:Ξ):(a.map λq=>(q.length:Int)-1).countP (·==h)=(iz a<|h+1).length:=by
 rw[ai2,ai3]
 congr 1
 refine DE λq _=>?_;show((q.length:Int)-1==h)=aE ((q.length:Int)=h+1)
 by_cases e:(q.length:Int)=h+1
 ·rw[bT e];simp;omega
 ·rw[cw e];simp;omega
noncomputable def vU(a:Ξ)(g:Nat->Nat):List Int:=(cr 5).map λj:Nat=>((iz a<|1+(j:Int)).length:Int)-g j-g (j+1)
def Ov(a:Ξ)(s:Int):kw (a.map λq=>(aez q (qC q))) s=(iz a s).map λq=>(aez q (qC q)):=by
 unfold kw iz;rw[List.filter_map]
 rfl
def abp(a:Ξ)(g:Nat->Nat):tY (a.map λq=>(aez q (qC q))) g=vU a g:=by
 unfold tY vU;refine fS λj _=>?_;rw[Ov,au]
def Zh{a:Ξ}{s:Int}{n:Nat}(h:yx p (a.map λq=>(aez q (qC q))) s n):v_ p a s n:=by
 unfold yx at h;rw[Ov,bN,bN] at h;exact h
structure acp(pss:Ξ)(xs:List dI)(gaps:List Int):Prop where
 d:((cr 5).map λj:Nat=>(((kM xs).countP (·==(j:Int)):Nat):Int))=gaps
 c:(((kM xs).countP (·==0):Nat):Int)=((GS pss).length:Int)
 b:∀h:Int,(xs.filter<|qG h).length+(xs.filter<|oN<|h-1).length=(iz (bC pss)<|h+1).length
 a:((kM xs).map λh=>1-2*(h%2)).sum=qL (bC pss)
def aai(D:lJ p){d:Ξ}(m:∀q∈bC d,iJ q=ae)(I:ky oo)(u:oo.Perm (bC d))(R:hG p oo oo.length xs){g:Nat->Nat}(E:∀j:Nat,j<6->v_ p (bC d) (1+(j:Int)) (g j)):acp d xs (vU (bC d) g):=by
 have a0:=OR I;have w:∀s,(iz oo s).length=(iz (bC d) s).length:=λs=>(u.filter _).length_eq;have A:∀{s n},v_ p (bC d) s n->n=(xs.filter<|oN<|s-2).length:=λ{s n} h=>aci D a0 R (Zi h λv=>by
  rw[aO,aO];have e:∀q,q∈iz (bC d) s↔q∈iz oo s:=λq=>by rw[AL,AL,u.mem_iff]
  constructor
  ·rintro⟨q,i,rfl⟩;exact(q,(e q).mp i,O)
  ·rintro⟨q,i,rfl⟩;exact(q,(e q).mpr i,O))
 have f:∀h:Int,(xs.filter<|qG h).length+(xs.filter<|oN<|h-1).length=(iz (bC d)<|h+1).length:=λh=>by
  have:=ack a0 R<|h+1;rw[w,show h+1-1=h from ω,show h+1-2=h-1 from ω] at this;exact û (æ this) (å this)
 have k:∀s:Int,s<=0\/5<s->(iz (bC d) s).length=0:=λs hs=>by
  rw[aim];refine SU.mpr λq i z=>?_;have z:=fc z;obtain⟨l,r,_⟩:=kP.mp<|m q i;have:q.length≠0:=λe=>l<|kh e;omega
 have dm:(xs.filter<|oN<|-1).length=0:=by
  have l:=f<|-1;have r:=k 0<|.inl ξ;have t:=PT (-1) xs;rw[show(-1:Int)+1=0 from ξ] at l;omega
 have d4:(xs.filter<|oN 4).length=0:=by
  have l:=f 5;have r:=k 6<|.inr ξ;rw[show(5:Int)+1=6 from ξ,show(5:Int)-1=4 from ξ] at l;omega
 have o:∀h:Int,(((kM xs).countP (·==h):Nat):Int)=((xs.filter<|qG h).length:Int)-((xs.filter<|oN h).length:Int):=λh=>by
  rw[aaq];have:=PT h xs;omega
 refine(?_,?_,f,?_)
 ·unfold vU
  refine fS λj G=>?_;have G:=fJ.mp G;have a:=A<|E j (â G);have b:=A<|E (j+1) (ï G);have c:=f (j:Int);rw[show 1+(j:Int)-2=(j:Int)-1 from ω] at a;rw[show 1+((j+1:Nat):Int)-2=(j:Int) from ω] at b;rw[show(j:Int)+1=1+(j:Int) from ω] at c;rw[o];omega
 ·obtain⟨n,l,r⟩:=YE D d
  have a:=A l;have c:=f 0;rw[show(2:Int)-2=0 from ξ] at a;rw[show(0:Int)-1=-1 from ξ,show(0:Int)+1=1 from ξ] at c;rw[o];omega
 ·have K:∀x∈kM xs,0<=x/\x<5:=λx C=>by
   obtain⟨y,H,rfl⟩:=aO.mp C;obtain⟨q,L,i⟩:=Bv R (eW.mp H).1;have l:=((R.a y (eW.mp H).1).a q i).2;have r:=u.mem_iff.mp<|dh L;obtain⟨t,M,_⟩:=kP.mp<|m q r;have:q.length≠0:=λe=>t<|kh e;omega
  have P:∀x∈(bC d).map λq=>(q.length:Int)-1,0<=x/\x<5:=λx C=>by
   obtain⟨q,i,rfl⟩:=aO.mp C;obtain⟨t,M,_⟩:=kP.mp<|m q i;have:q.length≠0:=λe=>t<|kh e;omega
  have Q:qL (bC d)=(((bC d).map λq=>(q.length:Int)-1).map λh=>1-2*(h%2)).sum:=by
   unfold qL;rw[bN]
   congr 1
   refine fS λq _=>?_;show uc q=1-2*(((q.length:Int)-1)%2);unfold uc;omega
  rw[Q,Gj _ K,Gj _ P,yv,yv,yv,yv,yv,o,o,o,o,o];have S:=f 0;have T:=f 1;have U:=f 2;have X:=f 3;have c4:=f 4;rw[show(0:Int)-1=-1 from ξ] at S;rw[show(1:Int)-1=0 from ξ] at T;rw[show(2:Int)-1=1 from ξ] at U;rw[show(3:Int)-1=2 from ξ] at X;rw[show(4:Int)-1=3 from ξ] at c4;omega
end
section
open PySem.MeetsSeq PySem.SeqAt
open PySem.AutoSeq1 (wpAny_loadPart')
abbrev NL(l:W)(a:Array aa)(n:Nat)(x:aa)(e:aa->Bool)(j:Nat):PySem.Spec:=λA R s=>
 s.heap.get? l=V {cls:=.type "list",dict:=Y,data:=.seq a n,slots:=#[]}/\(∀y,y∈a->zb A.in1 s y x (e y))/\R (.ok<|.ret .none) {s with heap:=s.heap.update l<|cD λb=>b.eraseIdxIfInBounds j}
section
variable{l:W}{its:Array aa}{n:Nat}{x:aa}{e:aa->Bool}{j:Nat}
def XQ(r:j<its.size)(g:e its[j]=ae)(o:its.size<=bD)(k:Nat):∀i:Nat,j-i=k->i<=j->(∀m(t:m<its.size),i<=m->m<j->e its[m]=aB)->C_ (Builtin.«list.remove.loop» ([.ref l,x,fP i],[])) (NL l its n x e j):=by
 induction k with
 |zero=>
  intro i u v p c w A R s h;obtain⟨y,z,C,D,E⟩:=s;obtain⟨d,f,h⟩:=h;obtain rfl:i=j:=ω
  wp_walk using wpAny_loadPart' d
  rw[show its[((i:Nat):Int).toNat]?=V its[i] by simp[r]];refine ag<|f _ (ajl r) c w _ _ ?_;rw[g];have G:(its.eraseIdxIfInBounds i).size<=bD+1:=Dt<|dq (size_erased its i) o
  wp_walk using (m_ d O (hz:=o) (_hz':=G)),wpAny_loadPart' d
  simpa using h
 |succ k H=>
  intro i u v p c w A R s h;obtain⟨y,z,C,D,E⟩:=s;obtain⟨d,f,h⟩:=h;have q:i<its.size:=(à (ï v) r)
  wp_walk using wpAny_loadPart' d
  rw[show its[((i:Nat):Int).toNat]?=V its[i] by simp[q]];refine ag<|f _ (ajl q) c w _ _ ?_;rw[p i q (aV _) ω]
  wp_walk
  rw[show((i:Int)+1)=((i+1:Nat):Int) by push_cast;rfl];refine(iK Ji _,iC agb ?_);rw[ja Ji _];exact H (i+1) ω ω (λm t a b=>p m t (ì a) b) c w A R _ (d,f,h)
def XR(g:j<its.size)(c:e its[j]=ae)(i:∀m(d:m<its.size),m<j->e its[m]=aB)(k:its.size<=bD):C_ (Builtin.«list.remove» ([.ref l,x],[])) (NL l its n x e j):=by
 intro a w A R s h;obtain⟨p,q,r,t,u⟩:=s;obtain⟨f,o,h⟩:=h
 wp_walk using wpAny_loadPart' f
 refine(iK Ji _,iC agb ?_);rw[ja Ji _];exact XQ g c k _ 0 O (eY _) (λm d _ b=>i m d b) a w A R _ (f,o,h)
end
end
inductive LZ(x:af)(vs:List af)(H:ab)(Q:aU):Prop
 |b:∀l a as pss ps j,(x=.ref l)->(vs=[.ref a])->(H l=V (.lst<|aj af.ref as))->(bA H as pss)->(de H a ps)->(pss[j]?=V ps)->((∀m q,m<j->pss[m]?=V q->q≠ps))->(Q .non<|aD H l<|.lst<|(as.eraseIdx j).map af.ref)->LZ x vs H Q
def Nb{b c:Type}(f:b->c):∀(l:List b)(i:Nat),(l.eraseIdx i).map f=(l.map f).eraseIdx i
 |[],_=>O
 |_::_,0=>O
 |a::r,i+1=>by show f a::(r.eraseIdx i).map f=f a::(r.map f).eraseIdx i;rw[Nb f r i]
section
variable{X:a_}
def Ww(C:X.A.in1.units<dB):vC X "list.remove" LZ:=by
 intro p s σ H x vs v us Q I D E h;obtain⟨l,a,b,d,g,j,rfl,rfl,t,k,G,w,K,q⟩:=h;cases D;obtain⟨u,rfl,L⟩:=E.M;cases L;obtain⟨z,M,n,r,P,e⟩:=I.A4 t;obtain rfl:=nw r;have R:=k.B;have S:j<d.length:=(bY.mp w).1;have f:∀m(i:m<(b.map Z).toArray.size) q,d[m]?=V q->rL H g ((b.map Z).toArray[m])=aE (q=g):=λm i q T=>by
  have c:m<b.length:=by simpa using i
  obtain⟨q',A,U⟩:=k.F<|cB c;rw[T] at A;cases A;have:(b.map Z).toArray[m]=.ref b[m]:=by simp
  rw[this];exact Fy U
 refine sC age (_,e,O) F.entry_list_remove (F.args_list_remove_2 _ _)
  (XR (e:=rL H g) (j:=j) (by simp;exact à S (æ R)) (by rw[f j _ g w];exact bT O) (λm i o=>?_) (by rw[cP];rw[au] at z P;exact à (æ P) z)) (e,λy hy=>MH I G C k y 6#hy,?_)
 ·have c:m<d.length:=(à o (ì S))
  rw[f m i _<|cB c];exact cw<|K m _ o<|cB c
 ·refine(.non,_,I.B2 (its':=(b.map Z).eraseIdx j) t e ?_ ?_ ?_,O,q)
  ·show(b.map Z).toArray.eraseIdxIfInBounds j=((b.map Z).eraseIdx j).toArray
   rw[List.eraseIdxIfInBounds_toArray]
  ·rw[Nb]
   exact r.A3 j
  ·have:=MI b j
   rw[au] at z ⊢;exact à this z
end
noncomputable abbrev Bp:cJ:=dW 53
def Pv{a b:List Int}(h:si a b=ae):a.length<=b.length:=by
 rw[ud] at h;rcases kX b.length a.length with c|c
 ·exfalso
  have:bJ (pU b) (pU a)=ae:=by
   show bJ ((b.length:Int)::b) ((a.length:Int)::a)=ae;rw[lL,am ω];exact bT ω
  rw[this] at h;cases h
 ·exact c
def PW:∀{b:List W}{a:Ξ}(n:Nat),bA H b a->bA H (b.eraseIdx n) (a.eraseIdx n)
 |_,_,_,.nil=>.nil
 |_,_,0,.cons _ t=>t
 |_,_,n+1,.cons r t=>.cons r (PW n t)
def PN{b:Type}:∀{l:List b}{j:Nat}{x:b},l[j]?=V x->l.Perm (x::l.eraseIdx j)
 |[],_,_,h=>by simp at h
 |a::r,0,x,h=>by
  have e:a=x:=by simpa using h
  subst e;exact DJ _
 |a::r,j+1,x,h=>((PN (l:=r) (j:=j) 6#h).cons a).trans (List.Perm.swap x a _)
structure HP(pss f l:Ξ):Prop where
 b:(f++l).Perm (bC pss)
 a:l.Sublist (bC pss)
 c:ky f
noncomputable def mX(f:Ξ)(p:List Int):Bool:=aE<|((dP p).filter λq=>!aE (q∈f)).length=0
def PV:mX f p=ae↔∀q∈dP p,q∈f:=by
 unfold mX;rw[iE,aim,SU];refine(λh q a=>?_,λh q a=>?_)
 ·have:=h q a
  cases e:aE (q∈f) with
  |true=>exact fc e
  |false=>rw[e] at this;exact bh O this
 ·rw[bT<|h q a];decide
section
variable{pss f l:Ξ}(hw:jr pss=ae)(g:HP pss f l)
include hw g
theorem HP.B{p q:List Int}(b:p∈bC pss)(c:q∈dP p):q∈f\/q∈l:=by
 obtain⟨n,k,d,e⟩:=BX.mp c;obtain⟨h,i⟩:=HY d e;have j:q≠[]:=λz=>by
  rw[z] at e;have:=fj ar e;rw[c_,dR,pd,nq] at this;have:=ail.mpr (kP.mp<|yE hw b).1;omega
 have:q∈bC pss:=by
  obtain⟨_,t,m,a⟩:=wf.mp b;exact wf.mpr (j,t,m,h.trans a)
 exact dt.mp<|g.b.mem_iff.mpr this
theorem HP.F{a:List Int}{r:Ξ}(e:l=a::r):mX f a=ae:=by
 subst e;refine PV.mpr λq c=>?_;have d:a∈bC pss:=g.a.subset fE;rcases HP.B hw g d c with h|h
 ·exact h
 ·exfalso
  obtain⟨m,k,i,e⟩:=BX.mp c;have b:=(HY i e).2;rcases cz.mp h with z|z
  ·rw[z] at b;exact ù ß b
  ·have j:=(B' pss).sublist g.a
   have:=Pv<|(uI.mp j).1 q z;exact ø b this
theorem HP.next{j:Nat}(d:l[j]?=V p)(e:mX f p=ae):HP pss (f++[p]) (l.eraseIdx j):=by
 have a:p∈l:=dh d;have b:p∈bC pss:=g.a.subset a;have c:(f++l).Nodup:=g.b.nodup_iff.mpr<|yD pss;refine(?_,(List.eraseIdx_sublist _ _).trans g.a,Qe g.c<|yB.mpr (yE hw b,λh=>?_,PV.mp e))
 ·rw[lV]
  exact(Kc f (PN d).symm).trans g.b
 ·exact(kg.mp c).2.2 p h p a O
end
def abt{l:Ξ}(c:l.Nodup){p:List Int}(d:p∈l):∃j:Nat,l[j]?=V p/\∀m q,m<j->l[m]?=V q->q≠p:=by
 obtain⟨j,e⟩:=gW.mp d;refine(j,e,λm q f g z=>?_);subst z;have a:=(bY.mp e);have b:=(bY.mp g);have:=pc.mp (uJ.mp c) m j b.1 a.1 f;exact this (by rw[b.2,a.2])
noncomputable abbrev OY:List aq:=["box","known","left","found","able","piece"]
abbrev Yp(K:aY):bd:=on (Fw K<|xo tT [] xS<|eR (bw 0) gg) [Y,V 1] (dw 0) (jd<|dk (vl ae K) (bw 0)<|bw 1)<|bw 0
abbrev Yq(K:aY):dO:=jd<|dk qp (oq (yr K)<|eR (Yp K) gg)<|gh<|.int 0
section
variable{P:bu}{w:bf}{K:aY}{mg:aq->Option aa}{base:aW}
def ZK{b:ab}{g e:List W}{Q:aU}(j:bI K b L (g.map af.ref))(l:bA b g f)(m:bI K b d (e.map af.ref))(n:bA b e a)(q:f.length<=1000)(r:b D=Y)(k:∀(c:ab)(h:List W),aL b c->c D=V (.lst<|h.map af.ref)->bA c h (f.filter λw=>!aE (w∈a))->Q 5#D c):dU (gY K L) (dw 0) (jd<|dk (vl ae K) (bw 0)<|bw 1) (bw 0) [Y,V<|.ref d] b D Q:=by
 refine GU (p:=λw=>!aE (w∈a)) (λo s t R i u _ v=>(_,O,_,O,o,d,s,e,a,O,O,u,i.A1 m,i.M n,_,O,?_)) j l q r k;rw[av O];exact v t<|aL.refl _
inductive GJ(K:aY)(vs:List af)(H:ab)(Q:aU)(E':db):Prop
 |a:∀p l as pss,(vs=[.ref p,.ref l])->(gl H p)->(bI K H l<|as.map af.ref)->(H l=V (.lst<|as.map af.ref))->(bA H as<|bC pss)->(jr pss=ae)->(∀D H' bs qss,eT p H H'->gl H' p->H' D=V (.lst<|bs.map af.ref)->bA H' bs qss->ky qss->qss.Perm (bC pss)->Q 5#D H')->GJ K vs H Q E'
def yd:dG OY ["box","known"] (bX Bp):=(O,O,O,δ,O,δ,δ)
def μ(F:b_ K "_law_order" "_law_order" Bp f fd)(g5:fN mg)(Ct:eG P w K mg base bx "_law_take" ["box","most"] 1 tS)(Cr:eG P w K mg base bx "_law_rims" ["piece"] 1 tT):ce P w K mg base bx 2 f fd ["box","known"] (GJ K):=by
 refine F.B yd (λvs H Q E h=>?_) (λf8 A d7 s H vs Q E hr h=>?_)
 ·obtain⟨p,l,as,a2,rfl,_⟩:=h;rfl
 ·obtain⟨p,l,as,a2,rfl,hb,hl,f9,ht,hw,k⟩:=h
  have M:=hr.units;refine(_,bj (cq (i:=2) yd.a O (ai O)<|gA Ax O g5.list j_<|ao 7#1 aF)
   (bj (cq (i:=3) yd.a O (aw O)<|je aF)
   (bj (EU ga (dD (Fd M) 7#2 (je aF)<|dF _)
    (bj (Ml (i:=4) yd.a O (ai O) OY ["piece","found"] [Y,V 3] (eO<|ah 2) (λcl C g u ex=>cx (i:=0) (eF ["piece","found"]) O<|ai O)
     (λcl C g u ex=>lq (dD jS (dM fX O g5.a fq (ao (fe ["piece","found"] ["rim","found"] [Y,V 1] (eO<|eE Cr hr O cF<|ao 7#0 aF) (λcl C g u ex=>cx (i:=0) (eF ["rim","found"]) O<|ai O)
      (λcl C g u ex=>lq<|dD (r:=vl ae K) (Mz<|Fv M) 7#0 7#1 (by with_unfolding_all rfl)) (λcl C g u ex=>ah 0) (hfr:=Fx O δ) (tc:=jd<|dk (vl ae K) (bw 0)<|bw 1)) aF)) bb<|dF _))
     (λcl C g u ex=>ah 0) (hfr:=ii (bX Bp) δ) (tc:=Yq K))
    (bj (cq (i:=5) yd.a O (ai O)<|eK lw 7#4 (eE Ct hr O cF<|ao 7#0<|ao (dM fX O g5.a fq<|ao 7#4 aF) aF) (λ_ _=>O))
    (bj (mR<|lv nM uz wD rI 7#3<|ao 7#5 aF)
   <|bF<|mR<|lv nM age PySem.F.type_list_remove (Ww<|Fv M) 7#2<|ao 7#5 aF))))
  <|bF<|cX<|ah 3)),?_)
  obtain⟨_,_,_,c0⟩:=ua hw;rw[<-sn] at c0;refine(_,O,l,_,O,.inl hl,λLF b1=>(bR 0#0,λG a3=>?_));have sL:=aL.B (o:=.lst<|as.map af.ref) b1;have sF:=aL.B (o:=.lst []) a3;have s2:=sL.F sF;have c1:=sF _ _<|az (H:=H) (a:=LF) (o:=.lst<|as.map af.ref);have c2:LF≠G:=cN (az (H:=H) (a:=LF) (o:=.lst<|as.map af.ref)) a3;have c3:LF≠p:=by obtain⟨x,y,h,_⟩:=hb;exact dp<|cN h b1
  have c4:G≠p:=by obtain⟨x,y,h,_⟩:=hb.B sL;exact dp<|cN h a3
  have c5:H G=Y:=sL.A0 a3;refine(λm σ H3=>∃(ls L:List W)(c d:Ξ)(v4 v5:Option af),m=c.length/\σ=[V<|.ref p,V<|.ref l,V<|.ref LF,V<|.ref G,v4,v5]/\eT p H H3/\gl H3 p/\H3 LF=V (.lst<|ls.map af.ref)/\bA H3 ls c/\H3 G=V (.lst<|L.map af.ref)/\bA H3 L d/\HP a2 d c,
   (_,as,[],bC a2,[],Y,Y,O,O,λb o _ e=>s2 _ _ e,hb.B s2,c1,s2.M ht,az,.nil,(DJ _,S_ _,Qf)),?_)
  rintro m σ H3 ⟨ls,L,c,d,v4,v5,rfl,rfl,d8,d9,c6,b2,e0,c7,og⟩;have g0:=b2.B;have g1:=c7.B;have e1:=og.b.length_eq;rw[c_] at e1;refine(_,O,bR 0#0,λT hT=>.inr (LF,T,ls,[],c,[],O,O,bI.B<|(aL.B hT) _ _ c6,(aL.B hT).M b2,bI.B az,.nil,_,O,?_));have sT:=aL.B (o:=.lst []) hT;have b3:eT p H _:=λb o v e=>sT _ _<|d8 b o v e;have b4:=d9.B sT;have a4:=sT _ _ c6;have b5:=sT.M b2;have a5:=sT _ _ e0;have a6:=sT.M c7;generalize aD H3 T (.lst [])=H4 at sT b3 b4 a4 b5 a5 a6;rw[av O];cases a7:c with
  |nil=>
   rw[bT O];refine dT (_,O,k G H4 L d b3 b4 a5 a6 og.c ?_);have:=og.b;rw[a7,jy] at this;exact this
  |cons a0 r0=>
   rw[cw 0#0,<-a7];refine eS (_,λg2 H' h=>h,?_);refine(_,O,LF,O,(_,bI.B a4),λD hD=>eP<|GU (p:=mX d) (λo os H' R sm ho c8 hR=>?_) (bI.B a4) b5 (â (à (é (å e1)) c0)) hD λH5 cs s5 b6 c9=>?_)
   ·have e2:os.length<=5:=(kP.mp<|yE hw<|og.a.subset c8).2.1
    refine(_,O,o,os,O,ho,e2,λRL S rs s6 _ d0 e3=>(RL,O,(_,bI.B d0),λD7 e4=>eP<|ZK (bI.B d0) e3 (bI.B<|(sm.F s6) _ _ a5) ((sm.F s6).M a6) (dq (sd _) (â e2)) e4 λH7 bs s7 d1 a8=>(D7,_,O,.inl<|bI.B d1,O,_,O,?_)));have e5:=a8.B;have:=hR H7<|s6.F s7;rw[au,e5];have e:aE (af.int ((((dP os).filter λq=>!aE (q∈d)).length:Nat):Int)=af.int 0)=mX d os:=by
     unfold mX;rw[uQ,iE,iE];exact(λh=>by injection h with h;omega,λh=>by rw[h];rfl)
    rw[e];exact this
   have e6:=c9.B;have g3:0<(c.filter<|mX d).length:=List.length_pos_of_mem<|eW.mpr (by rw[a7];exact fE,HP.F hw og a7);have f7:=sW (mX d) c;have U:=b4.B s5;refine(_,O,_,O,_,O,D,_,O,.inl<|bI.B b6,?_);refine(p,_,O,U,by rw[au];omega,by rw[au];omega,λr6 S e7 e8 I e9=>?_);rw[au,e6] at e8;obtain⟨n,rfl⟩:=DN e7;have hn:n<(c.filter<|mX d).length:=ω
   have en:(c.filter<|mX d)[n]?=V (c.filter<|mX d)[n]:=cB hn;have b7:cs[n]?=V (cs[n]'(à hn (æ e6))):=cB (à hn (æ e6));have hq:=mK hn;generalize (c.filter<|mX d)[n]=q at en hq;generalize cs[n]'(à hn (æ e6))=t at b7;obtain⟨f0,f1⟩:=eW.mp hq;have f2:D≠p:=U.F b6;have g4:=sT.F s5;refine(D,_,_,.ref t,O,O,bI.B<|I _ _ f2 b6,jg (by rw[bV,b7];rfl),?_);have d2:de H5 t q:=ox c9 n t q b7 en;have b8:de S t q:=I _ _ (U.N d2) d2;have X:=I _ _ c4<|s5 _ _ a5;have f3:=I.F U<|s5.M a6;have f4:=I _ _ c3<|s5 _ _ a4;have f5:=I.F U<|s5.M b5;have d3:eT p H S:=λb o v e=>I b o v<|s5 _ _<|b3 b o v e;refine(_,O,.inl (O,_,bI.B X),_,O,G,_,.ref t,O,O,X,by rw[au];exact jm (â (à (à (å g1) (è (å e1))) c0)),?_);have d4:=az (H:=S) (a:=G) (o:=.lst<|L.map af.ref++[.ref t]);have a1:aD S G (.lst<|L.map af.ref++[.ref t]) LF=V (.lst<|ls.map af.ref):=by rw[aZ c2];exact f4
   have b9:bA (aD S G<|.lst<|L.map af.ref++[.ref t]) ls c:=ka f5 X (by intro xs z;cases z);have d5:bA (aD S G<|.lst<|L.map af.ref++[.ref t]) (L++[t]) (d++[q]):=ka (bA.J f3 b8) X (by intro xs z;cases z);have d6:de (aD S G<|.lst<|L.map af.ref++[.ref t]) t q:=by
    show aD S G _ t=_;rw[aZ<|fW b8 X (by intro z;cases z)];exact b8
   have a8:=e9.M (o:=.lst<|L.map af.ref++[.ref t]) c4;have b0:eT p H (aD S G<|.lst<|L.map af.ref++[.ref t]):=λb o v e=>by rw[aZ<|cN e c5];exact d3 b o v e
   generalize aD S G (.lst<|L.map af.ref++[.ref t])=H7 at d4 a1 b9 d5 d6 a8 b0;have f6:c.Nodup:=(yD a2).sublist og.a;obtain⟨j,ej,a9⟩:=abt f6 f0;refine(_,O,.inl (O,_,bI.B a1),_,O,LF,t,ls,c,q,j,O,O,a1,b9,d6,ej,a9,?_);refine(_,?_,ls.eraseIdx j,L++[t],c.eraseIdx j,d++[q],_,_,O,O,λb o v e=>by rw[aZ<|cN e b1];exact b0 b o v e,a8.M c3,az,ka (PW j b9) a1 (by intro xs z;cases z),by rw[aZ<|dp c2,d4,bU];rfl,ka d5 a1 (by intro xs z;cases z),HP.next hw og ej f1);have hj:=(bY.mp ej).1;rw[List.length_eraseIdx_of_lt hj];omega
end
noncomputable abbrev Bl:cJ:=dW 57
def ab6{a:Ξ}(v:∀p∈a,iJ p=ae):ky (bC a):=λi q d=>by
 have u:=dh d;have w:∀x∈bC a,iJ x=ae:=λx f=>by
  obtain⟨t,g,f⟩:=jN.mp<|sf.mp f;exact HZ (v t g) f
 refine yB.mpr (w q u,λz=>?_,λr l=>?_)
 ·obtain⟨j,b⟩:=gW.mp z
  have m:j<i:=by
   have:=(bY.mp b).1;rw[dR] at this;omega
  rw[uL m] at b;have:=(sX (bY.mp b).1<|yD a).mp<|b.trans d.symm;exact ø m (æ this)
 ·have n:r∈bC a:=by
   obtain⟨E,k,y,e⟩:=BX.mp l;obtain⟨A,o⟩:=HY y e;obtain⟨_,t,g,s⟩:=wf.mp u;refine wf.mpr (λz=>?_,t,g,A.trans s);have:=Bw l;rw[z] at this;simp at this;exact E (û (æ this) (å this))
  obtain⟨j,b⟩:=gW.mp n;obtain⟨C,D⟩:=bY.mp d;obtain⟨m,c⟩:=bY.mp b;have G:=Bw l;have o:j<i:=by
   rcases Ds j i with h|h|h
   ·exact h
   ·subst h
    rw[d] at b;cases b;omega
   ·have:=Pv<|pc.mp (B' a) i j C m h
    rw[D,c] at this;omega
  exact List.mem_take_iff_getElem.mpr (j,ω,c)
noncomputable def Hq:Ξ:=[[0],[0,1],[0,2],[0,3],[0,1,2],[0,1,3],[0,2,3],[0,1,2,3]]
noncomputable def tR(f:Int):Ξ:=(cr 21).flatMap λi:Nat=>Hq.map λo=>o.map λx=>f+(i:Int)+x
def Yf(f:Int):(tR f).length=168:=by
 unfold tR;rw[List.length_flatMap];have:((cr 21).map λi:Nat=>(Hq.map λo=>o.map λx=>f+(i:Int)+x).length)=(cr 21).map λ_=>8:=fS λi _=>by rw[au];rfl
 rw[this];rfl
def ZF:∀y∈cH [0,1,2,3],∃h:Fin 4,∃o∈Hq,y=o.map λx=>(h.1:Int)+x:=δ
noncomputable def iA(b:Nat)(a:Int)(k:Nat):List Int:=(cr b).map λj:Nat=>a+(k:Int)+(j:Int)
def Zd{a k:Nat}(l:a<=4)(m:k<=17){x:List Int}(d:x≠[])(c:x.Sublist (iA a f k)):x∈tR f:=by
 have e:iA a f k=((cr a).map λj:Nat=>(j:Int)).map λj=>f+(k:Int)+j:=by unfold iA;rw[bN];rfl
 rw[e] at c;obtain⟨y,g,rfl⟩:=aic.mp c;have b:y.Sublist [0,1,2,3]:=by
  refine g.trans ?_;have:[(0:Int),1,2,3]=((cr 4).map λj:Nat=>(j:Int)):=O;rw[this];refine DH _ ?_;have:cr 4=cr a++(cr<|4-a).map (a+·):=by rw[<-List.range_add];congr 1;omega
  rw[this];exact List.sublist_append_left _ _
 obtain⟨h,o,i,rfl⟩:=ZF y<|mY.mpr (λz=>d (by rw[z];rfl),b);refine jN.mpr (k+h.1,fJ.mpr ω,aO.mpr (o,i,?_));rw[bN];refine fS λx _=>?_;show f+((k+h.1:Nat):Int)+x=f+(k:Int)+((h.1:Int)+x);omega
def yy(d:Ξ):Prop:=∃(b c:Nat)(a:Int),8<=b/\b<=17/\(c=3\/c=4)/\0<=a/\a<40/\
 (d=(cr b).map (iA c a)\/d=(cr b).map (iA c a)++[[a,a+b+c-2]])
def Zc{a k:Nat}{f:Int}(d:a=3\/a=4)(e:k<=17)(g:0<=f)(i:f<40):iJ (iA a f k)=ae:=by
 refine kP.mpr (λz=>?_,?_,λy b=>?_,?_)
 ·have:=fj ar z
  unfold iA at this;simp at this;omega
 ·unfold iA;simp;omega
 ·obtain⟨j,c,rfl⟩:=aO.mp b
  have:=fJ.mp c;omega
 ·unfold iA
  rw[ip];exact aig.imp λh=>ω
def aav{j:Ξ}(h:yy j):∃(f:Int)(c:List Int),0<=f/\f<40/\(∃d:Nat,d<11/\c=[f,f+9+(d:Int)])/\(∀p∈j,iJ p=ae)/\j.length<=18/\∀x∈bC j,x∈tR f++[c]:=by
 obtain⟨a,b,f,D,E,v,s,u,h⟩:=h;have l:∀p∈(cr a).map (iA b f),iJ p=ae/\∀x:List Int,x≠[]->x.Sublist p->x∈tR f:=λp m=>by
  obtain⟨k,w,rfl⟩:=aO.mp m;have:=fJ.mp w;exact(Zc v (à (ì this) E) s u,λx n e=>Zd ω (à (ì this) E) n e)
 have z:f+(a:Int)+b-2=f+9+((a+b-11:Nat):Int):=ω
 refine(f,[f,f+9+((a+b-11:Nat):Int)],s,u,(a+b-11,ω,O),?_);have q:∀i:Nat,i<21->[f+(i:Int)]∈tR f:=λi A=>jN.mpr (i,fJ.mpr A,aO.mpr ([0],ξ,by show [f+(i:Int)+0]=_;rw[ajh]));have r:∀x:List Int,x≠[]->x.Sublist [f,f+(a:Int)+b-2]->x∈tR f++[[f,f+9+((a+b-11:Nat):Int)]]:=λx n e=>by
  cases e with
  |cons _ e=>
   cases e with
   |cons _ e=>cases e;exact bh O n
   |cons_cons _ e=>
    cases e;refine kF _ ?_;have:=q (a+b-2) ω
    rwa [show f+((a+b-2:Nat):Int)=f+(a:Int)+b-2 from ω] at this
  |cons_cons _ e=>
   cases e with
   |cons _ e=>
    cases e;refine kF _ ?_;have:=q 0 ä
    rwa [show f+((0:Nat):Int)=f from ω] at this
   |cons_cons _ e=>
    cases e;rw[z];exact jO _<|.head _
 rcases h with rfl|rfl
 ·refine(λp m=>(l p m).1,by rw[au,lT];exact â E,λx e=>?_)
  obtain⟨n,t,o,g⟩:=wf.mp e;exact kF _<|(l t o).2 x n g
 ·refine(λp m=>?_,by rw[c_,au,lT];simp;exact E,λx e=>?_)
  ·rcases dt.mp m with m|m
   ·exact(l p m).1
   ·rw[cT.mp m]
    refine kP.mpr (by simp,by simp,λy C=>?_,?_)
    ·simp only[cz,sV,rz] at C
     omega
    ·simp
     omega
  ·obtain⟨n,t,o,g⟩:=wf.mp e
   rcases dt.mp o with o|o
   ·exact kF _<|(l t o).2 x n g
   ·rw[cT.mp o] at g
    exact r x n g
def Pm(h:yy a):(∀p∈a,iJ p=ae)/\a.length<=18/\(bC a).length<=200:=by
 obtain⟨f,c,i,j,⟨d,k,rfl⟩,b,e,g⟩:=aav h;refine(b,e,?_);have:=(yD a).length_le_of_subset g;rw[c_,Yf] at this;simp at this;exact â this
noncomputable abbrev OZ:List aq:=["box","many","size","first","found"]
abbrev Gc:bd:=dk (jB λi j=>.int<|i+j) (dk (jB λi j=>.int<|i+j) (bw 1)<|bw 2)<|bw 0
section
variable{P:bu}{w:bf}{K:aY}{mg:aq->Option aa}{base:aW}
def Zb{f:ab}{b:Nat}{k0:Nat}{l:Int}(o:l=(k0:Int)){Q:aU}(q:b<=10)(m:f D=Y)(k:∀(c:ab),aL f c->c D=V (.lst<|(iA b a k0).map af.int)->Q 5#D c):dU (jX 0 b) (dw 0) ie Gc [Y,V<|.int a,V<|.int l] f D Q:=by
 subst o;refine qw (λj h g c=>∃v,h=[v,V<|.int a,V<|.int (k0:Int)]/\aL f c/\c D=V (.lst g)/\g=((iA b a k0).take j).map af.int) ?_ ?_ ?_
 ·exact(Y,O,aL.B m,az,O)
 ·rintro j h g c n p ⟨v,rfl,i,d,rfl⟩
  refine jD ?_;refine(_,O,_,O,_,_,O,O,_,O,_,_,O,O,fz (bR (â q)) n p d (_,O,i.N m,az,?_));have e:(iA b a k0)[j]?=V (a+(k0:Int)+(0+(j:Int))):=by unfold iA;rw[bV,pf n,Kh];rfl
  rw[cG e,bU];rfl
 ·rintro h g c ⟨v,rfl,i,d,rfl⟩
  rw[eV (by unfold iA;simp)] at d;exact k c i d
abbrev Om(K:aY):bd:=oq (λb H Q=>∃p a,b=[af.ref p]/\((bI K H p a/\∀l,H l=Y->Q 5#l (aD H l<|.tup a))\/(fg K H p a/\Q 5#p H)))<|eR (on (MR<|eR (bw 2) gg) [Y,V 1,V 0] (dw 0) ie Gc) gg
def aat{h:ab}{c b:Nat}{Q:aU}(E:c<=20)(w:b<=10)(s:h D=Y)(k:∀(d:ab)(f:List W),aL h d->d D=V (.lst<|f.map af.ref)->bA d f ((cr c).map<|iA b a)->Q 5#D d):dU (jX 0 c) (dw 0) ie (Om K) [Y,V<|.int a,V<|.int (b:Int)] h D Q:=by
 refine qw (λj n i d=>∃(v:Option af)(f:List W),n=[v,V<|.int a,V<|.int (b:Int)]/\aL h d/\d D=V (.lst i)/\i=f.map af.ref/\bA d f (((cr c).map<|iA b a).take j)) ?_ ?_ ?_
 ·exact(Y,[],O,aL.B s,az,O,.nil)
 ·rintro j n i d u x ⟨v,f,rfl,p,g,rfl,l⟩
  have e:((cr c).map<|iA b a)[j]?=V (iA b a j):=by rw[bV,pf u];rfl
  refine jD ?_;refine(_,O,_,O,ω,ω,λy q=>eP ?_);rw[tj];refine Zb (k0:=j) ω w q λG A r=>(y,_,O,.inl (bI.B r,λt C=>?_));have m:=A.F<|aL.B (o:=.tup<|(iA b a j).map af.int) C;refine fz (bR (â E)) u x (m _ _ g) (_,f++[t],O,(p.F m).N s,az,by rw[bU];rfl,?_);rw[cG e];exact ka (bA.J (m.M l) az) (m _ _ g) (by intro H z;cases z)
 ·rintro n i d ⟨v,f,rfl,p,g,rfl,l⟩
  rw[eV 0#0] at l;exact k d f p g l
inductive GH(vs:List af)(H:ab)(Q:aU)(E':db):Prop
 |a:∀p,(vs=[.ref p])->(gl H p)->(∀D bs qss H',eT p H H'->gl H' p->H D=Y->H' D=V (.lst<|bs.map af.ref)->bA H' bs qss->yy qss->Q 5#D H')->GH vs H Q E'
def x':dG OZ ["box"] (bX Bl):=(O,O,O,δ,O,δ,δ)
def ν(F:b_ K "_law_long" "_law_long" Bl f fd)(b3:fN mg)(R:eG P w K mg base bx "_law_take" ["box","most"] 1 tS):ce P w K mg base bx 2 f fd ["box"] GH:=by
 refine F.B x' (λvs H Q E h=>?_) (λb2 A X s H vs Q E S h=>?_)
 ·obtain⟨p,rfl,_⟩:=h;rfl
 ·obtain⟨p,rfl,hb,k⟩:=h
  refine(_,bj (cq (i:=1) x'.a O (ai O)<|bW iv bb<|eE R S O cF<|ao 7#0<|ao bb aF)
   (bj (cq (i:=2) x'.a O (aw O)<|bW iv bb<|eE R S O cF<|ao 7#0<|ao bb aF)
   (bj (cq (i:=3) x'.a O (aw O)<|eE R S O cF<|ao 7#0<|ao bb aF)
   (bj (Mk (i:=4) x'.a O (ai O) OZ ["k","first","size"] [Y,V 3,V 2] (ou O b3.b<|ao 7#1 aF) (λu C c d v=>cx (i:=0) (eF ["k","first","size"]) O<|aw O) (λu C c d v=>iu)
     (λu C c d v=>gA Aw O b3.c BK (ao (fe ["k","first","size"] ["j","first","k"] [Y,V 1,V 0] (ou O b3.b<|ao 7#2 aF) (λu C c d v=>cx (i:=0) (eF ["j","first","k"]) O<|ai O) (λu C c d v=>iu)
      (λu C c d v=>bW iv (bW iv 7#1<|ah 2)<|ah 0) (hfr:=Fx O δ) (te:=Gc)) aF)) (hfr:=ii (bX Bl) δ) (te:=Om K))
   (bj (fL (dD jS (eE R S O cF<|ao 7#0<|ao bb aF) bb<|dF _)
    (bF<|mR<|lv nM uz wD rI 7#4<|ao (jC<|ao 7#3<|ao (bW mS (bW iv (bW iv 7#3<|ah 1)<|ah 2) bb) aF) aF) fV)
  <|bF<|cX<|ah 4)))),?_)
  refine(_,O,p,10,O,hb,ξ,ξ,λr1 H1 a0 a1 a2 a3=>(_,_,O,O,?_));refine(_,O,p,2,O,a3,ξ,ξ,λr2 H2 b0 b1 a4 a5=>(_,_,O,O,?_));refine(_,O,p,40,O,a5,ξ,ξ,λa H3 c0 c1 a6 j=>?_);have g:=(a2.B a4).B a6;obtain⟨m,rfl⟩:=DN a0;obtain⟨z,rfl⟩:=DN b0;have e8:(8:Int)+(m:Int)=((m+8:Nat):Int):=ω
  have e3:(3:Int)+(z:Int)=((z+3:Nat):Int):=ω
  simp only[e8,e3];refine(_,O,_,O,ω,ω,λD hD=>eP ?_);rw[tj];refine aat ω ω hD λH4 bs T x y=>?_;have q:H D=Y:=g.N hb j hD;have a7:=y.B;rw[au,lT] at a7;refine(_,O,p,2,O,j.B T,ξ,ξ,λr H5 r0 r1 l G=>(O,_,O,?_));have I:D≠p:=(j.B T).F x;have L:eT p H H4:=λb o a8 e=>T _ _<|g b o a8 e;have n:=l _ _ I x;have M:=l.F (j.B T) y;refine oz (λe=>?_) (λe=>(_,O,k D bs _ H5 (L.B l) G q n M (m+8,z+3,a,ý,ω,ω,c0,c1,.inl O)));refine(_,O,.inl (O,_,bI.B n),_,O,_,O,_,O,_,_,O,O,_,O,_,_,O,O,_,_,O,O,bR 0#0,λt ht=>(D,_,_,O,O,(aL.B ht) _ _ n,by rw[au];exact jm ω,?_));have U:=aL.B (o:=.tup [.int a,.int<|a+((m+8:Nat):Int)+((z+3:Nat):Int)-2]) ht;have a9:=U.M M;refine(_,O,k D (bs++[t]) _ _ ((L.B l).B (eT.J U)|>.M q) ((G.B U).M I) q (by rw[az,bU];rfl) (ka (bA.J a9<|show de _ t [a,a+((m+8:Nat):Int)+((z+3:Nat):Int)-2] from az) (U _ _ n) (by intro xs z;cases z)) (m+8,z+3,a,ý,ω,ω,c0,c1,.inr O))
end
abbrev Of(K:aY):dO:=jd<|dk Zv (vI K 2)<|gh .non
abbrev Ot(K:aY):bd:=EH K "list" Ag (bw 1)<|eR (bw 0) gg
abbrev Ou(K:aY):dO:=jd<|dk qp (vI K 0)<|bw 1
abbrev Zu:lE:=λx y H Q=>y=.non/\Q (.c<|!aE (x=.non)) H
abbrev Oq(K:aY):dO:=LD (jd<|dk qp (vI K 0)<|dk (jB λi j=>.int<|i-j) (bw 1)<|gh<|.int 1)<|jd<|dk Zu (vI K 2)<|gh .non
abbrev Ok(K:aY)(j:Int):dO:=jd<|dk qp (oq (yr K)<|eR (bw 0) gg)<|dk (jB λi j=>.int<|i+j) (bw 1)<|gh<|.int j
abbrev On:bd:=dk (jB λi j=>.int<|i-j) (gh<|.int 1)<|dk (lp rO λi j=>.int<|i*j) (gh<|.int 2)<|dk By (bw 0)<|gh<|.int 2
def aap{a:List dI}{i:Nat}(h:a[i]?=V x):kM (a.take<|i+1)=kM (a.take i)++(if x.d.isNone=ae then [x.a] else []):=by
 unfold kM;rw[cG h,jb,bU]
 congr 1
 by_cases e:x.d.isNone=ae
 ·rw[av e,mL (by exact e)];rfl
 ·rw[am e,k_ (by exact e)];rfl
section
variable{K:aY}
def aa3{g:List W}{c:List dI}{Q:aU}(w:bI K e S (g.map af.ref))(n:eI (λu x=>e u=V (.tup x)) g (c.map jj))(G:c.length<=1000)(o:e D=Y)(k:∀b,aL e b->b D=V (.lst<|(kM c).map af.int)->Q 5#D b):dU (gY K S) (dw 0) (Of K) (vI K 0) [Y] e D Q:=by
 have y:g.length=c.length:=by rw[n.length,au]
 refine jT (xs:=g.map af.ref) (λj i h b=>∃(v:Option af),i=[v]/\aL e b/\b D=V (.lst h)/\h=(kM<|c.take j).map af.int) ?_ ?_ ?_ ?_
 ·exact(Y,O,aL.B o,az,O)
 ·rintro j i h b ⟨v,rfl,d,a,rfl⟩
  exact d.A1 w
 ·rintro j i h b x A l p ⟨v,rfl,d,a,rfl⟩
  obtain⟨u,C,rfl⟩:=fG A;have E:j<g.length:=by rw[au] at l;exact l
  obtain⟨r,q⟩:∃r,c[j]?=V r:=(_,cB ω);have f:=d _ _<|ox n j _ _ C (by rw[bV,q];rfl);have m:=aap q;unfold jj at f;cases s:r.d with
  |none=>
   rw[s] at f m;refine(_,O,u,_,2,_,O,O,fg.B f,O,O,_,O,?_);refine eS (_,O,u,_,0,_,O,O,fg.B f,O,fz (by rw[au];exact bR (â (à (å y) G))) l p a (_,O,d.N o,az,?_));rw[m,av (by rfl),bU]
   rfl
  |some t=>
   rw[s] at f m;refine(_,O,u,_,2,_,O,O,fg.B f,O,O,_,O,?_);rw[cw (λz=>nomatch z)];refine dT<|oB l p (_,O,d,a,?_);rw[m,am 0#0,jy]
 ·rintro i h b ⟨v,rfl,d,a,rfl⟩
  rw[au,y,gE] at a;exact k b d a
def ab2{d:ab}{c:List Int}{n:Nat}{Q:aU}(i:d L=V (.lst<|c.map af.int))(p:n<=1000)(l:d D=Y)(k:∀a,aL d a->a D=V (.lst (((cr n).map λj:Nat=>((c.countP (·==(j:Int)):Nat):Int)).map af.int))->Q 5#D a):dU (jX 0 n) (dw 0) ie (Ot K) [Y,V<|.ref L] d D Q:=by
 refine qw (λj h g a=>∃v:Option af,h=[v,V<|.ref L]/\aL d a/\a D=V (.lst g)/\g=(((cr n).map λj:Nat=>((c.countP (·==(j:Int)):Nat):Int)).take j).map af.int) ?_ ?_ ?_
 ·exact(Y,O,aL.B l,az,O)
 ·rintro j h g a m o ⟨v,rfl,f,b,rfl⟩
  have e:((cr n).map λj:Nat=>((c.countP (·==(j:Int)):Nat):Int))[j]?=V ((c.countP (·==(j:Int)):Nat):Int):=by rw[bV,pf m];rfl
  refine jD ?_;refine(_,O,.inl (O,_,bI.B<|f _ _ i),_,O,L,c,_,O,O,f _ _ i,?_);rw[show(0:Int)+((j:Nat):Int)=((j:Nat):Int) from ω];exact fz (bR (â p)) m o b (_,O,f.N l,az,by rw[cG e,bU];rfl)
 ·rintro h g a ⟨v,rfl,f,b,rfl⟩
  rw[eV 0#0] at b;exact k a f b
def ab9(u:W)(x:dI)(a:ab)(R:Bool->ab->Prop)(b:a u=V (.tup<|jj x))(r:R (qG h x) a):Ou K [V<|.ref u,V<|.int h] a R:=by
 refine(_,O,u,_,0,_,O,O,fg.B b,O,_,O,O,_,O,?_);rw[show aE (af.int x.a=af.int h)=qG h x from decide_eq_decide.mpr (λz=>by injection z,λz=>by rw[z])];exact r
def aby{h:Int}(u:W)(x:dI)(d:ab)(R:Bool->ab->Prop)(b:d u=V (.tup<|jj x))(r:R (oN (h-1) x) d):Oq K [V<|.ref u,V<|.int h] d R:=by
 have a:R (aE (x.a=h-1)&&x.d.isSome) d:=r;refine(_,O,u,_,0,_,O,O,fg.B b,O,_,O,_,_,O,O,O,_,O,?_)
 by_cases c:x.a=h-1
 ·rw[bT c,Bool.true_and] at a
  rw[bT<|fj af.int c];unfold jj at b;cases e:x.d with
  |none=>
   rw[e] at b a;exact eS (_,O,u,_,2,_,O,O,fg.B b,O,O,_,O,a)
  |some t=>
   rw[e] at b a;refine eS (_,O,u,_,2,_,O,O,fg.B b,O,O,_,O,?_);rw[cw (λz=>nomatch z)];exact a
 ·rw[cw c,Ko] at a
  rw[cw (λz=>c<|af.int.inj z)];exact dT a
def YA{d:List W}{Q:aU}{h j:Int}(g:bI K a L (d.map af.ref))(i:bA a d c)(l:c.length<=1000)(m:a D=Y)(k:∀b e,aL a b->b D=V (.lst<|e.map af.ref)->bA b e (c.filter λq=>aE<|(q.length:Int)=h+j)->Q 5#D b):dU (gY K L) (dw 0) (Ok K j) (bw 0) [Y,V<|.int h] a D Q:=by
 refine GU (p:=λq=>aE<|(q.length:Int)=h+j) (λo f n R t r _ s=>(_,O,o,_,O,.inr<|fg.B r,_,O,_,_,O,O,O,_,O,?_)) g i l m k;have:=s n<|aL.refl _;rw[au];rw[show aE ((f.length:Int)=h+j)=aE (af.int (f.length:Int)=af.int (h+j)) from decide_eq_decide.mpr (λz=>by rw[z],λz=>by injection z)] at this;exact this
def ZE{c:ab}{d:List Int}{Q:aU}(m:c L=V (.lst<|d.map af.int))(r:d.length<=1000)(i:c D=Y)(k:∀b,aL c b->b D=V (.lst<|(d.map λh=>1-2*(h%2)).map af.int)->Q 5#D b):dU (gY K L) (dw 0) ie On [Y] c D Q:=by
 refine jT (xs:=d.map af.int) (λj g e b=>∃(v:Option af),g=[v]/\aL c b/\b D=V (.lst e)/\e=((d.take j).map λh=>1-2*(h%2)).map af.int) ?_ ?_ ?_ ?_
 ·exact(Y,O,aL.B i,az,O)
 ·rintro j g e b ⟨v,rfl,f,a,rfl⟩
  exact bI.B<|f _ _ m
 ·rintro j g e b x l o p ⟨v,rfl,f,a,rfl⟩
  rw[bV] at l;obtain⟨n,q,rfl⟩:=o_.mp l;refine jD ?_;refine(_,O,_,_,O,O,(by show(0:Int)<2;decide),_,_,O,O,.inl (ξ,ξ),_,_,O,O,fz (by rw[au];exact bR (â r)) o p a (_,O,f.N i,az,?_));rw[cG q,bU,bU]
  rfl
 ·rintro g e b ⟨v,rfl,f,a,rfl⟩
  rw[au,gE] at a;exact k b f a
end
def aaw(h:yy c):c.Nodup:=by
 obtain⟨d,g,f,o,p,q,r,s,h⟩:=h;have j:((cr d).map<|iA g f).Nodup:=by
  unfold bv;rw[ip];refine zu.imp λ{a b} i e=>i ?_;have:=fj (λl:List Int=>l[0]?) e;unfold iA at this;simp only[bV] at this;rw[pf ω] at this;simp at this;omega
 rcases h with rfl|rfl
 ·exact j
 ·rw[kg]
  refine(j,by simp,λa m b n e=>?_);obtain⟨k,_,rfl⟩:=aO.mp m;rw[cT.mp n] at e;have:=fj ar e;unfold iA at this;simp at this;omega
def aau(h:yy a):rQ a/\(bC a).length<=200:=by
 obtain⟨c,d,b⟩:=Pm h;exact((P_ (â d) (aaw h) c (by rw[<-sn];exact b),(â (ï b))),b)
section
variable{X:a_}
inductive L_(K:aY)(x:af)(y:af)(H:ab)(Q:aU):Prop
 |a:∀l m ns ms,(x=.ref l)->(y=.ref m)->(bI K H l<|aj af.int ns)->(bI K H m<|aj af.int ms)->(Q (.c<|!aE (ns=ms)) H)->L_ K x y H Q
def Wn(d:X.A.units+64<dB):fZ X (iW .NotEq) (L_ X.K):=by
 intro c s o H x y v u Q I f g h;obtain⟨l,m,a,b,rfl,rfl,i,j,q⟩:=h;cases f;cases g;obtain⟨_,k⟩:=LP I i;obtain⟨_,n⟩:=LP I j;refine Sn k n (LK _) (LK _) d (RR (.list .int) O _ _ (MU _)<|MU _) ?_;have e:wy (.list<|a.map iL) (.list<|b.map iL)=aE (a=b):=by simp only[wy];exact RH a b
 rw[e];exact(.c _,H,I,O,q)
end
noncomputable abbrev pM:cJ:=dW 58
noncomputable abbrev qE:List aq:=["script","box","web","known","prime","orders","gaps","order","told","last","high","born","dead"]
def kK:dG qE ["script"] (bX pM):=(O,O,O,δ,O,δ,δ)
def AX(K:aY)(c:W):lD:=λd H Q _=>∃(a:W)(b:List Int),d=[.ref a]/\bI K H a (b.map af.int)/\b.length<=63/\H c=V (.tbl #[])/\∀e,Q (.c ae) e
def aco(a:Ξ)(H:ab)(o:W)(b:Ξ):Prop:=(∃c:List W,H o=V (.lst<|c.map af.ref)/\bA H c b)/\ky b/\b.Perm (bC a)
def ach{ns:List Int}{r:Int}(a:0<=r)(b:r<ns.length):∃z,z∈ns/\lC (ns.map af.int) r=V (.int z):=by
 obtain⟨n,rfl⟩:=DN a;have e:ns[n]?=V ns[n]:=cB ω;exact(ns[n],mK _,jg (by rw[bV,e];rfl))
def Oi(t:rY a H)(b:eT p H h)(j:gl H p):rY a h:=by
 obtain⟨x,y,e,_⟩:=j;have i:a≠p:=λz=>by rw[<-z] at e;rcases t with d|⟨_,d,_⟩<;>(rw[e] at d;cases d)
 rcases t with f|⟨c,f,k,l,m,g,r⟩
 ·exact .inl<|b _ _ i f
 ·exact .inr (c,b _ _ i f,k,l,m,b _ _ (λz=>by rw[z,e] at g;cases g) g,r)
section
variable{P:bu}{w:bf}{K:aY}{mg:aq->Option aa}{base:aW}{f:W}{fd:cW}{Pt:W}{cdv:aa}{A:bO}{outer:List gm}{s:ak}{H:ab}{E:db}{Q:aU}
def aa2(hr:fM 10 (A.deeper<|qd "law" (bX pM) s⁻¹ f cdv))(h4:fN mg)(e0:mg "sum"=Y)(Cb:eG P w K mg base bx "bars" ["order","prime"] 7 (AZ K Pt))(e4:eG P w K mg base bx "balance" ["web"] 10 (A_ K))(Cs:eG P w K mg base bx "shares" ["web"] 9 (AT K))(Ch:eG P w K mg base bx "_law_holes" ["rows","prime"] 2 (AY K))(Cm:eG P w K mg base bx "_law_seam" ["chain"] 1 xY):∃tr,kJ (qv bx P w K mg base qE "law" (bX pM) f cdv A outer s H E).M (po 6<|pK pM) tr/\
   ∀(a p h6 KN OS:W)(os ks ss:List W)(m:Ξ)(Ms:List (List<|List Int))(pr:Int)(H2:ab),H2 h6=V (.lst<|os.map af.ref)->bA H2 os m->rQ m->(bC m).length<=200->H2 KN=V (.lst<|ks.map af.ref)->bA H2 ks (bC m)->H2 OS=V (.lst<|ss.map af.ref)->eI (aco m H2) ss Ms->lJ pr->rY Pt H2->(∀H',Q (.c ae) H')->
    tr {a:=λ_ H'=>Q .non H',d:=Q} [V<|.ref a,V<|.ref p,V<|.ref h6,V<|.ref KN,V<|.int pr,V<|.ref OS,Y,Y,Y,Y,Y,Y,Y] H2:=by
 have hu:=ko hr;have c0:=hr.units;refine(_,bj (cq (i:=6) kK.a O (ai O) (eE Ch hr O cF (ao (fe qE ["piece"] [Y] (eO<|ah 3) (λr C b d t=>cx (i:=0) (eF ["piece"]) O<|ai O) (λr C b d t=>iu)
    (λr C b d t=>jC<|ao 7#0<|ao (eE Cm hr O cF<|ao (Mx hu 7#0 bb) aF) aF) (hfr:=oy δ) (te:=Ol))<|ao 7#4 aF)))
  (bj (gz ga O (eO<|ah 5) (cx (i:=7) kK.a O<|ai O)
   (bj (cq (i:=8) kK.a O (ai O)<|eE Cb hr O cF<|ao (gA Ax O h4.list j_<|ao 7#7 aF)<|ao 7#4 aF)
   (bj (cq (i:=9) kK.a O (aw O) (fe qE ["bar"] [Y] (eO<|ah 8) (λr C b d t=>cx (i:=0) (eF ["bar"]) O<|ai O)
    (λr C b d t=>lq<|dD MC (eK ig 7#0 bb (λ_ _=>O)) xy<|dF _) (λr C b d t=>eK ig 7#0 bb (λ_ _=>O)) (hfr:=oy δ) (tc:=Of K) (te:=vI K 0)))
   (bj (fL (tK.B (ES (dD (Wn c0) (fe qE ["high","last"] [Y,V 9] (ou O h4.b<|ao bb aF) (λr C b d t=>cx (i:=0) (eF ["high","last"]) O<|ai O) (λr C b d t=>iu)
      (λr C b d t=>lv nM Js RU Ff 7#1<|ao 7#0 aF) (hfr:=ii (bX pM) δ) (te:=Ot K)) 7#6<|dF _)
    <|ER<|dD rH (lv nM Js RU Ff 7#9<|ao bb aF) (dM fX O h4.a fq<|ao (eE Cs hr O cF<|ao (gA Ax O h4.list j_<|ao 7#2 aF) aF) aF)<|dF _)) (bF<|cX kn) fV)
   (bj (gz ga O (ou O h4.b<|ao bb aF) (cx (i:=10) kK.a O<|aw O)
    (bj (cq (i:=11) kK.a O (ai O) (dM fX O h4.a fq (ao (fe qE ["bar","high"] [Y,V 10] (eO<|ah 8) (λr C b d t=>cx (i:=0) (eF ["bar","high"]) O<|ai O)
     (λr C b d t=>lq<|dD jS (eK ig 7#0 bb (λ_ _=>O)) 7#1<|dF _) (λr C b d t=>ah 0) (hfr:=ii (bX pM) δ) (tc:=Ou K) (te:=bw 0)) aF)))
    (bj (cq (i:=12) kK.a O (ai O) (dM fX O h4.a fq (ao (fe qE ["bar","high"] [Y,V 10] (eO<|ah 8) (λr C b d t=>cx (i:=0) (eF ["bar","high"]) O<|ai O)
     (λr C b d t=>lq<|tK.B<|Mh (dD jS (eK ig 7#0 bb (λ_ _=>O)) (bW mS 7#1 bb)<|dF _)<|Mg<|dD Wl (eK ig 7#0 bb (λ_ _=>O)) xy<|dF _) (λr C b d t=>ah 0) (hfr:=ii (bX pM) δ) (tc:=Oq K) (te:=bw 0)) aF)))
    (bF (fL (dD rH (bW iv 7#11<|ah 12) (dM fX O h4.a fq (ao (fe qE ["piece","high"] [Y,V 10] (eO<|ah 3) (λr C b d t=>cx (i:=0) (eF ["piece","high"]) O<|ai O)
     (λr C b d t=>lq<|dD jS (dM fX O h4.a fq<|ao 7#0 aF) (bW iv 7#1 bb)<|dF _) (λr C b d t=>ah 0) (hfr:=ii (bX pM) δ) (tc:=Ok K 1) (te:=bw 0)) aF))<|dF _) (bF<|cX kn) fV)))))
   (bF (fL (dD rH (dM (FC O) O e0 HK (ao (fe qE ["high"] [Y] (eO<|ah 9) (λr C b d t=>cx (i:=0) (eF ["high"]) O<|ai O) (λr C b d t=>iu)
      (λr C b d t=>bW mS bb<|bW mT bb<|bW kH 7#0 bb) (hfr:=oy δ) (te:=On)) aF)) (eE e4 hr O cF<|ao (gA Ax O h4.list j_<|ao 7#2 aF) aF)<|dF _) (bF<|cX kn) fV)))))))
 <|bF<|cX kn),?_)
 intro a p h6 KN OS os ks ss m Ms pr H2 hO ho a9 c1 b0 c2 c3 c4 hp tb k;have hw:=a9.1;have h5:∀q∈bC m,q.length<=5/\q≠[]:=λq hq=>by
  have:=kP.mp<|yE hw hq;exact(this.2.1,this.1)
 refine(_,O,KN,O,(_,bI.B b0),λRW e5=>eP<|YH (bI.B b0) c2 h5 (â c1) e5 λH3 ts s3 c5 e6=>?_);refine(_,O,RW,ts,_,pr,O,bI.B c5,e6,λc hc=>?_,?_,?_,hp,λGA H4 g s4 g8 hg c6=>?_)
 ·obtain⟨q,hq,rfl⟩:=aO.mp hc
  exact qA _
 ·have fl:∀l:Ξ,(∀q∈l,q.length<=5)->((l.map λq=>(aez q (qC q))).flatMap λc=>aI c.2).length<=5*l.length:=λl=>by
   induction l with
   |nil=>intro _;exact aV _
   |cons q l ih=>
    intro h;have h1:=ih λy hy=>h y<|.tail _ hy;have h2:=YI<|h q<|.head _;have h2:(aez q (qC q)).2.length<=5:=h2;rw[cY,nr,c_,oJ,dj];omega
  have:=fl (bC m) λq hq=>(h5 q hq).1;omega
 ·rw[au];exact â c1
 have e7:=s3.F s4;rw[abp] at c6;have hg:∀j:Nat,j<6->v_ pr (bC m) (1+(j:Int)) (g j):=λj hj=>Zh<|hg j hj;have a1:iT Pt H2 H4:=aL.sf e7;have a4:H4 GA=V (.lst<|(vU (bC m) g).map af.int):=c6;generalize b1:vU (bC m) g=c7 at a4;refine(_,O,OS,O,(_,bI.B<|a1.lst c3),me (K:=K) (a:=OS) (xs:=ss.map af.ref) (λi σ H5=>∃(v7 v8 v9 D G I:Option af),σ=[V<|.ref a,V<|.ref p,V<|.ref h6,V<|.ref KN,V<|.int pr,V<|.ref OS,V<|.ref GA,v7,v8,v9,D,G,I]/\iT Pt H4 H5)
  (Y,Y,Y,Y,Y,Y,O,aL.sf<|aL.refl _) (λi σ H5 _ (_,_,_,_,_,_,_,sm)=>bI.B<|sm.lst<|a1.lst c3) ?_ ?_)
 ·rintro i x σ H5 hx ⟨v7,v8,v9,D,G,I,rfl,b2⟩
  obtain⟨o,eo,rfl⟩:=fG hx;have hi:i<Ms.length:=by have:=(bY.mp eo).1;rw[<-iM c4];exact this
  obtain⟨⟨bs,e8,c8⟩,b3,b4⟩:=ox c4 i _ _ eo<|cB hi;generalize Ms[i]=oo at c8 b3 b4;have c9:=a1.B b2;have e9:oo.length<=200:=by rw[b4.length_eq];exact c1
  refine(_,O,o,_,O,.inl<|bI.B<|c9.lst e8,λL1 f0=>?_);have t1:=aL.B (o:=.lst<|bs.map af.ref) f0;have d0:=c9.B<|aL.sf t1;refine(_,O,L1,bs,oo,pr,O,bI.B az,d0.J c8,b3,e9,hp,d0.e tb,λTD us xs H7 f1 g9 b5 hu d1=>?_);have b6:=(b2.B<|aL.sf t1).B f1;have M:=a1.B b6;have NU:=aai hp (λq hq=>yE hw hq) b3 b4 d1 hg;rw[b1] at NU;have lx:xs.length<=1000:=by have:=Hn d1;exact â (à this e9)
  have ll:(kM xs).length<=1000:=by unfold kM;rw[au];exact dq (sW _ _) lx
  refine(_,O,TD,O,(_,bI.B b5),λLA f2=>eP<|aa3 (bI.B b5) hu lx f2 λH8 s8 R=>?_);have uS:∀{H':ab},aL H7 H'->eI (λu x=>H' u=V (.tup x)) us (xs.map jj):=λs'=>jF hu λ_ _ e=>s' _ _ e;refine(5,O,ξ,ξ,λD9 f3=>eP<|ab2 (n:=(5:Int).toNat) R ξ f3 λH9 s9 d2=>?_);have a2:=s8.F s9;have d3:=a2 _ _<|b6.lst a4;refine(_,O,D9,GA,_,_,O,O,bI.B d2,bI.B d3,_,O,?_);rw[bT (show((cr (5:Int).toNat).map λj:Nat=>(((kM xs).countP (·==(j:Int)):Nat):Int))=c7 from NU.d)];have a5:=s9 _ _ R;refine dT (_,O,.inl (O,_,bI.B a5),LA,kM xs,0,O,O,a5,?_);have f4:=a2 _ _<|M.lst hO;have f5:=a2.M<|M.J ho;refine(_,O,h6,_,O,.inl<|bI.B f4,λL2 f6=>?_);have t2:=aL.B (o:=.lst<|os.map af.ref) f6;refine(L2,os,m,O,bI.B az,t2.M f5,a9,λSD f7 h0 d4 _ _ _ _ f8 d5=>(SD,_,O,.inl<|bI.B f8,O,_,O,?_));have S:=(a2.F t2).F d4;have d6:=(s9.F t2).F d4;rw[au,d5.1,bT (show af.int (((kM xs).countP (·==0):Nat):Int)=af.int ((BS (vS m)<|dJ<|bC m).length:Int) from fj af.int NU.c)];have L:=S _ _ b5;have b7:=d6 _ _ R;refine dT (5,O,ξ,ξ,xH (lo:=0) (n:=(5:Int).toNat) (λj σ b8=>∃(D G I:Option af),σ=[V<|.ref a,V<|.ref p,V<|.ref h6,V<|.ref KN,V<|.int pr,V<|.ref OS,V<|.ref GA,V<|.ref o,V<|.ref TD,V<|.ref LA,D,G,I]/\aL f7 b8)
   (_,_,_,O,aL.refl _) ?_ ?_)
  ·rintro j σ b8 hj ⟨D,G,I,rfl,z⟩
   have a6:=S.F z;refine(_,O,TD,O,(_,bI.B<|z _ _ L),λD1 b9=>eP<|PG ab9 (bI.B<|z _ _ L) (uS a6) lx b9 λf9 w1 T U g0=>?_);refine(D1,_,O,.inl<|bI.B U,?_);have v:=a6.F T;have X:=(z.F T) _ _ L;refine(_,O,TD,O,(_,bI.B X),λD2 g1=>eP<|PG aby (bI.B X) (uS v) lx g1 λg2 w2 a3 d7 g3=>?_);refine(D2,_,O,.inl<|bI.B d7,?_);have a7:=v.F a3;have a8:=a7 _ _<|M.lst b0;have d8:=a7.M<|M.J c2;refine(_,O,_,O,_,_,O,O,_,O,KN,O,(_,bI.B a8),λD3 g4=>eP<|YA (bI.B a8) d8 (â c1) g4 λh3 w3 g5 d9 g6=>?_);refine(D3,_,O,.inl<|bI.B d9,O,_,O,?_);have nb:=NU.b<|0+(j:Int);have e1:=g0.length;have e2:=g3.length;have e3:=g6.B;rw[au] at e1 e2;rw[au,au,au,bT (fj af.int (show(w1.length:Int)+(w2.length:Int)=(w3.length:Int) by
    have e3:w3.length=(iz (bC m)<|0+(j:Int)+1).length:=e3;omega))]
   exact dT (_,_,_,O,((z.F T).F a3).F g5)
  ·rintro σ b8 ⟨D,G,I,rfl,z⟩
   have a0:=z _ _ b7;refine(_,O,LA,O,(_,bI.B a0),λD1 b9=>eP<|ZE a0 ll b9 λf9 T U=>?_);refine(D1,_,O,bI.B U,?_);have v:=(S.F z).F T;refine(_,O,h6,_,O,.inl<|bI.B<|v _ _<|M.lst hO,λL3 g7=>?_);have t3:=aL.B (o:=.lst<|os.map af.ref) g7;refine(L3,os,m,O,bI.B az,t3.M<|v.M<|M.J ho,a9,λg2 a3=>(O,_,O,?_));rw[NU.a,adc,bT O];exact dT (_,_,_,_,_,_,O,b6.B<|aL.sf<|(v.F t3).F a3)
 ·rintro σ H5 ⟨v7,v8,v9,D,G,I,rfl,b2⟩
  exact k H5
def π(F:b_ K "law" "law" pM f fd)(g3:fN mg)(c5:mg "sum"=Y)(Cc:eG P w K mg base bx "_law_cell_at" ["script","k"] 1 (GP K))(c6:eG P w K mg base bx "_law_box" ["cell"] 1 GQ)(Ct:eG P w K mg base bx "_law_take" ["box","most"] 1 tS)(Cw:eG P w K mg base bx "_law_web" ["box"] 3 Gu)(Cp:eG P w K mg base bx "_law_pieces" ["web"] 2 (vJ K))(Cd:eG P w K mg base bx "_law_order" ["box","known"] 2 (GJ K))(Cg:eG P w K mg base bx "_law_long" ["box"] 2 GH)(Cb:eG P w K mg base bx "bars" ["order","prime"] 7 (AZ K Pt))(c7:eG P w K mg base bx "balance" ["web"] 10 (A_ K))(Cs:eG P w K mg base bx "shares" ["web"] 9 (AT K))(Ch:eG P w K mg base bx "_law_holes" ["rows","prime"] 2 (AY K))(Cm:eG P w K mg base bx "_law_seam" ["chain"] 1 xY):ce P w K mg base bx 11 f fd ["script"] (AX K Pt):=by
 refine F.B kK (λvs H Q E h=>?_) (λcdv A outer s H vs Q E e h=>?_)
 ·obtain⟨a,ns,rfl,_⟩:=h;rfl
 ·obtain⟨a,nn,rfl,hS,hn,c8,k⟩:=h
  obtain⟨tr,c9,C⟩:=aa2 (f:=f) (cdv:=cdv) (A:=A) (outer:=outer) (s:=s) (H:=H) (Q:=Q) (E:=E) e g3 c5 Cb c7 Cs Ch Cm;refine(_,bj (cq (i:=1) kK.a O (ai O)<|eE c6 e O cF<|ao (eE Cc e O cF<|ao 7#0<|ao bb aF) aF)
   (bj (cq (i:=2) kK.a O (ai O)<|eE Cw e O cF<|ao 7#1 aF)
   (bj (cq (i:=3) kK.a O (ai O)<|eE Cp e O cF<|ao 7#2 aF)
   (bj (cq (i:=4) kK.a O (ai O)<|eK lw (je<|ao bb<|ao bb<|ao bb<|ao bb aF) (eE Ct e O cF<|ao 7#1<|ao bb aF) (λ_ _=>O))
   (bj (cq (i:=5) kK.a O (ai O)<|je<|ao (eE Cd e O cF<|ao 7#1<|ao 7#3 aF)<|ao (eE Cd e O cF<|ao 7#1<|ao 7#3 aF) aF)
   (bj (fL (dD jS (eE Ct e O cF<|ao 7#1<|ao bb aF) bb<|dF _)
    (bj (cq (i:=2) kK.a O (ai O)<|eE Cg e O cF<|ao 7#1 aF)
    (bj (cq (i:=3) kK.a O (ai O)<|eE Cp e O cF<|ao 7#2 aF)
   <|bF<|cq (i:=5) kK.a O (ai O)<|je<|ao 7#3 aF)) fV) c9))))),?_)
  refine(_,O,a,nn,O,hS,λn=>(n,O,λp x y hp d0=>?_));have sp:=aL.B (o:=.lst [.int x,.int y]) hp;have S:gl (aD H p<|.lst [.int x,.int y]) p:=(x,y,az,d0);have a3:rY Pt (aD H p<|.lst [.int x,.int y]):=kI.B (.inl c8) sp;generalize aD H p (.lst [.int x,.int y])=H0 at sp S a3;refine(_,O,p,O,S,λg4 os d H1 d1 T _ U a4 a5=>?_);obtain⟨hw,f6,f3⟩:=abw a5;obtain⟨f7,f8,h5,f4⟩:=ua hw;have d2:=abx a5;have f5:(bC d).length<=56:=by rw[sn];exact d2
  have d3:rQ d:=(hw,(â (ï f5)));refine(_,O,g4,os,d,O,bI.B U,a4,h5,(â f7),(â (ï f4)),λKN H2 q2 t2=>?_);obtain⟨ks,s2,_,d4,d5⟩:=FZ t2;have a6:=T.B s2;refine(bR 0#0,λL hL=>?_);have s3:=aL.B (o:=.lst<|[2,3,5,7].map af.int) hL;have X:=a6.B s3;have nL:L≠p:=by obtain⟨x,y,h,_⟩:=a6;exact dp<|cN h hL
  refine(_,O,p,4,O,X,ξ,ξ,λr4 H4 d6 d7 m a0=>?_);obtain⟨pr,hm,em⟩:=ach (ns:=[2,3,5,7]) d6 d7;have a7:lJ pr:=by
   simp only[cz,sV,rz] at hm;exact hm
  refine(L,_,_,_,O,O,bI.B<|m _ _ nL az,em,?_);have d8:=s2.F s3;have a8:eT p H1 H4:=(eT.J d8).B m;have a9:=s3 _ _ d4;have d9:=s3.M d5;have r:=m _ _ (X.F a9) a9;have b0:=m.F X d9;refine(_,O,_,O,p,KN,ks,d,O,a0,bI.B r,r,b0,hw,λO1 H5 r1 q1 a1 g D b1 e0 e1=>?_);have t:=a1 _ _ (a0.F r) r;have b2:=a1.F a0 b0;refine(_,O,_,O,p,KN,ks,d,O,g,bI.B t,t,b2,hw,λO2 H6 r2 q2 b3 u G b4 e2 e3=>?_);refine(bR 0#0,λOS b5=>?_);have s7:=aL.B (o:=.lst [.ref O1,.ref O2]) b5;have b6:=u.B s7;have b:=az (H:=H6) (a:=OS) (o:=.lst [.ref O1,.ref O2]);generalize aD H6 OS (.lst [.ref O1,.ref O2])=H7 at s7 b6 b;have b:H7 OS=V (.lst<|[O1,O2].map af.ref):=b;refine(_,O,p,16,O,b6,ξ,ξ,λr8 H8 _ _ v b7=>(O,_,O,?_));have j:eT p H1 H8:=((((a8.B a1).B b3).B<|eT.J s7).B v);have b8:eT p H0 H8:=d1.B j;have b9:=Oi a3 b8 S;have e4:OS≠p:=by obtain⟨x,y,h,_⟩:=u;exact dp<|cN h b5
  have c0:=v _ _ e4 b;have c:eT p H5 H8:=(b3.B<|eT.J s7).B v;have I:eT p H6 H8:=(eT.J s7).B v;refine oz (λ_=>?_) (λ_=>C a p g4 KN OS os ks [O1,O2] d [q1,q2] pr H8 (j _ _ (T.F U) U) (j.F T a4) d3 (â f5) (c _ _ (g.F t) t) (c.F g b2) c0 (.cons ((r1,c _ _ (g.F D) D,c.F g b1),e0,e1)<|.cons ((r2,I _ _ (u.F G) G,I.F u b4),e2,e3) .nil) a7 b9 k);refine(_,O,p,O,b7,λg5 ws z H9 e5 f9 _ c1 c2 c3=>?_);obtain⟨c4,g0,e6⟩:=Pm c3;obtain⟨e7,_⟩:=aau c3;have e8:∀q∈z,q.length<=5:=λq hq=>(kP.mp<|c4 q hq).2.1;have e9:=Oi b9 e5 b7;refine(_,O,g5,ws,z,O,bI.B c1,c2,e8,(â g0),by rw[<-sn];exact â (ï e6),λKM g1 g2 f0=>?_);obtain⟨ms,f1,_,M,R⟩:=FZ f0;refine(_,O,bR 0#0,λON f2=>?_);have l:=aL.B (o:=.lst [.ref KM]) f2;have a2:=f1.F l;exact C a p g5 KM ON ws ms [KM] z [bC z] pr _ (a2 _ _ c1) (a2.M c2) e7 e6 (l _ _ M) (l.M R) az (.cons ((ms,l _ _ M,l.M R),ab6 c4,DJ _) .nil) a7 ((aL.sf a2:iT Pt _ _).e e9) k
end
def Lx{K:aY}{h i:aa}{j k:Option W}{b d:Array (Option aa)}{e:cW}(a:CL K ju x=V (V<|.ref f))(l:K.lookup f=V (h,j,.func e,b))(n:e.code=.ref c)(m:K.lookup c=V (i,k,.fields g,d))(o:(g[11]?:Option aa)=V 5#P):sE K x=V (aez c P):=by
 unfold sE;rw[a];simp only[l,n,m,o]
def Xx{K:aY}(F:b_ K x x e f d)(a:CL K ju x=V (V<|.ref f))(t:sE K x=V (aez c P)):d.code=.ref c:=by
 obtain⟨k,l,m,g,n,o,b,p,h,rfl,i,j⟩:=F.b;unfold sE at t;rw[a] at t;simp only[i] at t;cases b with
 |ref q=>
  simp only at t;split at t
  ·split at t
   ·cases t;rfl
   ·cases t
  ·cases t
 |_=>cases t
def ZD{K:aY}{t:W}{b:Option W}{a:Array (Option aa)}{n:Nat}(l:K.lookup t=V (.type "tuple",b,.seq #[.int 2 c,.int 3 d,.int 5 e,.int 7 f] n,a)):∀H,fg K H t [.int 2,.int 3,.int 5,.int 7]:=
 λH=>.inr (_,_,_,l,O,O,by show 4<=bD;rw[jt];decide,.cons (_,O)<|.cons (_,O)<|.cons (_,O)<|.cons (_,O) .nil)
def acj{l:yW}{K:aY}{b:aq->Option aa}{tp tq tr ts:hU}(X:K.In h)(G:h.Ns ju b)(h9:b "law"=V 5#fa)(hT:sE K "youngest_of"=V (aez cO g))(d1:dy K "is_piece" Bi f1)(d2:dy K "parts_of" vN f2)(d3:dy K "rims_of" yj f3)(d4:dy K "order_key" vO f4)(d5:dy K "in_order" yl f5)(d6:dy K "all_parts" yq f6)(d7:dy K "is_web" Br f7)(d8:dy K "must_be_web" Bk f8)(d9:dy K "pieces" yk f9)(i0:dy K "counts" yp b0)(i1:dy K "balance" Hj c0)(i2:dy K "shares" yi c1)(i3:dy K "renamed" Bh c2)(i4:dy K "seam_of" Hc c3)(i5:dy K "seam_terms" yg c4)(i6:dy K "sum_of" Bg c5)(i7:dy K "is_order" Bs c6)(i8:dy K "must_be_order" He c7)(i9:dy K "must_be_prime" Hd c8)(j0:dy K "bars" Hi c9)(j1:dy K "paper" Bj d0)(j2:dy K "times_of" Hb e0)(j3:dy K "worked_off" G' e1)(i:dy K "youngest_of" G_ e2)(j4:dy K "taken_by" Bf e3)(j5:dy K "times_into" Bt e4)(j6:dy K "less_by" Bm e5)(j7:dy K "_law_cell_at" Hg e6)(j8:dy K "_law_box" Hh e7)(j9:dy K "_law_take" yh e8)(k0:dy K "_law_parts" yn e9)(k1:dy K "_law_pieces" Hf f0)(k2:dy K "_law_known" Bq g0)(k3:dy K "_law_named" ym h0)(k4:dy K "_law_web" Ha h1)(k5:dy K "_law_rims" Bo h2)(k6:dy K "_law_order" Bp h3)(k7:dy K "_law_rank" vM h4)(k8:dy K "_law_holes" yo h5)(k9:dy K "_law_seam" Bn h6)(l0:dy K "_law_long" Bl h7)(j:dy K "law" pM h8)(gp:iw K "MOST_POINTS" (V<|.int 5 tp))(gq:iw K "LAST_POINT" (V<|.int 99 tq))(gr:iw K "MOST_HANDED" (V<|.int 20 tr))(gs:iw K "MOST_PIECES" (V<|.int 200 ts))(l1:iw K "PRIMES" (V<|.ref aP))(hP:∀H,fg K H aP [.int 2,.int 3,.int 5,.int 7])(z1:iw K "len" Y)(z2:iw K "all" Y)(z3:iw K "zip" Y)(z4:iw K "sorted" Y)(z5:iw K "set" Y)(z6:iw K "list" Y)(z7:iw K "tuple" Y)(z8:iw K "range" Y)(z9:iw K "enumerate" Y)(l2:iw K "int" Y)(l3:iw K "isinstance" Y)(l4:iw K "reversed" Y)(l5:iw K "bool" Y)(k:iw K "dict" Y)(c:iw K "max" Y)(m:iw K "sum" Y):∃fd:cW,(∀(s:ak)(v:aa),zj s fd ([v],[]) [(aez ("script") v)])/\∀a:aW,K.In a->a.Ns ju b->rP b a->CQ [(aez cO g)] a->ce l.prog w K b a bx 11 fa fd ["script"] (AX K g):=by
 cases h9.symm.trans (j.m X G);have x9:fN b:=(z1.n X G,z2.n X G,z3.n X G,z4.n X G,z5.n X G,z6.n X G,z7.n X G,z8.n X G,z9.n X G,l2.n X G,l3.n X G,l4.n X G,l5.n X G);obtain⟨g1,F1,b1,m1⟩:=d1.B X G "numbers";obtain⟨g2,F2,b2,m2⟩:=d2.B X G "piece";obtain⟨g3,F3,b3,m3⟩:=d3.B X G "piece";obtain⟨g4,F4,b4,m4⟩:=d4.B X G "piece";obtain⟨g5,F5,b5,m5⟩:=d5.B X G "some";obtain⟨g6,F6,b6,m6⟩:=d6.B X G "some";obtain⟨g7,F7,b7,m7⟩:=d7.B X G "web";obtain⟨g8,F8,b8,m8⟩:=d8.B X G "web";obtain⟨g9,F9,b9,m9⟩:=d9.B X G "web";obtain⟨u7,n,l6,l7⟩:=i0.B X G "web";obtain⟨u8,o,l8,l9⟩:=i1.B X G "web";obtain⟨u9,p,m0,n0⟩:=i2.B X G "web";obtain⟨v0,n1,n2,n3⟩:=i3.J X G "names" "new" "old";obtain⟨v1,q,n4,n5⟩:=i4.B X G "chain";obtain⟨v2,r,n6,n7⟩:=i5.F X G "piece" "often";obtain⟨v3,d,t,u⟩:=i6.B X G "terms";obtain⟨v4,x,n8,n9⟩:=i7.B X G "order";obtain⟨v5,y,o0,o1⟩:=i8.B X G "order";obtain⟨v6,z,o2,o3⟩:=i9.B X G "prime";obtain⟨v7,A,o4,o5⟩:=j0.F X G "order" "prime";obtain⟨v8,C,o6,o7⟩:=j1.F X G "order" "prime";obtain⟨v9,D,o8,o9⟩:=j2.B X G "order";obtain⟨w0,E,p0,p1⟩:=j3.M X G "piece" "rows" "times" "prime";obtain⟨w1,e,p2,p3⟩:=i.F X G "chain" "times";obtain⟨w2,I,p4,p5⟩:=j4.F X G "chain" "prime";obtain⟨w3,L,p6,p7⟩:=j5.J X G "weight" "goal" "prime";obtain⟨w4,M,p8,p9⟩:=j6.M X G "chain" "often" "other" "prime";obtain⟨w5,Q,q0,q1⟩:=j7.F X G "script" "k";obtain⟨w6,R,q2,q3⟩:=j8.B X G "cell";obtain⟨w7,f,S,T⟩:=j9.F X G "box" "most";obtain⟨w8,q4,q5,q6⟩:=k0.B X G "piece";obtain⟨w9,U,q7,q8⟩:=k1.B X G "web";obtain⟨x0,q9,r0,r1⟩:=k2.B X G "number";obtain⟨x1,r2,r3,r4⟩:=k3.F X G "box" "web";obtain⟨x2,a0,r5,r6⟩:=k4.B X G "box";obtain⟨x3,a1,r7,r8⟩:=k5.B X G "piece";obtain⟨x4,a2,r9,s0⟩:=k6.F X G "box" "known";obtain⟨x5,a3,s1,s2⟩:=k7.F X G "rows" "prime";obtain⟨x6,a4,s3,s4⟩:=k8.F X G "rows" "prime";obtain⟨x7,a5,s5,s6⟩:=k9.B X G "chain";obtain⟨x8,a6,s7,s8⟩:=l0.B X G "box";obtain⟨⟨gL,FL⟩,_⟩:=j;have s9:=Xx e i.a hT;refine(gL,?_,λa _ _ t0 t1=>?_)
 ·obtain⟨_,_,_,_,_,_,_,_,_,rfl,_,_⟩:=FL.b;exact λs v=>.of_eq O
 have a7:=OV (P:=l.prog) (w:=w) (base:=a) F6 x9 F2 b2 m2 F5 b5 m5 F4 b4 m4;have a8:=χ (P:=l.prog) (w:=w) (base:=a) F7 x9 (gp.m X G) (gq.m X G) (gr.m X G) (gs.m X G) F1 b1 m1 F6 b6 m6 F2 b2 m2 F5 b5 m5 F4 b4 m4;have Gm:=ε F8 F7 b7 m7 a8;have Gp:=ZW F9 F8 b8 m8 Gm F6 b6 m6 a7;have t2:=aab n x9 (c.n X G) F9 b9 m9 Gp;have t3:=aaf o (m.n X G) n l6 l7 t2;have t4:=ZS p x9 F9 b9 m9 Gp n1 n2 n3;have Ci:=gj F1 b1 m1<|OU (P:=l.prog) (w:=w) (base:=a) F1 x9 (gp.m X G)<|gq.m X G;have Cr:=gj F3 b3 m3<|OT (P:=l.prog) (w:=w) (base:=a) F3 x9;have t5:=gj a1 r7 r8<|η (P:=l.prog) (w:=w) (base:=a) a1 x9;have Gs:=ZR (mg:=b) (P:=l.prog) (w:=w) (base:=a) d;have Cs:=gj d t u Gs;have Gt:=ZQ (P:=l.prog) (w:=w) (base:=a) r x9 F3 b3 m3;have Cm:=gj q n4 n5<|ZT q r n6 n7 Gt d t u Gs;have Co:=gj y o0 o1<|γ y<|gj x n8 n9<|ψ x x9 (gs.m X G) Ci Cr;have Cp:=gj z o2 o3<|Z' (P:=l.prog) (w:=w) (base:=a) z (l1.m X G) hP;have t6:=gj D o8 o9<|ZP (P:=l.prog) (w:=w) (base:=a) D x9;have Cy:=gj e p2 p3<|ZL (P:=l.prog) (w:=w) (base:=a) e x9 (c.n X G) s9 t1.1 t0;have a9:=gj I p4 p5<|ZO (Pt:=g) I Cs;have t7:=gj L p6 p7<|Δ (P:=l.prog) (w:=w) (base:=a) L x9;have t8:=gj M p8 p9<|ο M x9 Cs a9;have t9:=gj E p0 p1<|ZM E x9 Cm a9 Cy t7 t8;have u0:=gj C o6 o7<|ZY C x9 Co Cp t6 t9 Cy;have u1:=gj A o4 o5<|aae A u0;have Ct:=gj f S T<|Hp (P:=l.prog) (w:=w) (base:=a) f;have u2:=gj a2 r9 s0<|μ a2 x9 Ct t5;have u3:=gj a5 s5 s6<|ζ (P:=l.prog) (w:=w) (base:=a) a5 x9<|k.n X G;have u4:=gj a3 s1 s2<|ZV (P:=l.prog) (w:=w) (base:=a) a3 x9 (k.n X G)<|c.n X G;have u5:=gj a4 s3 s4<|aaa a4 x9 u4;have u6:=gj a6 s7 s8<|ν a6 x9 Ct;exact π FL x9 (m.n X G) (gj Q q0 q1<|aac Q x9) (gj R q2 q3<|aad R) Ct (gj a0 r5 r6<|ZN a0 x9 f S T r2 r3 r4 q9 r0 r1) (gj U q7 q8<|θ U x9 q4 q5 q6) u2 u6 u1 (gj o l8 l9 t3) (gj p m0 n0 t4) u5 u3
def Yd{l:yW}{c:List aq}{A:(aq->Option aa)->aW->Prop}{t:bf->aW->Prop}{d:DefRec}{K:Jg->aY}{m g:W}(C:l.most=V 63)(o:d.params.defaults=[])(D:∀(w:bf)(h:aW),t w h->(K w.params).In h)(r:∀p,RE (K p)=ae)(E:∀p,sE (K p) "youngest_of"=V (aez m g))(i:((ahs q).find? (λe=>e.name==("youngest_of":aq))).isSome=ae)(F:∀(w:bf)(j:aq->Option aa)(v:W)(h:aW),(K w.params).In h->h.Ns ju j->j d.name=V 5#v->
   ∃y:cW,(∀(s:ak)(u:aa),zj s y ([u],[]) [(aez ("script") u)])/\∀b:aW,(K w.params).In b->b.Ns ju j->rP j b->CQ [(aez m g)] b->ce l.prog w (K w.params) j b bx 11 v y ["script"] (AX (K w.params) g)):
  RK q c A t l.row.toRowW d [] (λf G=>im f G):=
 U' (n:=63) (k:=11) (x:="script") (CX:=bx) (sp:=λw=>AX (K w.params) g) (tabs:=[(aez m g)]) (xs:=["youngest_of"]) C ξ o (O,ξ,ξ) D r (λp=>by show [sE (K p) "youngest_of"]=[V (aez m g)];rw[E p]) (λR I=>by rw[cT.mp I];exact i) F
  (λw H a L M P Q=>(a,L,O,P,M,Q _<|cT.mpr O,λ_=>O)) λ_ _ _ _ z=>z
end
structure PySem.W.Fast:Prop where
 (tw10065352543367967578 tw10077149665119301321 tw10150611305102849689 tw10164514136289697501 tw1024759255684082874 tw10285623963627069914 tw10332823967911208 tw10351740825397528374 tw10379609245223305146 tw10578074203842347785 tw10597199951285864695 tw1081416366772367334 tw10834395078468661346 tw10890573923057976133 tw10927440103958584905 tw10938673950262841044 tw11067917494786868670 tw11069394480585225140 tw11090015523291231176 tw11113977655422064257 tw11122777151640409815 tw11310166806080008018 tw1132984629875713235 tw1142676125084142669 tw11488568437631541340 tw11498574722142039484 tw11573363089587129601 tw11621953863546867748 tw11637573183811194558 tw11654186182292649374 tw11671402631841811923 tw11727401469148220979 tw11771254676136589504 tw11902047942735160495 tw11923920160944673204 tw11989477123295221453 tw12001105330322147407 tw12093238804614399640 tw12162597591491035077 tw12173405024589166275 tw12217998973555218615 tw12222955048046658651 tw12307777107254665363 tw12357698556306517379 tw12382007194027229188 tw12389867963395502462 tw12410766203445449229 tw12559287812093845949 tw12621910893242935136 tw12631459947439290442 tw12634001249151294933 tw12669780603107151612 tw12708810172826675625 tw1284229019146598020 tw12868711270926643303 tw12997279185696464188 tw13071078951261484803 tw13076760738316946197 tw13099103696083476055 tw13234889327920138504 tw13241788024871507775 tw1331333922501560763 tw13330455285001630108 tw13469740126957300368 tw13505269926686526781 tw13601656569355206358 tw1385502523212288283 tw13903781183273323405 tw13914030640580456650 tw13918024459311725420 tw13928423459655428565 tw13969697976108634269 tw1399332022837334750 tw13993890425058341932 tw14001901946635208390 tw14025179762584490521 tw14075696880984621978 tw14314561663798828643 tw14334481487882206195 tw14349756818656218266 tw14380699617985677598 tw14404665268664627648 tw14495162112821597553 tw14601576624873901916 tw1463615423422829965 tw14636732124327516156 tw14655071554024265008 tw14676451627390634822 tw1473480222971903973 tw14990991605660790301 tw15031897760865483253 tw15045850825420405648 tw15061731795389844068 tw15068222026784174995 tw15448061981103545140 tw15531856982559664016 tw15602840560882474015 tw1560870933573858 tw1568408015735920162 tw1579116924013845763 tw15797650269866758159 tw15852186529375253679 tw15947158413105646966 tw16100166138511354416 tw16160335478908045077 tw16269423076177859288 tw16449078421142714184 tw16498012793304589364 tw16502994968368308973 tw16509455989069657914 tw16525952062924991241 tw16566519665764402350 tw16566692045443036119 tw1661767385477135467 tw16645469140258015427 tw16739015720090538115 tw16832666589653439093 tw16883083777438036477 tw16887531203705075864 tw16904985548082112150 tw16938910996140051703 tw16984363660854361886 tw17038764046711801585 tw17121291646420634541 tw17167642178372824404 tw17227860042656019428 tw17258701095800129310 tw17259866903752579653 tw17272696361668998199 tw17421117497005413143 tw17531598345636630098 tw17540236060734770512 tw17582851092512222176 tw17607792162627190567 tw17620262622921490060 tw1764502354127927837 tw1766852893980251378 tw17869788126757157252 tw17922359689872871564 tw1793466653137432041 tw18042535845885159267 tw18187683922650001589 tw18272112254031658456 tw18336398407523036636 tw18341585194153599354 tw18351318500662923758 tw18357063744405655155 tw18409661723187453478 tw18413113933240087422 tw18445544753703345000 tw1892917612290058249 tw1944039557939193428 tw194984414424437303 tw2051038210168656410 tw2088357642229306114 tw2169411265919933847 tw2196238174905932514 tw2218332507020668550 tw2402980315365461094 tw2603651037739190228 tw2613546213362108505 tw2671964745251603873 tw2680479820367387875 tw2707894664071347356 tw2711030457524036907 tw2742403704630515849 tw2750505545353260384 tw2795591999273283392 tw2807439579691556505 tw2835006581052576766 tw2862494607225776327 tw2882100462329442454 tw2897474711057219983 tw3009297672759488014 tw309511817301220181 tw3166685797616360405 tw3220947536615178405 tw3229511967720071999 tw3257657642638484967 tw3288442321752988878 tw3291907648950701833 tw3313676433752841030 tw3382189919272479910 tw3492133598442846539 tw3559234760124680181 tw3561750998459049927 tw369802386663887363 tw3751953598747375328 tw381647919178127699 tw390565257932715936 tw4029817426131560659 tw407402170688849467 tw4075610805019780089 tw4075844557947010848 tw4077020876648974190 tw413386383553504739 tw4228184595869596714 tw427396058753252511 tw4290830214560636069 tw4298995370777948416 tw4414568745110014799 tw4426307994691523618 tw4508521868514890836 tw4517327057290253712 tw4542590782577741574 tw4615991230720361123 tw4636206593014144323 tw4683519720232876354 tw472629386772377596 tw4765825075378925323 tw4785608003541735423 tw5115492077740421696 tw5135931766051451660 tw5183919582897937774 tw5230599181979317739 tw5268631721439234709 tw5318566428393732077 tw5363207127390285654 tw5473663331847860686 tw5585631508256672363 tw5641615819056329823 tw568362530653820661 tw5754658436432438440 tw5854802802103496928 tw6026143364330719641 tw6071220846621870352 tw6151221895251746947 tw6275082218180860308 tw6335199791754629181 tw6342115524380621121 tw6373310751021877816 tw6387546820033714011 tw6405190051799327703 tw646501643656265445 tw65805893396327044 tw658426313653187149 tw6641152513523434439 tw6668634707901605536 tw6735944473052799344 tw6774051780309887061 tw6887615715868724760 tw6924254212838093794 tw6986349706496662888 tw7055055140532660545 tw7152182959937400644 tw7186715962732836062 tw7232556173468208013 tw7256736331490734465 tw7403404242197670531 tw7440749196918285071 tw7515066708351854101 tw7605948896327643806 tw7651912039108298654 tw7702151465055173463 tw7721787020444768559 tw7842779624041787514 tw7921726584016130154 tw7947406265758152647 tw813479363739082180 tw8167463115468997696 tw8224428852747377219 tw8235491516764371294 tw8290715657492924501 tw8309129539620378636 tw8339775905041054568 tw8339909279672168775 tw8341204033322345283 tw8387697364079220932 tw8436848520766009181 tw8549813304300936144 tw8586230012941895759 tw8783066576924777009 tw8813426139004557287 tw8831508991898850900 tw8912668058568644748 tw894321744616660781 tw8953578438959738914 tw8995290830908266210 tw9050496674777532235 tw9196829999710845290 tw924584546004399058 tw9247810841253747815 tw9369543565007481035 tw9393658526611499532 tw9491075675791139561 tw9603131162602998660 tw9688332255197736684 tw9791358619452066634 tw9844663753762596176 tw9923108180111273974 tw9947258631511747691 tw9958763448264907506 tw9990121733325098661:True)
set_option maxRecDepth 100000 in
set_option maxHeartbeats 0 in
theorem PySem.Challenge.cw_seamwright_k68_whole_lasting_bars_are_ho_holds : PySem.Challenge.rw_seamwright_k68_whole_lasting_bars_are_ho.Holds := by
 w_on; o_law; k_head; (case hw=>w_witness2)
 k_fill
 refine' Yd (l:=PySem.Challenge.rw_seamwright_k68_whole_lasting_bars_are_ho) O O (fun w h Y=>PySem.W.km_in_of Y) (fun _=>by kernel_rfl) ?T ?R ?F
 case T=>
  intro p;refine' Lx ?a ?l ?c ?m ?v
  (case a=>k_is)
  (case l=>k_is)
  (case c=>rfl)
  (case m=>k_is)
  (case v=>rfl)
 case R=>decide +kernel
 case F=>
  intro w mg fa h KX G hmg;refine' acj KX G hmg ?_ ?_ ?_ ?_ ?_ ?_ ?_ ?_ ?_ ?_ ?_ ?_ ?_ ?_ ?_ ?_ ?_ ?_ ?_ ?_ ?_ ?_ ?_ ?_ ?_ ?_ ?_ ?_ ?_ ?_ ?_ ?_ ?_ ?_ ?_ ?_ ?_ ?_ ?_ ?_ ?_ ?_ ?_ ?_ ?_ ?_ ?_ ?_ ?_ ?_ ?_ ?_ ?_ ?_ ?_ ?_ ?_ ?_ ?_ ?_ ?_ ?_ ?_ ?_ ?_
  all_goals try first | (refine' Lx ?a ?l ?c ?m ?v; (case a=>k_is); (case l=>k_is); (case c=>rfl); (case m=>k_is); (case v=>rfl)) | refine' Xo ?_ ?_ ?_ ?_ | refine' iw.mk ?_ | refine' ZD ?_
  all_goals try first | k_is | kit_is | k_exc
#print axioms PySem.Challenge.cw_seamwright_k68_whole_lasting_bars_are_ho_holds
