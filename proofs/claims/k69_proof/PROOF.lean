import PyProof.Rows.All
import Wide.All
import OpenK.AllK
import Wide.FinOn
import Lean
import PyProof.EqAt
import PyProof.EqKinds
import PyProof.TupleCall
import PyProof.Rows.SortRuns
import KE.KSortKey
import KE.KListMore
import KE.KIntText
import KE.KEqDat
import PyProof.Rows.CallKwBuiltin
import PySem.SetTable
import PyProof.Rows.SetFrom
import PyProof.TupleKey
import PyProof.IsRules
import KE.KRevIter
import PyProof.ListRange
import PyProof.TupleOfGen
import PyProof.CollectIter
import PySem.Challenge.RW_seamwright_k69_growing_refused_everywher
import KE.KDictLaws
import PyProof.DictWalks
import PyProof.FactsAll.set_2
import PyProof.FactsAll.subtypes_5
import KE.KDictList
import KE.KDictSum
import PyProof.StationsW
import PyProof.ExcClass3
import OpenK.KOwn
import PyProof.ExcArgsOwn
import PyProof.MinMaxWalk
import PyProof.SumAny
import KE.KLam
import PyProof.SetNew
import PyProof.DictCopy
import PyProof.FactsAll.dict_1
import PyProof.DictFindH
import PyProof.NeKinds
import PyProof.AttrMissHeap
import KE.KMinKey
import PyProof.DictTruth
import PyProof.DictItems
set_option linter.all false
set_option compiler.extract_closed false
set_option bootstrap.genMatcherCode false
set_option autoImplicit true
set_option Elab.async false
set_option maxRecDepth 100000
set_option maxHeartbeats 4000000
open Array renaming size->eV,toList->iD,length_toList->i_,push->jp,size_map->jD,getElem?_toList->km,map->kO,setIfInBounds->pK,getElem?_eq_some_iff->qB,getElem?_map->sg,getElem?_eq_getElem->yV,size_push->DD,size_extract->DE,toList_push->Jy,getD_eq_getD_getElem?->Jz,toList_map->RJ,perm_iff_toList_perm->RK,getElem?_eq_none->RM,forIn_toList->RN,ext_getElem?->RO,toList_inj->ah8,toList_filterMap->ah9,toArray_toList->aia,size_zip->aib,replicate->aic,getElem_toList->aid,getElem_mem->aie,getElem?_eq_none_iff->aif,getElem?_append_left->aig,getD->aih,append_assoc->aii
open Array.Perm renaming refl->aij
open Bool renaming true->ae,false->ao,false_eq_true->dc,false_ne_true->eP,and_eq_true->iN,not_true->oz,and_false->pJ,eq_iff_iff->qA,false_and->sf,not_false->Jv,not_eq_true'->Jw,and_self->Jx,or_eq_true->RI,or_false->ah5,not_eq_true->ah6,and_true->ah7
open Classical renaming byContradiction->oy
open Decidable renaming decide->aG
open Eq renaming trans->bS,symm->dn
open False renaming elim->dm
open ForIn renaming forIn->uA
open ForInStep renaming yield->se,done->DC
open Function renaming comp->DB
open Iff renaming mpr->ou
open Int renaming toNat->gc,le_refl->md,dvd_zero->mL,dvd_trans->nD,dvd_add->pI,dvd_sub->qz,emod_nonneg->uw,emod_lt_of_pos->ux,dvd_mul_left->uz,toNat_natCast->wn,eq_ofNat_of_zero_le->wo,dvd_of_emod_eq_zero->Dz,dvd_mul_right->DA,one_mul->Jr,mul_zero->Js,mul_emod->Jt,le_of_lt->Ju,neg_mul->RF,mul_sub->RG,le_trans->RH,zero_mul->ahr,zero_emod->ahs,zero_add->aht,sub_self->ahu,sub_add_cancel->ahv,mul_one->ahx,mul_comm->ahy,mul_assoc->ahz,mul_add->ah0,lt_of_lt_of_le->ah1,le_of_dvd->ah2,emod_eq_zero_of_dvd->ah3,dvd_neg->ah4
open LawfulBEq renaming eq_of_beq->yU
open List renaming map->ax,length_map->aA,length->aF,mem_map->bq,Nodup->bP,map_map->bY,mem_cons->ci,getElem?_map->cm,map_append->cv,getElem?_eq_getElem->cw,size_toArray->cz,getElem?_eq_some_iff->cE,toArray->cX,map_cons->df,range->dk,mem_of_getElem?->dy,length_append->dz,mem_cons_self->dC,length_cons->dP,mem_cons_of_mem->d_,take->eE,length_take->eF,mem_singleton->fu,sum->fC,take_of_length_le->gb,mem_append->gB,map_congr_left->gC,mem_range->h_,nodup_cons->iB,filter->iC,flatMap->iZ,headD->jo,replicate->jA,drop->jB,all->jC,pairwise_map->jN,mem_iff_getElem?->jO,mem_flatMap->ki,filter_append->kj,lookup_cons->kM,all_eq_true->kN,nodup_nil->lD,getElem_mem->lE,find?_cons->lF,append_nil->lG,Perm->lH,length_range->lZ,getD_eq_getElem?_getD->l_,any->l',zip->mH,nodup_append->mI,lookup->mJ,length_drop->mK,mem_filter->nA,length_nil->nB,getElem?_eq_none->nC,sum_cons->om,not_mem_nil->on,mem_append_right->oq,flatMap_cons->ot,foldl_cons->pH,length_filter_le->qw,filter_nil->qy,take_add_one->r_,flatten->sa,pairwise_iff_getElem->ul,mem_iff_getElem->um,mem_append_left->uo,map_inj_right->uq,length_zip->ur,append_assoc->ut,any_eq_true->uu,take_zero->vY,of_mem_zip->vZ,nodup_iff_pairwise_ne->v_,mem_of_mem_take->wa,map_id'->wb,getElem?_zip_eq_some->wc,getElem?_inj->wd,getD->we,filter_cons_of_neg->wf,contains->wg,any_cons->wh,all_cons->wj,tail->yJ,map_nil->yK,map_fst_zip->yL,getElem?_take_of_lt->yM,getElem?_range->yN,getElem?_append_right->yO,getElem?_append_left->yP,find?->yQ,filter_cons_of_pos->yR,filter_cons->yS,filterMap->yT,replicate_succ->Dm,pairwise_cons->Do,nodup_range->Dp,map_take->Dq,length_singleton->Dr,forIn_cons->Ds,foldl->Dt,flatMap_append->Du,ext_getElem?->Dv,eq_nil_of_length_eq_zero->Dw,zip_cons_cons->IY,zipIdx_map_fst->IZ,take_append_drop->I_,perm_ext_iff_of_nodup->Ja,map_snd_zip->Jb,map_drop->Jc,isEmpty->Jd,getLastD->Je,getElem?_toArray->Jf,getElem?_set_self->Jg,forIn_nil->Jh,foldl_append->Ji,flatten_cons->Jj,filterMap_cons->Jk,eraseIdx->Jl,drop_eq_getElem_cons->Jm,any_eq_false->Jn,Pairwise->Jq,mem_map_of_mem->Ru,mem_filterMap->Rv,length_zipIdx->Rw,getElem?_set_ne->Rx,getElem?_of_mem->Ry,getElem?_cons_succ->Rz,find?_eq_none->RA,all_map->RB,zip_map_right->agu,zipIdx_nil->agv,zipIdx_cons->agw,take_length->agx,take_left'->agy,sum_append->agz,sublist_nil->ag0,reverse_cons->ag1,range'->ag2,perm_middle->ag3,nil_sublist->ag4,nil_append->ag5,mem_zipIdx_iff_getElem?->ag6,mem_take_iff_getElem->ag7,map_eq_nil_iff->ag8,length_pos_iff->ag9,length_eq_zero_iff->aha,getLastD_eq_getLast?->ahb,getElem_inj->ahc,getElem?_zipIdx->ahd,forIn_toArray->ahe,filter_sublist->ahg,filter_eq_nil_iff->ahh,drop_zero->ahi,dropLast_concat_getLast->ahj,countP_cons->ahk,cons_ne_nil->ahl,any_map->ahn
open List.Mem renaming head->sd,tail->uv
open List.Nodup renaming length_le_of_subset->Dy
open List.Pairwise renaming nil->RC,imp_of_mem->RD,imp->RE,map->aki,filterMap->akj
open List.Perm renaming refl->wl,mem_iff->wm,trans->Dx,length_eq->Jp,eq_of_pairwise->ahp
open List.Sublist renaming refl->Jo,map->aho,slnil->akg,nodup->akh
open List.cons renaming injEq->ahm
open List.range renaming loop->Dn
open Min renaming min->fV
open MonadExcept renaming tryCatch->yI
open Nat renaming le_refl->bc,ne_of_lt->ck,le_trans->dE,zero_le->dZ,lt_of_lt_of_le->fB,ne_of_gt->iM,lt_succ_of_lt->jM,le_succ->lY,lt_or_ge->oh,lt_irrefl->oj,lt_succ_iff->qu,le_of_lt->qv,zero_add->rY,lt_trans->rZ,not_lt_zero->yE,lt_succ_self->yF,le_of_eq->yG,le_add_right->yH,mod_lt->Di,lt_trichotomy->Dj,succ_pos->IV,sub_zero->IW,le_succ_of_le->IX,pow_le_pow_right->Rn,mul_comm->Ro,min_le_right->Rp,min_eq_left->Rq,lt_or_eq_of_le->Rr,le_of_succ_le->Rs,add_sub_cancel->Rt,succ_le_succ->agj,sub_self->agk,pow_succ->agl,mul_succ->agn,lt_or_gt_of_ne->ago,lt_of_not_le->agp,lt_of_le_of_lt->agq,eq_zero_or_pos->agr,eq_or_lt_of_le->ags,add_zero->agt
open Ne renaming symm->dB
open Option renaming some->U,none->Z,getD->dj,map->fA,isSome->kh,map_some->nz,map_eq_some_iff->pG,isSome_iff_exists->uk,isNone->yC,getD_some->yD,bind_some->Dh,isSome_map->Rm,isNone_some->agg,isNone_none->agh,getD_none->agi
open Option.some renaming inj->ca,injEq->pF
open Or renaming inl->ak,inr->aq,elim->vX,resolve_left->Rl
open PUnit renaming unit->agf
open Prod renaming fst->yB,mk->adc
open Prod.mk renaming inj->agd
open Pure renaming pure->bH
open PyProof.Rows renaming arrOf->aS,seqObj->bE,Keyed->cK,SortSt->dL,wpS_bind->fI,IntsAre->fU,mirror->iA,envOfC->iY,wpS_pure->jn,IsTup->jL,pendingOf->kg,wpS->lC,bubble->n',SortKind->of,AllBare->qt,get?_update_seq->rW,firstMet->rX,sortRuns'->ug,size_push'->uh,listUpdate_at->ui,slot_tuple_getitem->vV,failedOf->vW,wpS_get->yx,wpS_forRange->yy,setArr->yz,seqEpoch_at->Db,reverseSlice'->Dc,mirror_perm->Dd,ltAt'->De,listItems_at->Df,keyLt'->Dg,wpS_mono->ID,wpS_modify->IE,tuples'->IF,slot_list_sort->IG,setPending->IH,plain_sorted->II,ne_dataH_same->IJ,kws_nil->IK,kws_cons->IL,ksk_rest->IM,kind_sorted->IN,general'->IP,entry_sorted->IQ,entry_list_sort->IR,callWith_type1->IS,callWith_kw->IT,wpS_lift->Rd,subscriptTail->Re,recsOf->Rf,lt_int->Rg,keyKind'->Rh,collect_list->Ri,Subscript_->Rj,wpAny_call_entry_kw->afz,subscriptTail_builtinR->af1,step_dedup->af2,getElem?_mirror_all->af5,getElem?_bubble->af6,firstMet_succ->af7,entry_tuple_getitem->af8,call_function_entry_kw->af9,args_tuple_getitem->aga,callWith_builtin1->akf
open PyProof.Rows.F renaming plain_set_update_loop->yA,entry_set_update_loop->IU
open PyProof.Rows.IntsAre renaming int_at->agc
open PyProof.Rows.IsTup renaming new->Rk
open PyProof.Rows.SortSt renaming mk'->uj
open PySem renaming Addr->V,Value->aa,wpAny_bind->ag,Shared->ai,Str->al,wpAny->am,wpAny_pure->aC,model->aE,Heap->aI,World->aO,Obj->aR,Program->aU,Expr->bf,Around->bg,sizeLine->bG,Pos->bR,Stmt->bV,FuncData->cr,tupleKeyHash->cD,cLine->cH,Paired->dA,Env->dD,eval->dO,intKind->dR,IsTupleKey->dT,rawInt->dY,starEach->eM,Scope->eO,wpAny_holding->fz,Tok->ga,wpAny_field->gm,compareOp->gu,call->gv,SetTable->gz,wpAny_mono->ic,bootBuiltins->ig,cellsFrom->ir,codeAny->iK,pyNext->jh,mainGlobals->ji,codeAny_builtin->jj,sizeLine_eq->jx,Sem->jy,IsPair->jz,codeAny_mono->ka,KeyKind->kc,tupleKind->kG,sysModules->kH,plainId_quiet->lp,NameKind->lz,wpAny_setState_of->lR,wpAny_seqItems->lS,wpAny_call_entry->lT,backTo->lU,IsZip->lW,DictEntry->lX,wpAny_newObj_type->mE,wpAny_setField_rec->nT,wpAny_rule->nU,mem_of_lookup->nV,call_meets->nW,wpAny_letGo->po,wpAny_dictEntries->pq,wpAny_callSpecial?_slot->pt,wpAny_call->pu,wpAny_attempt->pv,binaryOp->pz,wpAny_setField->qg,wpAny_of_eq->qh,pyIter->qi,holding->qj,hashByValue->qk,getItem->ql,field->qm,IsPart->qp,Arguments->qr,wpAny_typeOf->rH,setField->rI,bindL->rJ,bindC->rK,atKey->rL,wpAny_updateSeq->tJ,wpAny_newList->tK,wpAny_isInstance->tL,wpAny_forIn_list->tM,wpAny_dictEpoch->tN,wpAny_Call_Name_kw->tO,foldedSetIterable->tP,builtinsNs->tQ,behindInMarks->tR,Result->tW,Model->tY,Fin->t_,CmpOp->ue,wpAny_tryCatch->vD,wpAny_truthy_bool->vE,wpAny_passesOwn->vF,wants->vG,valueAt->vH,sliceBounds->vI,callerA->vJ,assign->vK,PyData->vP,Keyword->vQ,GenState->vR,Draws->vT,BindsTo->vU,wpAny_specialOf->xX,wpAny_pyIter_list->xY,updateSeq->xZ,tupleKind_room_in1->x_,swapsWith->ya,setRelay->yb,newExc->yd,codeAny_of_tree->ye,bindArgs->yf,assignEach->yg,wpAny_onRaise->BW,wpAny_newTuple->BX,wpAny_execs_nil->BY,storedH->BZ,setFlight->B_,setFind->B',setEntries->Cd,setAddHashed->Ce,setAdd->Cf,seqItems?->Cg,relayAll->Ch,recursionLimit->Cj,pushCells->Cq,excClassObj->Cu,compEnvC->Cv,codeAny_call_builtin->Cx,closureFor->Cz,checkBuiltinCall->CA,ItemsOf->CO,ItemsAre->CP,wpAny_typeNameOfWhole_keyiter->Hl,wpAny_typeNameOfWhole_itemiter->Hm,wpAny_storeSet_of->Hn,wpAny_ite_split->Ho,wpAny_isSame_ref_self->Hp,wpAny_fieldsOf->Hq,wpAny_eqBool_tuple->Hr,weight_type_call_type->Hs,typeLookup->Ht,typeIs_str->Hu,subscripted->Hv,storeAll->Hw,setSearchFrom->Hx,scanBound->Hy,noteFrame->Hz,newList->HG,leaving->HH,isTrue->HI,intText?->HJ,getAttr?->HK,checkCount->HL,call_meetsIn->HM,callAny->HN,attributeBase->HO,Params->Ih,wpAny_updateSeq_pair->PB,wpAny_throw->PC,wpAny_standAt->PD,wpAny_runValue->PE,wpAny_pyIter_zip->PF,wpAny_pyIter_tuple->PG,wpAny_notOrdered_dict->PH,wpAny_isOneOf_itemiter->PJ,wpAny_handled->PK,wpAny_dictSet_heap->PL,wpAny_askSetting->PM,wpAny_Name->PN,typeIs_int->PP,strValues->PQ,storeSet->PR,setSearch->PS,setEpoch->PT,setAddHashedIn->PU,seq_tuple_add->PV,seqIndex_of->PW,seqIndex_neg->PX,richCompare->PZ,raiseNew->P_,pushCells_keeps->P',ofAClassStatement->Qb,noKeywords->Qc,noFill_tuple_add->Qd,newTuple->Qe,letOwnedTupleGo->Qf,keywordEach->Qg,isSubtype_type->Qh,isSubtype_stop->Qi,intKind_is->Qj,firstIter->Qk,firstAsync->Ql,firstArgMember->Qm,entryFor->Qn,defaultsOf->Qo,concat_meets->Qp,comprehension->Qq,compPost->Qr,check_set_init_1->Qs,carriedByValue->Qt,backToKw->Qu,wpAny_sequenceKey->acz,wpAny_pyIter_slot->ac0,wpAny_pyIter_keyiter->ac1,wpAny_pyIter_enum->ac2,wpAny_newFunctionEnv_cells->ac3,wpAny_loadPart_at->ac4,wpAny_isTrue_Compare1->ac5,wpAny_isSubtype_exc->ac6,wpAny_isOneOf_keyiter->ac7,wpAny_execs_cons->ac8,wpAny_eqIsQuiet_tuple->ac9,wpAny_assign_Name->ada,wpAny_Dict_empty->adb,unbindBehindTheSuite->adf,typeLookup_type->adg,slot_list_getitem->adh,searchCouldBeSeen->adi,getattributeRaised->adm,fits_of_scanBound->adn,entryFor_of_tree->adp,codeAny_call_function->adq,builtinLookup_eq_fast->adu,Within->adv
open PySem.Around renaming under_plainId->kK,under_plain->IC,frames_deeper->Rc
open PySem.AutoSeq1 renaming wpAny_loadPart'->afy,list_insert_list_int_val_1->ake
open PySem.Builtin.Builtins renaming bindParams->afx
open PySem.Builtin.Dict renaming showsAll->IB,updateCommon->afu,pairItems->afv,entriesForEmpty->afw,updateFrom->aj7,selfAndRest->aj8,quietEq->aj9,pendingCount->aka,noArgs->akb,dictSlotNone->akc,addKeywords->akd
open PySem.Builtin.Dict_items renaming ownsTuple->Da,pairFromOwner->afr,ownedTupleIsFree->afs,ownedTupleFields->aft,newIterator->aj5,dictOf->aj6
open PySem.Builtin.Frozenset renaming sizeOf->uf,updateFrom->C_,quietEq->IA,walkUnseen->Q_,subsetOf->Ra,isAnySet->Rb,addrOf->afq,walk->aj2,unchanged->aj3,newClass->aj4
open PySem.Builtin.List renaming listExtendWith->CZ,listTooLong->Iz,listFitsIndex->QZ,listSameRef->afn,listLengthHint->afo,listItems->afp,listUpdate->aj1
open PySem.Builtin.Range renaming rangeSize->afm
open PySem.Builtin.Slice renaming slicePlaces->Iy,sliceAdjust->QY,sliceApplied->afl,slicePartIndex->ajz,sliceFields->aj0
open PySem.Builtin.SmallTypes renaming nextOf->rV,ownedTupleIsFree->Ix,ownedTupleHandOut->afk
open PySem.Builtin.Str renaming occurrences->QX
open PySem.Builtin.Tuple renaming tupleItemsOf->afj,tupleIsExact->ajv,tupleHashOf->ajw,tupleExact->ajx,tupleCompareSizes->ajy
open PySem.Calls renaming spliced_cons->QT,evalArgs_plain->QU,call_function_entry->QV,callWith_builtin->QW,spliced_nil->afh,Name_function_global->afi
open PySem.CmpOp renaming NotEq->pE,NotIn->ud,In->yw
open PySem.Code renaming call->pD,builtin->rU,quiet_builtin->Iw
open PySem.Data renaming seq->cL,fields->dp,set->dJ,dict->jm,func->qq,cell->uc
open PySem.DictEntry renaming key->ny,refKey->QS
open PySem.EntryCells renaming newEntry->afg
open PySem.Env renaming kindOf->CW,frame->CY
open PySem.EqMixed renaming ne_str_int->ajn,ne_str_bool->ajo,ne_int_str->ajp,ne_bool_str->ajq,eq_str_int->ajr,eq_str_bool->ajs,eq_int_str->ajt,eq_bool_str->aju
open PySem.EqNone renaming ne_str_none->ai9,ne_none_str->aja,ne_none_none->ajb,ne_none_int->ajc,ne_none_bool->ajd,ne_int_none->aje,ne_bool_none->ajf,eq_str_none->ajg,eq_none_str->ajh,eq_none_none->aji,eq_none_int->ajj,eq_none_bool->ajk,eq_int_none->ajl,eq_bool_none->ajm
open PySem.Expr renaming Name->eD,Call->kJ,Subscript->mG,ListComp->nx,Constant->rS,Tuple->ua,List->ub,BoolOp->yv,Compare->CV,Attribute->QR
open PySem.F renaming called_set->iz,plainAttrs_list->rR,plain_max_loop->vS,slot_list_append->CR,slot_dict_keyiterator_next->CS,slot_dict_itemiterator_next->CT,plain_extend_loop->CU,type_list_append->Ip,slot_zip_next->Iq,slot_tuple_iterator_next->Ir,slot_str_split->It,excBase_ValueError->Iu,entry_type_call->Iv,typeCall_set_1->QG,slot_tuple_eq->QH,slot_tuple_add->QI,slot_list_getattribute->QJ,slot_dict_get->QK,entry_tuple_add->QL,entry_str_split->QM,entry_set_init->QN,entry_max_loop->QO,args_tuple_add_2->QP,args_str_split_2->QQ,sub_list_set->aep,sub_list_frozenset->aeq,slot_set_ne->aer,slot_list_remove->aes,slot_list_insert->aet,slot_list_index->aeu,slot_list_extend->aev,slot_list_count->aew,slot_int_rmul->aex,slot_dict_len->aey,slot_dict_iter->aez,slot_dict_items_iter->ae0,slot_dict_items->ae1,plain_set_new->ae2,plain_list_iadd->ae3,plainAttrs_dict->ae4,entry_zip_next->ae5,entry_tuple_iterator_next->ae6,entry_extend_loop->ae7,entry_dict_keyiterator_next->ae8,entry_dict_itemiterator_next->ae9,entry_dict_get->afa,args_zip_next_1->afb,args_tuple_iterator_next_1->afc,args_dict_keyiterator_next_1->afd,args_dict_itemiterator_next_1->afe,args_dict_get_3->aff
open PySem.Flow renaming ret->gO
open PySem.Heap renaming get?_push_of_some->bJ,lt_size->bT,push->c_,get?_push_size->dv,get?->dw,objs->fj,SameBut->gA,update->kf,size_update->lA,get?_update_other->lB,size_push->mF,get?_update_self->pC,get?_push_ne->tZ,get?_update_ne->yu,get?_push_at->Im,ExtBut->Io,get?_none_of_le->aen,IsTuple->aeo
open PySem.Heap.DictOf renaming new->ai8
open PySem.Heap.IsSliceOf renaming new->ai7
open PySem.Heap.IsTuple renaming push->ai6
open PySem.Heap.SameBut renaming update->jl,refl->CQ
open PySem.IsTupleKey renaming inj->aem
open PySem.KeyKind renaming hash->iX
open PySem.MeetsSeq renaming plain_remove_loop->Il,entry_remove_loop->ael
open PySem.Moved renaming trans->aek
open PySem.NameKind renaming free->bQ,cell->cx
open PySem.Obj renaming mapSeq->b_,mapFields->rP,data_mapFields->rQ,isFreed_of_fields->CN,putSet->Ii,cls_mapFields->QF
open PySem.Paired renaming nil->bu,cons->bL,length->hZ,snoc->tX
open PySem.PassesOwn renaming never->iL
open PySem.PyData renaming int->iw,tuple->kb,list->lV,depth->CM,canLay0->Ig,depthAll->aei,canLayAll0->aej
open PySem.ScopeKind renaming function->jk
open PySem.SeqAt renaming shaped->tV,EqAt->yt,noMix_of_shape->QE,notIn_listAt->aee
open PySem.SeqAt.EqAt renaming int_int->If,str_int->aef,int_str->aeg,bool_bool->aeh
open PySem.SetTable renaming insertAt->eY,fresh->eZ,runEnd->fT,below->gN,bits->kI,turns->lw,sizeAbove->n_,grown->pB,leap->rO,Probe->CL,fill->Ia,tooFull->aea,relaid->aeb,probe->aec,gaveWay->aed
open PySem.SetTable.Met renaming empty->yr,candidate->Ie
open PySem.SetTable.Probe renaming dummy->CK
open PySem.SetTable.Slot renaming live->tU,empty->yq,dummy->Ib
open PySem.SetTable.below renaming go->yp
open PySem.SetTable.layClean renaming free->CJ
open PySem.SetTable.probe renaming go->tT
open PySem.Shared renaming TypeIs->rN,heap->QD
open PySem.Spec renaming same->rM,sameAll->CI
open PySem.Spec.Shape renaming has->yo,tuples->HZ,list->H_
open PySem.Stmt renaming Assign->nZ,FunctionDef->QC
open PySem.Str renaming ofString->iu
open PySem.Txt renaming split->CH
open PySem.Value renaming ref->Y,type->ay,int->aJ,none->bj,builtin->cR,bool->dS,str->pA,ellipsis->yn,isInt_shape->HX,isInt->HY,isStrOf->ad9
open PySem.W renaming Frag->aH,excIn->jK,kitOne->lq,tabIn->nX,findIn->nY,fnOf->qo,mroIn->tS,mg_of->vM,keepIn->vN,clsIn->vO,kla_fn->yh,cellsFrom_some->yi,OpenLaw->yj,KatLex->yl,InstAt->ym,tabObj->CB,nsIn->CC,envX->CD,codeIn->CE,CodeHd->CF,CodeAll->CG,takesIn->HP,specialIn->HQ,kla_obj->HR,kat_yes->HS,kat_no->HU,kat_cons->HV,noTabs->Qv,methodObj->Qw,lookIn->Qx,ke_sameAll->Qy,instObj->Qz,WalkO->QA,KdlSrc->QB,tail_of_in->adw,plainGet->adx,notCls->ady,looks_findIn->adz,ke_depthAll->ad0,ke_carried->ad1,ke_canLayAll0->ad2,kdl_call->ad3,findObj->ad4,codeRec_of->ad5,callWith_K->ad6,TabsAt->ad7
open PySem.W.KIN renaming call_text->ait
open PySem.W.Looks renaming of_pure->ad8
open PySem.W.WData renaming int->HW
open PySem.Walks renaming list->vL
open PySem.pickOrder renaming go->Qa
open StateT renaming run_pure->acy
open Std.Legacy.Range renaming size->air,forIn_eq_forIn_range'->ais
open Sum renaming inl->bd,inr->nw
open Sum.inl renaming inj->vC
open ToString renaming toString->Hk
open True renaming intro->vB
open PySem PySem.Spec PyProof.Rows PySem.W
def O{α:Sort _}{a:α}:a=a:=rfl
def au:=@if_neg
def aB:=@if_pos
def aZ:=@absurd
def bZ:=@decide_eq_true
def cf:=@decide_eq_false
def cM:=@if_false
def dQ:=@if_true
def gD:=@congrArg
def ii:=@decide_eq_true_eq
def iE:=@of_decide_eq_true
def kP:=@getElem?_pos
def mM:=@of_decide_eq_false
def nE:=@or_false
def δ{p:Prop}(h:p:=by decide +kernel):p:=h
def ω{p:Prop}(h:p:=by omega):p:=h
def ß{a:Nat}:a≤a:=Nat.le_refl _
def à:=@Nat.le_trans
def á:=@Nat.lt_of_le_of_lt
def â{a p q:Nat}(h:a≤p)(k:p.ble q=true:=by rfl):a≤q:=Nat.le_trans h (Nat.le_of_ble_eq_true k)
def ã{a p q:Nat}(h:q≤a)(k:p.ble q=true:=by rfl):p≤a:=Nat.le_trans (Nat.le_of_ble_eq_true k) h
def å:=@Nat.le_of_eq
def æ{a b:Nat}(h:a=b):b≤a:=Nat.le_of_eq h.symm
def è{a b c:Nat}(h:a+c≤b):a≤b:=Nat.le_of_add_right_le h
def ê{a b c:Nat}(h:a+c<b):a<b:=Nat.lt_of_le_of_lt (Nat.le_add_right _ _) h
def ì:=@Nat.le_of_lt
def í{a b c:Nat}(h:a≤b):a≤b+c:=Nat.le_add_right_of_le h
def ï:=@Nat.succ_le_succ
def ð{a b c:Nat}(h:a≤b):a+c≤b+c:=Nat.add_le_add_right h c
def ñ{a b c:Nat}(h:a≤b):c+a≤c+b:=Nat.add_le_add_left h c
def ò:=@Nat.le_of_succ_le_succ
def ó{a b:Nat}(h:¬a≤b):b<a:=Nat.lt_of_not_le h
def ô{a b:Nat}(h:¬a<b):b≤a:=Nat.le_of_not_lt h
def õ:=@Nat.ne_of_lt
def ö{a b:Nat}(h:b<a):a≠b:=Nat.ne_of_gt h
def ø{a b:Nat}(h:b<a):¬a≤b:=Nat.not_le_of_gt h
def ù{a b:Nat}(h:b≤a):¬a<b:=Nat.not_lt_of_le h
def ú{a:Nat}:0≤a:=Nat.zero_le _
def û:=@Nat.le_antisymm
def ü{a c:Nat}:a≤a+c:=Nat.le_add_right _ _
def ý{a c:Nat}:a≤c+a:=Nat.le_add_left _ _
def þ:=@Nat.lt_of_le_of_ne
def ÿ{a b:Nat}(h:a≤b)(k:b≠a):a<b:=Nat.lt_of_le_of_ne h fun z=>k z.symm
def ξ{p:Prop}(h:p:=by decide):p:=h
abbrev Ω:=PySem.Value->PySem.Shared->Prop
abbrev Ξ:=List (List Int)
abbrev Ψ:=List (PySem.Addr×PySem.Obj)
local macro_rules|`($s⁻¹)=>`(($s).heap.objs.size)
section
local macro_rules|`(tactic|omega)=>`(tactic|first|lia|omega (config:={}))
local macro_rules|`(($a,$b,$c,*))=>`(⟨$a,$b,$c,*⟩)|`(($a,$b))=>`(⟨$a,$b⟩)
abbrev aN:=Sum Int al
def uP:aN->aa->Bool
 |.inl k,v=>HY k v
 |.inr x,v=>ad9 x v
def Vx(w:aO):aN->Int
 |.inl k=>hashInt k
 |.inr x=>hashStr w x
def oR:∀{a:aN}{v:aa},uP a v=ae->(∃i t,a=bd i/\v=aJ i t)\/(∃b t,a=nw b/\v=pA b t)
 |.inl i,v,h=>by
  obtain⟨t,e⟩:=HX (k:=i) (v:=v) h;exact .inl (i,t,O,e)
 |.inr b,v,h=>by
  obtain⟨t,e⟩:=Value.isStrOf_shape (x:=b) (v:=v) h;exact .inr (b,t,O,e)
def Vw(i:Int)(t:ga):uP (.inl i) (.int i t)=ae:=by simp[uP,HY]
def Vv(x:al)(t:ga):uP (.inr x) (.str x t)=ae:=by simp[uP,ad9]
def Vu(a b:Int):aG ((bd a:aN)=bd b)=(a==b):=by
 by_cases e:a=b
 ·subst e;simp
 ·have h:¬(bd a:aN)=bd b:=λq=>e<|vC q
  rw[cf h];exact(beq_eq_false_iff_ne.mpr e).symm
def Vr(a b:al):aG ((nw a:aN)=nw b)=aG (a=b):=by
 by_cases e:a=b
 ·subst e;simp
 ·have h:¬(nw a:aN)=nw b:=λq=>e<|Sum.inr.inj q
  rw[cf h,cf e]
def Vt(a:Int)(b:al):aG ((bd a:aN)=nw b)=ao:=cf (λq=>nomatch q)
def Vs(a:al)(b:Int):aG ((nw a:aN)=bd b)=ao:=cf (λq=>nomatch q)
def fH(c:aU)(w:aO):kc c w aN where
 is:=uP
 hash:=Vx w
 inj:=λv a b g f=>by
  rcases oR g with ⟨i,t,rfl,rfl⟩|⟨x,t,rfl,rfl⟩
  ·rcases oR f with ⟨j,u,rfl,e⟩|⟨y,u,rfl,e⟩
   ·injection e with e1 _;rw[e1]
   ·exact nomatch e
  ·rcases oR f with ⟨j,u,rfl,e⟩|⟨y,u,rfl,e⟩
   ·exact nomatch e
   ·injection e with e1 _;rw[e1]
 byValue:=λk v h=>by
  rcases oR h with ⟨i,t,rfl,rfl⟩|⟨x,t,rfl,rfl⟩<;>rfl
 pyHash:=λd h=>by
  rcases oR d with ⟨i,t,rfl,rfl⟩|⟨x,t,rfl,rfl⟩
  ·exact wpAny_pyHash_int h
  ·exact wpAny_pyHash_str h
 eqBool:=λl d h=>by
  rcases oR l with ⟨i,t,rfl,rfl⟩|⟨x,t,rfl,rfl⟩
  ·rcases oR d with ⟨j,u,rfl,rfl⟩|⟨y,u,rfl,rfl⟩
   ·rw[Vu] at h;exact wpAny_eqBool_int h
   ·rw[Vt] at h;exact aeg i t y u _ _ _ _ h
  ·rcases oR d with ⟨j,u,rfl,rfl⟩|⟨y,u,rfl,rfl⟩
   ·rw[Vs] at h;exact aef x t j u _ _ _ _ h
   ·rw[Vr] at h;exact wpAny_eqBool_str h
 «strs»:=λk x t v h=>by
  rcases oR h with ⟨i,u,rfl,e⟩|⟨y,u,rfl,e⟩
  ·exact nomatch e
  ·injection e with e1 _
   subst e1;cases v<;>rfl
def ED(a:aU)(w:aO)(i:Int)(t:ga):(fH a w).is (.inl i) (.int i t)=ae:=Vw i t
def Vi(a:aU)(w:aO)(x:al)(t:ga):(fH a w).is (.inr x) (.str x t)=ae:=Vv x t
inductive af where
 |g|e (b:Bool)|d (i:Int)|f (x:al)|h (b:Array UInt8)|k (b:UInt64)|c (a:V)|j (n:String)
 deriving DecidableEq
def cb:af->aa->Prop
 |.g,u=>u=bj
 |.e b,u=>u=dS b
 |.d i,u=>∃t,u=aJ i t
 |.f x,u=>∃t,u=pA x t
 |.h b,u=>∃t,u=Value.bytes b t
 |.k b,u=>∃t,u=Value.float b t
 |.c a,u=>u=Y a
 |.j n,u=>u=ay n
abbrev bW:List af->List aa->Prop:=dA cb
def bW.B(r:bW a b):a.length=b.length:=hZ r
def bW.J:∀{a:List af}{b:List aa}{i:Nat}{x:af},bW a b->a[i]?=U x->∃u,b[i]?=U u/\cb x u
 |_,_,_,_,.nil,e=>by simp at e
 |_,_,0,_,.cons r _,e=>by simp at e;subst e;exact(_,O,r)
 |_,_,i+1,x,.cons _ t,e=>by
  obtain⟨u,c,d⟩:=bW.J (i:=i) (x:=x) t (by simpa using e);exact(u,by simpa using c,d)
def bW.A2(r:cb x u):∀{a:List af}{b:List aa}(i:Nat),bW a b->bW (a.set i x) (b.set i u)
 |_,_,_,.nil=>.nil
 |_,_,0,.cons _ t=>.cons r t
 |_,_,i+1,.cons q t=>.cons q (bW.A2 r i t)
def bW.F(h:bW a c)(g:bW b d):bW (a++b) (c++d):=by
 induction h with
 |nil=>exact g
 |cons r _ e=>exact .cons r e
def bW.A0:∀{a:List af}{b:List aa}(n:Nat),bW a b->bW (a.take n) (b.take n)
 |_,_,0,_=>.nil
 |_,_,_+1,.nil=>.nil
 |_,_,n+1,.cons r t=>.cons r (bW.A0 n t)
def bW.W:∀{a:List af}{b:List aa}(n:Nat),bW a b->bW (a.drop n) (b.drop n)
 |_,_,0,r=>r
 |_,_,_+1,.nil=>.nil
 |_,_,n+1,.cons _ t=>bW.W n t
def qY:Option af->Option aa->Prop
 |some v,U u=>cb v u
 |none,Z=>True
 |_,_=>False
def kY{a:Type}:List (a×af)->List (a×aa)->Prop:=dA λ(p:a×af)(q:a×aa)=>p.1=q.1/\cb p.2 q.2
def dM:aN->af
 |.inl i=>.d i
 |.inr x=>.f x
inductive cP where
 |a (xs:List af)
 |b (xs:List af)
 |g (kvs:List (aN×af))|c (kvs:List (List aN×af))
 |l (S:Int->Bool) (n:Nat)
 |k (C dx:V) (fs:List (al×af))
 |h (x:V)
 |m (fs:List (al×af))
 |met (f x:V)
 |j (lo hi:Int)
 |e (o:aR) (u:cP)
 |d (ps:Array aa)
 |i (φ:aI->Prop)
abbrev ac:=V->Option cP
def av(H:ac)(a:V)(o:cP):ac:=λb=>if b=a then U o else H b
def aD:av H a o a=U o:=by unfold av;rw[aB O]
def a_{a b:V}(h:b≠a):av H a o b=H b:=by unfold av;rw[au h]
def Tr:av (av H a o) a u=av H a u:=by
 funext b;unfold av;split<;>rfl
def fL{H:ac}(h:H a=U o)(c:H b=U u)(d:o≠u):a≠b:=by
 intro e;subst e;rw[h] at c;exact d<|ca c
def dH{H:ac}(h:H a=U o)(c:H b=Z):a≠b:=by
 intro e;subst e;rw[h] at c;cases c
section
variable(P:aU)(w:aO)
def db(H:ac)(h:aI)(a:V):cP->Prop
 |.a d=>d.length<=bG/\∃(b:List aa)(n:Nat),bW d b/\h.get? a=U {cls:=.type "list",data:=.seq b.toArray n}
 |.b d=>d.length<=bG/\∃b:List aa,bW d b/\jL h a b.toArray
 |.g c=>c.length<=bG/\(a==kH)=ao/\∃k,kY c k/\h.DictOf (fH P w) a k
 |.c c=>c.length<=bG/\(a==kH)=ao/\∃d:List (List aN×V×aa),
   dA (λ(p:List aN×af)(q:List aN×V×aa)=>p.1=q.1/\H q.2.1=U (.b<|p.1.map dM)/\cb p.2 q.2.2) c d/\
   ∃o l s,h.get? a=U o/\o.ExactDict/\o.data=.dict l s/\l.toList=d.map (entryOfKey<|kG<|fH P w)/\(d.map (·.1)).Nodup
 |.l S n=>h.SetOf (dR P w) a S n
 |.k C i g=>H i=U (.h a)/\g.length<=1000/\i≠a/\h.get? a=U (Qz C i)/\
   ∃e,h.Ns1 i e/\(∀f,qY (g.lookup f) (e f))/\adv e (g.map (·.1))
 |.h _=>∃o,h.get? a=U o
 |.m g=>∃e,h.Ns1 a e/\∀f,qY (g.lookup f) (e f)
 |.j y z=>∃t u v,h.get? a=U {cls:=.type "range",data:=.fields #[.int y t,.int z u,.int 1 v]}
 |.e o u=>h.get? a=U o/\db H h a u
 |.d A=>h.get? a=U {cls:=.none,data:=.fields A}
 |.met f x=>h.get? a=U (Qw (.ref f)<|.ref x)
 |.i j=>j h/\(∃o,h.get? a=U o)/\∀m r:aI,j m->(∀o,m.get? a=U o->r.get? a=U o)->j r
def fP(H:ac)(h:aI):Prop:=∀a o,H a=U o->db P w H h a o
end
section
variable{P:aU}{w:aO}{H H':ac}{h h':aI}{a:V}{o:cP}
def db.F(x:db P w H h a o):a<h.objs.size:=by
 cases o with
 |a c=>obtain⟨_,_,_,_,e⟩:=x;exact bT e
 |b c=>obtain⟨_,_,_,p⟩:=x;exact p.lt
 |g b=>obtain⟨_,_,_,_,o,_,_,e,_⟩:=x;exact bT e
 |c b=>obtain⟨_,_,_,_,o,_,_,e,_⟩:=x;exact bT e
 |l S n=>obtain⟨o,_,_,_,e,_⟩:=x;exact bT e
 |k C g d=>obtain⟨_,_,_,e,_⟩:=x;exact bT e
 |h y=>obtain⟨_,e⟩:=x;exact bT e
 |m d=>obtain⟨_,⟨_,_,_,e,_⟩,_⟩:=x;exact bT e
 |j i j=>obtain⟨_,_,_,e⟩:=x;exact bT e
 |e k u=>obtain⟨e,_⟩:=x;exact bT e
 |d l=>exact bT<|show h.get? a=U _ from x
 |met f y=>exact bT<|show h.get? a=U _ from x
 |i m=>obtain⟨_,⟨_,e⟩,_⟩:=x;exact bT e
def il{e g:Type}{F G:e->g->Prop}{c:List e}{d:List g}(h:dA F c d)(f:∀a b,F a b->G a b):dA G c d:=by
 induction h with
 |nil=>exact .nil
 |cons r _ i=>exact .cons (f _ _ r) i
def db.B(x:db P w H h a o)(k:∀b u,(b=a\/H b=U (.h a))->h.get? b=U u->h'.get? b=U u)(I:∀b,H b=U (.h a)->H' b=U (.h a))(K:∀b m,H b=U (.b m)->H' b=U (.b m)):db P w H' h' a o:=by
 induction o with
 |a m=>obtain⟨z,l,n,r,e⟩:=x;exact(z,l,n,r,k _ _ (.inl O) e)
 |b m=>obtain⟨z,l,r,g,e,c⟩:=x;exact(z,l,r,g,k _ _ (.inl O) e,c)
 |g s=>obtain⟨z,y,L,r,g,i,j,e,c⟩:=x;exact(z,y,L,r,g,i,j,k _ _ (.inl O) e,c)
 |c s=>
  obtain⟨z,y,m,r,g,i,j,e,c⟩:=x;exact(z,y,m,il r λp q z=>(z.1,K _ _ z.2.1,z.2.2),g,i,j,k _ _ (.inl O) e,c)
 |l S n=>obtain⟨g,i,j,t,e,c⟩:=x;exact(g,i,j,t,k _ _ (.inl O) e,c)
 |k C X M=>
  obtain⟨d,z,Q,e,A,⟨D,i,j,R,c⟩,r⟩:=x;exact(I _ d,z,Q,k _ _ (.inl O) e,A,(D,i,j,k _ _ (.inr d) R,c),r)
 |h y=>obtain⟨g,e⟩:=x;exact(g,k _ _ (.inl O) e)
 |m M=>obtain⟨A,⟨D,i,j,e,c⟩,r⟩:=x;exact(A,(D,i,j,k _ _ (.inl O) e,c),r)
 |j lo hi=>obtain⟨t,u,v,e⟩:=x;exact(t,u,v,k _ _ (.inl O) e)
 |e g u T=>obtain⟨e,q⟩:=x;exact(k _ _ (.inl O) e,T q)
 |d E=>
  have e:h.get? a=U {cls:=.none,data:=.fields E}:=x;show h'.get? a=U {cls:=.none,data:=.fields E};exact k a _ (.inl O) e
 |met f y=>
  have e:h.get? a=U (Qw (.ref f)<|.ref y):=x;show h'.get? a=U (Qw (.ref f)<|.ref y);exact k a _ (.inl O) e
 |i φ=>obtain⟨p,⟨o,e⟩,G⟩:=x;exact(G _ _ p λo q=>k _ _ (.inl O) q,(o,k _ _ (.inl O) e),G)
def fP.F(x:fP P w H h)(e:H a=U o):a<h.objs.size:=(x a o e).F
def fP.B(x:fP P w H h)(e:h.objs.size<=a):H a=Z:=by
 cases q:H a with
 |none=>rfl
 |some u=>exact aZ (fB (x.F q) e)<|oj _
def fP.J(x:fP P w H h)(k:∀b u,h.get? b=U u->h'.get? b=U u):fP P w H h':=λa o e=>
 (x a o e).B (λb u _ q=>k b u q) (λ_ q=>q) λ_ _ q=>q
def fP.N(x:fP P w H h)(k:∀b u,h.get? b=U u->h'.get? b=U u)(i:h.objs.size<=a)(d:db P w (av H a o) h' a o):fP P w (av H a o) h':=λb u e=>by
 have f:=x.B i
 by_cases g:b=a
 ·subst g;rw[aD] at e;cases e;exact d
 ·rw[a_ g] at e
  exact(x b u e).B (λc v _ q=>k c v q) (λc q=>by rw[a_<|dH q f];exact q) λc j q=>by rw[a_<|dH q f];exact q
end
def bX(H:ac)(a:V)(u:cP):Prop:=H a=U u\/∃o,H a=U (.e o u)
def bX.J{H:ac}(h:H a=U u):bX H a u:=.inl h
def bX.F(r:bX H a u)(x:fP P w H h):db P w H h a u:=by
 rcases r with r|⟨o,r⟩
 ·exact x a u r
 ·obtain⟨_,q⟩:=x a _ r
  exact q
def xa:Option cP->Prop
 |some (.a _)=>True
 |some (.g _)=>True
 |some (.c _)=>True
 |some (.l _ _)=>True
 |some (.k _ _ _)=>True
 |some (.i _)=>True
 |_=>False
section
variable{P:aU}{w:aO}{H:ac}{h h':aI}{x e:V}{o':cP}
def fP.W(s:fP P w H h)(g:xa (H x))(o:e=x\/H e=U (.h x))(k:∀b u,b≠e->h.get? b=U u->h'.get? b=U u)(m:∃u,h'.get? e=U u)(n:db P w (av H x o') h' x o'):fP P w (av H x o') h':=λb u q=>by
 have d:∀c y,H c=U (.h y)->c≠x:=λc y r z=>by subst z;rw[r] at g;exact g
 have f:∀c i,H c=U (.b i)->c≠x:=λc i r z=>by subst z;rw[r] at g;exact g
 by_cases j:b=x
 ·subst j;rw[aD] at q;cases q;exact n
 ·rw[a_ j] at q
  by_cases a:b=e
  ·have p:H b=U (.h x):=by
    rcases o with z|z
    ·exact aZ (a.trans z) j
    ·rw[a];exact z
   rw[q] at p;cases p;obtain⟨v,t⟩:=m;exact(v,by rw[a];exact t)
  ·refine(s b u q).B (λc v l r=>k c v ?_ r) (λc r=>by rw[a_<|d c b r];exact r) λc i r=>by rw[a_<|f c i r];exact r
   rcases l with rfl|l
   ·exact a
   ·rintro rfl
    rcases o with z|z
    ·exact d c b l z
    ·rw[l] at z;cases z;exact j O
end
structure mU(fs ex:List V)(H H':ac)(h h':aI):Prop where
 a:∀b o,h.get? b=U o->H b=Z->b∉fs->b∉ex->h'.get? b=U o
 g:∀b o,h.get? b=U o->H b=Z->b∈fs->b∉ex->∃sl,h'.get? b=U {o with slots:=sl}
 c:∀b o,h.get? b=U o->H b=Z->b∉ex->H' b=Z
 d:∀b o,h.get? b=U o->b∉ex->∃o',h'.get? b=U o'
 i:∀b xs,H b=U (.b xs)->H' b=U (.b xs)
 f:∀b o u,H b=U (.e o u)->H' b=U (.e o u)
 e:∀b ps,H b=U (.d ps)->∃more,H' b=U (.d<|ps++more)
section
variable{fs fs' ex ex':List V}{H H1 H2:ac}{h h1 h2 h':aI}{a x e:V}{o:cP}
def mU.F(u:mU fs ex H H1 h h1){a:aR}(q:h.get? b=U a)(n:H b=Z)(c:b∉ex):∃e,h1.get? b=U {a with slots:=e}:=by
 by_cases d:b∈fs
 ·exact u.g b a q n d c
 ·exact(a.slots,u.a b a q n d c)
def mU.B(k:∀b u,h.get? b=U u->h'.get? b=U u):mU fs ex H H h h':=
 (λb a q _ _ _=>k b a q,λb a q _ _ _=>(a.slots,k b a q),λ_ _ _ n _=>n,λb a q _=>(a,k b a q),λ_ _ q=>q,λ_ _ _ q=>q,λ_ c q=>(#[],by rw[q];simp))
def mU.N:mU fs ex H H h h:=mU.B λ_ _ q=>q
def mU.W(k:∀b u,h.get? b=U u->h'.get? b=U u)(d:h.objs.size<=a)(c:H a=Z):mU fs ex H (av H a o) h h' where
 a:=λb u q _ _ _=>k b u q
 g:=λb u q _ _ _=>(u.slots,k b u q)
 c:=λb u q n _=>by rw[a_<|ck<|fB (bT q) d];exact n
 d:=λb u q _=>(u,k b u q)
 i:=λb e q=>by rw[a_<|dH q c];exact q
 f:=λb u e q=>by rw[a_<|dH q c];exact q
 e:=λb f q=>(#[],by rw[a_<|dH q c,q];simp)
def mU.J(c:xa (H x))(j:e=x\/H e=U (.h x))(k:∀b u,b≠e->h.get? b=U u->h'.get? b=U u)(d:∃u,h'.get? e=U u):mU fs ex H (av H x o) h h':=by
 have g:∀b,H b=Z->b≠x:=λb n z=>by subst z;rw[n] at c;exact c
 have i:∀b,H b=Z->b≠e:=λb n z=>by
  subst z;rcases j with r|r
  ·exact g b n r
  ·rw[n] at r;cases r
 have f:∀b u,H b=U u->¬xa (U u)->b≠x:=λb u q l z=>by subst z;rw[q] at c;exact l c
 refine(λb u q n _ _=>k b u (i b n) q,λb u q n _ _=>(u.slots,k b u (i b n) q),λb u q n _=>by rw[a_<|g b n];exact n,λb u q _=>?_,
  λb m q=>by rw[a_<|f b _ q λz=>z];exact q,λb u m q=>by rw[a_<|f b _ q λz=>z];exact q,λb p q=>(#[],by rw[a_<|f b _ q λz=>z,q];simp))
 by_cases a:b=e
 ·subst a;exact d
 ·exact(u,k b u a q)
end
def zn(h:aI)(H:ac):List V:=(dk h.objs.size).filter λa=>(H a).isSome
def nM(h:aI)(H:ac):aI:=PySem.W.hideAll h<|zn h H
def VK(h:aI)(H:ac):(nM h H).objs.size=h.objs.size:=PySem.W.hideAll_size _ _
def VL{h:aI}{H:ac}(e:h.get? b=U o)(n:H b=Z):(nM h H).get? b=U o:=
 PySem.W.hideAll_get _ e λa=>by
  have q:(H b).isSome=ae:=(nA.mp a).2;rw[n] at q;simp at q
def U_(e:(nM h H).get? b=U o):h.get? b=U o/\H b=Z:=by
 have a:h.get? b=U o:=PySem.W.of_hideAll (zn h H) e;refine(a,?_);cases q:H b with
 |none=>rfl
 |some x=>
  have c:b∈zn h H:=nA.mpr (h_.mpr<|bT a,by simp[q]);have z:(nM h H).get? b=Z:=PySem.W.hideAll_none (zn h H) c;rw[z] at e;cases e
structure Ae(K:aH)(mg:al->Option aa)(base:aI):Prop where
 a:K.In base
 b:base.Ns ji mg
 d:∃mb,base.Ns tQ mb/\∀x:al,x≠"__name__"->mb x=ig x
 c:base.NoLimit
structure aK where
 prog:aU
 w:aO
 K:aH
 mg:al->Option aa
 base:aI
 A:bg
 N:List al
 d:ai
 h:ac
 env:dD
 outer:List dD
 c:List dD
 e:List V
 g:al->Bool
 b:Bool
 f:Ψ
 a:Ω
def iP(l:List dD):List V:=l.filterMap (·.frame)
abbrev aK.B(X:aK):List V:=iP X.outer
def wW(a:eO)(x:al):Prop:=a.names.lookup x=U .local\/a.names.lookup x=U .cell\/a.names.lookup x=U .free
def sY(a:eO)(x:al):Prop:=a.names.lookup x=U .local\/a.names.lookup x=U .cell
def M'(a:dD)(h:aI)(m:al->Option aa)(x:al)(u:aa):Prop:=
 (a.kindOf x=U .local/\m x=U u)\/((a.kindOf x=U .cell\/a.kindOf x=U .free)/\∃c,a.cells.lookup x=U c/\h.IsCell c (U u))
structure aK.J(X:aK):Prop where
 e:Ae X.K X.mg X.base
 a:X.env.scope.kind=.function
 f:X.env.globals=ji
 l:X.env.builtins=tQ
 d:X.d⁻¹<=X.env.locals
 n:∀x y c,X.env.cells.lookup x=U c->X.env.cells.lookup y=U c->x=y
 has:∀x,(X.env.kindOf x=U .cell\/X.env.kindOf x=U .free)->∃c,X.env.cells.lookup x=U c
 k:∀x c,X.g x=ae->X.env.cells.lookup x=U c->X.d⁻¹<=c
 hd:X.b=ae->X.A.handled=Z
 j:X.A.frames=U X.c
 q:X.c=X.outer\/(X.c=X.env::X.outer/\X.env.frame=U X.env.locals)
 r:∀b∈X.e,b≠X.env.locals/\∀x c,X.env.cells.lookup x=U c->c≠b
 bs:∀b o,X.base.get? b=U o->X.d.heap.get? b=U o/\X.h b=Z
 i:X.base.objs.size<=X.d⁻¹
 h:∀b o,X.base.get? b=U o->b∉X.e
 p:∀b∈X.e,b∉X.B
 g:X.d.heap.FunFrames X.base X.outer
 m:∀b∈X.B,X.h b=Z
structure aw(X:aK)(pins:Ψ)(σ:List (Option af))(H:ac)(s:ai):Prop where
 a:X.J
 k:s.os=X.d.os
 e:qt s.gens
 base:mU X.B X.e X.h H X.d.heap s.heap
 d:∃m,s.heap.Ns X.env.locals m/\∀(i:Nat)(x:al)(v:af),X.N[i]?=U x->σ[i]?=U (U v)->wW X.env.scope x->∃u,cb v u/\M' X.env s.heap m x u
 g:∀x c,X.env.cells.lookup x=U c->∃v,s.heap.IsCell c v
 h:H X.env.locals=Z
 j:∀x c,X.env.cells.lookup x=U c->H c=Z
 f:∀p∈X.f++pins,s.heap.get? p.1=U p.2/\H p.1=Z/\p.1≠X.env.locals/\p.1∉X.B/\∀v,p.2.data≠.cell v
 b:fP X.prog X.w H s.heap
 l:σ.length=X.N.length
section
variable{X:aK}{pins:Ψ}{σ:List (Option af)}{H H':ac}{s:ai}{h':aI}
def aK.J.B(a:X.J){b:V}(e:X.base.get? b=U o):b∉X.B:=λc=>by
 have:=(a.g.mem c).1;rw[e] at this;cases this
def aw.bs(I:aw X pins σ H s):∀b o,X.base.get? b=U o->s.heap.get? b=U o/\H b=Z:=λb o e=>
 (I.base.a b o (I.a.bs b o e).1 (I.a.bs b o e).2 (I.a.B e)<|I.a.h b o e,I.base.c b o (I.a.bs b o e).1 (I.a.bs b o e).2<|I.a.h b o e)
def aw.bk(I:aw X pins σ H s):∀b o,X.base.get? b=U o->s.heap.get? b=U o:=λb o e=>(I.bs b o e).1
def aw.B7(I:aw X pins σ H s):Ae X.K X.mg X.base:=I.a.e
def aw.A2(I:aw X pins σ H s):X.K.In s.heap:=I.a.e.a.keeps I.bk
def aw.D5(I:aw X pins σ H s):s.heap.NoLimit:=I.a.e.c.keeps I.bk
def aw.lt(I:aw X pins σ H s):X.env.locals<s⁻¹:=let ⟨_,a,_⟩:=I.d;a.lt
def aw.sz(I:aw X pins σ H s):X.d⁻¹<=s⁻¹:=dE I.a.d<|qv I.lt
def aw.E0(I:aw X pins σ H s){a:V}(h:s⁻¹<=a):a∉X.B:=λb=>by
 obtain⟨_,o,c,_⟩:=I.a.g.mem b;exact aZ (fB (bT c)<|dE I.sz h)<|oj _
def aw.A9(I:aw X pins σ H s):∀x c,X.env.cells.lookup x=U c->c≠X.env.locals:=λx c e z=>by
 obtain⟨v,o,d,f⟩:=I.g x c e;obtain⟨m,⟨g,h,i,a,b,_⟩,_⟩:=I.d;rw[z,a] at d;cases d;rw[b] at f;cases f
def aw.C7(I:aw X pins σ H s):s.heap.FunFrames X.base X.outer:=by
 have a:∀(l:List dD),(∀b∈iP l,b∈X.B)->X.d.heap.FunFrames X.base l->s.heap.FunFrames X.base l:=by
  intro l
  induction l with
  |nil=>intro _ _;trivial
  |cons h r i=>
   intro g j;obtain⟨k,⟨L,o,c,m,n,p⟩,q⟩:=j;have d:L∈X.B:=g L (by unfold iP;rw[Jk,c];exact dC);obtain⟨t,e⟩:=I.base.g L o n (I.a.m L d) d λz=>I.a.p L z d;exact(k,(L,_,c,m,e,p),i (λb f=>g b (by unfold iP;rw[Jk,c];exact d_ _ f)) q)
 exact a X.outer (λ_ f=>f) I.a.g
def aw.B2(I:aw X pins σ H s):s.heap.FunFrames X.base X.c:=by
 rcases I.a.q with e|⟨e,a⟩
 ·rw[e];exact I.C7
 ·rw[e]
  obtain⟨m,b,_⟩:=I.d;refine .cons (by rw[I.a.a];decide) a b ?_ I.C7;exact aen<|dE I.a.i I.a.d
def aw.A8(I:aw X pins σ H s):∀b∈iP X.c,b∈X.env.locals::X.B:=λb a=>by
 rcases I.a.q with e|⟨e,c⟩
 ·rw[e] at a;exact d_ _ a
 ·rw[e] at a
  unfold iP at a;rw[Jk,c] at a;exact a
def aw.B9(I:aw X pins σ H s):∀b∈iP X.c,H b=Z:=λb a=>by
 rcases ci.mp (I.A8 b a) with e|a
 ·rw[e];exact I.h
 ·obtain⟨_,o,c,_⟩:=I.a.g.mem a
  exact I.base.c b o c (I.a.m b a) λz=>I.a.p b z a
def aw.step{t':Nat}{d':Drawn}{ch:List V}(I:aw X pins σ H s)(g:∀b∈ch,(b∈X.e\/X.d⁻¹<=b)/\b≠X.env.locals/\(∀x c,X.env.cells.lookup x=U c->c≠b)/\∀p∈X.f++pins,p.1≠b)(h:∀b o,b≠X.env.locals->b∉X.B->b∉ch->s.heap.get? b=U o->H b=Z->h'.get? b=U o)(A:∀b o,b≠X.env.locals->b∈X.B->b∉ch->s.heap.get? b=U o->H b=Z->∃sl,h'.get? b=U {o with slots:=sl})(f:∀b o,b∉ch->s.heap.get? b=U o->H b=Z->H' b=Z)(D:∀b o,b∉ch->s.heap.get? b=U o->∃K,h'.get? b=U K)(L:∀b C,H b=U (.b C)->H' b=U (.b C))(M:∀b o u,H b=U (.e o u)->H' b=U (.e o u))(P:∀b T,H b=U (.d T)->∃Q,H' b=U (.d<|T++Q))(ns:∀m,s.heap.Ns X.env.locals m->h'.Ns X.env.locals m)(a0:fP X.prog X.w H' h')(hg:qt g'):aw X pins σ H' {s with heap:=h',gens:=g',drawn:=d',toks:=t'}:=by
 have R:∀b o,X.d.heap.get? b=U o->b≠X.env.locals:=λb o e=>ck<|fB (bT e) I.a.d;have w:∀b o,X.d.heap.get? b=U o->b∉X.e->b∉ch:=λb o e a E=>by
  rcases(g b E).1 with z|z
  ·exact a z
  ·exact aZ (fB (bT e) z)<|oj _
 have j:∀x c,X.env.cells.lookup x=U c->∀v,s.heap.IsCell c v->h'.IsCell c v:=λx c e v (o,G,hd)=>by
  have t:c∉ch:=λz=>(g c z).2.2.1 x c e O
  by_cases hc:c∈X.B
  ·obtain⟨sl,q⟩:=A c o (I.A9 x c e) hc t G<|I.j x c e
   exact(_,q,hd)
  ·exact(o,h c o (I.A9 x c e) hc t G<|I.j x c e,hd)
 refine(I.a,I.k,hg,(λb o e n E a=>?_,λb o e n E a=>?_,λb o e n a=>?_,λb o e a=>?_,λb C e=>L b C<|I.base.i b C e,λb o C e=>M b o C<|I.base.f b o C e,λb T e=>?_),?_,λx c e=>?_,?_,λx c e=>?_,λp hp=>?_,a0,I.l)
 ·exact h b o (R b o e) E (w b o e a) (I.base.a b o e n E a)<|I.base.c b o e n a
 ·obtain⟨sl,y⟩:=I.base.g b o e n E a
  obtain⟨a1,S⟩:=A b _ (R b o e) E (w b o e a) y<|I.base.c b o e n a;exact(a1,S)
 ·obtain⟨K,y⟩:=I.base.d b o e a
  exact f b K (w b o e a) y<|I.base.c b o e n a
 ·obtain⟨K,y⟩:=I.base.d b o e a
  exact D b K (w b o e a) y
 ·obtain⟨m1,y⟩:=I.base.e b T e
  obtain⟨m2,S⟩:=P b _ y;exact(m1++m2,by rw[S,aii])
 ·obtain⟨m,hn,hl⟩:=I.d
  refine(m,ns m hn,λi x v y S e3=>?_);obtain⟨u,r,l⟩:=hl i x v y S e3;refine(u,r,?_);rcases l with l|⟨k,c,e,z⟩
  ·exact .inl l
  ·exact .inr (k,c,e,j x c e _ z)
 ·obtain⟨v,z⟩:=I.g x c e
  exact(v,j x c e v z)
 ·obtain⟨m,⟨o,_,_,G,_⟩,_⟩:=I.d
  exact f _ o (λz=>(g _ z).2.1 O) G I.h
 ·obtain⟨v,o,G,hd⟩:=I.g x c e
  exact f c o (λz=>(g c z).2.2.1 x c e O) G<|I.j x c e
 ·obtain⟨e,n,ne,nf,d⟩:=I.f p hp
  have t:p.1∉ch:=λz=>(g p.1 z).2.2.2 p hp O;exact(h p.1 p.2 ne nf t e n,f p.1 p.2 t e n,ne,nf,d)
def aw.un{t':Nat}(I:aw X pins σ H s)(u:mU X.B [] H H' s.heap h')(c:fP X.prog X.w H' h'):aw X pins σ H' {s with heap:=h',toks:=t'}:=by
 obtain⟨m,⟨o,l,p,h,r⟩,_⟩:=id I.d;obtain⟨q,i⟩:=u.F h I.h (by simp);exact I.step (g':=s.gens) (d':=s.drawn) (ch:=[]) (λ_ z=>nomatch z) (λb o _ d _ e n=>u.a b o e n d (by simp)) (λb o _ d _ e n=>u.g b o e n d (by simp)) (λb o _ e n=>u.c b o e n (by simp)) (λb o _ e=>u.d b o e (by simp)) u.i u.f u.e (λt j=>by
  obtain⟨v,f,g,a,k⟩:=j;rw[h] at a;cases a;exact(_,f,g,i,k)) c I.e
def aw.D2{t':Nat}{d':Drawn}(I:aw X pins σ H s)(u:mU (iP X.c) ch H H' s.heap h')(g:fP X.prog X.w H' h')(l:qt g')(d:∀b∈ch,(b∈X.e\/X.d⁻¹<=b)/\b≠X.env.locals/\(∀x c,X.env.cells.lookup x=U c->c≠b)/\∀p∈X.f++pins,p.1≠b):aw X pins σ H' {s with heap:=h',gens:=g',drawn:=d',toks:=t'}:=by
 obtain⟨m,⟨o,w,y,k,r⟩,_⟩:=id I.d;obtain⟨A,h⟩:=u.F k I.h λz=>(d _ z).2.1 O;exact I.step (ch:=ch) d (λb o h q a e n=>u.a b o e n (λz=>(ci.mp<|I.A8 b z).elim h q) a) (λb o _ _ a e n=>u.F e n a) (λb o a e n=>u.c b o e n a) (λb o a e=>u.d b o e a) u.i u.f u.e (λC t=>by
  obtain⟨D,i,j,f,v⟩:=t;rw[k] at f;cases f;exact(_,i,j,h,v)) g l
def aw.A5{t':Nat}{a:V}(I:aw X pins σ H s)(k:∀b o,b≠a->s.heap.get? b=U o->h'.get? b=U o)(h:H a=Z)(g:a≠X.env.locals)(i:a∈X.e\/X.d⁻¹<=a)(j:∀x c,X.env.cells.lookup x=U c->c≠a)(l:∀p∈X.f++pins,p.1≠a):aw X pins σ H {s with heap:=h',toks:=t'}:=by
 have f:∀b u,H b=U u->b≠a:=λb u e z=>by rw[z,h] at e;cases e
 refine I.step (g':=s.gens) (d':=s.drawn) (ch:=[a]) (λb t=>?_) (λb o _ _ d e _=>k b o (λz=>d (by simp[z])) e) (λb o _ _ d e _=>(o.slots,k b o (λz=>d (by simp[z])) e)) (λ_ _ _ _ n=>n)
  (λb o d e=>(o,k b o (λz=>d (by simp[z])) e)) (λ_ _ e=>e) (λ_ _ _ e=>e) (λb D e=>(#[],by rw[e];simp)) (λm w=>?_) (λb u e=>?_) I.e
 ·have e:b=a:=by simpa using t
  subst e;exact(i,g,j,l)
 ·obtain⟨o,y,A,C,r⟩:=w
  exact(o,y,A,k _ o (dB g) C,r)
 ·refine(I.b b u e).B (λc v d q=>k c v ?_ q) (λ_ q=>q) λ_ _ q=>q
  rcases d with z|z
  ·rw[z];exact f b u e
  ·exact f c _ z
def aw.N(I:aw X pins σ H s)(t:Nat):aw X pins σ H {s with toks:=t}:=I.un (h':=s.heap) (t':=t) mU.N I.b
def aw.W{t':Nat}(I:aw X pins σ H s)(k:∀b u,s.heap.get? b=U u->h'.get? b=U u):aw X pins σ H {s with heap:=h',toks:=t'}:=I.un (mU.B k)<|I.b.J k
def aw.F{a:V}{t':Nat}(I:aw X pins σ H s)(k:∀b u,s.heap.get? b=U u->h'.get? b=U u)(c:s⁻¹<=a)(d:db X.prog X.w (av H a o) h' a o):aw X pins σ (av H a o) {s with heap:=h',toks:=t'}:=I.un (mU.W k c<|I.b.B c)<|I.b.N k c d
def aw.C3{x e:V}{g:Nat}(I:aw X pins σ H s)(d:xa (H x))(f:e=x\/H e=U (.h x))(k:∀b u,b≠e->s.heap.get? b=U u->h'.get? b=U u)(a:∃u,h'.get? e=U u)(c:db X.prog X.w (av H x o) h' x o):aw X pins σ (av H x o) {s with heap:=h',toks:=g}:=I.un (mU.J d f k a)<|I.b.W d f k a c
def aw.D3{a:Ψ}(I:aw X pins σ H s)(h:∀p∈a,s.heap.get? p.1=U p.2/\H p.1=Z/\p.1≠X.env.locals/\p.1∉X.B/\∀v,p.2.data≠.cell v):aw X a σ H s:=
 (I.a,I.k,I.e,I.base,I.d,I.g,I.h,I.j,λp b=>(gB.mp b).elim (λz=>I.f p<|uo _ z)<|h p,I.b,I.l)
def EC{h:List al}(c:h.Nodup){i j:Nat}(a:h[i]?=U x)(b:h[j]?=U x):i=j:=by
 obtain⟨f,d⟩:=cE.mp a;obtain⟨g,e⟩:=cE.mp b;exact(ahc c).mp<|d.trans e.symm
def KI{i:Nat}{Q:Unit->ai->Prop}(I:aw X pins σ H s)(hN:X.N.Nodup)(T:X.N[i]?=U x)(w:sY X.env.scope x)(r:cb v u)(h:∀s',aw X pins (σ.set i<|U v) H s'->(∃a,gA a s.heap s'.heap/\(a=X.env.locals\/X.env.cells.lookup x=U a))->Q () s')(hf:X.g x=ae\/X.env.scope.names.lookup x=U .local:=by first|exact .inl rfl|exact .inr rfl|assumption):am M A (storeName X.env x u) Q E s:=by
 obtain⟨m,hn,hl⟩:=id I.d;have a0:(X.env.scope.kind==.class|| (X.env.scope.kind==.module&&X.env.locals != X.env.globals))=ao:=by rw[I.a.a];rfl
 have G:i<σ.length:=by rw[I.l];exact(cE.mp T).1
 have L:=I.A9;have g:∀{a:V}{h':aI},(∃o,s.heap.get? a=U o/\H a=Z)->gA a s.heap h'->fP X.prog X.w H h':=λ{a h'} ha f b ob e=>by
  obtain⟨_,_,C⟩:=ha;refine(I.b b ob e).B (λc w' t q=>(f.2 c ?_).trans q) (λ_ q=>q) λ_ _ q=>q;rintro rfl;rcases t with rfl|t
  ·rw[C] at e;cases e
  ·rw[C] at t;cases t
 rcases w with K|K
 ·refine wpAny_storeName_local K hn (λh' a5 f=>?_) a0
  obtain⟨oL,_,_,a6,_⟩:=id hn;refine h _ (I.a,I.k,I.e,(λb o e n P w=>?_,λb o e n P w=>?_,I.base.c,λb o e w=>?_,I.base.i,I.base.f,I.base.e),(_,a5,λj y v' l D e3=>?_),λy c e=>?_,I.h,I.j,λp hp=>?_,g (oL,a6,I.h) f,by simpa using I.l) (_,f,.inl O)
  ·exact(f.2 b<|ck<|fB (bT e) I.a.d).trans<|I.base.a b o e n P w
  ·obtain⟨sl,l⟩:=I.base.g b o e n P w
   exact(sl,(f.2 b<|ck<|fB (bT e) I.a.d).trans l)
  ·obtain⟨o',l⟩:=I.base.d b o e w
   exact(o',(f.2 b<|ck<|fB (bT e) I.a.d).trans l)
  ·by_cases R:j=i
   ·subst R
    rw[T] at l;cases l;rw[Jg G] at D;cases D;exact(u,r,.inl (K,by simp))
   ·rw[Rx<|dB R] at D
    obtain⟨u',r',q⟩:=hl j y v' l D e3;refine(u',r',?_);rcases q with ⟨k,e⟩|⟨k,c,e,z⟩
    ·refine .inl (k,?_)
     have:y≠x:=λe=>R<|EC hN l<|e▸T;simp[this,e]
    ·exact .inr (k,c,e,z.sameBut f<|L y c e)
  ·obtain⟨w',z⟩:=I.g y c e
   exact(w',z.sameBut f<|L y c e)
  ·obtain⟨e,n,ne,nf,d⟩:=I.f p hp
   exact((f.2 p.1 ne).trans e,n,ne,nf,d)
 ·have S:X.g x=ae:=by
   rcases hf with z|z
   ·exact z
   ·rw[z] at K;cases K
  obtain⟨c,t⟩:=I.a.has x<|.inl K;obtain⟨w',z⟩:=I.g x c t;refine wpAny_storeName_cell I.a.a K t z (λh' a1 f=>?_);obtain⟨oc,a2,a3⟩:=id z;refine h {s with heap:=h'} (I.a,I.k,I.e,(λb o e n P w=>?_,λb o e n P w=>?_,I.base.c,λb o e w=>?_,I.base.i,I.base.f,I.base.e),(m,hn.sameBut f<|dB<|L x c t,λj y v' l D e3=>?_),λy c' e=>?_,I.h,I.j,λp hp=>?_,g (oc,a2,I.j x c t) f,by simpa using I.l) (c,f,.inr t)
  ·exact(f.2 b<|ck<|fB (bT e)<|I.a.k x c S t).trans<|I.base.a b o e n P w
  ·obtain⟨sl,l⟩:=I.base.g b o e n P w
   exact(sl,(f.2 b<|ck<|fB (bT e)<|I.a.k x c S t).trans l)
  ·obtain⟨o',l⟩:=I.base.d b o e w
   exact(o',(f.2 b<|ck<|fB (bT e)<|I.a.k x c S t).trans l)
  ·by_cases R:j=i
   ·subst R
    rw[T] at l;cases l;rw[Jg G] at D;cases D;exact(u,r,.inr (.inl K,c,t,a1))
   ·rw[Rx<|dB R] at D
    obtain⟨u',r',q⟩:=hl j y v' l D e3;refine(u',r',?_);rcases q with q|⟨k,c',e,z'⟩
    ·exact .inl q
    ·refine .inr (k,c',e,z'.sameBut f ?_)
     rintro rfl;exact R<|EC hN l<|I.a.n _ _ _ e t▸T
  ·by_cases a4:c'=c
   ·subst a4;exact(_,a1)
   ·obtain⟨w2,z2⟩:=I.g y c' e
    exact(w2,z2.sameBut f a4)
  ·obtain⟨e,n,ne,nf,d⟩:=I.f p hp
   refine((f.2 p.1 ?_).trans e,n,ne,nf,d);intro q;rw[q,a2] at e;have q':oc=p.2:=ca e;exact d w' (by rw[<-q'];exact a3)
def zv{i:Nat}{Q:Unit->ai->Prop}(I:aw X pins σ H s)(b:X.N.Nodup)(c:X.N[i]?=U x)(d:sY X.env.scope x)(r:cb v u)(h:∀a,aw X pins (σ.set i<|U v) H a->Q () a)(e:X.g x=ae\/X.env.scope.names.lookup x=U .local:=by first|exact .inl rfl|exact .inr rfl|assumption):am M A (storeName X.env x u) Q E s:=
 KI I b c d r (λa f _=>h a f) e
def aw.A6{s':ai}(I:aw X pins σ H s)(f:s'.os=s.os)(u:mU (iP X.c) ch H H' s.heap s'.heap)(a:fP X.prog X.w H' s'.heap)(g:qt s'.gens)(d:∀b∈ch,(b∈X.e\/X.d⁻¹<=b)/\b≠X.env.locals/\(∀x c,X.env.cells.lookup x=U c->c≠b)/\∀p∈X.f++pins,p.1≠b):aw X pins σ H' s':=by
 obtain⟨h',g',d',t',h⟩:=s';have e:h=s.os:=f;subst e;exact I.D2 (g':=g') (t':=t') (d':=d') u a g d
end
abbrev bK:=aa->Option V->ac->Prop
abbrev aM:=List<|Option af
abbrev aL:=af->ac->Prop
abbrev bb:=aM->ac->aL->Prop
abbrev eB:=aM->ac->(Bool->ac->Prop)->Prop
abbrev ff:=aM->ac->(List af->ac->Prop)->Prop
structure kz where
 a:aM->ac->Prop
 b:aL
 c:aM->ac->Prop:=λ_ _=>False
 d:aM->ac->Prop:=λ_ _=>False
abbrev fe:=kz->aM->ac->Prop
def ju(X:aK)(a:Ψ)(c:aM)(Q:aL)(u:aa)(d:ai):Prop:=∃v b,aw X a c b d/\cb v u/\Q v b
def ES(X:aK)(a:Ψ)(d:aM)(Q:Bool->ac->Prop)(b:Bool)(e:ai):Prop:=∃c,aw X a d c e/\Q b c
def WK(X:aK)(a:Ψ)(d:aM)(Q:List af->ac->Prop)(e:List aa)(f:ai):Prop:=∃b c,aw X a d c f/\bW b e/\Q b c
def qX(X:aK)(b:Ψ)(D:kz)(f:Flow)(d:ai):Prop:=
 match f with
 |.next=>∃a c,aw X b a c d/\D.a a c
 |.brk=>∃a c,aw X b a c d/\D.c a c
 |.cont=>∃a c,aw X b a c d/\D.d a c
 |.ret u=>∃v a c,aw X b a c d/\cb v u/\D.b v c
def bA(X:aK)(e:bf)(t:bb):Prop:=
 ∀(a:Ψ)(s:ai)(b:aM)(H:ac)(Q:aL),aw X a b H s->t b H Q->am (aE X.prog X.w) X.A (dO e X.env) (ju X a b Q) X.a s
def kx(X:aK)(e:bf)(t:eB):Prop:=
 ∀(a:Ψ)(s:ai)(b:aM)(H:ac)(Q:Bool->ac->Prop),aw X a b H s->t b H Q->am (aE X.prog X.w) X.A (HI e X.env<|dO e X.env) (ES X a b Q) X.a s
def sW(X:aK)(e:bf)(t:eB):Prop:=
 ∀(b:jy aa)(a:Ψ)(s:ai)(c:aM)(H:ac)(Q:Bool->ac->Prop),aw X a c H s->t c H Q->am (aE X.prog X.w) X.A (HI e X.env b) (ES X a c Q) X.a s
def sW.B{e:bf}{t:eB}(h:sW X e t):kx X e t:=h _
def je(X:aK)(d:List bf)(t:ff):Prop:=
 ∀(b:bR)(a:Ψ)(s:ai)(c:aM)(H:ac)(Q:List af->ac->Prop),aw X a c H s->t c H Q->am (aE X.prog X.w) X.A (spliced<|lU b<|eM d X.env) (WK X a c Q) X.a s
def ky(X:aK)(c:bV)(t:fe):Prop:=
 ∀(a:Ψ)(s:ai)(b:aM)(H:ac)(D:kz),aw X a b H s->t D b H->am (aE X.prog X.w) X.A (exec c X.env) (qX X a D) X.a s
def g_(X:aK)(c:List bV)(t:fe):Prop:=
 ∀(a:Ψ)(s:ai)(b:aM)(H:ac)(D:kz),aw X a b H s->t D b H->am (aE X.prog X.w) X.A (execs c X.env) (qX X a D) X.a s
def bI{b:Type}{t:jy b}{Q c:b->ai->Prop}{M:tY}{A:bg}{E:Ω}{s:ai}(h:am M A t Q E s)(d:∀a s,Q a s->c a s):am M A t c E s:=ic h d λ_ _ x=>x
section
variable{X:aK}
inductive bz(i:Nat)(σ:aM)(H:ac)(Q:aL):Prop
 |a:∀v,(σ[i]?=U (U v))->(Q v H)->bz i σ H Q
def dK(v:af):bb:=λ_ H Q=>Q v H
def UC{i:Nat}(o:X.N[i]?=U x)(p:wW X.env.scope x)(j:(x==("__debug__":al))=ao:=by decide)(k:(x==("__classdict__":al))=ao:=by decide):bA X (.Name x g) (bz i):=by
 intro f s q H Q I h;obtain⟨v,e,h⟩:=h;obtain⟨m,t,w⟩:=I.d;obtain⟨u,r,l⟩:=w i x v o e p;have b:ju X f q Q u s:=(v,H,I,r,h);rcases l with ⟨d,y⟩|⟨d,c,n,a⟩
 ·exact PN (wpAny_loadName_local I.a.a d t y b) j
 ·rcases d with d|d
  ·exact PN (wpAny_loadName_cell I.a.a d n a b) j
  ·exact PN (wpAny_loadName_free I.a.a d n a b k) j
def aV{i j a}:bA X (.Constant (.int i) j a) (dK<|.d i):=λ_ _ _ H _ I h=>wpAny_Constant_int (.d i,H,I.N _,(_,O),h)
def gd{b j a}:bA X (.Constant (.bool b) j a) (dK<|.e b):=λ_ _ _ H _ I h=>Constant_bool (.e b,H,I,O,h)
def qL{j a}:bA X (.Constant .none j a) (dK .g):=λ_ _ _ H _ I h=>Constant_none (.g,H,I,O,h)
def dF{x j a}:bA X (.Constant (.str x) j a) (dK<|.f x):=λ_ _ _ H _ I h=>Calls.Constant_str (.f x,H,I.N _,(_,O),h)
def iH(X:aK)(x:al):Prop:=X.env.kindOf x=U .globalImplicit
def uO{s:ai}{Q:Ω}(I:aw X a c H s)(d:iH X x)(e:X.mg x=U u)(h:Q u s)(f:(x==("__debug__":al))=ao:=by decide):am (aE X.prog X.w) X.A (dO (.Name x b) X.env) Q E s:=
 afi I.a.a d (Calls.loadGlobal_global (by rw[I.a.f];exact I.B7.b.keeps I.bk) e h) f
def oQ{s:ai}{Q:Ω}(I:aw X a c H s)(d:iH X x)(e:X.mg x=Z)(f:ig x=U u)(h:Q u s)(g:x≠"__name__":=by decide)(i:(x==("__debug__":al))=ao:=by decide):am (aE X.prog X.w) X.A (dO (.Name x b) X.env) Q E s:=by
 obtain⟨l,j,k⟩:=I.B7.d;exact afi I.a.a d (Calls.loadGlobal_builtin (by rw[I.a.f];exact I.B7.b.keeps I.bk) e (by rw[I.a.l];exact j.keeps I.bk) ((k x g).trans f) h) i
def oN(b:iH X x)(c:X.mg x=U u)(r:cb v u)(hd:(x==("__debug__":al))=ao:=by decide):bA X (.Name x a) (dK v):=
 λ_ _ _ H _ I h=>uO I b c (v,H,I,r,h) hd
def UP(b:iH X x)(c:X.mg x=Z)(d:ig x=U u)(r:cb v u)(e:x≠"__name__":=by decide)(f:(x==("__debug__":al))=ao:=by decide):bA X (.Name x a) (dK v):=
 λ_ _ _ H _ I h=>oQ I b c d (v,H,I,r,h) e f
variable{a b:bf}{ta tb:bb}{pos:bR}
def Ad(X:aK)(g:ue)(a b:bf)(t:bb):Prop:=
 ∀(c:Ψ)(s:ai)(f:aM)(H:ac)(Q:aL),aw X c f H s->t f H Q->
  am (aE X.prog X.w) X.A (dO a X.env) (λv d=>am (aE X.prog X.w) X.A (dO b X.env) (λu e=>am (aE X.prog X.w) X.A (gu g v u) (ju X c f Q) X.a e) X.a d) X.a s
def LH(b:bf){a:ue}(h:a≠.In)(c:a≠.NotIn):tR a b=ao:=by
 have d:(a==yw)=ao:=by cases a<;>first|rfl|exact aZ O h
 have e:(a==ud)=ao:=by cases a<;>first|rfl|exact aZ O c
 cases b<;>simp[tR,d,e]
def zu(t:bb):eB:=λa H Q=>t a H λx b=>∃c,x=.e c/\Q c b
def UN{t:bb}(h:Ad X d a b t)(e:tR d b=ao:=by first|exact LH _ ξ ξ|rfl):bA X (.Compare a [d] [b] pos) t:=λc s f H Q I g=>wpAny_Compare1 (h c s f H Q I g) e
def Et{t:bb}(h:Ad X f a b t)(g:tR f b=ao:=by first|exact LH _ ξ ξ|rfl):kx X (.Compare a [f] [b] pos) (zu t):=by
 intro e s i H Q I j;refine ac5 (bI (h e s i H _ I j) λv p g=>bI g λu r k=>bI k λc w (x,l,m,n,o)=>?_) g;obtain⟨d,rfl,q⟩:=o;cases n;exact vE (l,m,q)
def oF{e:bf}{t:bb}(h:bA X e t)(c:∀a,HI e X.env a=(do let v <-a;standAt e.pos;qj [v] (truthy v)):=by intro _;rfl):kx X e (zu t):=by
 intro b s f H Q I g;refine isTrue_plain (bI (h b s f H _ I g) λv m (x,i,j,k,l)=>?_)<|c _;obtain⟨d,rfl,q⟩:=l;cases k;exact vE (i,j,q)
variable{tA tB':eB}{rest:List bf}
def KH(t u:eB):eB:=λa H Q=>t a H λc b=>if c=ae then u a b Q else Q ao b
def KC(t u:eB):eB:=λa H Q=>t a H λc b=>if c=ae then Q ae b else u a b Q
def TN(t:eB):eB:=λa H Q=>t a H λc b=>Q (!c) b
def Up(d:kx X a tA):sW X (.BoolOp .And [a] pos) tA:=by
 intro g b s f H Q I h;refine isTrue_and<|bI (d b s f H Q I h) λc i e=>?_;cases c with
 |true=>exact isTrue_and_nil e
 |false=>exact e
def sG(d:kx X a tA):sW X (.BoolOp .Or [a] pos) tA:=by
 intro g b s f H Q I h;refine isTrue_or<|bI (d b s f H Q I h) λc i e=>?_;cases c with
 |false=>exact isTrue_or_nil e
 |true=>exact e
def Uq(j:kx X a tA)(k:sW X (.BoolOp .And (b::rest) pos) tB'):sW X (.BoolOp .And (a::b::rest) pos) (KH tA tB'):=by
 intro l d s e H Q I h;refine isTrue_and<|bI (j d s e H _ I h) λc m (f,g,i)=>?_;cases c with
 |true=>exact k l d m e f Q g i
 |false=>exact(f,g,i)
def sH(j:kx X a tA)(k:sW X (.BoolOp .Or (b::rest) pos) tB'):sW X (.BoolOp .Or (a::b::rest) pos) (KC tA tB'):=by
 intro l d s e H Q I h;refine isTrue_or<|bI (j d s e H _ I h) λc m (f,g,i)=>?_;cases c with
 |true=>exact(f,g,i)
 |false=>exact k l d m e f Q g i
def mR(d:kx X a tA):kx X (.UnaryOp .Not a pos) (TN tA):=by
 intro b s e H Q I h;exact isTrue_not<|d b s e H (λc f=>Q (!c) f) I h
def KF(t:eB)(ta tb:bb):bb:=λa H Q=>t a H λc b=>if c=ae then ta a b Q else tb a b Q
def Ex(l:kx X c tA)(m:bA X a ta)(n:bA X b tb):bA X (.IfExp c a b pos) (KF tA ta tb):=by
 intro e s f H Q I h;refine wpAny_IfExp<|bI (l e s f H _ I h) λd g (i,j,k)=>?_;cases d with
 |true=>exact m e g f i Q j k
 |false=>exact n e g f i Q j k
end
def bx(K:aH)(H:ac)(a:V)(c:List af):Prop:=
 bX H a (.a c) \/
  ∃(o:aR)(b:Array aa)(n:Nat),K.lookup a=U o/\o.cls=.type "list"/\o.dict=Z/\o.data=.seq b n/\b.size<=bG/\bW c b.toList
def fm(K:aH)(H:ac)(a:V)(c:List af):Prop:=
 bX H a (.b c) \/
  ∃(o:aR)(b:Array aa)(n:Nat),K.lookup a=U o/\o.cls=.type "tuple"/\o.data=.seq b n/\b.size<=bG/\bW c b.toList
def WB:aa->Option af
 |.none=>U .g
 |.bool b=>U (.e b)
 |.int i _=>U (.d i)
 |.str x _=>U (.f x)
 |.bytes b _=>U (.h b)
 |.float b _=>U (.k b)
 |.ref a=>U (.c a)
 |.type n=>U (.j n)
 |_=>Z
def cb.B(r:cb x u):WB u=U x:=by
 cases x with
 |g=>cases r;rfl
 |e _=>cases r;rfl
 |d _=>obtain⟨t,rfl⟩:=r;rfl
 |f _=>obtain⟨t,rfl⟩:=r;rfl
 |h _=>obtain⟨t,rfl⟩:=r;rfl
 |k _=>obtain⟨t,rfl⟩:=r;rfl
 |c _=>cases r;rfl
 |j _=>cases r;rfl
def cb.F(r:cb x u)(q:cb y u):x=y:=ca<|r.B.symm.trans q.B
def bW.A4(h:bW b c)(g:bW a c):b=a:=by
 induction h generalizing a with
 |nil=>cases g;rfl
 |cons r t d=>cases g with|cons e f=>rw[r.F e,d f]
section
variable{X:aK}{pins:Ψ}{σ:aM}{H:ac}{s:ai}{a:V}{xs ys:List af}
def bx.B{K:aH}(h:H a=U (.a xs)):bx K H a xs:=.inl<|.inl h
def fm.B{K:aH}(h:H a=U (.b xs)):fm K H a xs:=.inl<|.inl h
def aw.B(I:aw X pins σ H s)(h:bx X.K H a xs):∃b:List aa,bW xs b/\PlainL s.heap a b.toArray/\xs.length<=bG:=by
 rcases h with h|⟨o,b,n,c,d,f,g,i,r⟩
 ·obtain⟨z,b,n,r,e⟩:=h.F I.b
  exact(b,r,(_,n,e,O,O,O),z)
 ·refine(b.toList,r,(o,n,I.A2 a o c,d,f,by simpa using g),?_)
  have e:=r.B;simp only[i_] at e;exact à (å e) i
def aw.J(I:aw X pins σ H s)(h:fm X.K H a xs):∃b:List aa,bW xs b/\jL s.heap a b.toArray/\xs.length<=bG:=by
 rcases h with h|⟨o,b,n,c,d,f,g,r⟩
 ·obtain⟨z,b,r,p⟩:=h.F I.b
  exact(b,r,p,z)
 ·refine(b.toList,r,(o,I.A2 a o c,d,n,by simpa using f),?_)
  have e:=r.B;simp only[i_] at e;exact à (å e) g
def aw.B8(I:aw X pins σ H s)(h:bx X.K H a xs)(i:bx X.K H a ys):xs=ys:=by
 obtain⟨c,r,⟨o,n,e,_,_,d⟩,_⟩:=I.B h;obtain⟨b,j,⟨k,l,f,_,_,g⟩,_⟩:=I.B i;rw[e] at f;cases f;rw[d] at g;injection g with d1 _
 have:c=b:=by simpa using gD iD d1
 subst this;exact r.A4 j
def aw.B0(I:aw X pins σ H s)(h:fm X.K H a xs)(i:fm X.K H a ys):xs=ys:=by
 obtain⟨c,r,⟨o,e,_,n,d⟩,_⟩:=I.J h;obtain⟨b,j,⟨k,f,_,l,g⟩,_⟩:=I.J i;rw[e] at f;cases f;rw[d] at g;injection g with d1 _
 have:c=b:=by simpa using gD iD d1
 subst this;exact r.A4 j
end
abbrev aK.W(X:aK)(E:Ω):aK:={X with a:=E}
abbrev aK.F(X:aK):aK:=X.W λ_ _=>False
def aK.J.F{X:aK}(a:X.J)(E:Ω):(X.W E).J:=
 (a.e,a.a,a.f,a.l,a.d,a.n,a.has,a.k,a.hd,a.j,a.q,a.r,a.bs,a.i,a.h,a.p,a.g,a.m)
def aK.J.J{X:aK}(a:(X.W E).J):X.J:=
 (a.e,a.a,a.f,a.l,a.d,a.n,a.has,a.k,a.hd,a.j,a.q,a.r,a.bs,a.i,a.h,a.p,a.g,a.m)
section
variable{X:aK}{pins:Ψ}{σ:aM}{H:ac}{s:ai}{E:Ω}
def aw.D7(I:aw X pins σ H s)(E:Ω):aw (X.W E) pins σ H s:=(I.a.F E,I.k,I.e,I.base,I.d,I.g,I.h,I.j,I.f,I.b,I.l)
def aw.B6(I:aw (X.W E) pins σ H s):aw X pins σ H s:=(I.a.J,I.k,I.e,I.base,I.d,I.g,I.h,I.j,I.f,I.b,I.l)
def qX.F(h:qX (X.W E) pins D f c):qX X pins D f c:=by
 cases f with
 |next=>obtain⟨a,b,I,q⟩:=h;exact(a,b,I.B6,q)
 |brk=>obtain⟨a,b,I,q⟩:=h;exact(a,b,I.B6,q)
 |cont=>obtain⟨a,b,I,q⟩:=h;exact(a,b,I.B6,q)
 |ret u=>obtain⟨v,a,b,I,r,q⟩:=h;exact(v,a,b,I.B6,r,q)
def g_.B{t:fe}(h:g_ X.F a t):g_ X a t:=λpins s σ H D I b=>
 ic (h pins s σ H D (I.D7 _) b) (λ_ _ q=>q.F) λ_ _ z=>dm z
end
section
variable{X:aK}{st:bV}{rest:List bV}{t u:fe}{e:bf}{te:bb}{pos:bR}
def KD:fe:=λD a H=>D.a a H
def KB(t u:fe):fe:=λD a H=>t {D with a:=u D} a H
def dq:g_ X [] KD:=λ_ _ a H _ I h=>BY (a,H,I,h)
def aY(c:ky X st t)(d:g_ X rest u):g_ X (st::rest) (KB t u):=by
 intro a s e H D I h;refine ac8<|bI (c a s e H {D with a:=u D} I h) λf g q=>?_;cases f with
 |next=>
  obtain⟨b,i,j,q⟩:=q;exact d a g b i D j q
 |ret v=>exact q
 |brk=>exact q
 |cont=>exact q
def be(b:ky X st t):g_ X [st] t:=by
 intro a s c H D I h;refine ac8<|bI (b a s c H D I h) λf d q=>?_;cases f with
 |next=>exact BY q
 |ret v=>exact q
 |brk=>exact q
 |cont=>exact q
def TZ:fe:=λD a H=>D.c a H
def Ux:ky X (.Break pos) TZ:=λ_ _ a H _ I h=>wpAny_Break (a,H,I,h)
def aw.E3{a:Ψ}{b:aM}{s:ai}(I:aw X a b H s):interactive X.env=ao:=by simp[interactive,I.a.a]
def TU(te:bb):fe:=λD a H=>te a H λ_ b=>D.a a b
def eW(c:bA X e te)(d:ya e Z pos.line X.env=bH ao:=by rfl):ky X (.Expr e pos) (TU te):=by
 intro a s b H D I h;exact wpAny_Expr_any (bI (c a s b H _ I h) λv j (x,f,g,k,i)=>(b,f,g,i)) I.E3 d
def TL(te:bb):fe:=λD a H=>te a H D.b
def cp(c:bA X e te):ky X (.Return (U e) pos) (TL te):=by
 intro a s b H D I h;exact wpAny_Return_some<|bI (c a s b H _ I h) λv j (x,d,f,g,i)=>(x,b,d,f,g,i)
def Ee(c:eB)(t u:fe):fe:=λD a H=>c a H λb d=>if b=ae then t D a d else u D a d
def dh(m:kx X c g)(n:g_ X a t)(o:g_ X b u):ky X (.If c a b pos) (Ee g t u):=by
 intro e s f H D I h;refine wpAny_If<|bI (m e s f H _ I h) λd i (j,k,l)=>?_;cases d with
 |true=>exact n e i f j D k l
 |false=>exact o e i f j D k l
def TP:fe:=λ_ _ _=>False
def lL:g_ X a TP:=λ_ _ _ _ _ _ h=>h.elim
end
abbrev gY:=af->aM->ac->(aM->ac->Prop)->Prop
abbrev sU:=List af->aM->ac->(aM->ac->Prop)->Prop
def lQ(X:aK)(a:bf)(t:gY):Prop:=
 ∀(b:Ψ)(s:ai)(d:aM)(H:ac)(v:af)(u:aa)(Q:aM->ac->Prop),aw X b d H s->cb v u->t v d H Q->
  am (aE X.prog X.w) X.A (vK a X.env u) (λ_ f=>∃c e,aw X b c e f/\Q c e) X.a s
def Ac(X:aK)(g:List bf)(t:sU):Prop:=
 ∀(a:Ψ)(s:ai)(c:aM)(H:ac)(d:List af)(e:List aa)(Q:aM->ac->Prop),aw X a c H s->bW d e->t d c H Q->
  am (aE X.prog X.w) X.A (assignInOrder ((yg g X.env).map (·.2)) e) (λ_ h=>∃b f,aw X a b f h/\Q b f) X.a s
abbrev ER:=af->af->af->ac->(ac->Prop)->Prop
def MX(X:aK)(t:ER):Prop:=
 ∀(a:Ψ)(s:ai)(b:aM)(H:ac)(o i v:af)(c d u:aa)(Q:ac->Prop),aw X a b H s->cb o c->cb i d->cb v u->t o i v H Q->
  am (aE X.prog X.w) X.A (setItem c d u) (λ_ f=>∃e,aw X a b e f/\Q e) X.a s
section
variable{X:aK}{pos:bR}
def eA(i:Nat):gY:=λv a H Q=>Q (a.set i<|U v) H
def cB{i:Nat}(b:X.N.Nodup)(c:X.N[i]?=U x)(d:sY X.env.scope x)(e:X.g x=ae\/X.env.scope.names.lookup x=U .local:=by first|exact .inl rfl|exact .inr rfl|assumption):lQ X (.Name x pos) (eA i):=by
 intro a s g H v u Q I r h;exact ada<|zv I b c d r (λj f=>(_,H,f,h)) e
def zV:sU:=λa b H Q=>a=[]/\Q b H
def sM(t:gY)(u:sU):sU:=λb c H Q=>∃v r,b=v::r/\t v c H λa d=>u r a d Q
def wE:Ac X [] zV:=by
 intro a s b H c d Q I r h;obtain⟨e,h⟩:=h;subst e;cases r;exact assignInOrder_nil (b,H,I,h)
def oK{e:bf}{t:gY}(d:lQ X e t)(f:Ac X b u)(g:(yg (e::b) X.env).map (·.2)=vK e X.env::(yg b X.env).map (·.2):=by rfl):Ac X (e::b) (sM t u):=by
 intro a s i H p q Q I r h;obtain⟨v,w,j,h⟩:=h;subst j;cases r with
 |cons r k=>
  rw[g];refine assignInOrder_cons<|bI (d a s i H _ _ _ I r h) λ_ l (c,m,n,o)=>?_;exact f a l c m _ _ Q n k o
def zU(K:aH)(n:Nat)(t:sU):gY:=λv c H Q=>∃a b,v=.c a/\fm K H a b/\b.length=n/\t b c H Q
def wF{k:Nat}{t:sU}{n:Nat}(l:X.b=ae)(h:Ac X d t)(m:(yg d X.env).length=n:=by rfl)(f:(yg d X.env).findIdx? (·.1)=Z:=by rfl):lQ X (.Tuple d k pos) (zU X.K n t):=by
 intro c s i H v u Q I r g;obtain⟨a,p,q,w,x,g⟩:=g;subst q;cases r;obtain⟨y,j,z,E⟩:=I.J w;refine assign_Tuple_tuple (I.a.hd l) z (by simp[m,<-x,j.B]) f λA C=>?_;have D:aw X c i H {s with heap:=A}:=I.W (t':=s.toks) λb o e=>C b o (ck<|bT e) e;exact h c _ i H p _ Q D (by simpa using j) g
def VN(b c:bb)(t:ER):gY:=λv a H Q=>b a H λo d=>c a d λi e=>t o i v e λf=>Q a f
def Lt{o i:bf}{e f:bb}{t:ER}(g:bA X o e)(j:bA X i f)(k:MX X t)(l:∀v,vK (.Subscript o i pos) X.env v=(do
   let b <-qj [v] (dO o X.env)
   let c <-qj [v,b] (dO i X.env)
   standAt pos
   qj [v,b,c] (setItem b c v)
   release [v,b,c] []):=by intro _;rfl):lQ X (.Subscript o i pos) (VN e f t):=by
 intro a s d H v u Q I r h;rw[l];refine ag<|fz<|bI (g a s d H _ I h) λb m (x,n,p,q,w)=>?_;refine ag<|fz<|bI (j a m d n _ p w) λc z (y,A,C,D,E)=>?_;refine ag<|PD<|ag<|fz<|bI (k a z d A x y v b c u _ C q D r E) λ_ M (G,K,L)=>?_;exact wpAny_release (d,G,K,L)
def uI(b:bb)(g:gY):fe:=λD a H=>b a H λx c=>g x a c D.a
def Ln{b e:bf}(f:bA X e c)(i:lQ X b g)(j:swapsWithSole [b] e pos.line X.env=bH ao:=by rfl)(hw:swappedStores [b] e X.env=bH Z:=by rfl)(k:(yg [b] X.env).map (·.2)=[vK b X.env]:=by rfl):ky X (.Assign [b] e pos) (uI c g):=by
 intro a s d H D I h;refine wpAny_Assign_stores (bI (f a s d H _ I h) λv l (x,m,n,o,p)=>?_) j hw;rw[k];exact bI (i a l d m x v _ n o p) λ_ r q=>q
def cJ{i:Nat}{e:bf}(d:X.N.Nodup)(f:X.N[i]?=U x)(g:sY X.env.scope x)(j:bA X e c)(k:ya e (U<|.Name x a) pos.line X.env=bH ao:=by rfl)(l:X.g x=ae\/X.env.scope.names.lookup x=U .local:=by first|exact .inl rfl|exact .inr rfl|assumption):ky X (.Assign [.Name x a] e pos) (uI c<|eA i):=by
 intro b s m H D I h;refine wpAny_Assign_Name (bI (j b s m H _ I h) λv t (y,n,o,p,q)=>?_) k;exact zv o d f g p (λu r=>(_,n,r,q)) l
end
section
variable{X:aK}{pos:bR}
def TE(c:eB)(h:fe):fe:=λD a H=>∃i:Nat->aM->ac->Prop,(∃m,i m a H)/\∀m a H,i m a H->
 c a H λb e=>if b=ae then ∃j:aM->ac->Prop,(∀d f,j d f->∃g,g<m/\i g d f)/\h {D with a:=j,d:=j,c:=D.a} a e else D.a a e
def Lm{body:List bV}{t:eB}(w:PassesOwn (aE X.prog X.w) X.A X.env X.a)(E:kx X c t)(G:g_ X body u):ky X (.While c body [] pos) (TE t u):=by
 intro a s K H D I h;obtain⟨a0,⟨L,M⟩,g⟩:=h;refine wpAny_While<|codeAny_whileLoop (λn P=>∃i x,aw X a i x P/\a0 n i x) ?_ L (K,H,I,M);rintro n Q ⟨e,y,R,S⟩;refine vF w<|bI (E a Q e y _ R<|g n e y S) λb T (z,A,k)=>?_;cases b with
 |true=>
  obtain⟨a1,C,k⟩:=k;rw[aB O];refine vF w<|bI (G a T e z _ A k) λf s3 l=>?_;cases f with
  |next=>
   obtain⟨d,j,m,o⟩:=l;obtain⟨p,q,r⟩:=C d j o;exact(p,q,d,j,m,r)
  |cont=>
   obtain⟨d,j,m,o⟩:=l;obtain⟨p,q,r⟩:=C d j o;exact(p,q,d,j,m,r)
  |brk=>exact l
  |ret v=>exact l
 |false=>
  rw[au eP];exact BY (e,z,A,k)
end
structure jt where
 a:Nat->ac->Prop
 c:Nat->ac->af->ac->Prop
 b:Nat->ac->Prop
def fQ(X:aK)(a:Ψ)(H:ac)(b:V):Prop:=
 H b=Z/\b≠X.env.locals/\b∉X.B/\(b∈X.e\/X.d⁻¹<=b)/\(∀x c,X.env.cells.lookup x=U c->c≠b)/\∀p∈X.f++a,p.1≠b
def aw.A0{a:Ψ}{g:aM}{H f:ac}{s:ai}{b:V}(I:aw X a g H s)(d:s⁻¹<=b)(h:f b=Z):fQ X a f b:=by
 refine(h,iM<|fB I.lt d,I.E0 d,.inr<|dE I.sz d,λx c e z=>?_,λp i z=>?_)
 ·obtain⟨v,q⟩:=I.g x c e
  exact aZ (fB q.lt (by rw[z];exact d))<|oj _
 ·exact aZ (fB (bT (I.f p i).1) (by rw[z];exact d))<|oj _
structure pS(P:aU)(w:aO)(K:aH)(tg:bf)(J:jt)(fp:List V)(it:V)(tn:Nat->aI->Prop):Prop where
 f:it∈fp
 a:∀i h,tn i h->∀b∈fp,∃o,h.get? b=U o/\∀v,o.data≠.cell v
 c:∀i h h',tn i h->(∀b∈fp,∀o,h.get? b=U o->h'.get? b=U o)->tn i h'
 d:∀(X:aK),X.prog=P->X.w=w->X.K=K->X.b=ae->∀(i:Nat)(pins:Ψ)(s:ai)(σ:aM)(H:ac)(E:Ω),aw X pins σ H s->(∀b∈fp,fQ X pins H b)->tn i s.heap->J.a i H->
  am (aE P w) X.A (jh<|.ref it) (λr s1=>∃u,r=U u/\
   am (aE P w) X.A (Qf tg (.ref it) u) (λ_ s2=>∃x H',aw X pins σ H' s2/\cb x u/\J.c i H x H'/\tn (i+1) s2.heap/\∀b∈fp,H' b=Z) E s1) E s
 done:∀(X:aK),X.prog=P->X.w=w->X.K=K->X.b=ae->∀(i:Nat)(pins:Ψ)(s:ai)(σ:aM)(H:ac)(E:Ω),aw X pins σ H s->(∀b∈fp,fQ X pins H b)->tn i s.heap->J.b i H->
  am (aE P w) X.A (jh<|.ref it) (λr s1=>r=Z/\aw X pins σ H s1) E s
 e:∀(A:bg)(i:Nat)(s:ai)(Q:Ω)(E:Ω),tn i s.heap->Q (.ref it) s->am (aE P w) A (qi<|.ref it) Q E s
abbrev kw:=aM->ac->(jt->ac->Prop)->Prop
def ET(X:aK)(a:Ψ)(i:aM)(j:bf)(R:jt->ac->Prop)(c:aa)(e:ai):Prop:=
 ∃(f:V)(g:List V)(h:Nat->aI->Prop)(k:jt)(d:ac),c=.ref f/\aw X a i d e/\pS X.prog X.w X.K j k g f h/\h 0 e.heap/\(∀b∈g,fQ X a d b)/\R k d
def kX(X:aK)(d b:bf)(e:kw):Prop:=
 ∀(a:Ψ)(s:ai)(c:aM)(H:ac)(R:jt->ac->Prop),aw X a c H s->e c H R->
  am (aE X.prog X.w) X.A (dO b X.env) (λv f=>am (aE X.prog X.w) X.A (qi v) (ET X a c d R) X.a f) X.a s
def wN{s:ai}{n:String}{Q:Unit->ai->Prop}(e:s.heap.get? c=U o)(f:o.cls=.type n)(g:o.data=.fields d)(i:["enumerate","zip","dict_itemiterator","dict_reverseitemiterator","odict_iterator","itertools.zip_longest","itertools.pairwise"].contains n=ao)(a:Q () s):am M A (Qf b (.ref c) u) Q E s:=by
 unfold Qf;cases b<;>first
  |exact aC a
  |(cases u<;>first
    |exact aC a
    |(refine ag<|wpAny_load e ?_;rw[f,g];show am M A (if(["enumerate","zip","dict_itemiterator","dict_reverseitemiterator","odict_iterator","itertools.zip_longest","itertools.pairwise"].contains n&&d[0]?==U (dY _))=ae then _ else _) Q E s;rw[au (by intro h;rw[i,sf] at h;cases h)];exact aC a))
def im(K:aH)(a:V):jt:=
 (λi H=>∃b x,bx K H a b/\b[i]?=U x,λi H x c=>c=H/\∀b,bx K H a b->b[i]?=U x,λi H=>∃b,bx K H a b/\b.length<=i)
def sZ(K:aH)(a:V):jt:=
 (λi H=>∃b x,fm K H a b/\b[i]?=U x,λi H x c=>c=H/\∀b,fm K H a b->b[i]?=U x,λi H=>∃b,fm K H a b/\b.length<=i)
def mV(a:Int)(n:Nat):jt:=(λi _=>i<n,λi H x b=>b=H/\x=.d (a+i),λi _=>n<=i)
def Tx{K:aH}(a j:V):pS P w K tg (im K a) [j] j (λi h=>h.IsListIter j a i) where
 f:=by simp
 a:=λi h f b l=>by
  have e:b=j:=by simpa using l
  subst e;obtain⟨o,e,c,d⟩:=f;exact(o,e,λv z=>by rw[d] at z;cases z)
 c:=λi h n f k=>f.at λo e=>k j (by simp) o e
 d:=by
  intro X t y A hc i g s σ H E I q f C;subst t y A;obtain⟨xs,x,r,D⟩:=C;obtain⟨G,L,p,hz⟩:=I.B r;obtain⟨u,hu,ru⟩:=L.J D;obtain⟨M,Q,f2,R,S,T⟩:=q j (by simp);refine wpAny_pyNext_list_item f p.isList (x:=u) (by simpa using hu) λn m sb=>?_;have I1:aw X g σ H {s with heap:=n}:=I.A5 (t':=s.toks) (λb o l e=>(sb.2 b l).trans e) M Q R S T;obtain⟨o,e,c,d⟩:=id m;exact(u,O,wN (s:={s with heap:=n}) e c d ξ (x,H,I1,ru,(O,λys hy=>by rw[I.B8 hy r];exact D),m,λb l=>(q b l).1))
 done:=by
  intro X t y A hc i g s σ H E I q f C;subst t y A;obtain⟨xs,r,D⟩:=C;obtain⟨G,L,p,hz⟩:=I.B r;obtain⟨M,Q,f2,R,S,T⟩:=q j (by simp);have hl:=L.B;exact wpAny_pyNext_list_end (I.a.hd hc) f p.isList (by simp;exact à (æ hl) D) λn eb=>(O,I.A5 (t':=s.toks) (λb o l e=>eb b o l e) M Q R S T)
 e:=λ_ _ _ _ _ f h=>wpAny_pyIter_listiter f h
def Tv{K:aH}(a j:V):pS P w K tg (sZ K a) [j] j (λi h=>h.IsTupleIter j a i) where
 f:=by simp
 a:=λi h f b l=>by
  have e:b=j:=by simpa using l
  subst e;obtain⟨o,e,c,d⟩:=f;exact(o,e,λv z=>by rw[d] at z;cases z)
 c:=λi h q f k=>f.at λo e=>k j (by simp) o e
 d:=by
  intro X y A C hc i g s σ H E I r f D;subst y A C;obtain⟨xs,x,t,G⟩:=D;obtain⟨m,L,p,hz⟩:=I.J t;obtain⟨u,hu,ru⟩:=L.J G;obtain⟨M,Q,f2,R,S,T⟩:=r j (by simp);refine wpAny_pyNext_tuple_item f (show s.heap.IsTuple a m.toArray from p) (x:=u) (by simpa using hu) λq n sb=>?_;have I1:aw X g σ H {s with heap:=q}:=I.A5 (t':=s.toks) (λb o l e=>(sb.2 b l).trans e) M Q R S T;obtain⟨o,e,c,d⟩:=id n;exact(u,O,wN (s:={s with heap:=q}) e c d ξ (x,H,I1,ru,(O,λys hy=>by rw[I.B0 hy t];exact G),n,λb l=>(r b l).1))
 done:=by
  intro X y A C hc i g s σ H E I r f D;subst y A C;obtain⟨xs,t,G⟩:=D;obtain⟨m,L,p,hz⟩:=I.J t;obtain⟨M,Q,f2,R,S,T⟩:=r j (by simp);have hl:=L.B;exact wpAny_pyNext_tuple_end (I.a.hd hc) f (show s.heap.IsTuple a m.toArray from p) (by simp;exact à (æ hl) G) λq eb=>(O,I.A5 (t':=s.toks) (λb o l e=>eb b o l e) M Q R S T)
 e:=λ_ _ _ _ _ f h=>wpAny_pyIter_tupleiter f h
def Tw{K:aH}(c:V)(j:Int)(n:Nat):pS P w K Q (mV j n) [c] c (λi h=>IsRangeIter h c (j+(i:Nat)*1) ((n:Int)-(i:Nat)) 1) where
 f:=by simp
 a:=λi h a b f=>by
  have e:b=c:=by simpa using f
  subst e;exact(_,a,λv z=>by
   have R:dp _=uc v:=z;cases R)
 c:=λi h l a k=>k c (by simp) _ a
 d:=by
  intro X p q r u i d s L H E I m a x;subst p q r;obtain⟨y,A,S,C,D,G⟩:=m c (by simp);have a0:=Walks.range (prog:=X.prog) (w:=X.w) (I.a.hd u) c j 1 n;refine a0.item i s _ _ x a λv l M T g kk=>?_;obtain⟨t,rfl⟩:=T;have I1:aw X d L H {s with heap:=l,toks:=M}:=I.A5 (λb o f e=>kk b o (by simpa using f) e) y A C D G;refine(_,O,wN (s:={s with heap:=l,toks:=M}) (n:="range_iterator") g O O ξ (.d<|j+i,H,I1,(t,?_),(O,O),g,λb f=>(m b f).1));rw[ahx]
 done:=by
  intro X p q r u i d s L H E I m a x;subst p q r;obtain⟨y,A,S,C,D,G⟩:=m c (by simp);exact wpAny_pyNext_range_end (I.a.hd u) a (by have:n<=i:=x;omega) λl eb=>(O,I.A5 (t':=s.toks) (λb o f e=>eb b o f e) y A C D G)
 e:=λ_ _ _ _ _ a h=>wpAny_pyIter_rangeiter a h
section
variable{X:aK}{tg:bf}
inductive MN(K:aH)(x:af)(R:jt->ac->Prop)(H:ac):Prop
 |b:∀a,(x=.c a)->(∃xs,bx K H a xs)->R (im K a) H->MN K x R H
def LW(K:aH)(a:bb):kw:=λb H R=>a b H λx c=>MN K x R c
def VF(K:aH)(c:bb):kw:=λd H R=>c d H λx b=>∃a,x=.c a/\(∃e,fm K b a e)/\R (sZ K a) b
def eG(i:bA X l g):kX X tg l (LW X.K g):=by
 intro c s j H R I h;refine bI (i c s j H _ I h) λv d (x,k,f,m,n)=>?_;obtain⟨a,e,⟨w,r⟩,q⟩:=n;subst e;cases m;obtain⟨t,y,p,z⟩:=f.B r;refine xY p.isList ?_;refine(d⁻¹,[d⁻¹],_,_,k,O,f.W (t':=d.toks) λb o e=>bJ _ e,Tx a _,(_,dv _ O,O,O),λb u=>?_,q);have e:b=d⁻¹:=by simpa using u
 subst e;exact f.A0 (bc _)<|f.b.B<|bc _
def Eu{i:bb}(j:bA X l i):kX X tg l (VF X.K i):=by
 intro c s k H R I h;refine bI (j c s k H _ I h) λv d (x,m,f,n,r)=>?_;obtain⟨a,e,⟨w,t⟩,q⟩:=r;subst e;cases n;obtain⟨g,y,p,z⟩:=f.J t;refine PG (show d.heap.IsTuple a g.toArray from p) ?_;refine(d⁻¹,[d⁻¹],_,_,m,O,f.W (t':=d.toks) λb o e=>bJ _ e,Tv a _,(_,dv _ O,O,O),λb u=>?_,q);have e:b=d⁻¹:=by simpa using u
 subst e;exact f.A0 (bc _)<|f.b.B<|bc _
def Ul{s:ai}{R:jt->ac->Prop}{a c:Int}{t u v:ga}{g:Nat}(I:aw X d f H s)(i:-(2 ^ 62)<=a)(j:a<2 ^ 62)(k:-(2 ^ 62)<=c)(l:c<2 ^ 62)(q:R (mV a (c-a).toNat) H):am (aE X.prog X.w) X.A (qi<|.ref s⁻¹) (ET X d f tg R) E {s with heap:=s.heap.push {cls:=.type "range",data:=.fields #[.int a t,.int c u,.int 1 v]},toks:=g}:=by
 refine wpAny_pyIter_range (IsRange.new ..) (small_one i j k l) ?_;have h:aw X d f H {s with heap:=s.heap.push {cls:=.type "range",data:=.fields #[.int a t,.int c u,.int 1 v]},toks:=g}:=I.W λb o e=>bJ _ e;refine((s.heap.push {cls:=.type "range",data:=.fields #[.int a t,.int c u,.int 1 v]}).objs.size,[(s.heap.push {cls:=.type "range",data:=.fields #[.int a t,.int c u,.int 1 v]}).objs.size],_,_,H,O,
  h.W (t':=g) λb o e=>bJ _ e,Tw _ a (c-a).toNat,?_,λb m=>?_,q)
 ·have n:a+((0:Nat):Int)*1=a:=by simp
  have p:(((c-a).toNat:Nat):Int)-((0:Nat):Int)=afm a c 1:=by rw[rangeSize_one];split<;>omega
  show IsRangeIter _ _ (a+((0:Nat):Int)*1) ((((c-a).toNat:Nat):Int)-((0:Nat):Int)) 1;rw[n,p];exact dv _ O
 ·have e:b=(s.heap.push {cls:=.type "range",data:=.fields #[.int a t,.int c u,.int 1 v]}).objs.size:=by simpa using m
  subst e;exact h.A0 (bc _)<|h.b.B<|bc _
inductive ML(vs:List af)(R:jt->ac->Prop)(H:ac):Prop
 |a:∀j:Int,(vs=[.d j])->(-(2 ^ 62)<=j)->(j<2 ^ 62)->R (mV 0 j.toNat) H->ML vs R H
def VH(a:ff):kw:=λb H R=>a b H λc d=>ML c R d
def qK{a:bf}{p b:bR}(g:iH X "range")(i:X.mg "range"=Z)(k:je X [a] f)(l:eM [a] X.env=[(adc ao (dO a X.env))]:=by rfl):kX X tg (.Call (.Name "range" p) [a] [] b) (VH f):=by
 intro c s m H R I h;refine Call_<|oQ I g i boot_range<|IS (bI (k b c s m H _ I h) λw x (y,z,n,o,d)=>?_) l O;obtain⟨j,e,d,u,q⟩:=d;subst e;cases o with
 |cons r v=>
  cases v;obtain⟨t,rfl⟩:=r;exact call_range_1<|Ul n ω ω d u (by simpa using q)
def TT(f:kw)(g:gY)(h:fe):fe:=λD a H=>f a H λl j=>∃n:Nat->Nat->aM->ac->Prop,(∃m,n 0 m a j)/\∀i m a H,n i m a H->
 (l.b i H/\D.a a H)\/(l.a i H/\∃o:aM->ac->Prop,(∀b c,o b c->∃e,e<m/\n (i+1) e b c)/\∀x c,l.c i H x c->g x a c λd k=>h {D with a:=o,d:=o,c:=D.a} d k)
def wD(a:List V)(h:aI):Ψ:=a.filterMap λb=>(h.get? b).map λo=>(adc b o)
def zQ{a:List V}{h:aI}{b:V}(c:b∈a)(e:h.get? b=U o):(adc b o)∈wD a h:=Rv.mpr (b,c,by rw[e];rfl)
def UZ{p:V×aR}(c:p∈wD a h):p.1∈a/\h.get? p.1=U p.2:=by
 obtain⟨b,d,e⟩:=Rv.mp c;cases q:h.get? b with
 |none=>rw[q] at e;cases e
 |some o=>
  rw[q] at e;have f:(adc b o)=p:=ca e;subst f;exact(d,q)
def aw.D4{a:Ψ}{f:aM}{s:ai}{c:List V}(I:aw X a f H s)(i:∀b∈c,fQ X a H b)(j:∀b∈c,∃o,s.heap.get? b=U o/\∀v,o.data≠.cell v):aw X (a++wD c s.heap) f H s:=
 I.D3 λp k=>(gB.mp k).elim (λz=>I.f p<|oq _ z) λz=>by
  obtain⟨g,e⟩:=UZ z;obtain⟨l,m,n,_⟩:=i p.1 g;obtain⟨o,h,d⟩:=j p.1 g;rw[e] at h;cases h;exact(e,l,m,n,d)
def aw.C0{a c:Ψ}{b:aM}{s:ai}(I:aw X (a++c) b H s):aw X a b H s:=I.D3 λp d=>I.f p<|oq _<|uo _ d
def iF{j:bf}{body:List bV}(E:PassesOwn (aE X.prog X.w) X.A X.env X.a)(hc:X.b=ae)(hi:kX X tg j wi)(hg:lQ X tg g)(k:g_ X body tb)(hs:∀x,tP j X.env x=bH x:=by intro _;rfl):ky X (.For tg j body [] a0) (TT wi g tb):=by
 intro a s σ H D I h;refine wpAny_For (bI (hi a s σ H _ I h) λv s1 h1=>bI h1 λa5 s2 h2=>?_) hs;obtain⟨it,G,tn,a6,H2,e,I2,T,a1,f2,a7,⟨m0,w0⟩,K⟩:=h2;subst e;have l:∀{z:ac},(∀b∈G,z b=Z)->∀b∈G,fQ X a z b:=λhn b k=>(hn b k,(f2 b k).2);refine codeAny_forLoop_any (λn s'=>∃i p z,aw X a p z s'/\tn i s'.heap/\(∀b∈G,z b=Z)/\a7 i n p z) ?_ m0 (0,σ,H2,I2,a1,λb k=>(f2 b k).1,w0);rintro n s3 ⟨i,q,S,I3,L,M,w3⟩;rcases K i n q S w3 with ⟨P,qn⟩|⟨go,a8,hN,Q⟩
 ·refine vF E<|bI (T.done X O O O hc i a s3 q S X.a I3 (l M) L P) λr s4 (hr,I4)=>?_
  subst hr;exact BY (q,S,I4,qn)
 ·refine vF E<|bI (T.d X O O O hc i a s3 q S X.a I3 (l M) L go) λr s4 (u,hr,h4)=>?_
  subst hr;refine vF E<|bI h4 λ_ s5 (x,H5,I5,r5,y5,C,a2)=>?_;have a3:=I5.D4 (l a2)<|T.a _ _ C;refine vF E<|bI (hg _ s5 q H5 x u _ a3 r5<|Q x H5 y5) λ_ s6 (a4,H6,I6,q6)=>?_;refine vF E<|bI (k _ s6 a4 H6 _ I6 q6) λf s7 A=>?_;have t:∀{c:aM}{w:ac},aw X (a++wD G s5.heap) c w s7->a8 c w->∃m,m<n/\∃i p z,aw X a p z s7/\tn i s7.heap/\(∀b∈G,z b=Z)/\a7 i m p z:=λ{c w} y R=>by
   obtain⟨m',hm,w7⟩:=hN c w R;refine(m',hm,i+1,c,w,y.C0,T.c _ _ _ C λb k o e=>(y.f (adc b o)<|oq _<|oq _<|zQ k e).1,λb k=>?_,w7);obtain⟨o,e,d⟩:=T.a _ _ C b k;exact(y.f (adc b o)<|oq _<|oq _<|zQ k e).2.1
  cases f with
  |next=>obtain⟨c,w,y,R⟩:=A;exact t y R
  |cont=>obtain⟨c,w,y,R⟩:=A;exact t y R
  |brk=>obtain⟨c,w,y,A⟩:=A;exact(c,w,y.C0,A)
  |ret v=>obtain⟨x7,c,w,y,r7,A⟩:=A;exact(x7,c,w,y.C0,r7,A)
end
def mm{K:aH}{xs:List af}{g:gY}{l:fe}{D:kz}(c:Nat->aM->ac->Prop)(o:c 0 b H)(r:∀i b H,i<=xs.length->c i b H->bx K H a xs)(s:∀i x b H,xs[i]?=U x->c i b H->g x b H λd k=>l {D with a:=c<|i+1,d:=c<|i+1,c:=D.a} d k)(t:∀b H,c xs.length b H->D.a b H):∃w:Nat->Nat->aM->ac->Prop,(∃m,w 0 m b H)/\∀i m b H,w i m b H->
   ((im K a).b i H/\D.a b H)\/((im K a).a i H/\∃z:aM->ac->Prop,(∀f h,z f h->∃n,n<m/\w (i+1) n f h)/\∀x h,(im K a).c i H x h->g x b h λd k=>l {D with a:=z,d:=z,c:=D.a} d k):=by
 refine(λi m b H=>m=xs.length-i/\i<=xs.length/\c i b H,(xs.length,by simp,dZ _,o),?_);rintro i m b H ⟨rfl,u,p⟩;have q:=r i b H u p
 by_cases j:i<xs.length
 ·refine .inr ((xs,xs[i],q,by simp[j]),c<|i+1,λf h v=>(xs.length-(i+1),ω,O,j,v),λx h y=>?_)
  obtain⟨e,y⟩:=y;subst e;exact s i x b _ (y xs q) p
 ·have e:i=xs.length:=(û u (ô j))
  subst e;exact .inl ((xs,q,bc _),t b H p)
def Mb{K:aH}{xs:List af}{g:gY}{l:fe}{D:kz}(c:Nat->aM->ac->Prop)(o:c 0 b H)(r:∀i b H,i<=xs.length->c i b H->fm K H a xs)(s:∀i x b H,xs[i]?=U x->c i b H->g x b H λd k=>l {D with a:=c<|i+1,d:=c<|i+1,c:=D.a} d k)(t:∀b H,c xs.length b H->D.a b H):∃w:Nat->Nat->aM->ac->Prop,(∃m,w 0 m b H)/\∀i m b H,w i m b H->
   ((sZ K a).b i H/\D.a b H)\/((sZ K a).a i H/\∃z:aM->ac->Prop,(∀f h,z f h->∃n,n<m/\w (i+1) n f h)/\∀x h,(sZ K a).c i H x h->g x b h λd k=>l {D with a:=z,d:=z,c:=D.a} d k):=by
 refine(λi m b H=>m=xs.length-i/\i<=xs.length/\c i b H,(xs.length,by simp,dZ _,o),?_);rintro i m b H ⟨rfl,u,p⟩;have q:=r i b H u p
 by_cases j:i<xs.length
 ·refine .inr ((xs,xs[i],q,by simp[j]),c<|i+1,λf h v=>(xs.length-(i+1),ω,O,j,v),λx h y=>?_)
  obtain⟨e,y⟩:=y;subst e;exact s i x b _ (y xs q) p
 ·have e:i=xs.length:=(û u (ô j))
  subst e;exact .inl ((xs,q,bc _),t b H p)
def Mc{lo:Int}{n:Nat}{g:gY}{k:fe}{D:kz}(b:Nat->aM->ac->Prop)(o:b 0 a H)(q:∀i a H,i<n->b i a H->g (.d<|lo+i) a H λc j=>k {D with a:=b<|i+1,d:=b<|i+1,c:=D.a} c j)(r:∀a H,b n a H->D.a a H):∃u:Nat->Nat->aM->ac->Prop,(∃m,u 0 m a H)/\∀i m a H,u i m a H->
   ((mV lo n).b i H/\D.a a H)\/((mV lo n).a i H/\∃v:aM->ac->Prop,(∀d f,v d f->∃l,l<m/\u (i+1) l d f)/\∀x f,(mV lo n).c i H x f->g x a f λc j=>k {D with a:=v,d:=v,c:=D.a} c j):=by
 refine(λi m a H=>m=n-i/\i<=n/\b i a H,(n,by simp,dZ _,o),?_);rintro i m a H ⟨rfl,t,p⟩
 by_cases h:i<n
 ·refine .inr (h,b<|i+1,λd f s=>(n-(i+1),ω,O,h,s),λx f y=>?_)
  obtain⟨e,y⟩:=y;subst e y;exact q i a _ h p
 ·have e:i=n:=(û t (ô h))
  subst e;exact .inl (bc _,r a H p)
abbrev mq:=af->af->ac->aL->Prop
def fy(X:aK)(f:aa->aa->jy aa)(r:mq):Prop:=
 ∀(a:Ψ)(s:ai)(b:aM)(H:ac)(x y:af)(v u:aa)(Q:aL),aw X a b H s->cb x v->cb y u->r x y H Q->
  am (aE X.prog X.w) X.A (f v u) (ju X a b Q) X.a s
def EQ(X:aK)(f:aa->jy aa)(r:af->ac->aL->Prop):Prop:=
 ∀(a:Ψ)(s:ai)(b:aM)(H:ac)(x:af)(v:aa)(Q:aL),aw X a b H s->cb x v->r x H Q->
  am (aE X.prog X.w) X.A (f v) (ju X a b Q) X.a s
def io(X:aK)(f:aa)(r:List af->ac->aL->Prop):Prop:=
 ∀(a:Ψ)(s:ai)(b:aM)(H:ac)(c:List af)(d:List aa)(Q:aL),aw X a b H s->bW c d->r c H Q->
  am (aE X.prog X.w) X.A (gv f d) (ju X a b Q) X.a s
def dW(r:mq)(b c:bb):bb:=λa H Q=>b a H λx d=>c a d λy e=>r x y e Q
def wB(r:af->ac->aL->Prop)(a:bb):bb:=λb H Q=>a b H λx c=>r x c Q
inductive mj(C:Int->Int->Prop)(g:Int->Int->af)(x:af)(y:af)(H:ac)(Q:aL):Prop
 |a:∀i j,(x=.d i)->(y=.d j)->(C i j)->(Q (g i j) H)->mj C g x y H Q
inductive jq(g:Int->Int->af)(x:af)(y:af)(H:ac)(Q:aL):Prop
 |a:∀i j,(x=.d i)->(y=.d j)->(Q (g i j) H)->jq g x y H Q
inductive sE(g:Int->af)(x:af)(H:ac)(Q:aL):Prop
 |a:∀i,(x=.d i)->(Q (g i) H)->sE g x H Q
section
variable{X:aK}{a b c:bf}{ta tb tc:bb}{pos:bR}
def EO(l:bA X a ta)(m:bA X b tb){c:Ψ}{s:ai}{R:af->af->ac->Prop}(I:aw X c d H s)(h:ta d H λx k=>tb d k λy e=>R x y e){f:aa->aa->jy aa}(n:∀v u j x y e,aw X c d e j->cb x v->cb y u->R x y e->am (aE X.prog X.w) X.A (f v u) Q X.a j):am (aE X.prog X.w) X.A (dO a X.env) (λv g=>am (aE X.prog X.w) X.A (dO b X.env) (λu i=>am (aE X.prog X.w) X.A (f v u) Q X.a i) X.a g) X.a s:=by
 refine bI (l c s d H _ I h) λv o (x,k,p,q,r)=>?_;refine bI (m c o d k _ p r) λu j (y,e,t,w,z)=>?_;exact n v u j x y e t q w z
def cA(e:fy X (pz d) r)(f:bA X a ta)(g:bA X b tb):bA X (.BinOp a d b pos) (dW r ta tb):=by
 intro c s i H Q I h;exact wpAny_BinOp<|EO f g I h λv u j x y k l m n q=>e c j i k x y v u Q l m n q
def uL{c:UnaryOp}(e:EQ X (unaryOp c) r)(f:bA X a ta):bA X (.UnaryOp c a pos) (wB r ta):=by
 intro b s d H Q I h;exact UnaryOp_<|bI (f b s d H _ I h) λv g (x,i,j,k,l)=>e b g d i x v Q j k l
def zO{f:aa->aa->jy aa}{C:Int->Int->Prop}{g:Int->Int->Int}(a:∀(i j:Int)(t u:ga)(s:ai)(Q:Ω)(E:Ω),C i j->Q (.int (g i j) s.toks) {s with toks:=s.toks+1}->am (aE X.prog X.w) X.A (f (.int i t)<|.int j u) Q E s):fy X f (mj C λi j=>.d<|g i j):=by
 intro b s l H x y v u Q I c d h;obtain⟨i,j,rfl,rfl,e,q⟩:=h;obtain⟨t,rfl⟩:=c;obtain⟨k,rfl⟩:=d;exact a i j t k s _ _ e (.d<|g i j,H,I.N _,(_,O),q)
def LB{f:aa->aa->jy aa}{g:Int->Int->Int}(a:∀(i j:Int)(t u:ga)(s:ai)(Q:Ω)(E:Ω),Q (.int (g i j) s.toks) {s with toks:=s.toks+1}->am (aE X.prog X.w) X.A (f (.int i t)<|.int j u) Q E s):fy X f (jq λi j=>.d<|g i j):=by
 intro b s k H x y v u Q I c d h;obtain⟨i,j,rfl,rfl,q⟩:=h;obtain⟨t,rfl⟩:=c;obtain⟨e,rfl⟩:=d;exact a i j t e s _ _ (.d<|g i j,H,I.N _,(_,O),q)
def zP{f:aa->aa->jy aa}{g:Int->Int->Bool}(a:∀(i j:Int)(t u:ga)(s:ai)(Q:Ω)(E:Ω),Q (.bool<|g i j) s->am (aE X.prog X.w) X.A (f (.int i t)<|.int j u) Q E s):fy X f (jq λi j=>.e<|g i j):=by
 intro b s k H x y v u Q I c d h;obtain⟨i,j,rfl,rfl,q⟩:=h;obtain⟨t,rfl⟩:=c;obtain⟨e,rfl⟩:=d;exact a i j t e s _ _ (.e<|g i j,H,I,O,q)
def EZ(i j:Int):Prop:=0<=j/\j<=1000000/\i.natAbs<2 ^ 64
def vc(i j:Int):Prop:=(-(2 ^ 64)<i/\i<2 ^ 64)\/(-(2 ^ 64)<j/\j<2 ^ 64)
def vc.B{i j:Int}(h:vc i j):IntMulOk i j:=by
 rcases h with ⟨a,b⟩|⟨a,b⟩
 ·exact .of_left<|intBits_le_64 a b
 ·exact .of_right<|intBits_le_64 a b
def lM:fy X (pz .Add) (jq λi j=>.d<|i+j):=LB λ_ _ _ _ _ _ _ q=>add_int q
def uM:fy X (pz .Sub) (jq λi j=>.d<|i-j):=LB λ_ _ _ _ _ _ _ q=>sub_int q
def qP:fy X (pz .Mult) (mj vc λi j=>.d<|i*j):=zO λ_ _ _ _ _ _ _ a q=>mul_int q a.B
def oP:fy X (pz .Mod) (mj (λ_ j=>0<j) λi j=>.d<|i%j):=zO λi j _ _ _ _ _ a q=>by
 have b:(0:Int)<j:=a;exact mod_int' ω (by rw[Int.fmod_eq_emod_of_nonneg i ω];exact q)
def zM:fy X (pz .Pow) (mj EZ λi j=>.d<|i ^ j.toNat):=zO λ_ _ _ _ _ _ _ a q=>pow_int_small a.1 a.2.1 a.2.2 q
def Ts{f:aa->jy aa}{g:Int->Int}(a:∀(i:Int)(t:ga)(s:ai)(Q:Ω)(E:Ω),Q (.int (g i) s.toks) {s with toks:=s.toks+1}->am (aE X.prog X.w) X.A (f<|.int i t) Q E s):EQ X f (sE λi=>.d<|g i):=by
 intro b s d H x v Q I c h;obtain⟨i,rfl,q⟩:=h;obtain⟨t,rfl⟩:=c;exact a i t s _ _ (.d<|g i,H,I.N _,(_,O),q)
def uH:EQ X (unaryOp .USub) (sE λi=>.d<|-i):=Ts λ_ _ _ _ _ q=>neg_int q
end
def KU:af->af->Bool
 |.g,.g=>ae|.g,.d _=>ae|.d _,.g=>ae|.g,.e _=>ae|.e _,.g=>ae|.g,.f _=>ae|.f _,.g=>ae
 |.d _,.d _=>ae|.e _,.e _=>ae|.f _,.f _=>ae|.h _,.h _=>ae
 |.d _,.f _=>ae|.f _,.d _=>ae|.e _,.f _=>ae|.f _,.e _=>ae
 |_,_=>ao
def qJ:mq:=λx y H Q=>KU x y=ae/\Q (.e<|aG<|x=y) H
def Um:mq:=λx y H Q=>KU x y=ae/\Q (.e<|!aG (x=y)) H
def Mm{i j:Int}:aG (af.d i=af.d j)=(i==j):=by
 rw[qA];simp
def Mo{i j:Bool}:aG (af.e i=af.e j)=(i==j):=by
 rw[qA];simp
def Ml{i j:al}:aG (af.f i=af.f j)=(i==j):=by
 rw[qA];simp
def Mn{i j:Array UInt8}:aG (af.h i=af.h j)=(i.toList==j.toList):=by
 rw[qA];cases i;cases j;simp
section
variable{X:aK}{a b c:bf}{ta tb tc:bb}{pos:bR}
def fF{a:Ψ}{b:aM}{s:ai}{Q:aL}{k c:Bool}(I:aw X a b H s)(q:Q (.e k) H)(e:k=c):ju X a b Q (.bool c) s:=by
 subst e;exact(.e k,H,I,O,q)
def jT:fy X (gu .Eq) qJ:=by
 intro e s f H x y v u Q I d a h;obtain⟨c,q⟩:=h;cases x with
 |g=>
  cases d;cases y with
  |g=>cases a;exact aji<|fF I q (by simp)
  |e j=>cases a;exact ajk<|fF I q (by simp)
  |d j=>obtain⟨b,rfl⟩:=a;exact ajj<|fF I q (by simp)
  |f j=>obtain⟨b,rfl⟩:=a;exact ajh<|fF I q (by simp)
  |_=>exact aZ (show ao=ae from c) eP
 |e i=>
  cases d;cases y with
  |g=>cases a;exact ajm<|fF I q (by simp)
  |e j=>cases a;exact eq_bool<|fF I q Mo
  |f j=>obtain⟨b,rfl⟩:=a;exact aju<|fF I q (by simp)
  |_=>exact aZ (show ao=ae from c) eP
 |d i=>
  obtain⟨t,rfl⟩:=d;cases y with
  |g=>cases a;exact ajl<|fF I q (by simp)
  |d j=>obtain⟨b,rfl⟩:=a;exact eq_int<|fF I q Mm
  |f j=>obtain⟨b,rfl⟩:=a;exact ajt<|fF I q (by simp)
  |_=>exact aZ (show ao=ae from c) eP
 |f i=>
  obtain⟨t,rfl⟩:=d;cases y with
  |g=>cases a;exact ajg<|fF I q (by simp)
  |e j=>cases a;exact ajs<|fF I q (by simp)
  |d j=>obtain⟨b,rfl⟩:=a;exact ajr<|fF I q (by simp)
  |f j=>obtain⟨b,rfl⟩:=a;exact eq_str<|fF I q Ml
  |_=>exact aZ (show ao=ae from c) eP
 |h i=>
  obtain⟨t,rfl⟩:=d;cases y with
  |h j=>obtain⟨b,rfl⟩:=a;exact PySem.W.eq_bytes<|fF I q Mn
  |_=>exact aZ (show ao=ae from c) eP
 |_=>cases y<;>exact aZ (show ao=ae from c) eP
def qO:fy X (gu .NotEq) Um:=by
 intro e s f H x y v u Q I d a h;obtain⟨c,q⟩:=h;cases x with
 |g=>
  cases d;cases y with
  |g=>cases a;exact ajb<|fF I q (by simp)
  |e j=>cases a;exact ajd<|fF I q (by simp)
  |d j=>obtain⟨b,rfl⟩:=a;exact ajc<|fF I q (by simp)
  |f j=>obtain⟨b,rfl⟩:=a;exact aja<|fF I q (by simp)
  |_=>exact aZ (show ao=ae from c) eP
 |e i=>
  cases d;cases y with
  |g=>cases a;exact ajf<|fF I q (by simp)
  |e j=>cases a;exact ne_bool<|fF I q<|gD not Mo
  |f j=>obtain⟨b,rfl⟩:=a;exact ajq<|fF I q (by simp)
  |_=>exact aZ (show ao=ae from c) eP
 |d i=>
  obtain⟨t,rfl⟩:=d;cases y with
  |g=>cases a;exact aje<|fF I q (by simp)
  |d j=>obtain⟨b,rfl⟩:=a;exact ne_int<|fF I q<|gD not Mm
  |f j=>obtain⟨b,rfl⟩:=a;exact ajp<|fF I q (by simp)
  |_=>exact aZ (show ao=ae from c) eP
 |f i=>
  obtain⟨t,rfl⟩:=d;cases y with
  |g=>cases a;exact ai9<|fF I q (by simp)
  |e j=>cases a;exact ajo<|fF I q (by simp)
  |d j=>obtain⟨b,rfl⟩:=a;exact ajn<|fF I q (by simp)
  |f j=>obtain⟨b,rfl⟩:=a;exact ne_str<|fF I q<|gD not Ml
  |_=>exact aZ (show ao=ae from c) eP
 |h i=>
  obtain⟨t,rfl⟩:=d;cases y with
  |h j=>obtain⟨b,rfl⟩:=a;exact PySem.W.ne_bytes<|fF I q<|gD not Mn
  |_=>exact aZ (show ao=ae from c) eP
 |_=>cases y<;>exact aZ (show ao=ae from c) eP
def sJ:fy X (gu .Lt) (jq λi j=>.e<|aG<|i<j):=zP λ_ _ _ _ _ _ _ q=>Rg q
def uN:fy X (gu .LtE) (jq λi j=>.e<|aG<|i<=j):=zP λ_ _ _ _ _ _ _ q=>le_int q
def sK:fy X (gu .Gt) (jq λi j=>.e<|aG<|j<i):=zP λ_ _ _ _ _ _ _ q=>gt_int q
def UX:fy X (gu .GtE) (jq λi j=>.e<|aG<|j<=i):=zP λ_ _ _ _ _ _ _ q=>ge_int q
def wH:fy X (gu .Is) (λx y H Q=>y=.g/\Q (.e<|aG<|x=.g) H):=by
 intro a s d H x y v u Q I b c h;obtain⟨rfl,q⟩:=h;cases c;refine is_none_gen<|fF I q ?_;cases x<;>first
  |(cases b;rfl)
  |(obtain⟨t,rfl⟩:=b;rfl)
def cN(b:bf){a:ue}(h:a≠.In:=by decide)(c:a≠.NotIn:=by decide):tR a b=ao:=by
 have d:(a==yw)=ao:=by cases a<;>first|rfl|exact aZ O h
 have e:(a==ud)=ao:=by cases a<;>first|rfl|exact aZ O c
 cases b<;>simp[tR,d,e]
def wG(e:fy X (gu d) r)(f:bA X a ta)(g:bA X b tb)(i:tR d b=ao):bA X (.Compare a [d] [b] pos) (dW r ta tb):=by
 intro c s j H Q I h;exact wpAny_Compare1 (EO f g I h λv u k x y l m n o q=>e c k j l x y v u Q m n o q) i
inductive MK(x:af)(Q:Bool->ac->Prop)(H:ac):Prop
 |a:∀k,(x=.e k)->(Q k H)->MK x Q H
def jF(t:bb):eB:=λa H Q=>t a H λx b=>MK x Q b
def cV(i:fy X (gu f) r)(j:bA X a ta)(l:bA X b tb)(m:tR f b=ao):kx X (.Compare a [f] [b] pos) (jF<|dW r ta tb):=by
 intro d s g H Q I h;refine ac5 (bI (j d s g H _ I h) λv n (x,o,p,q,t)=>bI (l d n g o _ p t) λu w (y,A,C,D,E)=>
  bI (i d w g A x y v u _ C q D E) λc P (z,G,K,L,k,e,M)=>?_) m
 subst e;cases L;exact vE (G,K,M)
def TY(r c:mq)(ta tb tc:bb):bb:=λa H Q=>ta a H λx d=>tb a d λy e=>r x y e λz b=>∃k,z=.e k/\
 (if k=ae then tc a b λf g=>c y f g Q else Q (.e ao) b)
def Ll{j g:ue}{r m:mq}(t:fy X (gu j) r)(l:fy X (gu g) m)(w:bA X a ta)(A:bA X b tb)(C:bA X c tc)(D:lastMarks [j,g] [b,c]=ao:=by with_unfolding_all rfl):kx X (.Compare a [j,g] [b,c] pos) (jF<|TY r m ta tb tc):=by
 intro f s i H Q I h;refine isTrue_chain (bI (w f s i H _ I h) λv E (x,G,K,L,M)=>test_link (bI (A f E i G _ K M) λu P (y,R,S,n,T)=>
  bI (t f P i R x y v u _ S L n T) λd s3 (z,o,p,r3,k,e,q)=>?_)) D
 subst e;cases r3;refine vE ?_;cases k with
 |false=>
  obtain⟨k',e',q'⟩:=q;cases e';exact ite_ff (o,p,q')
 |true=>
  refine ite_tt<|test_last<|bI (C f s3 i o _ p q) λw' s4 (z',H4,I4,r4,q4)=>bI (l f s4 i H4 y z' u w' _ I4 n r4 q4) λd' s5 (z2,H5,I5,r5,k2,e2,q5)=>?_;subst e2;cases r5;exact vE (H5,I5,q5)
def zR:(bG:Nat)<2 ^ 63:=by rw[jx];decide
def gU{x:af}{a:List aa}(r:bW [x] a):∃u,a=[u]/\cb x u:=by
 cases r with
 |cons b c=>cases c;exact(_,O,b)
def Eb{x y:af}{a:List aa}(r:bW [x,y] a):∃u b,a=[u,b]/\cb x u/\cb y b:=by
 cases r with
 |cons c d=>
  cases d with
  |cons e f=>cases f;exact(_,_,O,c,e)
end
structure MY(h:aI)(x dx C:V)(mA:al->Option aa):Prop where
 a:h.get? x=U (Qz C dx)
 ns:h.Ns1 dx mA
 b:dx≠x
def Vm{h:aI}(n:h.Ns1 d f):∃g,h.get? d=U g/\∀b,Qx b g=U (f b):=by
 obtain⟨o,i,s,j,k,l,_,m⟩:=n;refine(o,j,λb=>?_);have e:=m b;unfold nsFind findBy at e;rw[<-Array.find?_toList] at e;unfold Qx;rw[k];dsimp only;split
 ·rename_i y q
  rw[q] at e;exact gD U e
 ·rename_i q
  rw[q] at e;have a:i.toList.any (·.refKey)=ao:=by
   rw[Jn];intro y p;obtain⟨z,t,c⟩:=l y<|Array.mem_toList_iff.mp p;simp[QS,c]
  have r:¬i.toList.any (·.refKey)=ae:=by rw[a];exact eP
  rw[au r];exact gD U e
def MY.B(I:MY h x c C d):∃b,ym h x (Qz C c) C (U b)/\∀a,Qx a b=U (d a):=
 let ⟨b,e,f⟩:=Vm I.ns
 (b,(I.a,O,O,e),f)
def qY.F(r:qY (U v) o):∃u,o=U u/\cb v u:=by
 cases o with
 |none=>exact(show False from r).elim
 |some u=>exact(u,O,r)
section
variable{P:aU}{w:aO}{H H':ac}{h h':aI}{a C dx:V}{fs fs':List (al×af)}
def aik(c:fP P w H h)(e:H a=U (.k C dx fs)):∃b,MY h a dx C b/\(∀f,qY (fs.lookup f) (b f))/\adv b (fs.map (·.1))/\fs.length<=1000/\H dx=U (.h a):=by
 obtain⟨d,z,g,i,b,n,r,q⟩:=(show db P w H h a (.k C dx fs) from c a _ e);exact(b,(i,n,g),r,q,z,d)
end
structure WI(K:aH)(C:V):Prop where
 a:adx K C Str.empty=ae
 hd:PySem.W.hasDictIn K C=ae
 c:PySem.W.plainOver K C=ae
 b:nY K (.ref C) "__setattr__"=U (U<|.builtin "object.__setattr__")
def WI.B{K:aH}(c:WI K C)(f:al):adx K C f=ae:=c.a
structure eJ(k:Nat)(A:bg):Prop where
 hd:A.handled=Z
 a:A.depth+3*k+5<Cj
 un:A.units+16*k+200<cH
def eJ.F{j k:Nat}(r:eJ k A)(h:j<=k):eJ j A:=(r.hd,by have:=r.a;omega,by have:=r.un;omega)
def eJ.J{k:Nat}(r:eJ (k+1) A)(a:dD):eJ k (A.deeper a):=
 (r.hd,by have:=r.a;show A.depth+1+3*k+5<_;omega,by have:=r.un;show A.units+3+16*k+200<_;omega)
def eJ.B{k:Nat}(r:eJ (k+1) A):eJ k A.in1:=
 (r.hd,by have:=r.a;show A.depth+3*k+5<_;omega,by have:=r.un;show A.units+1+16*k+200<_;omega)
def eJ.N{k:Nat}(r:eJ k A):A.depth<Cj:=by have:=r.a;exact ê (ê this)
def eJ.units{k:Nat}(r:eJ k A):A.units+64<cH:=by have:=r.un;omega
def e_:ff:=λ_ H Q=>Q [] H
def cT(b:bb)(c:ff):ff:=λa H Q=>b a H λx d=>c a d λe f=>Q (x::e) f
section
variable{X:aK}{e:bf}{es:List bf}{te:bb}{t:ff}{pos:bR}
def az:je X [] e_:=λ_ _ _ _ H Q I h=>afh ([],H,I,.nil,h)
def aj(c:bA X e te)(d:je X es t)(f:eM (e::es) X.env=(adc ao (dO e X.env))::eM es X.env:=by rfl):je X (e::es) (cT te t):=by
 intro pos a s b H Q I h;rw[f];show am _ _ (spliced<|(adc ao (dO e X.env))::lU pos (eM es X.env)) _ _ s;refine QT<|bI (c a s b H _ I h) λu g (x,i,j,k,l)=>?_;exact bI (d pos a g b i _ j l) λr v (m,n,o,p,q)=>(x::m,n,o,.cons k p,q)
def ko(t:ff):bb:=λc H Q=>t c H λa b=>a.length<=bG/\∀p,b p=Z->Q (.c p) (av b p<|.b a)
def KE(t:ff):bb:=λc H Q=>t c H λa b=>a.length<=bG/\∀p,b p=Z->Q (.c p) (av b p<|.a a)
def ij{g}(h:je X es t):bA X (.Tuple es g pos) (ko t):=by
 intro a s i H Q I j;refine wpAny_Tuple_spliced<|bI (h pos a s i H _ I j) λk c (l,d,f,r,z,q)=>(by rw[<-r.B];exact z,?_);have m:d c⁻¹=Z:=f.b.B<|bc _;refine(.c c⁻¹,av d c⁻¹<|.b l,f.F (t':=c.toks) (λb u e=>bJ _ e) (bc _) ?_,O,q _ m);exact(z,k,r,(_,dv _ O,O,_,O))
def eR(h:je X es t):bA X (.List es pos) (KE t):=by
 intro a s g H Q I i;refine wpAny_List_spliced<|bI (h pos a s g H _ I i) λj c (k,d,f,r,z,q)=>(by rw[<-r.B];exact z,?_);have l:d c⁻¹=Z:=f.b.B<|bc _;refine(.c c⁻¹,av d c⁻¹<|.a k,f.F (t':=c.toks) (λb u e=>bJ _ e) (bc _) ?_,O,q _ l);exact(z,j,0,r,dv _ O)
end
abbrev ia:=List af->ac->aL->bK->Prop
abbrev kZ:=List dD->ac->ai->bK->Ω
structure pU(P:aU)(w:aO)(K:aH)(mg:al->Option aa)(base:aI)(A:bg)(outer:List dD)(s:ai)(H:ac):Prop where
 d:A.frames=U outer
 a:Ae K mg base
 bs:∀b o,base.get? b=U o->s.heap.get? b=U o/\H b=Z
 f:base.objs.size<=s⁻¹
 e:s.heap.FunFrames base outer
 g:∀b∈iP outer,H b=Z
 c:fP P w H s.heap
 h:qt s.gens
def rf(a:List dD)(P:aU)(w:aO)(H:ac)(s:ai)(Q:aL)(u:aa)(b:ai):Prop:=
 ∃v c,b.os=s.os/\qt b.gens/\mU (iP a) [] H c s.heap b.heap/\fP P w c b.heap/\cb v u/\Q v c
def Nd(c:kZ)(a:List dD)(P:aU)(w:aO)(H:ac)(s:ai)(Q:aL)(E:bK)(r:tW)(b:ai):Prop:=
 match r with
 |.ok (.ret u)=>rf a P w H s Q u b
 |.ok _=>False
 |.error e=>c a H s E e b
structure bD(P:aU)(w:aO)(K:aH)(mg:al->Option aa)(base:aI)(CX:kZ)(k:Nat)(f:V)(fd:cr)(ps:List al)(sp:ia):Prop where
 b:∀vs H Q E,sp vs H Q E->vs.length=ps.length
 a:∀(A:bg)(outer:List dD)(s:ai)(H:ac)(args:Args)(us:List aa)(vs:List af)(Q:aL)(E:bK),eJ k A->pU P w K mg base A outer s H->vU s fd args (ps.zip us)->bW vs us->sp vs H Q E->
  iK (aE P w) A (.call (.ref f) args) (Nd CX outer P w H s Q E) s
def pU.B{K:aH}{c:al->Option aa}{a:List dD}{s:ai}(e:pU P w K c b A a s H):pU P w K c b A.in1 a s H:=(e.d,e.a,e.bs,e.f,e.e,e.g,e.c,e.h)
section
variable{X:aK}{pins:Ψ}{σ:aM}{H:ac}{s s':ai}
def aw.B3(I:aw X pins σ H s):pU X.prog X.w X.K X.mg X.base X.A X.c s H:=
 (I.a.j,I.a.e,I.bs,dE I.a.i I.sz,I.B2,I.B9,I.b,I.e)
def aw.C9(I:aw X pins σ H s)(h:rf X.c X.prog X.w H s Q u s'):ju X pins σ Q u s':=by
 obtain⟨v,f,i,a,j,c,r,q⟩:=h;obtain⟨k,g,d,t,e⟩:=s';obtain rfl:e=s.os:=i;exact(v,f,I.D2 (h':=k) (g':=g) (d':=d) (t':=t) (ch:=[]) j c a (λb z=>aZ z (by simp)),r,q)
end
def qI(b:ia)(a:List af)(E:bK)(t:ff):bb:=λc H Q=>t c H λd e=>b (d++a) e Q E
def eT(K:aH)(d:cr)(b:List al)(c:List aa):Prop:=
 ∀(s:ai)(a:List aa),K.In s.heap->(a++c).length=b.length->vU s d (a,[]) (b.zip<|a++c)
def eT.all{K:aH}{b:List al}(h:∀a:List aa,a.length=b.length->yf c (a,[])=bH (b.zip a)):eT K c b []:=λs a _ d=>by
 rw[lG] at d ⊢;exact .of_eq<|h a d
def uW(c:kZ)(X:aK)(E:bK):Prop:=∀(a:Ψ)(d:aM)(H:ac)(s:ai)(e:aa)(b:ai),aw X a d H s->c X.c H s E e b->X.a e b
section
variable{X:aK}{CX:kZ}{k:Nat}{f C:V}{fd:cr}{ps:List al}{sp:ia}{dvs:List af}{ds:List aa}{E:bK}{x m:al}{p pos apos:bR}{e o:bf}{es:List bf}{ta:bb}{t:ff}
def Uj{s:ai}(F:bD X.prog X.w X.K X.mg X.base CX k f fd ps sp)(j:eJ k X.A)(l:eT X.K fd ps ds)(m:bW dvs ds)(n:uW CX X E)(I:aw X a g H s)(r:bW d b)(h:sp (d++dvs) H Q E):am (aE X.prog X.w) X.A (gv (.ref f) b) (ju X a g Q) X.a s:=by
 have i:bW (d++dvs) (b++ds):=r.F m;have o:(b++ds).length=ps.length:=by rw[<-i.B];exact F.b _ _ _ _ h
 refine pu<|ka (F.a X.A X.c s H (b,[]) (b++ds) (d++dvs) Q E j I.B3 (l s b I.A2 o) i h) λr p c=>?_;cases r with
 |error e=>exact n a g H s e p I c
 |ok q=>
  cases q with
  |ret u=>exact I.C9 c
  |next=>exact dm c
  |brk=>exact dm c
  |cont=>exact dm c
def kr(F:bD X.prog X.w X.K X.mg X.base CX k f fd ps sp)(g:eJ k X.A)(i:iH X x)(j:X.mg x=U (.ref f))(l:vN X.K (.ref f)=ae)(m:eT X.K fd ps ds)(n:bW dvs ds)(o:uW CX X E)(u:je X (e::es) t)(b:(x==("__debug__":al))=ao:=by decide)(v:eM (e::es) X.env=(adc ao (dO e X.env))::eM es X.env:=by rfl)(c:(lU pos<|eM es X.env).any (·.1)=ao:=by rfl):bA X (.Call (.Name x p) (e::es) [] pos) (qI sp dvs E t):=by
 intro a s w H Q I h;refine tO<|uO I i j ?_ b;refine ad6 (h₀:=X.base) I.a.e.a l (bI (u pos a s w H _ I h) λy z (A,C,d,r,q)=>(d.A2,?_)) v c;exact Uj F g m n o d r q
structure ail(K:aH)(C f:V):Prop where
 b:PySem.W.makesIn K C=ae
 init:nY K (.ref C) "__init__"=U (U<|.ref f)
 c:PySem.W.isFn K (.ref f)=ae
 a:vN K (.ref C)=ae
end
structure cQ(N P:List al)(sc:eO):Prop where
 b:sc.kind=.function
 e:sc.isCoroutine=ao
 f:sc.isGenerator=ao
 a:N.Nodup
 c:N.take P.length=P
 d:∀x∈P,sc.names.lookup x=U .local\/sc.names.lookup x=U .cell
 g:∀y∈sc.names,y.2≠.free
def MG:∀{a:List (al×aa)}{m:al->Option aa},(∀v,(adc x v)∉a)->rJ b a m x=m x
 |[],_,_=>O
 |(adc n v)::r,m,h=>by
  unfold rJ;rw[MG λw c=>h w<|d_ _ c];split
  ·have:x≠n:=by rintro rfl;exact h v dC
   simp[this]
  ·rfl
def MI:∀{a:List (al×aa)}{m:al->Option aa},(∀v,(adc x v)∉a)->rK b a m x=m x
 |[],_,_=>O
 |(adc n v)::r,m,h=>by
  unfold rK;rw[MI λw c=>h w<|d_ _ c];split
  ·rfl
  ·have:x≠n:=by rintro rfl;exact h v dC
   simp[this]
def MH{a:al->Option lz}:∀{P:List al}{b:List aa}{i:Nat}{m:al->Option aa},P.Nodup->P[i]?=U x->b[i]?=U v->a x=U .local->
  rJ a (P.zip b) m x=U v
 |[],_,_,_,_,h,_,_=>by simp at h
 |_::_,[],_,_,_,_,h,_=>by simp at h
 |p::P,w::b,0,m,e,c,d,f=>by
  simp at c d;subst c;subst d;show rJ a ((adc p w)::P.zip b) m p=_;unfold rJ;rw[MG λv g=>(iB.mp e).1 (vZ g).1,aB f];simp
 |p::P,w::b,i+1,m,e,c,d,f=>by
  show rJ a ((adc p w)::P.zip b) m x=_;unfold rJ;exact MH (i:=i) (iB.mp e).2 (by simpa using c) (by simpa using d) f
def MJ{a:al->Option lz}:∀{P:List al}{b:List aa}{i:Nat}{m:al->Option aa},P.Nodup->P[i]?=U x->b[i]?=U v->a x≠U .local->
  rK a (P.zip b) m x=U v
 |[],_,_,_,_,h,_,_=>by simp at h
 |_::_,[],_,_,_,_,h,_=>by simp at h
 |p::P,w::b,0,m,e,c,d,f=>by
  simp at c d;subst c;subst d;show rK a ((adc p w)::P.zip b) m p=_;unfold rK;rw[MI λv g=>(iB.mp e).1 (vZ g).1,au f];simp
 |p::P,w::b,i+1,m,e,c,d,f=>by
  show rK a ((adc p w)::P.zip b) m x=_;unfold rK;exact MJ (i:=i) (iB.mp e).2 (by simpa using c) (by simpa using d) f
def kq(b:List al)(a:List af):aM:=a.map U++jA (b.length-a.length) Z
def iG(i:kZ)(P:aU)(w:aO)(K:aH)(j:al->Option aa)(g:aI)(m:List al)(c:al)(a:eO)(f:V)(h:aa)(A:bg)(b:List dD)(s:ai)(H:ac)(E:bK):aK where
 prog:=P
 w:=w
 K:=K
 mg:=j
 base:=g
 A:=A.deeper<|iY c a s⁻¹ f h
 N:=m
 d:=s
 h:=H
 env:=iY c a s⁻¹ f h
 outer:=b
 c:=iY c a s⁻¹ f h::b
 e:=[]
 b:=ae
 g:=λ_=>ae
 f:=[]
 a:=λe k=>am (aE P w) (A.deeper<|iY c a s⁻¹ f h) (HH (iY c a s⁻¹ f h) e) (λ_ d=>i b H s E e d) (λl d=>i b H s E l d) k
def Mw{a:eO}{n:Nat}(h:a.names.lookup x=U .cell):∃c,(ir n a.names []).lookup x=U c:=by
 have q:=yi a.names n []<|.inl h;exact uk.mp q
def LS{K:aH}{m:aI}{a1 t:List al}{j:al}{A:bg}{s s1:ai}{C:List af}(S:cQ a1 t d)(hd:A.handled=Z)(o:pU P w K T m A g s H)(hl:C.length=t.length)(r:bW C X)(x:InCallC s s⁻¹ (rJ (iY j d s⁻¹ f M).kindOf (t.zip X) λ_=>Z) (ir (s⁻¹+1) d.names []) (rK (iY j d s⁻¹ f M).kindOf (t.zip X) λ_=>Z) s1):aw (iG CX P w K T m a1 j d f M A g s H E) [] (kq a1 C) H s1:=by
 have a0:t.length<=a1.length:=by have:=gD aF S.c;rw[eF] at this;omega
 obtain⟨Q,tk,rfl,hk⟩:=x.done;have D:∀b:V,b∉(iG CX P w K T m a1 j d f M A g s H E).e:=λb z=>aZ (show b∈([]:List V) from z) (by simp);refine((o.a,S.b,O,O,bc _,λy z c Q l=>?_,λy G=>?_,λy c _ h=>?_,λ_=>hd,Rc o.d,.inr (O,O),λb z=>aZ z<|D b,o.bs,o.f,λb _ _=>D b,λb z=>aZ z<|D b,o.e,o.g),
  O,o.h,mU.B hk,(_,x.toInCall.ns,λi y v Q l h3=>?_),λy c h=>(_,x.cell y c h),o.c.B<|bc _,λy c h=>?_,λp I=>aZ (show p∈([]:Ψ) from I) (by simp),o.c.J hk,?_)
 ·exact name_of_addr x.apart (nV Q)<|nV l
 ·have G:d.names.lookup y=U .cell\/d.names.lookup y=U .free:=G
  rcases G with G|G
  ·exact Mw G
  ·exact aZ O<|S.g _<|nV G
 ·exact qv<|x.above y c<|nV h
 ·have R:i<C.length:=by
   unfold kq at l
   by_cases R:i<C.length
   ·exact R
   ·rw[yO (by simpa using R)] at l
    rw[List.getElem?_replicate] at l;split at l<;>cases l
  have ha:C[i]?=U v:=by
   unfold kq at l;rw[yP (by simpa using R),cm] at l;cases e:C[i]? with
   |none=>rw[e] at l;cases l
   |some a=>rw[e] at l;cases l;rfl
  obtain⟨u,hu,rv⟩:=r.J ha;have I:t[i]?=U y:=by
   rw[<-S.c,yM (à R (å hl))];exact Q
  have L:t.Nodup:=by rw[<-S.c];exact S.a.sublist<|List.take_sublist _ _
  refine(u,rv,?_);rcases S.d y (dy I) with k|k
  ·exact .inl (k,MH L I hu k)
  ·obtain⟨c,e⟩:=Mw (n:=s⁻¹+1) k
   refine .inr (.inl k,c,e,?_);have q:=x.cell y c e;rw[MJ L I hu (by show d.names.lookup y≠_;rw[k];decide)] at q;exact q
 ·exact o.c.B<|qv<|x.above y c<|nV h
 ·unfold kq
  show _=a1.length;rw[dz,aA,List.length_replicate];omega
def EH{X:kZ}{P:aU}{w:aO}{K:aH}{mg:al->Option aa}{h:aI}{k:Nat}{m d:al}{i:qr}{body:List bV}{a:eO}{dV kV G pm g ct oc:aa}{an od:Option V}{a0:Array (Option aa)}{sp:ia}(lk:K.lookup f=U (oc,od,.func<|qo m d i body a dV kV G pm an g ct,a0))(a1:CE K g d=ae)(S:cQ a5 ps a)(L:∀j H Q E,sp j H Q E->j.length=ps.length)(z:∀(A:bg)(c:List dD)(s:ai)(H:ac)(j:List af)(Q:aL)(E:bK),eJ k (A.deeper<|iY d a s⁻¹ f g)->sp j H Q E->
   ∃t,g_ (iG X P w K mg h a5 d a f g A c s H E) body t/\t {a:=λ_ p=>Q .g p,b:=Q} (kq a5 j) H):
  bD P w K mg h X (k+1) f (qo m d i body a dV kV G pm an g ct) ps sp:=by
 refine(L,λA c s H a3 us j Q E hr M hb r R=>?_);have hl:=L _ _ _ _ R;have KX:K.In s.heap:=M.a.a.keeps λb o e=>(M.bs b o e).1;have a2:s.heap.NoLimit:=M.a.c.keeps λb o e=>(M.bs b o e).1;have C:∀y∈ps.zip us,a.names.lookup y.1=U .local\/(a.names.lookup y.1=U .cell/\((ir (s⁻¹+1) a.names []).lookup y.1).isSome=ae):=λ(n,v) hy=>by
  rcases S.d n (vZ hy).1 with q|q
  ·exact .inl q
  ·exact .inr (q,yi _ _ _<|.inl q)
 refine adq hr.N (KX _ _ lk) O S.e S.f O (ad5 KX a1)<|hb _ _ _ _ ?_;refine ac3 S.b C λa4 he s1 x=>?_;subst he;refine(a2.keeps x.toInCall.keep,codeAny_func ?_);obtain⟨t,ht,hq⟩:=z A c s H j Q E (hr.J _) R;have I:aw (iG X P w K mg h a5 d a f g A c s H E) [] (kq a5 j) H s1:=LS S hr.hd M hl r x;refine ic (ht [] s1 (kq a5 j) H _ I hq) (λfl s' D=>?_) λe s' D=>D;have T:∀{l:aM}{p:ac}{v:af}{u:aa},aw (iG X P w K mg h a5 d a f g A c s H E) [] l p s'->cb v u->Q v p->rf c P w H s Q u s':=
  λ{l p v u} a6 rv q=>(v,p,a6.k,a6.e,a6.base,a6.b,rv,q)
 cases fl with
 |ret u=>
  obtain⟨v,l,p,a6,rv,q⟩:=D;exact T a6 rv q
 |next=>
  obtain⟨l,p,a6,q⟩:=D;exact T (v:=af.g) (u:=bj) a6 O q
 |brk=>
  obtain⟨_,_,_,q⟩:=D;exact dm q
 |cont=>
  obtain⟨_,_,_,q⟩:=D;exact dm q
section
variable{X:aK}{x:al}{p pos:bR}{e:bf}{es:List bf}{t:ff}{id T:String}{r:List af->ac->aL->Prop}
def oD(r:List af->ac->aL->Prop)(t:ff):bb:=λa H Q=>t a H λb c=>r b c Q
def eH(f:io X (.builtin id) r)(g:iH X x)(i:X.mg x=Z)(j:ig x=U (.builtin id))(k:je X (e::es) t)(l:x≠"__name__":=by decide)(b:(x==("__debug__":al))=ao:=by decide)
  (m:eM (e::es) X.env=(adc ao (dO e X.env))::eM es X.env:=by rfl) (c:(lU pos<|eM es X.env).any (·.1)=ao:=by rfl):bA X (.Call (.Name x p) (e::es) [] pos) (oD r t):=by
 intro a s d H Q I h;refine tO<|oQ I g i j ?_ l b;exact akf (bI (k pos a s d H _ I h) λn o (q,u,v,w,y)=>f a o d u q n Q v w y) m c
def ik(f:io X (.type T) r)(g:iH X x)(i:X.mg x=Z)(j:ig x=U (.type T))(k:je X (e::es) t)(l:x≠"__name__":=by decide)(b:(x==("__debug__":al))=ao:=by decide)
  (m:eM (e::es) X.env=(adc ao (dO e X.env))::eM es X.env:=by rfl) (c:(lU pos<|eM es X.env).any (·.1)=ao:=by rfl):bA X (.Call (.Name x p) (e::es) [] pos) (oD r t):=by
 intro a s d H Q I h;refine tO<|oQ I g i j ?_ l b;exact IS (bI (k pos a s d H _ I h) λn o (q,u,v,w,y)=>f a o d u q n Q v w y) m c
end
def co:List Int->List Int->Bool
 |[],[]=>ao
 |[],_::_=>ae
 |_::_,[]=>ao
 |x::a,y::b=>if x=y then co a b else aG (x<y)
def ib(x y:Int)(a b:List Int):co (x::a) (y::b)=if x=y then co a b else aG (x<y):=O
def Pg:co [] []=ao:=O
def xS(y:Int)(a:List Int):co [] (y::a)=ae:=O
def Ph(x:Int)(a:List Int):co (x::a) []=ao:=O
def abn(A:bg)(s:ai)(a:Int)(t:ga)(c:Int)(u:ga):∃e,yt A s (.int a t) (.int c u) e/\(e=ae↔a=c):=
 ((a==c),If a t c u,by simp)
def abh(A:bg)(s:ai)(a:Int)(t:ga)(c:Int)(u:ga)(b:aU)(w:aO)(E:Ω)(Q:Ω)(h:Q (.bool<|aG<|a<c) s):am (aE b w) A (PZ .Lt (.int a t)<|.int c u) Q E s:=
 (Rg h:am (aE b w) A (gu .Lt (.int a t)<|.int c u) Q E s)
section
open PySem.SeqAt
open PySem.AutoSeq1 (wpAny_loadPart')
open PySem.MeetsSeq PySem.MeetsSeq2 PySem.MeetsSeq3
def abf(l b:V)(i f:Array aa)(n n2:Nat)(dd T:Option V)(sl X:Array (Option aa))(I K:List Int)(hi:fU i.toList I)(hj:fU f.toList K):Meets (Builtin.«tuple.__lt__» ([.ref l,.ref b],[]))
   (λ_ R s=>s.heap.get? l=U {cls:=.type "tuple",dict:=dd,data:=.seq i n,slots:=sl}/\s.heap.get? b=U {cls:=.type "tuple",dict:=T,data:=.seq f n2,slots:=X}/\
    R (.ok<|.ret<|.bool<|co I K) s):=
 .of_wp λr w A R s h=>by
  obtain⟨L,g,d,M,P⟩:=s;obtain⟨hl,hb,h⟩:=h;have f2:=AutoSeq1.sub_tuple_tuple;have z1:i.size=I.length:=by rw[<-hi.length];simp
  have z2:f.size=K.length:=by rw[<-hj.length];simp
  wp_walk using wpAny_loadPart' hl,wpAny_loadPart' hb,tM _ (λv b s'=>b.1=Z/\s'=(L,g,d,M,P)/\∃(Q S:List aa)(k m:List Int),v=Q.zip S/\
   fU Q k/\fU S m/\k.length+f.size=m.length+i.size/\R (.ok<|.ret<|.bool<|co k m) (L,g,d,M,P)) _
  case turn=>
   rintro⟨y,x⟩ v b s' ⟨D,rfl,Q,S,k,m,o,E,p,j,z⟩;cases E with
   |nil=>rw[List.zip_nil_left] at o;cases o
   |cons a t G=>
    cases p with
    |nil=>rw[List.zip_nil_right] at o;cases o
    |cons c u H=>
     rw[IY] at o;injection o with hyx hrest
     injection hyx with hy hx
     subst hy hx;rw[ib] at z;simp only[dP] at j;obtain⟨e,he,C⟩:=abn A.in1 (L,g,d,M,P) a t c u;refine ag<|he r w _ _ ?_;cases e with
     |true=>
      rw[aB<|C.mp O] at z
      wp_walk
      exact(O,O,_,_,_,_,hrest,G,H,ω,z)
     |false=>
      rw[au (λq=>aZ (C.mpr q) eP)] at z;have a0:=abh A.in1 (L,g,d,M,P) a t c u r w
      wp_walk using a0
      exact(_,O,by simpa using z)
  case fin=>
   rintro⟨b1,b2⟩ s' ⟨D,rfl,Q,S,k,m,o,E,p,j,z⟩;simp only at D;subst D;have hv:co k m=aG (i.size<f.size):=by
    cases E with
    |nil=>
     cases p with
     |nil=>
      simp only[nB] at j;rw[Pg];exact(cf ω).symm
     |cons c u hw=>
      simp only[nB,dP] at j;rw[xS];exact(bZ ω).symm
    |cons a t hv=>
     cases p with
     |nil=>
      simp only[nB,dP] at j;rw[Ph];exact(cf ω).symm
     |cons c u hw=>
      rw[IY] at o;cases o
   rw[hv] at z
   wp_walk
   exact(_,O,by simpa[ajy] using z)
  case h=>
   exact(O,O,i.toList,f.toList,I,K,O,hi,hj,ω,h)
end
section
variable{prog:aU}{w:aO}{A:bg}{E:Ω}{s:ai}
def abk{d e:List Int}{Q:Ω}(u:jL s.heap l c)(v:jL s.heap b a)(y:fU c.toList d)(z:fU a.toList e)(C:A.units<cH)(h:Q (.bool<|co d e) s):am (aE prog w) A (gu .Lt (.ref l)<|.ref b) Q E s:=by
 obtain⟨⟨D,G,o,H⟩,p,q,n,r⟩:=id u;obtain⟨⟨t,j,k,m⟩,f,g,I,i⟩:=id v;simp only at q r g i;subst q r g i;exact richCompare_meets_room (op:=.Lt) (_,p,O) (_,f,O) PySem.F.slot_tuple_lt PySem.F.entry_tuple_lt (PySem.F.args_tuple_lt_2 _ _) (abf l b c a n I G j H m d e y z)
  (p,f,show dS (co d e)≠Value.notImplemented/\Q (.bool<|co d e) s from((λx=>nomatch x),h)) C
def abo{t b:V}{d a:List aa}{Q:Ω}(z:jL s.heap t d.toArray)(C:jL s.heap b a.toArray)(o:d≠[])(D:a=[]->Q (.ref t) s)(G:a≠[]->Q (.ref s⁻¹) {s with heap:=s.heap.push {cls:=.type "tuple",data:=.seq (d++a).toArray}})(l:d.length+a.length<=bG):am (aE prog w) A (pz .Add (.ref t)<|.ref b) Q E s:=by
 obtain⟨⟨H,p,q,r⟩,j,u,n,v⟩:=id z;obtain⟨⟨x,f,m,g⟩,c,h,y,i⟩:=id C;simp only at u v h i;subst u v h i;have e:d.toArray++a.toArray=(d++a).toArray:=by simp
 by_cases k:a=[]
 ·exact Qp (_,j,O) (_,c,O) Qd PV QI QL (QP _ _)
   (tuple_addW1 t b d.toArray a.toArray n y p f r g (by simpa using o) (by simp[k])) (j,c,D k)
 ·refine Qp (_,j,O) (_,c,O) Qd PV QI QL (QP _ _)
   (tuple_addW2 t b d.toArray a.toArray n y p f r g (by simpa using o) (by simpa using k) (by rw[cz,cz];exact l)) (j,c,?_)
  rw[e];exact G k
def cu(n d:Nat):Option Int->Nat
 |none=>d
 |some v=>if v<0 then(v+(n:Int)).toNat else fV v.toNat n
def BP(n d:Nat):cu n d Z=d:=O
def xR(n d k:Nat):cu n d (U (k:Int))=fV k n:=by
 show(if(k:Int)<0 then((k:Int)+(n:Int)).toNat else fV (k:Int).toNat n)=fV k n;rw[au ω,wn]
def abg(n d:Nat)(b:d<=n)(o:Option Int):cu n d o<=n:=by
 cases o with
 |none=>exact b
 |some v=>
  show(if v<0 then(v+(n:Int)).toNat else fV v.toNat n)<=n
  by_cases a:v<0
  ·rw[aB a];omega
  ·rw[au a];exact Rp _ _
def Pj(v:Int)(n d:Nat):(if v<0 then max (v+(n:Int)) 0 else fV v (n:Int))=((cu n d (U v):Nat):Int):=by
 show(if v<0 then max (v+(n:Int)) 0 else fV v (n:Int))=(((if v<0 then(v+(n:Int)).toNat else fV v.toNat n):Nat):Int)
 by_cases a:v<0
 ·simp only[aB a];omega
 ·simp only[au a];omega
def abp(a b:Option Int)(n:Nat):QY a b 1 (n:Int)=(adc (((cu n 0 a:Nat):Int)) (((cu n n b:Nat):Int))):=by
 have c:¬((1:Int)<0):=ω
 unfold QY;simp only[c,cM];refine Prod.ext ?_ ?_
 ·cases a with
  |none=>rfl
  |some v=>exact Pj v n 0
 ·cases b with
  |none=>rfl
  |some v=>exact Pj v n n
def abi(i j:Nat):Iy (i:Int) (j:Int) 1=j-i:=by
 unfold Iy;have a:(1:Int)>0:=ω
 simp only[a,dQ,Int.ediv_one];split<;>omega
def Pe{Q:Option Int->ai->Prop}(p:qp v o)(h:Q o s):am (aE prog w) A (ajz v) Q E s:=by
 cases p with
 |none=>exact slicePart_none h
 |int i t=>exact slicePart_int h
def Pf{e f:aa}{n:Nat}{Q:Int×Int×Nat->ai->Prop}(i:s.heap.IsSliceOf g e f .none)(j:qp e a)(k:qp f b)(h:Q (adc (((cu n 0 a:Nat):Int)) (adc 1 (cu n n b-cu n 0 a))) s):am (aE prog w) A (afl (.ref g)<|bH (n:Int)) Q E s:=by
 obtain⟨m,c,l,d⟩:=id i;unfold afl aj0;refine ag<|ag<|gm c d (x:=e) O<|ag<|gm c d (x:=f) O<|ag<|gm c d (x:=.none) O<|aC ?_;refine ag<|slicePart_none ?_;show am _ _ (if((1:Int)==0)=ae then _ else _) _ _ s;rw[au ξ];refine ag<|Pe j<|ag<|Pe k<|ag<|aC ?_;show am _ _ (match QY a b 1 (n:Int) with|(a,b)=>bH (adc a (adc ((1:Int)) (Iy a b 1)))) _ _ s;rw[abp a b n];show am _ _ (bH (adc (((cu n 0 a:Nat):Int)) (adc ((1:Int)) (Iy ((cu n 0 a:Nat):Int) ((cu n n b:Nat):Int) 1)))) _ _ s;rw[abi];exact aC h
def abj(a:Array aa)(i k:Nat):((dk k).filterMap λ(m:Nat)=>a[((i:Int)+(m:Int)*1).toNat]?).toArray=((a.toList.drop i).take k).toArray:=by
 have e:(λ(m:Nat)=>a[((i:Int)+(m:Int)*1).toNat]?)=λm=>a[i+m]?:=by
  funext m
  have:((i:Int)+(m:Int)*1).toNat=i+m:=ω
  rw[this]
 rw[e];have:=pick_run a i k;rw[List.filterMap_map] at this;have b:((λx=>a[x]?) ∘ λx=>i+x)=λm=>a[i+m]?:=O;rw[b] at this;rw[this]
def abm{t f:V}{l n:aa}{Q:Ω}(e:jL s.heap t a)(o:s.heap.IsSliceOf f l n .none)(p:qp l c)(r:qp n d)(hw:¬(cu a.size 0 c=0/\cu a.size a.size d=a.size))(h:Q (.ref s⁻¹) {s with heap:=s.heap.push {cls:=.type "tuple",data:=.seq ((a.toList.drop<|cu a.size 0 c).take<|cu a.size a.size d-cu a.size 0 c).toArray}})(u:a.size<=bG):am (aE prog w) A (ql (.ref t)<|.ref f) Q E s:=by
 have b:sizeOk (.seq ((a.toList.drop<|cu a.size 0 c).take<|cu a.size a.size d-cu a.size 0 c).toArray):=by
  show((a.toList.drop<|cu a.size 0 c).take<|cu a.size a.size d-cu a.size 0 c).toArray.size<=bG;rw[cz,eF,mK,i_];omega
 have y:cu a.size a.size d<=a.size:=abg _ _ (bc _) d;obtain⟨v,g,i,x⟩:=id o;have j:s.TypeIs (.ref f) "slice":=(v,g,i);unfold ql
 try with_reducible refine fz ?_
 first|refine ag<|aC ?_|skip
 refine ag<|acz e.typeIs ξ ?_;refine ag (pt (name:=iu "__getitem__") e.typeIs vV
 <|lT vV e.typeIs af8 ?_<|aga _ _)
 show am _ _ (afj (.ref t) >>= _) _ _ s;refine ag<|tupleItemsOf_ e ?_;refine ag<|rH j ?_;rw[aB ξ];refine ag<|Pf o p r ?_;have k:¬((((cu a.size 0 c:Nat):Int)==0&&(1:Int)==1&&(cu a.size a.size d-cu a.size 0 c)==a.size)=ae):=by
  intro q;rw[iN,iN] at q;have z:((cu a.size 0 c:Nat):Int)=0:=yU q.1.1;have C:cu a.size a.size d-cu a.size 0 c=a.size:=yU q.2;exact hw (ω,ω)
 show am _ _ (if(((cu a.size 0 c:Nat):Int)==0&&(1:Int)==1&&(cu a.size a.size d-cu a.size 0 c)==a.size)=ae then _ else _) _ _ s;rw[au k,abj]
 first
  |exact ag (m:=ajx _)<|mE (aC (_,O,aC h)) b
  |exact wpAny_bind (m:=Builtin.Tuple.tupleExact _)<|wpAny_newObj_type (wpAny_bind<|wpAny_pure<|wpAny_pure (_,rfl,wpAny_pure h)) b
  |exact wpAny_bind<|wpAny_bind (m:=Builtin.Tuple.tupleExact _)<|wpAny_newObj_type (wpAny_pure<|wpAny_pure (_,rfl,wpAny_pure h)) b
  |exact wpAny_bind<|wpAny_bind (m:=Builtin.Tuple.tupleExact _)<|wpAny_newObj_type (wpAny_pure (_,rfl,wpAny_pure h)) b
end
abbrev wX:=aM->ac->(Option Int->ac->Prop)->Prop
def Ab(X:aK)(e:Option bf)(t:wX):Prop:=
 ∀(a:Ψ)(s:ai)(b:aM)(H:ac)(Q:Option Int->ac->Prop),aw X a b H s->t b H Q->
  am (aE X.prog X.w) X.A (evalPart e X.env) (λu d=>∃o c,aw X a b c d/\qp u o/\Q o c) X.a s
def zr:wX:=λ_ H Q=>Q Z H
inductive MM(x:af)(Q:Option Int->ac->Prop)(H:ac):Prop
 |a:∀i,(x=.d i)->Q (U i) H->MM x Q H
def zp(t:bb):wX:=λa H Q=>t a H λx b=>MM x Q b
def oU{a:List Int}:∀{b:List aa},bW (a.map af.d) b->fU b a:=by
 induction a with
 |nil=>intro b r;rw[yK] at r;cases r;exact .nil
 |cons n a c=>
  intro b r;rw[df] at r;cases r with
  |cons d f=>
   obtain⟨t,e⟩:=d;subst e;exact .cons n t<|c f
section
variable{X:aK}{e:bf}{te:bb}{lo hi:Option bf}{tl th:wX}{pos p2:bR}
def oJ:Ab X Z zr:=by
 intro a s b H Q I h;rw[evalPart_none];exact aC (Z,H,I,.none,h)
def oH(h:bA X e te):Ab X (U e) (zp te):=by
 intro a s b H Q I c;rw[evalPart_some];refine bI (h a s b H _ I c) λu k (x,d,f,g,j)=>?_;obtain⟨i,rfl,q⟩:=j;obtain⟨t,rfl⟩:=g;exact(U i,d,f,.int i t,q)
def z_(X:aK)(r:af->Option Int->Option Int->ac->aL->Prop):Prop:=
 ∀(a:Ψ)(s:ai)(b:aM)(H:ac)(x:af)(v c d:aa)(lo hi:Option Int)(e:V)(Q:aL),aw X a b H s->cb x v->s.heap.IsSliceOf e c d .none->qp c lo->qp d hi->r x lo hi H Q->
  ∃T f,Ht (.type T) "__getitem__"=bH (U<|.builtin f)/\s.TypeIs v T/\am (aE X.prog X.w) X.A (ql v<|.ref e) (ju X a b Q) X.a s
def zo(r:af->Option Int->Option Int->ac->aL->Prop)(te:bb)(tl th:wX):bb:=λa H Q=>te a H λx b=>tl a b λl c=>th a c λu d=>r x l u d Q
def oM(j:z_ X r)(k:bA X e te)(m:Ab X lo tl)(n:Ab X hi th):bA X (.Subscript e (.Slice lo hi Z p2) pos) (zo r te tl th):=by
 intro a s d H Q I h;refine Rj<|bI (k a s d H _ I h) λv o (x,p,t,w,y)=>?_;refine wpAny_Slice<|bI (m a o d p _ t y) λf z (l,A,C,D,E)=>bI (n a z d A _ C E) λg c (u,i,G,K,L)=>?_;rw[evalPart_none];refine aC ?_;have M:aw X a d i {c with heap:=c.heap.push {cls:=.type "slice",data:=.fields #[f,g,.none]}}:=G.W (t':=c.toks) λb ob q=>bJ _ q;obtain⟨T,id,P,R,S⟩:=j a {c with heap:=c.heap.push {cls:=.type "slice",data:=.fields #[f,g,.none]}} d i x v f g l u c⁻¹ Q M w (ai7 ..) D K L;show am (aE X.prog X.w) X.A (Re e (.Slice lo hi Z p2) v<|.ref c⁻¹) (ju X a d Q) X.a {c with heap:=c.heap.push {cls:=.type "slice",data:=.fields #[f,g,.none]}};exact tail_any (ops:=[.ref c⁻¹,v]) R P S (by with_unfolding_all rfl)
def iR(a:List af)(lo hi:Option Int):List af:=(a.drop<|cu a.length 0 lo).take<|cu a.length a.length hi-cu a.length 0 lo
def Mq(a:List af)(lo hi:Option Int):(iR a lo hi).length<=a.length:=by
 unfold iR;rw[eF,mK];omega
inductive Em(K:aH)(x:af)(lo:Option Int)(hi:Option Int)(H:ac)(Q:aL):Prop
 |b:∀a xs,(x=.c a)->(fm K H a xs)->(¬(cu xs.length 0 lo=0/\cu xs.length xs.length hi=xs.length))->(∀p,H p=Z->Q (.c p) (av H p<|.b<|iR xs lo hi))->Em K x lo hi H Q
def Ei:z_ X (Em X.K):=by
 intro f s t H x v u w lo hi y Q I j k l m h;obtain⟨a,d,rfl,n,p,q⟩:=h;cases j;obtain⟨e,r,g,i⟩:=I.J n;have c:e.toArray.size=d.length:=by rw[cz];exact r.B.symm
 refine("tuple",_,vV.lookup,g.typeIs,?_);refine abm g k l m (by rw[c];exact p) ?_ (by rw[c];exact i);rw[c];refine(.c s⁻¹,_,I.F (t':=s.toks) (o:=.b<|iR d lo hi) (λb z q=>bJ _ q) (bc _) ?_,O,q _<|I.b.B<|bc _);exact(dE (Mq d lo hi) i,_,(r.W<|cu d.length 0 lo).A0<|cu d.length d.length hi-cu d.length 0 lo,Rk _ _)
def bW.A1(r:bW a b):b=[]↔a=[]:=by
 cases r with
 |nil=>simp
 |cons _ _=>simp
end
def pQ(n:Nat)(i:Int):Option Nat:=if 0<=i then(if i<n then U i.toNat else Z) else if -(n:Int)<=i then U (i+n).toNat else Z
def lP{a:Type}(b:List a)(i:Int):Option a:=(pQ b.length i).bind λj=>b[j]?
def LQ{n:Nat}{i:Int}{j:Nat}(h:pQ n i=U j):seqIndex? i n=U j/\j<n/\-(n:Int)<=i/\i<n:=by
 unfold pQ at h
 by_cases b:0<=i
 ·rw[aB b] at h
  by_cases a:i<n
  ·rw[aB a] at h
   have e:i.toNat=j:=ca h;exact(by rw[PW b a,e],ω,ω,a)
  ·rw[au a] at h;cases h
 ·rw[au b] at h
  by_cases a:-(n:Int)<=i
  ·rw[aB a] at h
   have e:(i+n).toNat=j:=ca h;exact(by rw[PX ω a,e],ω,a,ω)
  ·rw[au a] at h;cases h
def MQ{b:Type}{a:List b}{i:Int}{v:b}(h:lP a i=U v):∃j,seqIndex? i a.length=U j/\a[j]?=U v/\j<a.length/\-(a.length:Int)<=i/\i<a.length:=by
 unfold lP at h;cases e:pQ a.length i with
 |none=>rw[e] at h;cases h
 |some j=>
  rw[e] at h;obtain⟨c,d,f,g⟩:=LQ e;exact(j,c,h,d,f,g)
def kW{b:Type}{a:List b}{j:Nat}{v:b}(h:a[j]?=U v):lP a (j:Int)=U v:=by
 have c:j<a.length:=(cE.mp h).1;have e:pQ a.length (j:Int)=U j:=by
  unfold pQ;rw[aB ω,aB ω];simp
 unfold lP;rw[e];exact h
def Wz{b:Type}(a:List b)(v:b):lP (a++[v]) (-1)=U v:=by
 have c:(a++[v]).length=a.length+1:=by simp
 have e:pQ (a++[v]).length (-1)=U a.length:=by
  unfold pQ;rw[c,au ξ,aB ω]
  congr 1
  omega
 unfold lP;rw[e];show(a++[v])[a.length]?=U v;simp
def WG(b:bf):Prop:=∀o i,Hv b ao o i=operate [o,i] (ql o i)
def EV(X:aK)(r:mq):Prop:=
 ∀(c a:bf)(b:Ψ)(s:ai)(d:aM)(H:ac)(x y:af)(v u:aa)(Q:aL),aw X b d H s->cb x v->cb y u->r x y H Q->
  Hv a ao v u=operate [v,u] (ql v u)->am (aE X.prog X.w) X.A (Re c a v u) (ju X b d Q) X.a s
def M_(X:aK)(e:String)(r:af->List af->ac->aL->Prop):Prop:=
 ∀(a:Ψ)(s:ai)(b:aM)(H:ac)(x:af)(c:List af)(v:aa)(d:List aa)(Q:aL),aw X a b H s->cb x v->bW c d->r x c H Q->
  am (aE X.prog X.w) X.A (gv (.builtin e)<|v::d) (ju X a b Q) X.a s
section
variable{X:aK}{a b:bf}{ta tb:bb}{pos:bR}
def dG(d:EV X r)(e:bA X a ta)(f:bA X b tb)(g:WG b):bA X (.Subscript a b pos) (dW r ta tb):=by
 intro c s i H Q I h;exact Rj<|EO e f I h λv u j x y k l m n q=>d a b c j i k x y v u Q l m n q<|g _ _
inductive Lf(K:aH)(x:af)(y:af)(H:ac)(Q:aL):Prop
 |a:∀p xs i v,(x=.c p)->(y=.d i)->(bx K H p xs)->(lP xs i=U v)->(Q v H)->Lf K x y H Q
inductive uJ(K:aH)(x:af)(y:af)(H:ac)(Q:aL):Prop
 |a:∀p xs i v,(x=.c p)->(y=.d i)->(fm K H p xs)->(lP xs i=U v)->(Q v H)->uJ K x y H Q
def jr:EV X (Lf X.K):=by
 intro d e a s m H x y v u Q I C D h n;obtain⟨p,S,i,z,rfl,rfl,E,G,q⟩:=h;cases C;obtain⟨t,rfl⟩:=D;obtain⟨f,r,g,T⟩:=I.B E;obtain⟨j,c,K,h3,L,M⟩:=MQ G;obtain⟨w,o,k⟩:=r.J K;have P:=r.B;have hn:=zR;have b:ju X a m Q w s:=(z,H,I,k,q)
 by_cases A:0<=i
 ·have l:i.toNat=j:=by
   rw[PW A M] at c;exact ca c
  exact item_listR g.isList A ω (by rw[l];simpa using o) b n
 ·have l:(i+(f.toArray.size:Int)).toNat=j:=by
   rw[PX ω L] at c;rw[cz,<-P];exact ca c
  exact af1 (x:=w) g.isList.typeIs adh.lookup
   (wpAny_getItem_list_neg (Q:=λr R=>r=w/\ju X a m Q r R) g.isList ω (by rw[cz]<;>omega) ω (by rw[l];simpa using o) (O,b)) n
def gF:EV X (uJ X.K):=by
 intro b c a s f H x y v u Q I k l h m;obtain⟨p,L,i,z,rfl,rfl,n,o,q⟩:=h;cases k;obtain⟨t,rfl⟩:=l;obtain⟨A,r,g,M⟩:=I.J n;obtain⟨j,C,D,P,R,S⟩:=MQ o;obtain⟨w,E,d⟩:=r.J D;have G:=r.B;have T:=zR;have e:ju X a f Q w s:=(z,H,I,d,q);exact af1 (x:=w) g.typeIs vV.lookup
  (getItem_tuple (j:=j) (Q:=λr K=>r=w/\ju X a f Q r K) g ω ω (by rw[cz,<-G];exact C) (by simpa using E) (O,e)) m
def Vl(a:List aa)(n j:Nat)(u:aa):b_ (·.setIfInBounds j u) {cls:=.type "list",data:=.seq a.toArray n}={cls:=.type "list",data:=.seq (a.set j u).toArray n}:=by
 simp[b_]
def aw.E4{b:Ψ}{d:aM}{s:ai}(I:aw X b d H s)(h:H p=U (.a c)):∃(a:List aa)(n:Nat),bW c a/\s.heap.get? p=U {cls:=.type "list",data:=.seq a.toArray n}/\c.length<=bG:=by
 obtain⟨z,a,n,r,e⟩:=I.b p _ h;exact(a,n,r,e,z)
def aw.D6{j:aM}{s:ai}{l g:List af}{d a:List aa}{n i:Nat}{f:aR->aR}(I:aw X c j H s)(h:H p=U (.a l))(m:s.heap.get? p=U {cls:=.type "list",data:=.seq d.toArray n})(k:f {cls:=.type "list",data:=.seq d.toArray n}={cls:=.type "list",data:=.seq a.toArray i})(r:bW g a)(o:g.length<=bG)(t:Nat):aw X c j (av H p<|.a g) {s with heap:=s.heap.update p f,toks:=t}:=by
 have e:(s.heap.update p f).get? p=U {cls:=.type "list",data:=.seq a.toArray i}:=by
  rw[pC f m (by rw[k]<;>rfl),k]
 refine I.C3 (x:=p) (e:=p) (by rw[h];trivial) (.inl O) (λb u v q=>(lB _ _<|dB v).trans q) (_,e) ?_;exact(o,a,i,r,e)
inductive Lb(o:af)(i:af)(v:af)(H:ac)(Q:ac->Prop):Prop
 |a:∀p xs k j,(o=.c p)->(i=.d k)->(H p=U (.a xs))->(pQ xs.length k=U j)->(Q<|av H p<|.a<|xs.set j v)->Lb o i v H Q
def KQ:MX X Lb:=by
 intro a s y H o i v K L u Q I z A C h;obtain⟨p,D,k,j,rfl,rfl,g,E,q⟩:=h;cases z;obtain⟨t,rfl⟩:=A;obtain⟨b,n,r,d,G⟩:=I.E4 g;obtain⟨c,M,l,m⟩:=LQ E;have e:=r.B;have P:=zR;have w:aw X a y (av H p<|.a<|D.set j v) {s with heap:=s.heap.update p (b_ (·.setIfInBounds j u))}:=
  I.D6 g d (Vl b n j u) (r.A2 C j) (by rw[List.length_set];exact G) s.toks
 by_cases x:0<=k
 ·have f:k.toNat=j:=by
   rw[PW x m] at c;exact ca c
  exact PySem.W.ki_setAt d x ω (by rw[cz,<-e];exact m) (by rw[f];exact(_,w,q))
 ·have f:(k+(b.toArray.size:Int)).toNat=j:=by
   rw[PX ω l] at c;rw[cz,<-e];exact ca c
  exact PySem.W.ki_setBack d ω (by rw[cz,<-e];exact l) ω (by rw[f];exact(_,w,q))
def Uf(a b:Option Int)(n:Nat):(vI a b Z n).1=((cu n 0 a:Nat):Int)/\(vI a b Z n).2.1=((cu n n b:Nat):Int)/\(vI a b Z n).2.2=1:=by
 refine(?_,?_,O)
 ·cases a with
  |none=>simp[vI,cu]
  |some i=>
   simp only[vI,cu,agi,show(1:Int)>0 from ξ,dQ]
   by_cases h:i<0
   ·simp only[h,dQ]<;>omega
   ·simp only[h,cM]<;>omega
 ·cases b with
  |none=>simp[vI,cu]
  |some i=>
   simp only[vI,cu,agi,show(1:Int)>0 from ξ,dQ]
   by_cases h:i<0
   ·simp only[h,dQ]<;>omega
   ·simp only[h,cM]<;>omega
def Ug(a:List aa)(b c:Option Int):slicePick a.toArray b c Z=((a.drop<|cu a.length 0 b).take<|cu a.length a.length c-cu a.length 0 b).toArray:=by
 obtain⟨d,e,f⟩:=Uf b c a.toArray.size;unfold slicePick;rw[d,e,f];simp only[sliceRange_one,pick_run,cz]<;>rfl
inductive La(K:aH)(x:af)(lo:Option Int)(hi:Option Int)(H:ac)(Q:aL):Prop
 |b:∀a xs,(x=.c a)->(bx K H a xs)->(∀p,H p=Z->Q (.c p) (av H p<|.a<|iR xs lo hi))->La K x lo hi H Q
def zy:z_ X (La X.K):=by
 intro g s u H x v w y e f z Q I j k l m h;obtain⟨a,c,rfl,n,q⟩:=h;cases j;obtain⟨p,r,i,t⟩:=I.B n;have d:=r.B;refine("list",_,adh.lookup,i.isList.typeIs,?_);refine wpAny_getItem_list_slice i.isList k l m .none (by simp) ?_ (by rw[cz]<;>exact à (æ d) t);rw[Ug,<-d];refine(.c s⁻¹,_,I.F (t':=s.toks) (o:=.a<|iR c e f) (λb A q=>bJ _ q) (bc _) ?_,O,q _<|I.b.B<|bc _);exact(dE (Mq c e f) t,_,0,(r.W<|cu c.length 0 e).A0<|cu c.length c.length f-cu c.length 0 e,dv _ O)
def lO:af->Bool
 |.g=>ae
 |.e _=>ae
 |.d _=>ae
 |.f _=>ae
 |_=>ao
def kt:af->af->Bool
 |.g,.g=>ae
 |.e a,.e b=>a==b
 |.e a,.d b=>(if a then 1 else 0)==b
 |.d a,.e b=>a==(if b then 1 else 0)
 |.d a,.d b=>a==b
 |.f a,.f b=>a==b
 |_,_=>ao
def VU{s:ai}(e:cb y u)(c:cb x v)(g:lO y=ae)(f:lO x=ae):yt A s u v (kt y x):=by
 cases y with
 |g=>
  cases e;cases x with
  |g=>cases c;exact SeqAt.EqAt.same _
  |e b=>cases c;exact SeqAt.EqAt.none_bool b
  |d b=>obtain⟨t,rfl⟩:=c;exact SeqAt.EqAt.none_int b t
  |f b=>obtain⟨t,rfl⟩:=c;exact SeqAt.EqAt.none_str b t
  |_=>exact aZ (show ao=ae from f) eP
 |e a=>
  cases e;cases x with
  |g=>cases c;exact SeqAt.EqAt.bool_none a
  |e b=>cases c;exact aeh a b
  |d b=>obtain⟨t,rfl⟩:=c;exact SeqAt.EqAt.bool_int a b t
  |f b=>obtain⟨t,rfl⟩:=c;exact SeqAt.EqAt.bool_str a b t
  |_=>exact aZ (show ao=ae from f) eP
 |d a=>
  obtain⟨d,rfl⟩:=e;cases x with
  |g=>cases c;exact SeqAt.EqAt.int_none a d
  |e b=>cases c;exact SeqAt.EqAt.int_bool a d b
  |d b=>obtain⟨t,rfl⟩:=c;exact If a d b t
  |f b=>obtain⟨t,rfl⟩:=c;exact aeg a d b t
  |_=>exact aZ (show ao=ae from f) eP
 |f a=>
  obtain⟨d,rfl⟩:=e;cases x with
  |g=>cases c;exact SeqAt.EqAt.str_none a d
  |e b=>cases c;exact SeqAt.EqAt.str_bool a d b
  |d b=>obtain⟨t,rfl⟩:=c;exact aef a d b t
  |f b=>obtain⟨t,rfl⟩:=c;exact SeqAt.EqAt.str_str a d b t
  |_=>exact aZ (show ao=ae from f) eP
 |_=>exact aZ (show ao=ae from g) eP
def ku(x:af)(u:aa):Bool:=match u with
 |.none=>kt .g x
 |.bool b=>kt (.e b) x
 |.int i _=>kt (.d i) x
 |.str z _=>kt (.f z) x
 |_=>ao
def zW(r:cb y u)(f:lO y=ae):ku x u=kt y x:=by
 cases y with
 |g=>cases r;rfl
 |e b=>cases r;rfl
 |d i=>obtain⟨t,rfl⟩:=r;rfl
 |f z=>obtain⟨t,rfl⟩:=r;rfl
 |_=>exact aZ (show ao=ae from f) eP
def EP:∀{a:List af}{b:List aa},bW a b->a.all lO=ae->b.any (ku x)=a.any λy=>kt y x
 |_,_,.nil,_=>O
 |y::a,u::b,.cons r t,f=>by
  rw[wj,iN] at f;rw[wh,wh,zW r f.1,EP t f.2]
def wJ{s:ai}(d:cb x v)(e:lO x=ae):∀{b:List af}{c:List aa},bW b c->b.all lO=ae->∀u∈c,yt A s u v (ku x u)
 |_,_,.nil,_=>λu a=>by cases a
 |y::b,u::c,.cons r t,f=>λg a=>by
  rw[wj,iN] at f;rcases ci.mp a with rfl|a
  ·rw[zW r f.1];exact VU r d f.1 e
  ·exact wJ d e t f.2 g a
def zT(x:af)(a:List af):Bool:=a.any λy=>kt y x
inductive Lh(K:aH)(neg:Bool)(x:af)(y:af)(H:ac)(Q:aL):Prop
 |a:∀p xs,(y=.c p)->((bx K H p xs\/fm K H p xs))->(lO x=ae)->(xs.all lO=ae)->(Q (.e<|if neg then !zT x xs else zT x xs) H)->Lh K neg x y H Q
def Lx:fy X (gu .NotIn) (Lh X.K ae):=by
 intro f s l H x y v u Q I g j h;obtain⟨p,m,rfl,b,i,c,q⟩:=h;cases j;rcases b with b|b
 ·obtain⟨a,r,d,k⟩:=I.B b
  refine aee (ku x) d.isList (λw e=>wJ g i r c w (by simpa using e)) (.e _,H,I,O,?_);rw[show a.toArray.any (ku x)=a.any (ku x) by simp,EP r c];exact q
 ·obtain⟨a,r,d,k⟩:=I.J b
  refine SeqAt.notIn_tupleAt (ku x) d (λw e=>wJ g i r c w (by simpa using e)) (.e _,H,I,O,?_);rw[show a.toArray.any (ku x)=a.any (ku x) by simp,EP r c];exact q
inductive wC(K:aH)(xs:List af)(H:ac)(Q:aL):Prop
 |a:∀p ys,(xs=[.c p])->(bx K H p ys\/fm K H p ys)->Q (.d ys.length) H->wC K xs H Q
def gW:io X (.builtin "len") (wC X.K):=by
 intro f s k H l m Q I r h;obtain⟨p,g,rfl,b,q⟩:=h;obtain⟨u,rfl,i⟩:=gU r;cases i;have n:=zR;rcases b with b|b
 ·obtain⟨c,d,e,j⟩:=I.B b
  have a:=d.B;exact Calls.call_len_list e.isList (by simp only[cz]<;>omega) (.d g.length,H,I.N _,(s.toks+1,by rw[cz,a]),q)
 ·obtain⟨c,d,e,j⟩:=I.J b
  have a:=d.B;exact len_tuple e (by simp only[cz]<;>omega) (.d g.length,H,I.N _,(s.toks+1,by rw[cz,a]),q)
inductive En(K:aH)(xs:List af)(H:ac)(Q:aL):Prop
 |a:∀p ys,(xs=[.c p])->(bx K H p ys\/fm K H p ys)->(∀l,H l=Z->Q (.c l) (av H l<|.a ys))->En K xs H Q
def qT:io X (.type "list") (En X.K):=by
 intro g s A H D E Q I r h;obtain⟨p,t,rfl,i,q⟩:=h;obtain⟨u,rfl,C⟩:=gU r;cases C;have j:∀(a:List aa),bW t a->t.length<=bG->∀(c:aI)(d:Nat),(∀b z,s.heap.get? b=U z->c.get? b=U z)->
   c.get? s⁻¹=U {cls:=.type "list",dict:=Z,data:=.seq a.toArray d,slots:=#[]}->ju X g A Q (.ref s⁻¹) {s with heap:=c}:=λa f k c d l e=>
  (.c s⁻¹,_,I.F (t':=s.toks) l (bc _)<|show db X.prog X.w _ c _ (.a t) from(k,a,d,f,e),O,q _<|I.b.B<|bc _)
 rcases i with i|i
 ·obtain⟨a,f,v,k⟩:=I.B i
  have m:=f.B;obtain⟨o,w,x,n,y⟩:=v.isList;exact call_list_seq p (.inl O) w x y (λc d l e=>j a f k c d l e) (by simp only[cz]<;>exact à (æ m) k)
 ·obtain⟨a,f,v,k⟩:=I.J i
  have m:=f.B;obtain⟨o,w,x,n,y⟩:=v;exact call_list_seq p (.inr O) w x y (λc d l e=>j a f k c d l e) (by simp only[cz]<;>exact à (æ m) k)
def MA:io X (.type "tuple") (λk H Q=>∃p d,k=[.c p]/\((bx X.K H p d/\∀l,H l=Z->Q (.c l) (av H l<|.b d))\/(fm X.K H p d/\Q (.c p) H))):=by
 intro a s m H k z Q I r h;obtain⟨p,d,rfl,h⟩:=h;obtain⟨u,rfl,w⟩:=gU r;cases w;rcases h with ⟨g,q⟩|⟨g,q⟩
 ·obtain⟨c,i,j,n⟩:=I.B g
  have t:=i.B;refine call_tuple_list j.isList (λf x=>?_) (by simp only[cz]<;>exact à (æ t) n);have v:aw X a m H {s with heap:=f}:=I.W (t':=s.toks) x;have y:aw X a m (av H f.objs.size<|.b d) {s with heap:=f.push {cls:=.type "tuple",data:=.seq c.toArray}}:=
   v.F (t':=s.toks) (λb o e=>bJ _ e) (bc _)<|show db X.prog X.w _ _ _ (.b d) from(n,c,i,Rk _ _)
  exact(.c f.objs.size,_,y,O,q _<|v.b.B<|bc _)
 ·obtain⟨c,i,j,n⟩:=I.J g
  exact call_tuple_same j (.c p,H,I,O,q)
def Kx(K:aH)(T:String)(x:af)(H:ac):Prop:=match x with
 |.f _=>T="str"
 |.d _=>T="int"
 |.c p=>(T="list"/\∃b,bx K H p b)\/(T="tuple"/\∃o,K.lookup p=U o/\o.cls=.type "tuple"/\o.dict=Z) \/
   (T="dict"/\((∃a,H p=U (.g a))\/∃a,H p=U (.c a)))\/(T="set"/\∃S n,H p=U (.l S n))
 |_=>False
def Tt{s:ai}(I:aw X f q H s)(r:cb x v)(g:Kx X.K T x H):s.TypeIs v T/\∀a,v=.ref a->∃l,s.heap.get? a=U l/\l.dict=Z:=by
 cases x with
 |f z=>
  obtain⟨t,rfl⟩:=r;cases(show T="str" from g);exact(Hu s z t,λ_ e=>nomatch e)
 |d i=>
  obtain⟨t,rfl⟩:=r;cases(show T="int" from g);exact(PP s i t,λ_ e=>nomatch e)
 |c p=>
  cases r;rcases g with ⟨rfl,A,u⟩|⟨rfl,o,b,w,h⟩|⟨rfl,b⟩|⟨rfl,S,n,b⟩
  ·obtain⟨y,_,m,_⟩:=I.B u
   refine(m.isList.typeIs,λa e=>?_);cases e;obtain⟨o,n,e,c,h,_⟩:=m;exact(o,e,h)
  ·refine((o,I.A2 p o b,w),λa e=>?_)
   cases e;exact(o,I.A2 _ o b,h)
  ·have z:∃o,s.heap.get? p=U o/\o.ExactDict:=by
    rcases b with ⟨j,b⟩|⟨j,b⟩
    ·obtain⟨_,_,_,_,o,_,_,e,d,_⟩:=I.b p _ b
     exact(o,e,d)
    ·obtain⟨_,_,_,_,o,_,_,e,d,_⟩:=I.b p _ b
     exact(o,e,d)
   obtain⟨o,e,d⟩:=z;refine((o,e,d.1),λa k=>?_);cases k;exact(o,e,d.2.1)
  ·obtain⟨o,_,_,_,e,d,_⟩:=I.b p _ b
   refine((o,e,d.1),λa k=>?_);cases k;exact(o,e,d.2.1)
 |_=>exact dm g
def T_(K:aH)(T:String)(r:af->List af->ac->aL->Prop)(c:bb)(t:ff):bb:=λa H Q=>c a H λx b=>Kx K T x b/\t a b λd e=>r x d e Q
variable{o e:bf}{es:List bf}{to:bb}{t:ff}{name:al}{apos cpos:bR}{T id:String}{r:af->List af->ac->aL->Prop}
def oO(n:PlainAttrs T)(f:Slot T name id)(i:typeOf (.builtin id)=bH (.type "method_descriptor"))(p:M_ X id r)(q:bA X o to)(u:je X (e::es) t)(c:HO o name X.env (dO o X.env)=dO o X.env:=by rfl)
  (g:((lU cpos<|eM (e::es) X.env).all (λx=>!x.1)&&(Qu cpos<|Qg [] X.env).all (λx=>x.1.isSome)
   && aG ((e::es).length+([]:List vQ).length+(if([]:List vQ).isEmpty then 0 else 1)<30))=ae:=by rfl)
  (d:(apos.endLine==cpos.line)=ae:=by rfl) (w:eM (e::es) X.env=(adc ao (dO e X.env))::eM es X.env:=by rfl) (b:(lU cpos<|eM es X.env).any (·.1)=ao:=by rfl) :
  bA X (.Call (.Attribute o name apos) (e::es) [] cpos) (T_ X.K T r to t):=by
 intro a s j H Q I h;refine wpAny_Call_method_late c g d O<|bI (q a s j H _ I h) λv y (x,z,k,l,A,C)=>?_;obtain⟨D,E⟩:=Tt k l A;refine(T,id,n,f,i,D,E,?_);have m:=u cpos a y j z _ k C;rw[w] at m ⊢;refine QW (by show(ao|| (lU cpos<|eM es X.env).any (·.1))=ao;rw[b]<;>rfl)<|QU ?_;exact bI m λG K (L,M,P,R,S)=>p a K j M x L v G Q P l R S
end
def sX(X:aK)(e:String)(r:af->List af->ac->aL->Prop):Prop:=
 ∀(a:Ψ)(s:ai)(b:aM)(H:ac)(x:af)(c:List af)(v:aa)(d:List aa)(Q:aL),aw X a b H s->cb x v->bW c d->r x c H Q->
  am (aE X.prog X.w) X.A (gv (.builtin e)<|v::d) (ju X a b Q) X.a s
def bW.N{x:af}(h:bW [x] a):∃u,a=[u]/\cb x u:=by
 cases h with|cons r t=>cases t;exact(_,O,r)
def bW.A7{x y:af}(h:bW [x,y] a):∃u v,a=[u,v]/\cb x u/\cb y v:=by
 cases h with|cons r t=>obtain⟨v,rfl,q⟩:=bW.N t;exact(_,_,O,r,q)
def bW.A6:∀{a:List aa},bW [] a->a=[]
 |_,.nil=>O
def bW.A3:∀{a:List af}{b:List aa}(i:Nat),bW a b->bW (a.eraseIdx i) (b.eraseIdx i)
 |_,_,_,.nil=>.nil
 |_,_,0,.cons _ t=>t
 |_,_,i+1,.cons r t=>.cons r (bW.A3 i t)
def bW.A8(h:bW a b):bW a.reverse b.reverse:=by
 induction h with
 |nil=>exact .nil
 |cons r t c=>rw[ag1,ag1];exact bW.F c<|.cons r .nil
def bW.A5(h:bW a b):∀k:Nat,bW (jA k a).flatten (jA k b).flatten
 |0=>.nil
 |k+1=>by
  rw[Dm,Dm,Jj,Jj];exact bW.F h<|bW.A5 h k
def LJ{a:Type}:∀(l:List a)(i:Nat),(l.eraseIdx i).length<=l.length
 |[],_=>bc _
 |_::_,0=>lY _
 |_::r,i+1=>agj (LJ r i)
def Mf(a:List aa):∀(k:Nat)(b:List aa),
  Dt (λc d=>c++d) b.toArray (jA k a.toArray)=(b++(jA k a).flatten).toArray
 |0,b=>by simp
 |k+1,b=>by
  have e:b.toArray++a.toArray=(b++a).toArray:=by simp
  have f:(b++a)++(jA k a).flatten=b++(jA (k+1) a).flatten:=by
   rw[Dm,Jj,ut]
  rw[<-f,<-Mf a k<|b++a,<-e,Dm,pH]
section
variable{X:aK}{pins:Ψ}{σ:aM}{H:ac}{s:ai}{l b:V}{xs ys zs:List af}
def aw.B5{a its':List aa}{n:Nat}{f:Array aa->Array aa}{t':Nat}(I:aw X pins σ H s)(b:H l=U (.a xs))(e:s.heap.get? l=U {cls:=.type "list",data:=.seq a.toArray n})(c:f a.toArray=its'.toArray)(d:bW ys its')(g:ys.length<=bG):aw X pins σ (av H l<|.a ys) {s with heap:=s.heap.update l<|b_ f,toks:=t'}:=by
 have q:=PySem.IsL.update e f;rw[c] at q;refine I.C3 (x:=l) (e:=l) (by rw[b];exact trivial) (.inl O) (λj u h i=>(lB s.heap (b_ f)<|dB h).trans i) (_,q) ?_;exact(g,its',_,d,q)
def aw.C2{a:List aa}{t':Nat}(I:aw X pins σ H s)(b:bW ys a)(c:ys.length<=bG):aw X pins σ (av H s⁻¹<|.a ys) {s with heap:=s.heap.push {cls:=.type "list",data:=.seq a.toArray},toks:=t'}:=
 I.F (λ_ _ q=>bJ _ q) (bc _) (c,a,0,b,dv _ O)
def aw.D1(I:aw X pins σ H s):H s⁻¹=Z:=I.b.B<|bc _
def aw.A4(I:aw X pins σ H s)(b:H l=U (.a xs)):xs.length<=bG/\∃(a:List aa)(n:Nat),bW xs a/\xs.length=a.length/\s.heap.get? l=U {cls:=.type "list",data:=.seq a.toArray n}:=by
 obtain⟨z,a,n,r,e⟩:=I.b l _ b;exact(z,a,n,r,r.B,e)
def LG{n:Nat}(h:n<=bG):Iz n=ao:=by
 unfold Iz;exact cf (ù h)
end
section
variable{X:aK}
inductive Lj(x:af)(vs:List af)(H:ac)(Q:aL):Prop
 |a:∀l xs y,(x=.c l)->(vs=[y])->(H l=U (.a xs))->(xs.length<bG)->(Q .g<|av H l<|.a<|xs++[y])->Lj x vs H Q
def wI:sX X "list.append" Lj:=by
 intro b s i H x j v k Q I d f h;obtain⟨l,m,y,rfl,rfl,c,o,q⟩:=h;cases d;obtain⟨u,rfl,g⟩:=f.N;obtain⟨z,a,n,r,p,e⟩:=I.A4 c;refine nW CR (_,e,O) F.entry_list_append (F.args_list_append_2 _ _) (PySem.list_append l a.toArray n u (by rw[cz];exact à (æ p) z)) (e,?_);refine(.g,_,I.B5 (its':=a++[u]) c e (by simp) (r.F<|.cons g .nil) ?_,O,q);rw[dz,Dr];exact o
inductive Li(x:af)(vs:List af)(H:ac)(Q:aL):Prop
 |a:∀l b xs zs,(x=.c l)->(vs=[.c b])->(H l=U (.a xs))->(H b=U (.a zs))->(xs.length+zs.length<=bG)->(Q .g<|av H l<|.a<|xs++zs)->Li x vs H Q
def Vg:sX X "list.extend" Li:=by
 intro g s A H x C v D Q I j k h;obtain⟨l,b,E,G,rfl,rfl,i,m,K,q⟩:=h;cases j;obtain⟨u,rfl,o⟩:=k.N;cases o;obtain⟨z,c,n,r,L,e⟩:=I.A4 i;obtain⟨M,a,p,t,w,y⟩:=I.A4 m;have f:c.toArray.size+a.toArray.size<=bG:=by rw[cz,cz];exact à (à (ð (æ L)) (ñ (æ w))) K
 have d:¬(!c.toArray.isEmpty&&Iz (c.toArray.size+a.toArray.size))=ae:=by
  rw[LG f,pJ];exact eP
 refine nW aev (_,e,O) F.entry_list_extend (F.args_list_extend_2 _ _)
  (AutoSeq1.list_extend_list_list_0 l c.toArray n b a.toArray p d (by rw[cz];exact à (æ L) z) (í f)) (e,y,?_)
 refine(.g,_,I.B5 (its':=c++a) i e (by simp) (r.F t) ?_,O,q);rw[dz];exact K
inductive Es(x:af)(y:af)(H:ac)(Q:aL):Prop
 |a:∀l b xs zs,(x=.c l)->(y=.c b)->(H l=U (.a xs))->(H b=U (.a zs))->(xs.length+zs.length<=bG)->(∀p,H p=Z->Q (.c p) (av H p<|.a<|xs++zs))->Es x y H Q
def kT:fy X (pz .Add) Es:=by
 intro d s t H x y v u Q I f g h;obtain⟨l,b,w,A,rfl,rfl,i,j,C,q⟩:=h;cases f;cases g;obtain⟨z,c,n,r,D,e⟩:=I.A4 i;obtain⟨E,a,G,k,m,o⟩:=I.A4 j;refine PySem.P.add_list e o ?_ (by rw[cz,cz];exact à (à (ð (æ D)) (ñ (æ m))) C);have p:c.toArray++a.toArray=(c++a).toArray:=by simp
 rw[p];exact(.c _,_,I.C2 (t':=s.toks) (r.F k) (by rw[dz];exact C),O,q _ I.D1)
inductive Lc(x:af)(y:af)(H:ac)(Q:aL):Prop
 |a:∀l k xs,(x=.c l)->(y=.d k)->(H l=U (.a xs))->(-(2 ^ 63)<=k)->(k<2 ^ 63)->(xs.length*k.toNat<=bG)->(∀p,H p=Z->Q (.c p) (av H p<|.a (jA k.toNat xs).flatten))->Lc x y H Q
def Vn{b:Type}(a:List b)(k:Nat):(jA k a).flatten.length=k*a.length:=by
 induction k with
 |zero=>simp
 |succ k c=>rw[Dm,Jj,dz,c,Nat.succ_mul,Nat.add_comm]
def US:fy X (pz .Mult) Lc:=by
 intro p s P H x y v u Q I A C h;obtain⟨l,k,R,rfl,rfl,D,E,G,w,q⟩:=h;cases A;obtain⟨t,rfl⟩:=C;obtain⟨z,b,n,r,K,e⟩:=I.A4 D;have d:b.toArray.size*k.toNat<=bG:=by rw[cz,<-K];exact w
 have f:¬b.toArray.size*k.toNat>(2 ^ 63-1) / 8:=by
  have:(bG:Nat)<=(2 ^ 63-1) / 8:=ξ
  exact ù (à d this)
 have g:¬(!QZ k)=ae:=by
  rw[fitsIndex_both E G];exact eP
 have c:¬Iz (b.toArray.size*k.toNat)=ae:=by
  rw[LG d];exact eP
 have i:Dt (λj o=>j++o) #[] (jA (if b.toArray.isEmpty=ae then 0 else k.toNat) b.toArray)=(jA k.toNat b).flatten.toArray:=by
  have L:∀m:Nat,Dt (λj o=>j++o) #[] (jA m b.toArray)=(jA m b).flatten.toArray:=λm=>by
   have:=Mf b m [];rw[ag5] at this;exact this
  rw[L];cases b with
  |nil=>simp
  |cons a S=>rw[au (by simp)]
 refine wpAny_binaryOp_repeat_ref (T:="list") (U:="int") ξ (_,e,O) (λM=>PP M k t) noFill_list_mul F.fills_int_mul aex repeat_list F.slot_int_index.lookup
  (nW aex (PP s k t) F.entry_int_rmul (F.args_int_rmul_2 _ _) (int___rmul___int_list k t l b.toArray n)
   (e,O,(_,e,O),nW F.slot_list_mul (_,e,O) F.entry_list_mul (F.args_list_mul_2 _ _) (AutoListH.list___mul___list_int_3 l b.toArray n k t g f c) (e,?_)))
 rw[i];exact(.c _,_,I.C2 (t':=s.toks) (r.A5 k.toNat) (by rw[Vn,Ro];exact w),O,q _ I.D1)
end
section
variable{prog:aU}{w:aO}{A:bg}{E:Ω}{s:ai}
set_option maxRecDepth 100000 in
end
section
variable{κ:Type}[DecidableEq κ]
def fJ(a:List (κ×af))(k:κ):Option af:=(a.find? λb=>aG<|b.1=k).map (·.2)
def eQ(a:List (κ×af))(k:κ)(v:af):List (κ×af):=
 if(a.any λb=>aG<|b.1=k)=ae then a.map (λb=>if b.1=k then(adc b.1 v) else b) else a++[(adc k v)]
def zk{p:κ×af}{r:List (κ×af)}{k:κ}(e:p.1=k):fJ (p::r) k=U p.2:=by simp[fJ,lF,e]
def zl{p:κ×af}{r:List (κ×af)}{k:κ}(e:¬p.1=k):fJ (p::r) k=fJ r k:=by simp[fJ,lF,e]
def zm(k:κ):∀a:List (κ×af),(a.any λb=>aG<|b.1=k)=(fJ a k).isSome
 |[]=>O
 |p::r=>by
  rw[wh]
  by_cases e:p.1=k
  ·simp only[zk e,bZ e,Bool.true_or,Option.isSome_some]
  ·rw[zl e,cf e,Bool.false_or];exact zm k r
def zS(a:List (κ×af))(k:κ)(v:af):(eQ a k v).length<=a.length+1:=by
 unfold eQ;split
 ·rw[aA];exact ü
 ·rw[dz,dP,nB];exact ß
def Ut{k:κ}(v:af)(h:fJ a k=Z):eQ a k v=a++[(adc k v)]:=by
 unfold eQ;rw[zm,h];exact au ξ
def qY.B(r:qY o u):o.isSome=u.isSome:=by
 cases o with
 |none=>cases u with
  |none=>rfl
  |some _=>exact(show False from r).elim
 |some _=>cases u with
  |none=>exact(show False from r).elim
  |some _=>rfl
def qY.J(r:qY o u)(b:cb d a):cb (o.getD d) (u.getD a):=by
 cases o with
 |none=>cases u with
  |none=>exact b
  |some _=>exact(show False from r).elim
 |some _=>cases u with
  |none=>exact(show False from r).elim
  |some _=>exact r
def kY.B(r:kY a f)(k:κ):qY (fJ a k) (vH f k):=by
 unfold kY at r
 induction r with
 |nil=>exact vB
 |@cons p q l c h t i=>
  obtain⟨g,j⟩:=h
  by_cases e:p.1=k
  ·have d:q.1=k:=g.symm.trans e
   have b:vH (q::c) k=U q.2:=by simp[vH,lF,d]
   rw[zk e,b];exact j
  ·have d:¬q.1=k:=λz=>e<|g.trans z
   have b:vH (q::c) k=vH c k:=by simp[vH,lF,d]
   rw[zl e,b];exact i
def kY.N(r:kY a c)(k:κ):(a.any λb=>aG<|b.1=k)=c.any λb=>aG<|b.1=k:=by
 unfold kY at r
 induction r with
 |nil=>rfl
 |cons h t d=>rw[wh,wh,d,h.1]
def kY.J(r:kY b d)(k:κ)(f:cb y u):kY (b.map λa=>if a.1=k then(adc a.1 y) else a) (d.map λa=>if a.1=k then(adc a.1 u) else a):=by
 unfold kY at r ⊢
 induction r with
 |nil=>exact .nil
 |@cons p q j l h t g=>
  rw[df,df];refine .cons ?_ g;obtain⟨c,i⟩:=h
  by_cases e:p.1=k
  ·rw[aB e,aB<|c.symm.trans e];exact(c,f)
  ·rw[au e,au (λz=>e<|c.trans z)];exact(c,i)
def kY.W(r:kY a b)(k:κ)(c:cb y u):kY (eQ a k y) (stored b k u):=by
 unfold eQ stored;rw[r.N k]
 by_cases e:(b.any λd=>aG<|d.1=k)=ae
 ·rw[aB e,aB e];exact r.J k c
 ·rw[au e,au e];exact tX r (O,c)
def kY.F(r:kY a b):a.length=b.length:=hZ r
end
def uQ{k:aN}(r:cb (dM k) u):(fH P w).is k u=ae:=by
 cases k with
 |inl i=>obtain⟨t,e⟩:=(show ∃t,u=aJ i t from r);subst e;exact ED P w i t
 |inr x=>obtain⟨t,e⟩:=(show ∃t,u=pA x t from r);subst e;exact Vi P w x t
def LR:∀{a:List aN}{b:List aa},bW (a.map dM) b->CP (fH P w) a b
 |[],_,r=>by rw[yK] at r;cases r;exact .nil
 |k::a,_,r=>by
  rw[df] at r;cases r with
  |cons h t=>exact .cons (uQ h)<|LR t
abbrev js(H:ac):List (List aN×af)->List (List aN×V×aa)->Prop:=dA λp q=>p.1=q.1/\H q.2.1=U (.b<|p.1.map dM)/\cb p.2 q.2.2
def js.F(r:js H a f)(k:List aN):qY (fJ a k) ((rL f k).map (·.2)):=by
 induction r with
 |nil=>exact vB
 |@cons p q l c h t i=>
  obtain⟨g,_,j⟩:=h
  by_cases e:p.1=k
  ·have d:q.1=k:=g.symm.trans e
   have b:rL (q::c) k=U q.2:=by simp[rL,lF,d]
   rw[zk e,b];exact j
  ·have d:¬q.1=k:=λz=>e<|g.trans z
   have b:rL (q::c) k=rL c k:=by simp[rL,lF,d]
   rw[zl e,b];exact i
def js.N(r:js H a d)(k:List aN)(g:cb y u):js H (a.map λc=>if c.1=k then(adc c.1 y) else c) (d.map<|putAt k u):=by
 induction r with
 |nil=>exact .nil
 |@cons p q l m h t i=>
  rw[df,df];refine .cons ?_ i;obtain⟨b,f,j⟩:=h;unfold putAt
  by_cases e:p.1=k
  ·rw[aB e,aB<|b.symm.trans e];exact(b,f,g)
  ·rw[au e,au (λz=>e<|b.trans z)];exact(b,f,j)
def js.J(r:js H kvs a)(k:List aN)(d:H b=U (.b<|k.map dM))(c:cb y u):js H (eQ kvs k y) (BZ a k b u):=by
 have e:(kvs.any λf=>aG<|f.1=k)=(rL a k).isSome:=by
  rw[zm,(r.F k).B,Rm]
 unfold eQ BZ;rw[e]
 by_cases q:(rL a k).isSome=ae
 ·rw[aB q,aB q];exact r.N k c
 ·rw[au q,au q];exact tX r (O,d,c)
def js.B{H c:ac}(r:js H a d)(f:∀b e,H b=U (.b e)->c b=U (.b e)):js c a d:=
 il r λ_ _ z=>(z.1,f _ _ z.2.1,z.2.2)
section
variable{P:aU}{w:aO}{H:ac}{h:aI}{a:V}
def K_(b:fP P w H h)(e:bX H a u):db P w H h a u:=e.F b
def sP(d:fP P w H h)(e:bX H a (.g b)):b.length<=bG/\(a==kH)=ao/\∃c,kY b c/\h.DictOf (fH P w) a c:=
 show db P w H h a (.g b) from K_ d e
def Mi(d:fP P w H h)(e:H a=U (.g b)):b.length<=bG/\(a==kH)=ao/\∃c,kY b c/\h.DictOf (fH P w) a c:=sP d<|.inl e
def pP{b:List aN}(d:fP P w H h)(e:H a=U (.b<|b.map dM)):(kG<|fH P w).is h b a:=by
 obtain⟨_,c,r,o,f,g,n,i⟩:=(show db P w H h a (.b<|b.map dM) from d a _ e);exact(o,c.toArray,n,f,g,i,by simpa using LR r)
def sO(g:fP P w H h)(e:bX H a (.c b)):b.length<=bG/\(a==kH)=ao/\
  ∃d,js H b d/\h.DictOfH (kG<|fH P w) a d:=by
 obtain⟨z,y,d,r,o,j,k,n,s,u,v,A⟩:=(show db P w H h a (.c b) from K_ g e);refine(z,y,d,r,o,j,k,n,s,u,v,λx c=>?_,A);have f:∀{l:List (List aN×af)}{m:List (List aN×V×aa)},js H l m->∀x∈m,(kG<|fH P w).is h x.1 x.2.1:=by
  intro l m q
  induction q with
  |nil=>intro x c;exact nomatch c
  |@cons p q D E i t C=>
   intro x c;rcases ci.mp c with e|c
   ·subst e
    exact pP g (by rw[<-i.1];exact i.2.1)
   ·exact C x c
 exact f r x c
def EK(d:fP P w H h)(e:H a=U (.c b)):b.length<=bG/\(a==kH)=ao/\
  ∃c,js H b c/\h.DictOfH (kG<|fH P w) a c:=sO d<|.inl e
end
def hJ(H:ac)(a:V)(y:af)(r:Option af):Prop:=
 (∃c k,bX H a (.g c)/\y=dM k/\r=fJ c k)\/∃c k b,bX H a (.c c)/\y=.c b/\H b=U (.b<|k.map dM)/\r=fJ c k
def xf(H:ac)(a:V)(y v:af)(d:ac):Prop:=
 (∃c k,H a=U (.g c)/\y=dM k/\c.length<bG/\d=av H a (.g<|eQ c k v)) \/
 ∃c k b,H a=U (.c c)/\y=.c b/\H b=U (.b<|k.map dM)/\c.length<bG/\d=av H a (.c<|eQ c k v)
def hJ.k{H:ac}{k:aN}(e:H a=U (.g b)):hJ H a (dM k) (fJ b k):=.inl (b,k,.inl e,O,O)
def hJ.t{H:ac}{k:List aN}(e:H a=U (.c c))(d:H b=U (.b<|k.map dM)):hJ H a (.c b) (fJ c k):=.inr (c,k,b,.inl e,O,d,O)
def xf.k{H:ac}{k:aN}(e:H a=U (.g b))(c:b.length<bG):xf H a (dM k) v (av H a<|.g<|eQ b k v):=.inl (b,k,e,O,c,O)
def xf.t{H:ac}{k:List aN}(e:H a=U (.c c))(d:H b=U (.b<|k.map dM))(f:c.length<bG):xf H a (.c b) v (av H a<|.c<|eQ c k v):=.inr (c,k,b,e,O,d,f,O)
section
variable{X:aK}{pins:Ψ}{σ:aM}{H:ac}{s:ai}{a:V}{y v:af}{u r:aa}{o:Option af}{A:bg}{E:Ω}
def aw.B4(I:aw X pins σ H s):kH<s⁻¹:=by
 have h:ji<s⁻¹:=(I.B7.b.keeps I.bk).lt;exact rZ ξ h
def Wb{Q:Ω}(w:A.units+1<cH)(I:aw X pins σ H s)(g:hJ H a y (U v))(r:cb y u)(h:∀f t,aw X pins σ H t->cb v f->Q f t):am (aE X.prog X.w) A (ql (.ref a) u) Q E s:=by
 rcases g with ⟨i,k,e,j,l⟩|⟨i,k,b,e,j,x,l⟩
 ·subst j
  obtain⟨z,C,D,c,m⟩:=sP I.b e;obtain⟨f,n,d⟩:=qY.F (v:=v) (o:=vH D k) (by rw[l];exact c.B k);exact wpAny_getItem_of (uQ r) m.mapOf n<|h f _ (I.N _) d
 ·subst j
  cases(show u=Y b from r);obtain⟨z,C,G,c,m⟩:=sO I.b e;obtain⟨f,n,d⟩:=qY.F (v:=v) (o:=(rL G k).map (·.2)) (by rw[l];exact c.F k);obtain⟨p,K,q⟩:=pG.mp n;refine wpAny_getItem_heap (x_ w) (pP I.b x) m K ?_;rw[q];exact h f _ (I.N _) d
def Wa{Q:Ω}(p:A.units+1<cH)(I:aw X pins σ H s)(g:hJ H a y o)(m:cb y u)(h:∀n,aw X pins σ H n->Q (.bool o.isSome) n):am (aE X.prog X.w) A (gu .In u<|.ref a) Q E s:=by
 rcases g with ⟨d,k,e,f,l⟩|⟨d,k,b,e,f,r,l⟩
 ·subst f
  obtain⟨z,i,t,c,j⟩:=sP I.b e;refine wpAny_in_of (uQ m) i j.mapOf ?_;rw[<-(c.B k).B,<-l];exact h _<|I.N _
 ·subst f
  cases(show u=Y b from m);obtain⟨z,i,v,c,j⟩:=sO I.b e;refine wpAny_in_heap (x_ p) (pP I.b r) i j ?_;have q:=(c.F k).B;rw[Rm] at q;rw[<-q,<-l];exact h _<|I.N _
def V'{Q:Ω}(p:A.units+1<cH)(I:aw X pins σ H s)(g:hJ H a y o)(m:cb y u)(h:∀n,aw X pins σ H n->Q (.bool<|!o.isSome) n):am (aE X.prog X.w) A (gu .NotIn u<|.ref a) Q E s:=by
 rcases g with ⟨d,k,e,f,l⟩|⟨d,k,b,e,f,r,l⟩
 ·subst f
  obtain⟨z,i,t,c,j⟩:=sP I.b e;refine wpAny_notIn_of (uQ m) i j.mapOf ?_;rw[<-(c.B k).B,<-l];exact h _<|I.N _
 ·subst f
  cases(show u=Y b from m);obtain⟨z,i,v,c,j⟩:=sO I.b e;refine wpAny_notIn_heap (x_ p) (pP I.b r) i j ?_;have q:=(c.F k).B;rw[Rm] at q;rw[<-q,<-l];exact h _<|I.N _
def wQ{t':Nat}(I:aw X pins σ H s)(f:xa (H a))(g:gA a s.heap c)(h:∃q,c.get? a=U q)(d:db X.prog X.w (av H a ob) c a ob):aw X pins σ (av H a ob) {s with heap:=c,toks:=t'}:=
 I.C3 (x:=a) (e:=a) f (.inl O) (λb q i z=>(g.2 b i).trans z) h d
def VV{e:aI}{b:List (aN×af)}(z:b.length<=bG)(g:(a==kH)=ao)(d:kY b c)(h:e.DictOf (fH P w) a c):db P w f e a (.g b):=(z,g,c,d,h)
def V_{Q:Unit->ai->Prop}(R:A.units+1<cH)(I:aw X pins σ H s)(g:xf H a y v C)(D:cb y u)(G:cb v r)(h:∀K,aw X pins σ C K->Q () K):am (aE X.prog X.w) A (setItem (.ref a) u r) Q E s:=by
 rcases g with ⟨d,k,e,m,l,n⟩|⟨d,k,b,e,m,L,l,n⟩
 ·subst m n
  obtain⟨z,o,S,f,p⟩:=Mi I.b e;have t:S.length<=bG:=by rw[<-f.F];exact z
  have w:(eQ d k v).length<=bG:=by have:=zS d k v;exact à this l
  refine wpAny_setItem_pairs (hsz:=t) (uQ D) p λM i x=>h _ ?_;have T:∃q,M.get? a=U q:=let ⟨q,_,_,j,_⟩:=i;(q,j);exact wQ I (by rw[e];exact vB) x T<|VV w o (f.W k G) i
 ·subst m n
  cases(show u=Y b from D);obtain⟨z,o,xs,f,p⟩:=EK I.b e;have t:xs.length<=bG:=by rw[<-hZ f];exact z
  have w:(eQ d k v).length<=bG:=by have:=zS d k v;exact à this l
  refine wpAny_setItem_heap (hsz:=t) (x_ R) (pP I.b L) p λM i x=>h _ ?_;obtain⟨q,es,ep,j,h2,h3,h4,_,h5⟩:=i;refine wQ I (by rw[e];exact vB) x (q,j) (w,o,_,(f.J k L G).B λc ys P=>?_,q,es,ep,j,h2,h3,h4,h5);rw[a_<|fL P e (λz=>nomatch z)];exact P
end
def MZ(i:bf):Prop:=∀a b,Hv i ao a b=operate [a,b] (ql a b)
def Ub{s:ai}{j:dD}{n:bR}(t:Ht (.type T) "__getitem__"=bH (U<|.builtin q))(u:MZ b)(h:am (aE a w) A (dO c j) (λo f=>am (aE a w) A (dO b j) (λi d=>d.TypeIs o T/\am (aE a w) A (ql o i) Q E d) E f) E s):am (aE a w) A (dO (.Subscript c b n) j) Q E s:=by
 refine Rj<|ic h (λo f l=>ic l (λi d e=>?_) λ_ _ x=>x) λ_ _ x=>x;obtain⟨p,e⟩:=e;unfold Re;refine ag ?_;rw[getitemInPython_of_ne p.not_modules];refine ag<|xX p t ?_;have k:am (aE a w) A (Hv b ao o i) (λr g=>am (aE a w) A (letTemporaryGo c o r >>= λ_=>bH r) Q E g) E d:=by
  rw[u o i];exact wpAny_operating<|ic e (λr g m=>ag<|wpAny_letTemporaryGo<|aC m) λ_ _ x=>x
 first
  |exact aC<|ag k
  |exact wpAny_bind<|wpAny_pure<|wpAny_bind k
  |exact wpAny_bind k
def VX{s:ai}(I:aw X c h H s)(g:hJ H a y o):s.TypeIs (.ref a) "dict":=by
 rcases g with ⟨d,k,e,_,_⟩|⟨d,k,b,e,_,_,_⟩
 ·obtain⟨_,_,i,_,f⟩:=sP I.b e
  exact f.typeIs
 ·obtain⟨_,_,j,_,f⟩:=sO I.b e
  exact f.typeIs
inductive MO(x y:af)(Q:aL)(H:ac):Prop
 |b:∀a v,(x=.c a)->hJ H a y (U v)->Q v H->MO x y Q H
def pN(b c:bb):bb:=λa H Q=>b a H λx d=>c a d λy e=>MO x y Q e
def Eg(d e:bb):bb:=λb H Q=>d b H λy f=>e b f λx c=>∃a o,x=.c a/\hJ c a y o/\Q (.e o.isSome) c
def Ef(d e:bb):bb:=λb H Q=>d b H λy f=>e b f λx c=>∃a o,x=.c a/\hJ c a y o/\Q (.e<|!o.isSome) c
def Ui(d e f:bb):fe:=λD b H=>f b H λv g=>d b g λx h=>e b h λy i=>∃a c,x=.c a/\xf i a y v c/\D.a b c
section
variable{X:aK}{o i e value:bf}{pos pos' tpos:bR}{td ty tv:bb}
def jS(f:X.A.units+1<cH)(j:bA X o td)(k:bA X i ty)(l:MZ i):bA X (.Subscript o i pos) (pN td ty):=by
 intro b s d H Q I h;refine Ub PySem.F.slot_dict_getitem.lookup l<|bI (j b s d H _ I h) λu m (x,n,p,q,r)=>bI (k b m d n _ p r) λD E (y,t,e,w,a,v,z,g,A)=>?_;subst z;obtain rfl:u=Y a:=q;exact(VX e g,Wb f e g w λG K C c=>(v,t,C,c,A))
def Ey(d:X.A.units+1<cH)(e:bA X i ty)(f:bA X o td):Ad X .In i o (Eg ty td):=by
 intro b s c H Q I h;refine bI (e b s c H _ I h) λA j (y,k,l,m,n)=>bI (f b j c k _ l n) λu C (x,p,q,r,a,t,v,g,w)=>?_;subst v;obtain rfl:u=Y a:=r;exact Wa d q g m λD z=>(.e t.isSome,p,z,O,w)
def UQ(d:X.A.units+1<cH)(e:bA X i ty)(f:bA X o td):Ad X .NotIn i o (Ef ty td):=by
 intro b s c H Q I h;refine bI (e b s c H _ I h) λA j (y,k,l,m,n)=>bI (f b j c k _ l n) λu C (x,p,q,r,a,t,v,g,w)=>?_;subst v;obtain rfl:u=Y a:=r;exact V' d q g m λD z=>(.e<|!t.isSome,p,z,O,w)
def oG(d:X.A.units+1<cH)(e:bA X o td)(f:bA X i ty)(j:bA X value tv)(k:ya value (U<|.Subscript o i pos') pos.line X.env=bH ao):ky X (.Assign [.Subscript o i pos'] value pos) (Ui td ty tv):=by
 intro b s c H D I h;refine wpAny_Assign_Subscript (bI (j b s c H _ I h) λr l (v,m,n,p,q)=>bI (e b l c m _ n q) λu t (x,w,z,A,C)=>bI (f b t c w _ z C) λQ R (y,S,E,G,a,K,L,g,M)=>?_) k;subst L;obtain rfl:u=Y a:=A;exact V_ d E g G p λT P=>(c,K,P,M)
end
def VW(h:aI)(a:kH<h.objs.size):db P w H (h.push {cls:=.type "dict",data:=.dict #[]}) h.objs.size (.g []):=
 (dZ _,beq_eq_false_iff_ne.mpr<|dB<|ck a,[],.nil,ai8 h)
def EL(h:aI)(a:kH<h.objs.size):db P w H (h.push {cls:=.type "dict",data:=.dict #[]}) h.objs.size (.c []):=
 (dZ _,beq_eq_false_iff_ne.mpr<|dB<|ck a,[],.nil,_,#[],0,dv _ O,(O,O,O),O,O,lD)
def TW:bb:=λ_ H Q=>∀p,H p=Z->Q (.c p) (av H p<|.g [])
def zt:bb:=λ_ H Q=>∀p,H p=Z->Q (.c p) (av H p<|.c [])
section
variable{X:aK}{pos:bR}
def UJ:bA X (.Dict [] [] pos) TW:=λb s c H Q I h=>
 adb (.c s⁻¹,_,I.F (a:=s⁻¹) (o:=.g []) (t':=s.toks) (λ_ _ q=>bJ _ q) (bc _)<|VW s.heap I.B4,O,h _<|I.b.B<|bc _)
def ml:bA X (.Dict [] [] pos) zt:=λb s c H Q I h=>
 adb (.c s⁻¹,_,I.F (a:=s⁻¹) (o:=.c []) (t':=s.toks) (λ_ _ q=>bJ _ q) (bc _)<|EL s.heap I.B4,O,h _<|I.b.B<|bc _)
end
def zq:List (bb×bb)->aM->ac->(List (af×af)->ac->Prop)->Prop
 |[],_,H,Q=>Q [] H
 |(adc b c)::r,a,H,Q=>b a H λx d=>c a d λy e=>zq r a e λf g=>Q ((adc x y)::f) g
abbrev MS:List (af×af)->List (aa×aa)->Prop:=dA λp q=>cb p.1 q.1/\cb p.2 q.2
def Aa(X:aK)(d:bR)(c:List (Option bf))(a:List bf)(e:List (bb×bb)):Prop:=
 ∀(b:Ψ)(s:ai)(f:aM)(H:ac)(Q:List (af×af)->ac->Prop),aw X b f H s->zq e f H Q->
  am (aE X.prog X.w) X.A (evalPairs<|pairTrees c a X.env d) (λi j=>∃g h,aw X b f h j/\MS g i/\Q g h) X.a s
def Lp:Aa X a [] [] []:=λb s c H Q I h=>pairTrees_nil_walk ([],H,I,.nil,h)
def Lq{k v:bf}{i j:bb}(l:bA X k i)(m:bA X v j)(n:Aa X b f g c):Aa X b (U k::f) (v::g) ((adc i j)::c):=λa s d H Q I h=>
 pairTrees_cons_walk (bI (l a s d H _ I h) λu o (x,p,q,r,t)=>bI (m a o d p _ q t) λM w (y,z,A,C,D)=>
  bI (n a w d z _ A D) λP R (E,G,K,e,L)=>((adc x y)::E,G,K,.cons (r,C) e,L))
structure aim(X:aK)(o:bf)(m:al)(apos:bR)(e:bf)(cpos:bR):Prop where
 base:HO o m X.env (dO o X.env)=dO o X.env
 c:((lU cpos<|eM [e] X.env).all (λx=>!x.1)&&(Qu cpos<|Qg [] X.env).all (λx=>x.1.isSome)
  && aG (([e]:List bf).length+([]:List vQ).length+(if([]:List vQ).isEmpty then 0 else 1)<30))=ae
 a:(apos.endLine==cpos.line)=ae
 b:lU cpos (eM [e] X.env)=[(adc ao (dO e X.env))]
structure WH(X:aK)(o:bf)(m:al)(apos:bR)(e f:bf)(cpos:bR):Prop where
 base:HO o m X.env (dO o X.env)=dO o X.env
 a:((lU cpos<|eM [e,f] X.env).all (λx=>!x.1)&&(Qu cpos<|Qg [] X.env).all (λx=>x.1.isSome)
  && aG (([e,f]:List bf).length+([]:List vQ).length+(if([]:List vQ).isEmpty then 0 else 1)<30))=ae
 c:(apos.endLine==cpos.line)=ae
 b:lU cpos (eM [e,f] X.env)=[(adc ao (dO e X.env)),(adc ao (dO f X.env))]
def Nb(H:ac)(a:V):Prop:=(∃b,bX H a (.g b))\/∃b,bX H a (.c b)
def Vz{s:ai}(I:aw X f l H s)(d:Nb H a):s.TypeIs (.ref a) "dict"/\(∀b,Y a=.ref b->∃c,s.heap.get? b=U c/\c.dict=Z)/\(a==kH)=ao:=by
 rcases d with ⟨h,e⟩|⟨h,e⟩
 ·obtain⟨_,i,m,_,g⟩:=sP I.b e
  refine(g.typeIs,λb q=>?_,i);cases q;obtain⟨c,_,_,j,k,_⟩:=g;exact(c,j,k.2.1)
 ·obtain⟨_,i,n,_,g⟩:=sO I.b e
  refine(g.typeIs,λb q=>?_,i);cases q;obtain⟨c,_,_,j,k,_⟩:=g;exact(c,j,k.2.1)
section
variable{X:aK}{pins:Ψ}{σ:aM}{H:ac}{s:ai}{a:V}{y d:af}{u r:aa}{o:Option af}{A:bg}{E:Ω}
def Wc{Q:Ω}(v:A.units+1<cH)(I:aw X pins σ H s)(g:hJ H a y o)(n:cb y u)(p:cb d r)(h:∀q t,aw X pins σ H t->cb (o.getD d) q->Q q t):am (aE X.prog X.w) A (gv (.builtin "dict.get") [.ref a,u,r]) Q E s:=by
 rcases g with ⟨i,k,e,j,l⟩|⟨i,k,b,e,j,w,l⟩
 ·subst j
  obtain⟨z,m,C,c,f⟩:=sP I.b e;refine HM QK f.typeIs afa (aff _ _ _) (meets_dict_get_default (fH X.prog X.w) a (uQ n) m r) (_,f.mapOf,h _ _ (I.N _) ?_);rw[l];exact(c.B k).J p
 ·subst j
  cases(show u=Y b from n);obtain⟨z,m,x,c,f⟩:=sO I.b e;refine HM QK f.typeIs afa (aff _ _ _) (meetsH_dict_get_default (kG<|fH X.prog X.w) a b m r) (x_ v,k,x,pP I.b w,f,h _ _ (I.N _) ?_);rw[l];exact(c.F k).J p
end
def TX(e f g:bb):bb:=λb H Q=>e b H λx c=>∃a,x=.c a/\Nb c a/\f b c λy h=>g b h λz d=>∃o,hJ d a y o/\Q (o.getD z) d
section
variable{X:aK}{o e f:bf}{apos cpos:bR}{td ty tx:bb}
def Lv(k:X.A.units+1<cH)(l:bA X o td)(n:bA X e ty)(p:bA X f tx)(m:WH X o "get" apos e f cpos):bA X (.Call (.Attribute o "get" apos) [e,f] [] cpos) (TX td ty tx):=by
 intro b s c H Q I h;refine wpAny_Call_method m.base m.a m.c ae4 QK PySem.F.type_dict_get<|bI (l b s c H _ I h) λu q (x,r,j,t,a,v,d,w)=>?_;subst v;obtain rfl:u=Y a:=t;obtain⟨A,C,_⟩:=Vz j d;refine(A,C,?_);rw[m.b];refine QW O (QU (QT (bI (n b q c r _ j w) λiv D (y,E,G,K,L)=>
  QT<|bI (p b D c E _ G L) λfv s3 (z,M,P,R,ov,g,S)=>afh ?_)))
 exact Wc k P g K R λw' s4 T i=>(_,M,T,i,S)
end
section
open PySem.Calls
def acw:∀(c:List Int)(d:List aa),WellAll P h d (c.map HW)->fU d c:=by
 intro c
 induction c with
 |nil=>
  intro d w;rw[yK] at w;cases w;exact .nil
 |cons n c e=>
  intro d w;rw[df] at w;cases w with
  |cons a b=>
   cases a;exact .cons _ _<|e _ b
def acu{l:yj}{n:Nat}(t:l.most=U n){e:List aa}(f:l.row.toRowW.claim.pre b=ae)(m:WellAll P h e b):∃a p c,e=[Y a]/\b=[WData.list<|c.map HW]/\h.get? a=U {cls:=.type "list",data:=.seq p.toArray}/\fU p c/\c.length<=n:=by
 have o:WShape.hasAll [] b [.list .int]=ae:=(pre_splitW f).1;have s:l.pre.holds [] {args:=b}=ae:=(pre_splitW f).2;obtain⟨d,r,rfl,u,v⟩:=hasAllW_cons o;obtain rfl:=hasAllW_nil v;obtain⟨C,rfl,w⟩:=hasW_list u;obtain⟨c,rfl⟩:=items_int w;have g:c.length<=n:=by
  unfold OpenLaw.pre at s;have j:(WTm.not<|.lt (.lit<|.int (n:Int))<|.len<|.arg 0).holds [] {args:=[.list<|c.map .int]}=ae:=by
   have j:=(holds_andW s).1;rw[t] at j;exact j
  have k:=condW_of j<|w_not<|w_lt w_lit<|w_len_list<|w_arg O;rw[aA] at k;refine Nat.le_of_not_lt λq=>?_;have x:(n:Int)<((c.length:Nat):Int):=ω
  first
   |(rw[bZ x] at k;exact aZ k ξ)
   |(simp at k;omega)
 cases m with
 |cons y z=>
  cases z;cases y with
  |list A i=>exact(_,_,c,O,O,A,acw c _ i,g)
def acv(l:yj)(a:List WData):l.row.toRowW.claim.post a (.bool ae) a=ae:=
 postW_of (r:=l.row.toRowW) (X:=(ae==ae))
  (show WShape.has [] (.bool ae) .bool=ae by first|rfl|decide|simp[WShape.has,WShape.arms,WShape.armsAll])
  (show(WTm.eq .res<|.lit<|.bool ae).value [] {args:=a,res:=U<|.bool ae,after:=a}=U (.bool<|ae==ae) from w_eq_bool (w_res O) w_lit) O
def acx{l:yj}{n:Nat}{q:aU}{c:List al}{H:(al->Option aa)->aI->Prop}{I:aO->aI->Prop}{d:DefRec}(Q:l.most=U n)(y:d.params.defaults=[])(j:∀(w:aO)(e b:ai)(t z:al->Option aa)(k:V)(o:aR)(A u g:aa)(a:V)(i:List aa)(v:List Int),
   Ground q c [] H w e t z b.heap->I w b.heap->
   b.heap.get? k=U o->o.data=.func (docDef d.name d.params d.body d.scope A u g)->b.heap.CodeRec u d.name->t d.name=U (.ref k)->
   b.heap.get? a=U {cls:=.type "list",data:=.seq i.toArray}->fU i v->v.length<=n->b.gens=#[]->
   iK (aE l.prog w) vJ (.call (.ref k) ([.ref a],[])) (λr x=>r=.ok (.ret<|.bool ae)/\OldK b.heap x.heap/\x.os=b.os/\qt x.gens) b):
  QA q c H I l.row.toRowW d [] (λf i=>gv f i):=by
 intro w e b t z G a2 k o A u g R S T X C K D hg L M as m P a0 E a1;obtain rfl:R=.none:=Dflts.none K y;obtain rfl:S=.none:=Dflts.noKw K;obtain⟨a,i,v,rfl,rfl,p,h,s⟩:=acu Q m E;refine enter_call<|ka (j w e b t z k o A u g a i v G a2 T (fd_plain X) C D p h s hg) λr x hq=>?_;obtain⟨rfl,h2,h3,h4⟩:=hq;exact(.inl (.bool ae,.bool ae,[],O,λ_=>O,.bool ae,acv l _,λ_=>(RC,λ_ hm=>(nomatch hm))),h2,h3,h4)
end
def Kt:∀{a:List aa}{b:List Int},fU a b->bW (b.map af.d) a
 |_,_,.nil=>.nil
 |_,_,.cons n t h=>.cons (t,O) (Kt h)
/- THE LAST THEOREM (shape;LID,My.* are yours):
  My.Adr: a structure of the addresses that your layer names (classes,functions);My.Txt K t: a structure (Prop) of the equations over K;
  My.txt_mk:{K} {implicit addresses ..} (e1:nsIn K mainGlobals "law"=some (some (.ref f))) (e2:K.lookup f=some ⟨oc,od,.func (fnOf "law" "law" params body scope dV kV doc pm an cdv ct),sl⟩) (e3:codeIn K cdv "law"=true) ..:∃t,My.Txt K t
set_option maxRecDepth 100000 in
set_option maxHeartbeats 0 in
theorem PySem.Challenge.cw_LID_holds:PySem.Challenge.rw_LID.Holds := by
 w_on;o_law;k_head;(case hw=>w_witness2)
 k_fill
 refine L2.walk_of (l:=PySem.Challenge.rw_LID) (n:=63) (k:=40) (x:="script") (CX:=λw=>..) (sp:=λ_=>My.sp_law) rfl ξ rfl ⟨rfl,ξ,ξ⟩ (λw h Y=>PySem.W.kIn_of Y) ?F ?S ?C
 case F=>
  intro w mg fa h KX G hmg;have T:∃t,My.Txt (L2.KOf KX) t:=by
   dsimp only[L2.KOf]                          -- K must stand as «<heap const> w.params» for k_is
   refine' My.txt_mk ?e1 ?e2 ?e3 ..
   (case e1 => PySem.W.k_is)                    -- in the order: a name -> its address -> its object -> its parts
   (case e2=>PySem.W.k_is)
   ..
  obtain⟨t,T⟩:=T;have e0:=hmg.symm.trans (PySem.W.mg_of KX G T.law);cases e0                                       -- fa is the law's own address
  exact⟨_,λs u => .of_eq rfl,λbase kb nb => My.law_fn T kb nb⟩     -- if «.of_eq rfl» comes too early: refine' ⟨_,?b,λbase kb nb => My.law_fn T kb nb⟩;exact λs u => .of_eq rfl
 case S=>exact λw H a ns hl hO hS=>..
 case C=>exact ..
(the tactic k_is has no namespace: write k_is) -/
def uR(s:bV):qr:=match s with
 |.FunctionDef _ a _ _ _ _ _ _ _ _=>a
 |_=>{posonlyargs:=[],args:=[],vararg:=Z,kwonlyargs:=[],kw_defaults:=[],kwarg:=Z,defaults:=[]}
def gf(s:bV):List bV:=match s with
 |.FunctionDef _ _ b _ _ _ _ _ _ _=>b
 |_=>[]
def bB(s:bV):eO:=match s with
 |.FunctionDef _ _ _ _ _ _ a _ _ _=>a
 |_=>{kind:=.function,names:=[],isGenerator:=ao,isCoroutine:=ao}
abbrev aX:kZ:=λ_ _ _ _ _ _=>False
abbrev oY:bK:=λ_ _ _=>False
def ce:uW aX X oY:=λ_ _ _ _ _ _ _ h=>h.elim
structure bF(K:aH)(x qual:al)(st:bV)(f:V)(fd:cr):Prop where
 b:∃(oc:aa)(od:Option V)(kV doc pm:aa)(an:Option V)(cdv ct:aa)(osl:Array (Option aa)),
  fd=qo x qual (uR st) (gf st) (bB st) .none kV doc pm an cdv ct/\K.lookup f=U (oc,od,.func fd,osl)/\CE K cdv qual=ae
 a:vN K (.ref f)=ae
section
variable{P:aU}{w:aO}{K:aH}{mg:al->Option aa}{base:aI}
def bF.B{x b:al}{M i:List al}{k:Nat}{j:ia}(F:bF K x b g f o)(S:cQ M i (bB g))(l:∀d H Q E,j d H Q E->d.length=i.length)(e:∀(c:aa)(A:bg)(a:List dD)(s:ai)(H:ac)(d:List af)(Q:aL)(E:bK),eJ k (A.deeper<|iY b (bB g) s⁻¹ f c)->j d H Q E->
   ∃t,g_ (iG aX P w K mg base M b (bB g) f c A a s H E).F (gf g) t/\t {a:=λ_ p=>Q .g p,b:=Q} (kq M d) H):bD P w K mg base aX (k+1) f o i j:=by
 obtain⟨z,C,D,r,G,I,c,L,u,rfl,v,m⟩:=F.b;refine EH v m S l λA a s H d Q E y n=>?_;obtain⟨t,h,q⟩:=e c A a s H d Q E y n;exact(t,h.B,q)
def bF.J{x a:al}{m:cr}{e:List al}(F:bF K x a d f m)(h:∀(g b i:aa)(j:Option V)(c k:aa)(l:List aa),l.length=e.length->yf (qo x a (uR d) (gf d) (bB d) .none g b i j c k) (l,[])=bH (e.zip l)):eT K m e []:=by
 obtain⟨p,q,g,b,i,j,c,k,n,rfl,r,o⟩:=F.b;exact .all<|h g b i j c k
def VO{x a:al}{n:aa}{o h:Option V}{g:Array (Option aa)}{i e j b m:aa}(l:K.lookup f=U (n,o,.func<|qo x a (uR d) (gf d) (bB d) .none i e j h b m,g))(c:CE K b a=ae)(k:vN K (.ref f)=ae):bF K x a d f (qo x a (uR d) (gf d) (bB d) .none i e j h b m):=((n,o,i,e,j,h,b,m,g,O,l,c),k)
end
def jb{k:Nat}(a:eJ k A):A.units+1<cH:=agq (Nat.add_le_add_left (by decide:1<=64) _) a.units
section
variable{X:aK}
def ah(i:Nat){a:bR}(c:X.N[i]?=U x:=by rfl)(d:wW X.env.scope x:=by first|exact Or.inl rfl|exact Or.inr<|Or.inl rfl|exact Or.inr<|Or.inr rfl)(e:(x==("__debug__":al))=ao:=by decide)
  (b:(x==("__classdict__":al))=ao:=by decide):bA X (.Name x a) (bz i):=UC c d e b
end
def cZ{A a:Prop}(h:a):if ao=ae then A else a:=by
 rw[au eP];exact h
def dI{A a:Prop}(h:A):if ae=ae then A else a:=by
 rw[aB O];exact h
def qQ{c A d:Prop}[Decidable c](a:c->A)(b:¬c->d):if c then A else d:=by
 by_cases h:c
 ·rw[aB h]
  exact a h
 ·rw[au h]
  exact b h
def aQ(H a:ac):Prop:=∀b o,H b=U o->a b=U o
def aQ.A3(H:ac):aQ H H:=λ_ _ h=>h
def aQ.F{H d e:ac}(a:aQ H d)(b:aQ d e):aQ H e:=λc o h=>b c o<|a c o h
def aQ.A2(e:aQ H a)(h:a l=Z):H l=Z:=by
 cases q:H l with
 |none=>rfl
 |some o=>
  rw[e l o q] at h;cases h
def aQ.W{K:aH}(e:aQ H b)(h:bx K H a c):bx K b a c:=by
 rcases h with (h|⟨o,h⟩)|h
 ·exact .inl<|.inl<|e _ _ h
 ·exact .inl<|.inr (o,e _ _ h)
 ·exact .inr h
def R(a:cK->Int)(b:Array cK)(i:Nat):Int:=match b[i]? with
 |some p=>a p
 |none=>0
def ww{b c:Array cK}{i j:Nat}(h:b[i]?=c[j]?):R a b i=R a c j:=by unfold R;rw[h]
def nF{b:Array cK}{i:Nat}(h:b[i]?=U p):R a b i=a p:=by unfold R;rw[h]
def Srt(a:cK->Int)(b:Array cK)(c d:Nat):Prop:=∀i j,c<=i->i<=j->j<d->R a b i<=R a b j
def uC(a:cK->Int)(b:Array cK)(c d:Nat):Prop:=∀i j,c<=i->i<=j->j<d->R a b j<=R a b i
def me{a:Array cK}{f j:Nat}(d:j<=a.size)(k:Nat):R b (iA a f j<|(j-f) / 2) k=if f<=k/\k<j then R b a (f+j-1-k) else R b a k:=by
 have e:=af5 (i:=f) d k
 by_cases c:f<=k/\k<j
 ·rw[aB c] at e ⊢;exact ww e
 ·rw[au c] at e ⊢;exact ww e
def oA{a:Array cK}{i j:Nat}(d:j<=a.size)(b:∀k,i<=k->k<j->R c a k=R c a (j-1))(k:Nat):R c (iA a i j<|(j-i) / 2) k=R c a k:=by
 rw[me d];split
 ·rw[b _ ω ω,b k ω ω]
 ·rfl
def uB{b:Array cK}{a d:Nat}(h:a<b.size)(i:d<=a)(k:Nat):R c (n' b a d) k=if k=a-d then R c b a else if a-d<k/\k<=a then R c b (k-1) else R c b k:=by
 have e:=af6 h d i k
 by_cases f:k=a-d
 ·rw[aB f] at e ⊢;exact ww e
 ·rw[au f] at e ⊢
  by_cases g:a-d<k/\k<=a
  ·rw[aB g] at e ⊢;exact ww e
  ·rw[au g] at e ⊢;exact ww e
structure oB(prog:aU)(w:aO)(A:bg)(s:ai)(κ:of)(a₀:Array cK)(ρ:cK->Int):Prop where
 a:∀x y,x∈a₀.toList->y∈a₀.toList->∀(Q:Bool->ai->Prop)(E:Ω),Q (aG<|ρ x<ρ y) s->am (aE prog w) A (Dg κ x.1 y.1) Q E s
structure fX(κ:of)(a₀:Array cK)(st:dL):Prop where
 a:(aS st).Perm a₀
 c:kindOf st=κ
 b:vW st=Z
def fX.F{c:of}{a:Array cK}{b:dL}(h:fX c a b):(aS b).size=a.size:=h.a.size_eq
def fX.J{c:of}{a:Array cK}{b:dL}(h:fX c a b){d:Array cK}(e:d.Perm (aS b)):fX c a (yz b d):=(e.trans h.a,h.c,h.b)
def fX.N{c:of}{a:Array cK}{b:dL}(h:fX c a b){p:cK}(d:p∈(aS b).toList):p∈a.toList:=(RK.mp h.a).mem_iff.mp d
def JG{xs:Array cK}{i:Nat}(a:i<xs.size):∃p,xs[i]?=U p/\p∈xs.toList:=(xs[i],kP _ i a,by simp)
structure kR(lo:Nat)(st st':dL):Prop where
 b:∀k,k<lo->(aS st')[k]?=(aS st)[k]?
 a:kg st'=kg st
def kR.J{b:Nat}{a:dL}:kR b a a:=(λ_ _=>O,O)
def kR.F{a b c:dL}(x:kR d a b)(y:kR d b c):kR d a c:=(λk h=>(y.b k h).trans<|x.b k h,y.a.trans x.a)
def kR.B{b i j:Nat}{a:dL}(c:j<=(aS a).size)(d:b<=i):kR b a (yz a<|iA (aS a) i j<|(j-i) / 2):=
 (λk h=>by show(iA _ _ _ _)[k]?=_;rw[af5 c,au ω],O)
def kR.N{c a d:Nat}{b:dL}(e:a<(aS b).size)(f:d<=a)(g:c<=a-d):kR c b (yz b<|n' (aS b) a d):=
 (λk h=>by show(n' _ _ _)[k]?=_;rw[af6 e d f,au (õ (à h g)),au ω],O)
section
variable{prog:aU}{w:aO}{A:bg}{E:Ω}{s:ai}{κ:of}{a₀:Array cK}{ρ:cK->Int}
def RW(C:oB prog w A s κ a₀ ρ)(b:fX κ a₀ a){x y:cK}(c:x∈a₀.toList)(d:y∈a₀.toList){Q:Option Bool->dL->Prop}(h:Q (U<|aG<|ρ x<ρ y) a):lC (aE prog w) A E s (lt' x y) Q a:=by
 rw[lt'_eq];refine fI<|yx ?_;rw[b.c];refine fI<|Rd<|pv<|C.a x y c d _ _ (O,?_);exact jn h
def JD{b:Array cK}{i:Nat}(h:b[i]?=U p){Q:cK->dL->Prop}(c:Q p a):lC (aE prog w) A E s (elem' b i) Q a:=by
 rw[elem'_eq,h];exact jn c
def wp(C:oB prog w A s κ a₀ ρ)(b:fX κ a₀ a){l j:Nat}(e:l<a₀.size)(f:j<a₀.size){Q:Option Bool->dL->Prop}(h:Q (U<|aG<|R ρ (aS a) l<R ρ (aS a) j) a):lC (aE prog w) A E s (De l j) Q a:=by
 obtain⟨p,c,g⟩:=JG (xs:=aS a) (i:=l) (by rw[b.F];exact e);obtain⟨q,d,k⟩:=JG (xs:=aS a) (i:=j) (by rw[b.F];exact f);rw[ltAt'_eq];refine fI<|yx ?_;show lC _ _ _ _ (do let x <-elem' (aS a) l;let y <-elem' (aS a) j;lt' x y) Q a;refine fI<|JD c<|fI<|JD d<|RW C b (b.N g) (b.N k) ?_;rw[nF c,nF d] at h;exact h
def wv(f a d:Nat):StateT dL jy AscSt:=
 uA [a:d] ((adc Z a):AscSt) λ_ b=>do
  let e <-De (f+b.snd) (f+b.snd-1)
  match e with
  |some c=>if c=ae then bH (DC (adc Z b.snd)) else bH (se (adc Z (b.snd+1)))
  |_=>bH (DC (adc (U Z) b.snd))
def wq(c n a:Nat):StateT dL jy (Option Nat):=do
 Dc c (c+n)
 let b <-wv c n a
 match b.fst with
 |some r=>bH r
 |none=>bH (U b.snd)
def yY(e n f:Nat):StateT dL jy DescSt:=
 uA [n:f] ((adc Z (adc n 0)):DescSt) λ_ a=>do
  let d <-De (e+a.snd.fst) (e+a.snd.fst-1)
  match d with
  |some b=>
   if b=ae then
    if a.snd.snd>0 then do
     Dc (e+a.snd.fst-(a.snd.snd+1)) (e+a.snd.fst)
     bH (se (adc Z (adc (a.snd.fst+1) 0)))
    else bH (se (adc Z (adc (a.snd.fst+1) 0)))
   else do
    let d <-De (e+a.snd.fst-1) (e+a.snd.fst)
    match d with
    |some c=>
     if c=ae then bH (DC (adc Z (adc a.snd.fst a.snd.snd)))
     else bH (se (adc Z (adc (a.snd.fst+1) (a.snd.snd+1))))
    |_=>bH (DC (adc (U Z) (adc a.snd.fst a.snd.snd)))
  |_=>bH (DC (adc (U Z) (adc a.snd.fst a.snd.snd)))
def wu(c n b:Nat):StateT dL jy (Option Nat):=do
 liftM (rule "list.sort.descending-run")
 let a <-yY c (n+1) b
 match a.fst with
 |some r=>bH r
 |none=>
  if a.snd.snd>0 then do
   Dc (c+a.snd.fst-(a.snd.snd+1)) (c+a.snd.fst)
   wq c a.snd.fst b
  else wq c a.snd.fst b
def jP{b c:Type}{m:StateT dL jy b}{f g:b->StateT dL jy c}(h:∀a,f a=g a):(m >>= f)=(m >>= g):=by
 have e:f=g:=funext h;rw[e]
def R'(c b:Nat):countRun' c b=(do
  let a <-wv c 1 b
  match a.fst with
  |some r=>bH r
  |none=>
   if(a.snd==b)=ae then bH (U a.snd)
   else if a.snd>1 then do
    let h <-De c (c+a.snd-1)
    match h with
    |some d=>if d=ae then bH (U a.snd) else do
      Dc c (c+a.snd)
      wu c a.snd b
    |_=>bH Z
   else wu c a.snd b):=by
 rw[countRun'_eq];unfold wu wq yY wv;refine jP λl=>?_;obtain⟨r,n⟩:=l;cases r with
 |some r=>rfl
 |none=>
  dsimp only;split
  ·rfl
  ·split
   ·refine jP λx=>?_
    cases x with
    |none=>rfl
    |some d=>
     dsimp only;split
     ·rfl
     ·refine jP λs=>jP λm=>jP λi=>?_
      obtain⟨g,o,p⟩:=i;cases g with
      |some g=>rfl
      |none=>
       dsimp only;split
       ·refine jP λq=>jP λj=>jP λe=>?_
        obtain⟨f,k⟩:=e;cases f<;>rfl
       ·refine jP λj=>jP λe=>?_
        obtain⟨f,k⟩:=e;cases f<;>rfl
   ·refine jP λm=>jP λi=>?_
    obtain⟨g,o,p⟩:=i;cases g with
    |some g=>rfl
    |none=>
     dsimp only;split
     ·refine jP λq=>jP λj=>jP λe=>?_
      obtain⟨f,k⟩:=e;cases f<;>rfl
     ·refine jP λj=>jP λe=>?_
      obtain⟨f,k⟩:=e;cases f<;>rfl
def JF(C:oB prog w A s κ a₀ ρ){k:dL}{e a b:Nat}{Q:AscSt->dL->Prop}(z:e+b<=a₀.size)(D:1<=a)(l:a<=b)(u:fX κ a₀ k)(v:Srt ρ (aS k) e (e+a))(h:∀n,a<=n->n<=b->Srt ρ (aS k) e (e+n)->(n=b\/R ρ (aS k) (e+n)<R ρ (aS k) (e+n-1))->Q (adc Z n) k):lC (aE prog w) A E s (wv e a b) Q k:=by
 unfold wv;refine yy (I:=λx c g=>g=k/\c=(adc Z x)/\Srt ρ (aS k) e (e+x)) ?step ?fin (O,O,v)
 case fin=>
  rintro c g ⟨rfl,rfl,f⟩;rw[show max a b=b from ω] at f ⊢;exact h b l (bc _) f<|.inl O
 case step=>
  rintro x c g m y ⟨rfl,rfl,f⟩;dsimp only;refine fI<|wp C u ω ω ?_
  by_cases d:R ρ (aS g) (e+x)<R ρ (aS g) (e+x-1)
  ·simp only[d,decide_true,dQ]
   exact jn<|h x m ω f<|.inr d
  ·simp only[d,decide_false,dc,cM]
   refine jn (O,O,λi j t o G=>?_)
   by_cases p:j<e+x
   ·exact f i j t o p
   ·have q:j=e+x:=ω
    subst q
    by_cases r:i=e+x
    ·subst r;exact md _
    ·exact RH (f i (e+x-1) t ω ω)<|Int.not_lt.mp d
def yX{i j:Nat}{Q:Unit->dL->Prop}(h:Q () (yz a<|iA (aS a) i j<|(j-i) / 2)):lC (aE prog w) A E s (Dc i j) Q a:=by
 rw[reverseSlice'_eq];exact IE h
end
def kQ(b:cK->Int)(a:Array cK)(m:Nat):Prop:=∀i j,i<j->m<=j->j<a.size->R b a i<=R b a j
def mO(b c:cK->Int)(a:Array cK)(d e:Nat):Prop:=∀i j,d<=i->i<j->j<e->R b a i=R b a j->R c a i<=R c a j
def wx(b c:cK->Int)(a:Array cK)(d e:Nat):Prop:=∀i j,d<=i->i<j->j<e->R b a i=R b a j->R c a j<=R c a i
def kQ.B{e:Array cK}{m n:Nat}(h:kQ d e m)(f:m<=n):kQ d e n:=λi j a b c=>h i j a (à f b) c
def R_(a:Array cK)(i j m:Nat):(iA a i j m).size=a.size:=(Dd a i j m).size_eq
def kQ.F{a b m:Nat}(h:kQ f c m)(g:b<=c.size)(l:b<=m):kQ f (iA c a b<|(b-a) / 2) m:=λi j d k e=>by
 rw[R_] at e;rw[me g,me g,au (show ¬(a<=j/\j<b) from ω)];split
 ·exact h _ _ ω k e
 ·exact h _ _ d k e
section
variable{prog:aU}{w:aO}{A:bg}{E:Ω}{s:ai}{κ:of}{a₀:Array cK}{ρ τ:cK->Int}
abbrev DF(κ:of)(a₀:Array cK)(ρ τ:cK->Int)(b c:Nat)(d:dL)(Q:Option Nat->dL->Prop):Prop:=
 ∀m a,fX κ a₀ a->kR b d a->1<=m->m<=c->Srt ρ (aS a) b (b+m)->mO ρ τ (aS a) b (b+m)->kQ τ (aS a) (b+m)->Q (U m) a
def JB(C:oB prog w A s κ a₀ ρ){b e:dL}{a n d:Nat}(u:a+d<=a₀.size)(v:1<=n)(o:n<=d)(t:fX κ a₀ b)(x:kR a e b)(y:uC ρ (aS b) a (a+n))(z:wx ρ τ (aS b) a (a+n))(D:kQ τ (aS b) (a+n))(h:DF κ a₀ ρ τ a d e Q):lC (aE prog w) A E s (wq a n d) Q b:=by
 unfold wq;have c:a+n<=(aS b).size:=by rw[t.F];exact à (ñ o) u
 refine fI<|yX ?_;have f:fX κ a₀ (yz b<|iA (aS b) a (a+n)<|(a+n-a) / 2):=t.J<|Dd _ _ _ _;have g:kQ τ (aS<|yz b<|iA (aS b) a (a+n)<|(a+n-a) / 2) (a+n):=D.F c<|bc _;refine fI<|JF C u v o f ?_ λm G p q _=>jn<|h m _ f (x.F<|.B c<|bc _) (à v G) p q (λi j H k I K=>?_)<|g.B (ñ G)
 ·intro i j H k I
  show R ρ (iA (aS b) a (a+n)<|(a+n-a) / 2) i<=R ρ (iA (aS b) a (a+n)<|(a+n-a) / 2) j;rw[me c,me c,aB (H,à (ï k) I),aB (à H k,I)];exact y _ _ ω ω ω
 ·by_cases r:a+n<=j
  ·exact g i j k r (by rw[f.F];exact à (à I (ñ p)) u)
  ·have l:R ρ (iA (aS b) a (a+n)<|(a+n-a) / 2) i=R ρ (iA (aS b) a (a+n)<|(a+n-a) / 2) j:=K
   show R τ (iA (aS b) a (a+n)<|(a+n-a) / 2) i<=R τ (iA (aS b) a (a+n)<|(a+n-a) / 2) j;rw[me c,me c,aB (H,à k (ì (ó r))),aB (à H (ì k),ó r)] at l;rw[me c,me c,aB (H,à k (ì (ó r))),aB (à H (ì k),ó r)];exact z _ _ ω ω ω l.symm
structure si(ρ τ:cK->Int)(xs:Array cK)(lo x neq:Nat):Prop where
 as:wx ρ τ xs lo (lo+x-(neq+1))
 c:∀i j,lo+x-(neq+1)<=i->i<j->j<lo+x->R τ xs i<=R τ xs j
 b:∀i,lo<=i->i<lo+x-(neq+1)->R ρ xs (lo+x-1)<R ρ xs i
 a:kQ τ xs (lo+x)
def si.F{b x a:Nat}(g:si ρ τ d b x a)(c:b+x<=d.size)(o:a+1<=x)(e:∀i,b+x-(a+1)<=i->i<b+x->R ρ d i=R ρ d (b+x-1)):wx ρ τ (iA d (b+x-(a+1)) (b+x)<|(b+x-(b+x-(a+1))) / 2) b (b+x):=λi j m f n h=>by
 rw[oA c e,oA c e] at h;rw[me c,me c]
 by_cases k:j<b+x-(a+1)
 ·rw[au ω,au ω];exact g.as i j m f k h
 ·by_cases l:i<b+x-(a+1)
  ·have:=g.b i m l
   rw[e j (ô k) n] at h;omega
  ·rw[aB (ô k,n),aB (ô l,à f (ì n))]
   exact g.c _ _ ω ω ω
def si.B{e:Array cK}{a x:Nat}(g:si ρ τ e a x 0):wx ρ τ e a (a+x):=λi j f b k h=>by
 by_cases c:j<a+x-1
 ·exact g.as i j f b c h
 ·have d:j=a+x-1:=ω
  have:=g.b i f ω;rw[<-d] at this;omega
def RX(C:oB prog w A s κ a₀ ρ){st r:dL}{d n f:Nat}{Q:DescSt->dL->Prop}(hn:d+f<=a₀.size)(H:1<=n)(a0:n<=f)(hB:fX κ a₀ st)(hP:kR d r st)(hs:uC ρ (aS st) d (d+n))(hg:si ρ τ (aS st) d n 0)(h:∀m e b,fX κ a₀ b->kR d r b->n<=m->m<=f->uC ρ (aS b) d (d+m)->e+1<=m->(∀i,d+m-(e+1)<=i->i<d+m->R ρ (aS b) i=R ρ (aS b) (d+m-1))->si ρ τ (aS b) d m e->Q (adc Z (adc m e)) b):lC (aE prog w) A E s (yY d n f) Q st:=by
 unfold yY;refine yy (I:=λx c b=>∃e,c=(adc Z (adc x e))/\fX κ a₀ b/\kR d r b/\uC ρ (aS b) d (d+x)/\e+1<=x/\
   (∀i,d+x-(e+1)<=i->i<d+x->R ρ (aS b) i=R ρ (aS b) (d+x-1))/\si ρ τ (aS b) d x e) ?step ?fin (0,O,hB,hP,hs,ω,λi H K=>by congr 1;omega,hg)
 case fin=>
  rintro c b ⟨e,rfl,l,u,o,hq,M,g⟩;rw[show max n f=f from ω] at o hq M g ⊢;exact h f e b l u a0 (bc _) o hq M g
 case step=>
  rintro x c b a1 a3 ⟨e,rfl,l,u,o,hq,M,g⟩;dsimp only;have v:d+x<=(aS b).size:=by rw[l.F];omega
  refine fI<|wp C l ω ω ?_
  by_cases p:R ρ (aS b) (d+x)<R ρ (aS b) (d+x-1)
  ·simp only[p,decide_true,dQ]
   have y:∀L:Array cK,(∀k,R ρ L k=R ρ (aS b) k)->uC ρ L d (d+(x+1)):=by
    intro L hk i j hl S hj;rw[hk,hk]
    by_cases z:j<d+x
    ·exact o i j hl S z
    ·have T:j=d+x:=ω
     subst T
     by_cases X:i=d+x
     ·subst X;exact md _
     ·exact RH (Ju p)<|o i (d+x-1) hl ω ω
   have D:∀L:Array cK,(∀k,R ρ L k=R ρ (aS b) k)->wx ρ τ L d (d+x)->kQ τ L (d+x)->si ρ τ L d (x+1) 0:=λL hk a t=>by
    refine(?_,λi j H K h3=>ω,λi H K=>?_,t.B ω)
    ·rw[show d+(x+1)-(0+1)=d+x from ω];exact a
    ·rw[show d+(x+1)-1=d+x from ω,hk,hk]
     exact ah1 p<|o i (d+x-1) H ω ω
   by_cases P:e>0
   ·rw[aB P]
    refine fI<|yX<|jn (0,O,l.J<|Dd _ _ _ _,u.F<|.B v ω,y _<|oA v M,ω,λi H K=>by congr 1;omega,D _ (oA v M) (g.F v hq M)<|g.a.F v<|bc _)
   ·rw[au P]
    have h0:e=0:=ω
    subst h0;exact jn (0,O,l,u,y _ (λ_=>O),ω,λi H K=>by congr 1;omega,D _ (λ_=>O) g.B g.a)
  ·simp only[p,decide_false,dc,cM]
   refine fI<|wp C l ω ω ?_
   by_cases q:R ρ (aS b) (d+x-1)<R ρ (aS b) (d+x)
   ·simp only[q,decide_true,dQ]
    exact jn<|h x e b l u a1 ω o hq M g
   ·simp only[q,decide_false,dc,cM]
    have G:R ρ (aS b) (d+x)=R ρ (aS b) (d+x-1):=ω
    refine jn (e+1,O,l,u,λi j hl S hj=>?_,ω,λi H K=>?_,?_)
    ·by_cases z:j<d+x
     ·exact o i j hl S z
     ·have T:j=d+x:=(û (ò hj) (ô z))
      subst T
      by_cases X:i=d+x
      ·subst X;exact md _
      ·rw[G];exact o i (d+x-1) hl ω ω
    ·rw[show d+(x+1)-1=d+x from ω]
     by_cases a2:i=d+x
     ·subst a2;rfl
     ·rw[G];exact M i ω (þ (ò K) a2)
    ·have hb:d+(x+1)-(e+1+1)=d+x-(e+1):=ω
     refine(by rw[hb];exact g.as,λi j H K h3=>?_,λi H K=>?_,g.a.B (ñ ü))
     ·by_cases z:j<d+x
      ·exact g.c i j (à (æ hb) H) K z
      ·exact g.a i j K (ô z) (by rw[l.F];exact à (à h3 (ñ a3)) hn)
     ·rw[show d+(x+1)-1=d+x from ω,G]
      exact g.b i H (à K (å hb))
def JE(C:oB prog w A s κ a₀ ρ){d n a:Nat}(t:d+a<=a₀.size)(u:n+1<=a)(y:fX κ a₀ l)(z:kR d b l)(D:uC ρ (aS l) d (d+(n+1)))(G:si ρ τ (aS l) d (n+1) 0)(h:DF κ a₀ ρ τ d a b Q):lC (aE prog w) A E s (wu d n a) Q l:=by
 unfold wu;refine fI<|Rd<|nU (O,?_);refine fI<|RX C t ý u y z D G λm o f k p H q r I v g=>?_;dsimp only;have c:d+m<=(aS f).size:=by rw[k.F];exact à (ñ q) t
 by_cases e:o>0
 ·rw[aB e]
  refine fI<|yX<|JB C t (à e (ì I)) q (k.J<|Dd _ _ _ _) (p.F<|.B c ω) ?_ (g.F c I v) (g.a.F c<|bc _) h;intro i j K x L;show R ρ (iA (aS f) _ _ _) j<=R ρ (iA (aS f) _ _ _) i;rw[oA c v,oA c v];exact r i j K x L
 ·rw[au e]
  have M:o=0:=(û (ô e) ú)
  subst M;exact JB C t I q k p r g.B g.a h
def RY(C:oB prog w A s κ a₀ ρ){a d:Nat}(H:a+d<=a₀.size)(I:1<=d)(p:fX κ a₀ c)(u:kQ τ (aS c) a)(h:DF κ a₀ ρ τ a d c Q):lC (aE prog w) A E s (countRun' a d) Q c:=by
 rw[R'];refine fI<|JF C H (bc 1) I p (λi j g f v=>?_) λn x y m K=>?_
 ·have:i=j:=(û f (à (ò v) g))
  subst this;exact md _
 dsimp only;have z:mO ρ τ (aS c) a (a+n):=λi j g f v _=>u i j f (à g (ì f)) (by rw[p.F];exact à (à v (ñ y)) H)
 by_cases q:n=d
 ·rw[aB (by simpa using q)]
  exact jn<|h n c p .J x y m z<|u.B ü
 ·rw[au (by simpa using q)]
  have o:R ρ (aS c) (a+n)<R ρ (aS c) (a+n-1):=K.resolve_left q
  by_cases D:n>1
  ·rw[aB D]
   refine fI<|wp C p ω ω ?_
   by_cases l:R ρ (aS c) a<R ρ (aS c) (a+n-1)
   ·simp only[l,decide_true,dQ]
    exact jn<|h n c p .J x y m z<|u.B ü
   ·simp only[l,decide_false,dc,cM]
    have e:a+n<=(aS c).size:=by rw[p.F];exact à (ñ y) H
    have b:∀k,a<=k->k<a+n->R ρ (aS c) k=R ρ (aS c) (a+n-1):=by
     intro k g S;have a1:=m a k ß g S;have a2:=m k (a+n-1) g ω ω;omega
    refine fI<|yX<|JE C H (þ y q) (p.J<|Dd _ _ _ _) (.B e<|bc _) ?_ (?_,?_,?_,?_) h
    ·intro i j g f v
     show R ρ (iA (aS c) _ _ _) j<=R ρ (iA (aS c) _ _ _) i;rw[oA e b,oA e b]
     by_cases L:j<a+n
     ·rw[b i g (à (ï f) L),b j (à g f) L];exact md _
     ·have M:j=a+n:=(û (ò v) (ô L))
      subst M
      by_cases r:i=a+n
      ·subst r;exact md _
      ·rw[b i g (þ f r)];exact Ju o
    ·rw[show a+(n+1)-(0+1)=a+n from ω]
     intro i j g f v _;show R τ (iA (aS c) _ _ _) j<=R τ (iA (aS c) _ _ _) i;rw[me e,me e,aB (à g (ì f),v),aB (g,à f (ì v))];exact u _ _ ω ω ω
    ·intro i j I T X;omega
    ·intro i g hi
     show R ρ (iA (aS c) _ _ _) _<R ρ (iA (aS c) _ _ _) i;rw[oA e b,oA e b,show a+(n+1)-1=a+n from ω,b i g ω];exact o
    ·exact(u.B (show a<=a+n from ü)).F e (bc _)|>.B (ñ ü)
  ·rw[au D]
   have G:n=1:=(û (ô D) x)
   subst G;refine JE C H (þ y q) p .J ?_ (?_,?_,?_,u.B ü) h
   ·intro i j g f v
    by_cases r:i=j
    ·subst r;exact md _
    ·have t:i=a:=ω
     have P:j=a+1:=(û (ò v) (à (ð g) (þ f r)))
     subst t;subst P;exact Ju o
   ·intro i j g f v;omega
   ·intro i j I T X;omega
   ·intro i g hi
    have t:i=a:=ω
    subst t;exact o
def RZ(C:oB prog w A s κ a₀ ρ){z:dL}{a n y:Nat}{Q:Bool->dL->Prop}(hn:a+n<=a₀.size)(a2:y<=n)(a1:1<=y)(hB:fX κ a₀ z)(P:Srt ρ (aS z) a (a+y))(S:mO ρ τ (aS z) a (a+y))(T:kQ τ (aS z) (a+y))(h:∀d,fX κ a₀ d->kR a z d->Srt ρ (aS d) a (a+n)->mO ρ τ (aS d) a (a+n)->Q ae d):lC (aE prog w) A E s (binarySort' a n y) Q z:=by
 rw[binarySort'_eq];refine fI (ID (yy (I:=λk c d=>c=(adc Z (()))/\fX κ a₀ d/\kR a z d/\Srt ρ (aS d) a (a+fV k n)/\mO ρ τ (aS d) a (a+fV k n)/\kQ τ (aS d) (a+fV k n))
  (Q:=λc d=>c=(adc Z (()))/\fX κ a₀ d/\kR a z d/\Srt ρ (aS d) a (a+n)/\mO ρ τ (aS d) a (a+n)) ?step ?fin ?init) ?post)
 case post=>
  rintro c d ⟨rfl,p,v,f,e⟩;exact jn<|h d p v f e
 case init=>
  rw[show fV (max y 1) n=y from ω];exact(O,hB,.J,P,S,T)
 case fin=>
  rintro c d ⟨hc,p,v,f,e,_⟩;rw[show fV (max (max y 1) n) n=n from ω] at f e;exact(hc,p,v,f,e)
 case step=>
  rintro k c d a3 a4 ⟨rfl,p,v,f,e,o⟩;rw[show fV k n=k from ω] at f e o;have hk:a+k<a₀.size:=(à (ñ a4) hn)
  refine fI (ID (yy (I:=λx c b=>b=d/\∃l r,c=(adc Z (adc l r))/\l<=r/\r<=k/\r-l<=k-x/\
    (∀i,i<l->R ρ (aS d) (a+i)<=R ρ (aS d) (a+k))/\(∀i,r<=i->i<k->R ρ (aS d) (a+k)<R ρ (aS d) (a+i)))
   (Q:=λc b=>b=d/\∃l r,c=(adc Z (adc l r))/\l<=k/\
    (∀i,i<l->R ρ (aS d) (a+i)<=R ρ (aS d) (a+k))/\(∀i,l<=i->i<k->R ρ (aS d) (a+k)<R ρ (aS d) (a+i))) ?istep ?ifin ?iinit) ?ipost)
  case iinit=>exact(O,0,k,O,ú,ß,ß,λi hi=>ω,λi M X=>ω)
  case ifin=>
   rintro c b ⟨rfl,l,r,rfl,a0,D,hm,t,u⟩;have:l=r:=ω
   subst this;exact(O,l,l,O,D,t,u)
  case istep=>
   rintro x c b _ a5 ⟨rfl,l,r,rfl,a0,D,hm,t,u⟩;dsimp only
   by_cases K:l ≥ r
   ·rw[aB K]
    have:l=r:=(û a0 K)
    subst this;exact jn (O,l,l,O,D,t,u)
   ·rw[au K]
    refine fI<|wp C p hk ω ?_
    by_cases g:R ρ (aS b) (a+k)<R ρ (aS b) (a+(l+r) / 2)
    ·simp only[g,decide_true,dQ]
     refine jn (O,l,(l+r) / 2,O,ω,ω,ω,t,λi M X=>?_);exact ah1 g<|f _ _ ü (ñ M) (ñ X)
    ·simp only[g,decide_false,dc,cM]
     refine jn (O,(l+r) / 2+1,r,O,ω,D,ω,λi M=>?_,u);exact RH (f (a+i) (a+(l+r) / 2) ü (ñ (ò M)) ω)<|Int.not_lt.mp g
  case ipost=>
   rintro c b ⟨rfl,l,r,rfl,a6,t,u⟩;show lC _ _ _ _ (do moveDown' (a+k) (a+l);bH (se (adc Z (())))) _ _;rw[moveDown'_eq];have q:a+k<(aS b).size:=by rw[p.F];exact hk
   have q1:∀i,a<=i->i<a+l->R ρ (aS b) i<=R ρ (aS b) (a+k):=λi M X=>by
    have:=t (i-a) ω;rwa [show a+(i-a)=i from ω] at this
   have q2:∀i,a+l<=i->i<a+k->R ρ (aS b) (a+k)<R ρ (aS b) i:=λi M X=>by
    have:=u (i-a) ω ω;rwa [show a+(i-a)=i from ω] at this
   refine fI<|IE<|jn (O,p.J<|bubble_perm _ _ _,v.F<|.N q ω ω,?_,?_,?_)
   ·rw[show fV (k+1) n=k+1 from ω]
    intro i j hl G hj;show R ρ (n' (aS b) (a+k)<|a+k-(a+l)) i<=R ρ (n' (aS b) (a+k)<|a+k-(a+l)) j;rw[uB q ω,uB q ω,show a+k-(a+k-(a+l))=a+l from ω]
    repeat' split
    all_goals first
     |(exfalso;omega)
     |exact md _
     |exact q1 _ ω ω
     |exact Ju<|q2 _ ω ω
     |exact f _ _ ω ω ω
   ·rw[show fV (k+1) n=k+1 from ω]
    intro i j hl G hj he;have m:R ρ (n' (aS b) (a+k)<|a+k-(a+l)) i=R ρ (n' (aS b) (a+k)<|a+k-(a+l)) j:=he;show R τ (n' (aS b) (a+k)<|a+k-(a+l)) i<=R τ (n' (aS b) (a+k)<|a+k-(a+l)) j;rw[uB q ω,uB q ω,show a+k-(a+k-(a+l))=a+l from ω] at m ⊢
    by_cases L:i=a+l
    ·rw[aB L,au (ö (à (ï (æ L)) G)),aB (à (ï (æ L)) G,ò hj)] at m
     have:=q2 (j-1) ω ω;omega
    ·by_cases i2:a+l<i
     ·rw[au L,aB (i2,à (ì G) (ò hj)),au (ö (à i2 (ì G))),aB (à i2 (ì G),ò hj)] at m ⊢
      exact e _ _ ω ω ω m
     ·by_cases j1:j=a+l
      ·rw[au L,au ω,aB j1] at m ⊢
       exact o _ _ (à G (ò hj)) ß q
      ·by_cases j2:a+l<j
       ·rw[au L,au ω,au j1,aB (j2,ò hj)] at m ⊢
        exact e _ _ hl ω ω m
       ·rw[au L,au ω,au j1,au ω] at m ⊢
        exact e _ _ hl G (à (þ (ô j2) j1) (ñ a6)) m
   ·rw[show fV (k+1) n=k+1 from ω]
    intro i j G hj P;have H:j<(aS b).size:=by
     have:=(bubble_perm (aS b) (a+k)<|a+k-(a+l)).size_eq;have a7:j<(n' (aS b) (a+k)<|a+k-(a+l)).size:=P;exact à a7 (å this)
    show R τ (n' (aS b) (a+k)<|a+k-(a+l)) i<=R τ (n' (aS b) (a+k)<|a+k-(a+l)) j;rw[uB q ω,uB q ω,show a+k-(a+k-(a+l))=a+l from ω,au (show ¬j=a+l from (ö (á (ñ a6) hj))),au (show ¬(a+l<j/\j<=a+k) from ω)];split
    ·exact o _ _ hj (ì hj) H
    ·split
     ·exact o _ _ ω (ì hj) H
     ·exact o _ _ G (ì hj) H
def JC(C:oB prog w A s κ a₀ ρ){Q:Unit->dL->Prop}(R:fX κ a₀ y)(X:kg y=#[])(h1:1<=a₀.size)(z:a₀.size<64)(ht:kQ τ (aS y) 0)(h:∀a,fX κ a₀ a->Srt ρ (aS a) 0 a₀.size->mO ρ τ (aS a) 0 a₀.size->Q () a):lC (aE prog w) A E s ug Q y:=by
 rw[sortRuns'_eq];refine fI<|yx ?_;dsimp only;have D:minRun' a₀.size a₀.size 0=a₀.size:=by
  obtain⟨f,hf⟩:∃f,a₀.size=f+1:=(a₀.size-1,ω);have:minRun' (f+1) a₀.size 0=a₀.size:=by rw[minRun'_succ,aB z];rfl
  rwa [<-hf] at this
 simp only[R.F,D];refine fI (ID (yy
  (I:=λx c a=>(x=0/\c=(adc Z 0)/\fX κ a₀ a/\kg a=#[]/\kQ τ (aS a) 0)\/(1<=x/\c=(adc Z a₀.size)/\fX κ a₀ a/\(kg a).size<=1/\Srt ρ (aS a) 0 a₀.size/\mO ρ τ (aS a) 0 a₀.size))
  (Q:=λc a=>c=(adc Z a₀.size)/\fX κ a₀ a/\(kg a).size<=1/\Srt ρ (aS a) 0 a₀.size/\mO ρ τ (aS a) 0 a₀.size) ?step ?fin<|.inl (O,O,R,X,ht)) ?post)
 case fin=>
  rintro c a (⟨hx,_,_⟩|⟨_,hc,G⟩)
  ·omega
  ·exact(hc,G)
 case step=>
  rintro x c a _ hx (⟨rfl,rfl,g,l,H⟩|⟨a0,rfl,G⟩)
  ·dsimp only
   rw[au (ø hx)];simp only[IW,Nat.min_self];refine fI<|RY C ω hx g H λm i n S m1 m2 j k K=>?_;dsimp only;have T:∀d,fX κ a₀ d->kg d=#[]->Srt ρ (aS d) 0 a₀.size->mO ρ τ (aS d) 0 a₀.size->fX κ a₀ (IH d<|(kg d).push (adc 0 (adc a₀.size 0)))/\(kg<|IH d<|(kg d).push (adc 0 (adc a₀.size 0))).size<=1/\Srt ρ (aS<|IH d<|(kg d).push (adc 0 (adc a₀.size 0))) 0 a₀.size/\mO ρ τ (aS<|IH d<|(kg d).push (adc 0 (adc a₀.size 0))) 0 a₀.size:=
    λd b p q q2=>((b.a,b.c,b.b),by show((kg d).push _).size<=1;rw[p];exact bc 1,q,q2)
   by_cases o:m<a₀.size
   ·rw[aB o]
    refine fI<|Rd<|nU (O,?_);refine fI<|RZ C ω m2 m1 n j k K λd L P3 r t=>?_;simp only[oz,dc,cM];refine fI<|yx ?_;have u:kg d=#[]:=by rw[P3.a,S.a];exact l
    have M:(kg d).back?=Z:=by rw[u];rfl
    rw[M];dsimp only;simp only[rY] at r t ⊢;exact fI<|IE<|jn<|.inr (ß,O,T d L u r t)
   ·rw[au o]
    have hm:m=a₀.size:=(û m2 (ô o))
    subst hm;refine fI<|yx ?_;have v:kg i=#[]:=by rw[S.a];exact l
    have M:(kg i).back?=Z:=by rw[v];rfl
    rw[M];dsimp only;simp only[rY] at j k ⊢;exact fI<|IE<|jn<|.inr (ß,O,T i n v j k)
  ·dsimp only
   rw[aB<|bc _];exact jn (O,G)
 case post=>
  rintro c a ⟨rfl,g,P,sr,ss⟩;dsimp only;refine fI<|ID (yy (I:=λ_ c e=>e=a/\c=(adc Z (()))) (Q:=λc e=>e=a/\c=(adc Z (()))) ?_ (λ_ _ hh=>hh) (O,O)) ?_
  ·rintro x c e _ _ ⟨rfl,rfl⟩
   refine fI<|yx ?_;rw[aB P];exact jn (O,O)
  ·rintro c e ⟨rfl,rfl⟩
   exact jn<|h _ g sr ss
end
section
variable{prog:aU}{w:aO}{A:bg}{E:Ω}{s:ai}{κ:of}{a₀:Array cK}{ρ:cK->Int}
def RV(C:oB prog w A s κ a₀ ρ){Q:Unit->dL->Prop}(e:fX κ a₀ c)(f:kg c=#[])(g:1<=a₀.size)(d:a₀.size<64)(h:∀a,fX κ a₀ a->Srt ρ (aS a) 0 a₀.size->Q () a):lC (aE prog w) A E s ug Q c:=
 JC (τ:=λ_=>0) C e f g d (λi j _ _ _=>by unfold R;split<;>split<;>exact md _) λa b k _=>h a b k
end
def wy:∀a:List Int,co a a=ao
 |[]=>O
 |x::a=>by rw[ib,aB O];exact wy a
def DH:∀{a b c:List Int},co a b=ae->co b c=ae->co a c=ae
 |[],[],_,h,_=>by cases h
 |[],_::_,[],_,h=>by cases h
 |[],_::_,_::_,_,_=>O
 |_::_,[],_,h,_=>by cases h
 |_::_,_::_,[],_,h=>by cases h
 |x::a,y::b,z::c,e,d=>by
  rw[ib] at e d ⊢
  by_cases g:x=y
  ·rw[aB g] at e
   by_cases f:y=z
   ·rw[aB f] at d
    rw[aB<|g.trans f];exact DH e d
   ·rw[au f] at d
    rw[au ω];have:=iE d;exact bZ ω
  ·rw[au g] at e
   have i:=iE e
   by_cases f:y=z
   ·rw[au ω]
    exact bZ ω
   ·rw[au f] at d
    have j:=iE d;rw[au ω];exact bZ ω
def JP:∀{a b:List Int},co a b=ao->co b a=ao->a=b
 |[],[],_,_=>O
 |[],_::_,h,_=>by cases h
 |_::_,[],_,h=>by cases h
 |x::a,y::b,c,d=>by
  rw[ib] at c d
  by_cases e:x=y
  ·subst e
   rw[aB O] at c d;rw[JP c d]
  ·rw[au e] at c
   rw[au<|dB e] at d;have:=mM c;have:=mM d;omega
def y_(a:Ξ)(l:List Int):Int:=((a.filter λm=>co m l).length:Nat)
def yZ{ls:Ξ}{l m:List Int}(n:l∈ls)(p:m∈ls):aG (y_ ls l<y_ ls m)=co l m:=by
 have f:∀{a b:List Int},(∀x,co x a=ae->co x b=ae)->∀k:Ξ,(k.filter λx=>co x a).length<=(k.filter λx=>co x b).length:=by
  intro a b c k
  induction k with
  |nil=>exact bc _
  |cons x k i=>
   rw[yS,yS]
   by_cases q:co x a=ae
   ·rw[aB q,aB<|c x q,dP,dP];exact ð i
   ·rw[au q]
    split
    ·rw[dP];exact í i
    ·exact i
 have d:∀{a b:List Int},(∀x,co x a=ae->co x b=ae)->co a b=ae->∀k:Ξ,a∈k->(k.filter λx=>co x a).length<(k.filter λx=>co x b).length:=by
  intro a b c h k
  induction k with
  |nil=>intro q;cases q
  |cons x k i=>
   intro o;rw[yS,yS];rcases ci.mp o with e|e
   ·subst e
    rw[au (by rw[wy];exact eP),aB h,dP];have:=f c k;exact ï this
   ·have:=i e
    by_cases q:co x a=ae
    ·rw[aB q,aB<|c x q,dP,dP];exact ï this
    ·rw[au q]
     split
     ·rw[dP];exact í this
     ·exact this
 unfold y_;cases q:co l m with
 |true=>
  have:=d (a:=l) (b:=m) (λx g=>DH g q) q ls n;exact bZ ω
 |false=>
  have:=f (a:=m) (b:=l) (λx g=>by
   cases z:co x l with
   |true=>rfl
   |false=>
    cases j:co l x with
    |true=>rw[DH j g] at q;cases q
    |false=>rw[JP z j] at g;rw[g] at q;cases q) ls
  exact cf ω
structure oC(prog:aU)(w:aO)(A:bg)(good:aI->Prop)(us:List aa)(ls:Ξ):Prop where
 a:us.length=ls.length
 b:∀(i j:Nat) u l m,us[i]?=U u->us[j]?=U u->ls[i]?=U l->ls[j]?=U m->l=m
 c:2<=us.length->∃κ:of,(∀(s:ai)(Q:of->ai->Prop)(E:Ω),good s.heap->Q κ s->am (aE prog w) A (Rh us.toArray) Q E s)/\
  ∀(i j:Nat) u v l m,us[i]?=U u->us[j]?=U v->ls[i]?=U l->ls[j]?=U m->∀(s:ai)(Q:Bool->ai->Prop)(E:Ω),good s.heap->Q (co l m) s->am (aE prog w) A (Dg κ u v) Q E s
open Classical in
noncomputable def lof(us:List aa)(ls:Ξ)(u:aa):List Int:=if h:∃l,∃i:Nat,us[i]?=U u/\ls[i]?=U l then h.choose else []
def pL{us:List aa}{ls:Ξ}(c:∀(i j:Nat) u l m,us[i]?=U u->us[j]?=U u->ls[i]?=U l->ls[j]?=U m->l=m){i:Nat}(a:us[i]?=U u)(b:ls[i]?=U l):lof us ls u=l:=by
 unfold lof;have h:∃l,∃i:Nat,us[i]?=U u/\ls[i]?=U l:=(l,i,a,b);rw[dif_pos h];obtain⟨j,d,e⟩:=h.choose_spec;exact c j i u _ l d a e b
noncomputable def nH(b:List aa)(a:Ξ)(p:cK):Int:=y_ a<|lof b a p.1
section
variable{prog:aU}{w:aO}{A:bg}{E:Ω}{s:ai}{good:aI->Prop}{us vs:List aa}{ls:Ξ}
def sj(h:us.length=vs.length){p:cK}(b:p∈(us.toArray.zip vs.toArray).toList):∃i:Nat,us[i]?=U p.1/\vs[i]?=U p.2:=by
 have e:(us.toArray.zip vs.toArray).toList=us.zip vs:=by simp
 rw[e] at b;obtain⟨i,c,a⟩:=um.mp b;rw[List.getElem_zip] at a;rw[ur] at c;refine(i,?_,?_)
 ·rw[cw ω,<-a]
 ·rw[cw ω,<-a]
def Sc(L:oC prog w A good us ls)(k:us.length=vs.length)(r:good s.heap)(K:2<=us.length)(t:us.length<64)(z:∀(i j:Nat) u v l m,us[i]?=U u->us[j]?=U v->ls[i]?=U l->ls[j]?=U m->∀(s:ai)(Q:Bool->ai->Prop)(E:Ω),good s.heap->Q (co l m) s->am (aE prog w) A (Dg c u v) Q E s){Q:Unit->dL->Prop}(h:∀a,(aS a).Perm (us.toArray.zip vs.toArray)->vW a=Z->Srt (nH us ls) (aS a) 0 vs.length->Q () a):lC (aE prog w) A E s ug Q (uj c (us.toArray.zip vs.toArray) #[] 7 Z):=by
 have d:(us.toArray.zip vs.toArray).size=vs.length:=by simp;omega
 refine RV (κ:=c) (a₀:=us.toArray.zip vs.toArray) (ρ:=nH us ls) ⟨λx y C D G H e=>?_⟩ (aij _,O,O) O (by rw[d];exact à (ã K) (å k)) (by rw[d];exact à (ï (æ k)) t) λa b I=>h a b.a b.b (by rw[<-d];exact I);obtain⟨i,f,_⟩:=sj k C;obtain⟨j,g,_⟩:=sj k D;have n:i<ls.length:=by rw[<-L.a];exact(cE.mp f).1
 have o:j<ls.length:=by rw[<-L.a];exact(cE.mp g).1
 have p:ls[i]?=U ls[i]:=cw n;have q:ls[j]?=U ls[j]:=cw o;refine z i j _ _ _ _ f g p q s G H r ?_;unfold nH at e;rw[pL L.b f p,pL L.b g q,yZ (lE n)<|lE o] at e;exact e
def lI{a b:Type}:∀(l:List a)(m:List b)(i:Nat),(l.zip m)[i]?=(l[i]?).bind λx=>(m[i]?).map λy=>(adc x y)
 |[],m,i=>by simp
 |x::l,[],i=>by cases h:(x::l)[i]?<;>simp
 |x::l,y::m,0=>O
 |x::l,y::m,i+1=>by
  rw[IY,Rz,Rz,Rz];exact lI l m i
def Sf(K:oC prog w A good us ls)(s:us.length=vs.length){c:Array cK}(z:c.Perm (us.toArray.zip vs.toArray))(C:Srt (nH us ls) c 0 vs.length):∃l:List (List Int×aa),l.Perm (ls.zip vs)/\c.toList.map (·.2)=l.map (·.2)/\l.Pairwise λ(a b:List Int×aa)=>co b.1 a.1=ao:=by
 have g:c.toList.Perm (us.zip vs):=by
  have:=RK.mp z
  simpa using this
 refine(c.toList.map λL=>(adc (lof us ls L.1) L.2),?_,by rw[bY];rfl,?_)
 ·have e:(us.zip vs).map (λL:cK=>(adc (lof us ls L.1) L.2))=ls.zip vs:=by
   apply Dv;intro i;rw[cm,lI,lI];cases m:us[i]? with
   |none=>
    have:ls[i]?=Z:=nC (by rw[<-K.a];exact List.getElem?_eq_none_iff.mp m);rw[this];rfl
   |some u=>
    have h:i<ls.length:=by rw[<-K.a];exact(cE.mp m).1
    have k:ls[i]?=U ls[i]:=cw h;rw[k];cases I:vs[i]? with
    |none=>rfl
    |some v=>
     show U (adc (lof us ls u) v)=U (adc (ls[i]) v);rw[pL K.b m k]
  rw[<-e];exact g.map _
 ·rw[jN,ul]
  intro i j h t n;have D:c.size=vs.length:=by
   have:=g.length_eq;rw[i_,ur] at this;omega
  rw[i_] at h t;have q:=C i j (dZ _) (qv n) (à t (å D));have E:c[i]?=U c[i]:=kP c i h;have G:c[j]?=U c[j]:=kP c j t;rw[nF E,nF G] at q;simp only[aid];obtain⟨o,x,_⟩:=sj s (p:=c[i]) (by
   have:=g.mem_iff.mp (show c[i]∈c.toList by simp)
   simpa using this)
  obtain⟨r,y,_⟩:=sj s (p:=c[j]) (by
   have:=g.mem_iff.mp (show c[j]∈c.toList by simp)
   simpa using this)
  have d:o<ls.length:=by rw[<-K.a];exact(cE.mp x).1
  have f:r<ls.length:=by rw[<-K.a];exact(cE.mp y).1
  have k:ls[o]?=U ls[o]:=cw d;have H:ls[r]?=U ls[r]:=cw f;unfold nH at q;rw[pL K.b x k,pL K.b y H] at q ⊢;have:=yZ (ls:=ls) (lE f)<|lE d;rw[<-this];exact cf ω
end
section
variable{prog:aU}{w:aO}{A:bg}{E:Ω}{s:ai}{good:aI->Prop}{us vs:List aa}{ls:Ξ}
def DJ(f:fU us d):oC prog w A (λ_=>True) us (d.map λn=>[n]):=by
 have g:=f.length;have b:∀(i:Nat) u l,us[i]?=U u->(d.map λn=>[n])[i]?=U l->∃n t,u=.int n t/\l=[n]:=λi u l h a=>by
  obtain⟨t,e⟩:=agc f i u h;rw[cm] at a;cases c:d[i]? with
  |none=>rw[c] at a;cases a
  |some n=>
   rw[c] at a;have z:d.getD i 0=n:=by rw[l_,c];rfl
   rw[z] at e;exact(n,t,e,(ca a).symm)
 refine(by rw[aA,g],λi j u l m h a p q=>?_,λa=>(oneType',λs Q E _ k=>?_,λi j u v l m h a p q s Q E _ k=>?_))
 ·obtain⟨n,t,C,rfl⟩:=b i u l h p
  obtain⟨o,D,c,rfl⟩:=b j u m a q;rw[C] at c;cases c
  rfl
 ·match us,f,a with
  |[],_,a=>simp at a
  |[_],_,a=>simp at a
  |r::x::y,f,_=>
   rw[keyKind_ints f];exact aC k
 ·obtain⟨n,t,rfl,rfl⟩:=b i u l h p
  obtain⟨o,D,rfl,rfl⟩:=b j v m a q;refine kat_lt_int ?_;have:co [n] [o]=aG (n<o):=by
   rw[ib]
   by_cases e:n=o
   ·rw[aB e,Pg];exact(cf ω).symm
   ·rw[au e]
  rw[this] at k;exact k
def nI(h:aI)(u:aa)(l:List Int):Prop:=∃(a b:V)(n:Int)(t:ga)(c:List aa)(d:List Int),u=.ref a/\l=n::d/\jL h a #[.int n t,.ref b]/\jL h b c.toArray/\fU c d
def za(i:jL h a b)(j:jL h a c):b=c:=by
 obtain⟨o,e,_,n,d⟩:=i;obtain⟨k,f,_,l,g⟩:=j;rw[e] at f;cases f;rw[d] at g;injection g
def JS{vs:List aa}(h:fU vs b)(g:fU vs a):b=a:=by
 induction h generalizing a with
 |nil=>cases g;rfl
 |cons n t h c=>cases g with|cons _ _ d=>rw[c d]
def nI.B{l m:List Int}(j:nI h u l)(k:nI h u m):l=m:=by
 obtain⟨a,b,n,t,d,w,rfl,rfl,o,p,q⟩:=j;obtain⟨x,y,z,A,c,r,e,rfl,f,g,i⟩:=k;cases e;have:=za o f;cases this;have s:=za p g;have v:d=c:=by simpa using s
 subst v;rw[JS q i]
def Se{l m:List Int}{Q:Bool->ai->Prop}(h1:nI s.heap x l)(h2:nI s.heap y m)(M:A.units<cH)(p:Q (co l m) s):am (aE prog w) A (Dg (IF ae) x y) Q E s:=by
 obtain⟨a,b,n,t,a0,P,rfl,rfl,t1,R,S⟩:=h1;obtain⟨a',T,g,C,X,r,rfl,rfl,H,u,v⟩:=h2;obtain⟨o,e,hc,k,d⟩:=id t1;obtain⟨o',e',a1,k',d'⟩:=id H;refine kat_lt e d e' d' ?_;show yl prog w A ae (aG<|2<2) Q [(adc (.int n t) (.int g C)),(adc (.ref b) (.ref T))] 0 s;rw[ib] at p;refine HV<|ic (If n t g C prog w (λ_ _=>False) _ (O,O):am (aE prog w) A (eqBool (.int n t)<|.int g C) (λe s'=>e=(n==g)/\s'=s) (λ_ _=>False) s) (λe1 D he=>?_) λ_ _ z=>z;obtain⟨rfl,rfl⟩:=he
 by_cases G:n=g
 ·have I:(n==g)=ae:=by simpa using G
  rw[I];rw[aB G] at p;refine HS<|HV ?_;have i:∀{c:V}{j:List aa}{q:List Int},jL D.heap c j.toArray->fU j q->dT (fH prog w) D.heap (q.map bd) c:=λ{c j q} hc K=>by
   obtain⟨o,e,L,k,d⟩:=hc;refine(o,j.toArray,k,e,L,d,?_);have:∀{j:List aa}{q:List Int},fU j q->CP (fH prog w) (q.map bd) j:=by
    intro j q K
    induction K with
    |nil=>exact .nil
    |cons n t h ih=>exact .cons (ED prog w n t) ih
   simpa using this K
  refine Hr (knd:=fH prog w) M (i R S) (i u v) ?_
  by_cases ep:P=r
  ·subst ep
   rw[bZ O];rw[wy] at p;exact HS<|kat_nil p
  ·have:¬(P.map bd:List aN)=r.map bd:=λz=>ep<|uq (f:=(bd:Int->aN)) (λx y h=>vC h)|>.mp z
   rw[cf this];refine HU ?_;show am (aE prog w) A (oneLt' ao (.ref b)<|.ref T) Q (λ_ _=>False) D;exact kat_one _ _<|abk R u (by simpa using S) (by simpa using v) M p
 ·have I:(n==g)=ao:=by simpa using G
  rw[I];rw[au G] at p;refine HU ?_;show am (aE prog w) A (oneLt' ae (.int n t)<|.int g C) Q (λ_ _=>False) D;exact oneLt_int p
def JM:∀{us:List aa}{ls:Ξ},us.length=ls.length->(∀(i:Nat) u l,us[i]?=U u->ls[i]?=U l->nI h u l)->∃c,KatTups h us c/\c.length=us.length/\∀f∈c,∃n t,f=aJ n t
 |[],[],_,_=>([],.nil,O,λf g=>nomatch g)
 |u::us,l::ls,m,j=>by
  obtain⟨c,p,q,r⟩:=JM (us:=us) (ls:=ls) (by simpa using m) λi u l s v=>j (i+1) u l (by simpa using s) (by simpa using v);obtain⟨a,b,n,t,w,z,rfl,rfl,x,A,C⟩:=j 0 u l O O;obtain⟨o,e,y,k,d⟩:=id x;refine(.int n t::c,.cons e y d O p,by simp[q],λf g=>?_);rcases ci.mp g with rfl|g
  ·exact(n,t,O)
  ·exact r f g
 |[],_::_,h,_=>by simp at h
 |_::_,[],h,_=>by simp at h
def JQ(o:us.length=ls.length)(q:A.units<cH)(r:∃h,good h)(a:∀h,good h->∀(i:Nat) u l,us[i]?=U u->ls[i]?=U l->nI h u l):oC prog w A good us ls:=by
 refine(o,λi j u l m d b e g=>?_,λb=>(IF ae,λs Q E c k=>?_,λi j u v l m d b e g s Q E c k=>?_))
 ·obtain⟨h,p⟩:=r
  exact(a h p i u l d e).B<|a h p j u m b g
 ·obtain⟨C,x,D,y⟩:=JM o<|a _ c
  refine kat_kind (T:=.type "int") x (à (ã b) (æ D)) (λf z=>?_) ξ k;obtain⟨n,t,rfl⟩:=y f z;exact ad8 O
 ·exact Se (a _ c i u l d e) (a _ c j v m b g) q k
end
def pM(e:Ξ)(f c:List aa):Prop:=∃d:List (List Int×aa),d.Perm (e.zip f)/\c=d.map (·.2)/\d.Pairwise λ(a b:List Int×aa)=>co b.1 a.1=ao
section
variable{prog:aU}{w:aO}{A:bg}{E:Ω}{s:ai}{good:aI->Prop}{us vs:List aa}{ls:Ξ}
def JN(b:ls.length=vs.length)(c:us.length=vs.length)(d:vs.length<2):pM ls vs ((us.toArray.zip vs.toArray).map (·.2)).toList:=by
 have e:((us.toArray.zip vs.toArray).map (·.2)).toList=vs:=by
  rw[RJ,show(us.toArray.zip vs.toArray).toList=us.zip vs by simp,Jb (æ c)]
 rw[e];refine(ls.zip vs,wl _,by rw[Jb (æ b)],?_);have a:(ls.zip vs).length<2:=by rw[ur];omega
 match ls.zip vs,a with
 |[],_=>exact RC
 |[x],_=>simp
 |_::_::_,h=>simp only[dP] at h;omega
def JK(v:oC prog w A good us ls)(f:us.length=vs.length)(m:vs.length<64)(k:good s.heap){G:Unit×dL->jy t_}(h:∀a,pM ls vs ((aS a).map (·.2)).toList->(aS a).size=vs.length->vW a=Z->am (aE prog w) A (G (adc agf a)) P E s):am (aE prog w) A (if vs.toArray.size<2 then(bH IP >>= λb=>(if vs.toArray.size<2 then bH () else ug).run (uj b (us.toArray.zip vs.toArray) #[] 7 Z) >>= G)
   else(Rh us.toArray >>= λb=>(if vs.toArray.size<2 then bH () else ug).run (uj b (us.toArray.zip vs.toArray) #[] 7 Z) >>= G)) P E s:=by
 have d:(us.toArray.zip vs.toArray).size=vs.length:=by rw[aib,cz,cz];omega
 by_cases c:vs.toArray.size<2
 ·rw[aB c]
  refine ag<|aC ?_;rw[aB c];rw[acy];refine ag<|aC ?_
  try dsimp only
  rw[cz] at c;exact h (uj IP (us.toArray.zip vs.toArray) #[] 7 Z) (JN (by rw[<-v.a];exact f) f c) d O
 ·rw[au c,au c]
  rw[cz] at c;obtain⟨t,n,o⟩:=v.c (à (ô c) (æ f));refine ag<|n s _ E k ?_;refine ag<|ic (Sc (Q:=λ_ a=>(aS a).Perm (us.toArray.zip vs.toArray)/\vW a=Z/\Srt (nH us ls) (aS a) 0 vs.length) v f k (à (ô c) (æ f)) (à (ï (å f)) m) o λa g i j=>(g,i,j)) ?_ λ_ _ e=>e;rintro⟨⟨⟩,a⟩ u ⟨rfl,l,p,q⟩
  try dsimp only
  exact h a (by
   obtain⟨r,g,i,j⟩:=Sf v f l q;exact(r,g,by rw[RJ];exact i,j)) (by rw[l.size_eq];exact d) p
def JO{n:Nat}{P:t_->ai->Prop}(c:s.heap.get? a=U (bE "list" vs.toArray n))(v:oC prog w A good vs ls)(q:∀m,(∀b o,b≠a->s.heap.get? b=U o->m.get? b=U o)->good m)(i:vs.length<=bG)(j:vs.length<64)(h:∀d:Array aa,pM ls vs d.toList->P (.done<|.ret .none) {s with heap:=sortedHeap s.heap a vs d}):am (aE prog w) A (Builtin.«list.sort» ([.ref a],[])) P E s:=by
 rw[list_sort_plain];have p:a<s⁻¹:=bT c;refine ag<|Df c O ?_;refine ag<|ui c O ?_ (by rw[cz];exact i)<|dZ _;obtain⟨k,f⟩:∃k,(s.heap.update a<|b_ λ_=>#[]).get? a=U (bE "list" #[] k):=(_,rW c (λ_=>#[]));refine ag<|Db f O ?_;refine ag<|BX ?_ (by show vs.length<=_;exact i);refine ag<|tK ?_<|dZ _;refine fz ?_;have g:(((s.heap.update a<|b_ λ_=>#[]).push<|bE "tuple" vs.toArray 0).push<|bE "list" #[] 0).get? a=U (bE "list" #[] k):=by
  rw[tZ _ _ _ (by rw[uh,lA];exact ck<|jM p),tZ _ _ _ (by rw[lA];exact ck p)];exact f
 show am (aE prog w) A _ P E {s with heap:=((s.heap.update a<|b_ λ_=>#[]).push<|bE "tuple" vs.toArray 0).push<|bE "list" #[] 0};dsimp only;refine JK (s:={s with heap:=((s.heap.update a<|b_ λ_=>#[]).push<|bE "tuple" vs.toArray 0).push<|bE "list" #[] 0}) v O j (q _ λb o r e=>bJ _<|bJ _ (by rw[yu _ _ _ _ r];exact e)) λt c l u=>?_;dsimp only;refine ag<|Db g O ?_;refine ag<|ui g O ?_ (dZ _)<|dE (yG<|(jD ..).trans l)<|IX i;rw[u];simp only[bne_self_eq_false,dc,cM];exact aC<|h _ c
def JJ{Q:Ω}(k:s.heap.IsList l vs.toArray)(t:oC prog w A.in1.in1 good vs ls)(n:∀g,(∀b o,s.heap.get? b=U o->g.get? b=U o)->good g)(i:vs.length<=bG)(j:vs.length<64)(h:∀a:Array aa,pM ls vs a.toList->Q (.ref<|s⁻¹+1) {s with heap:=sortedAll s.heap vs a}):am (aE prog w) A (gv (.builtin "sorted") [.ref l]) Q E s:=by
 refine QV IN II IQ (args_sorted1 _) ?_;unfold Builtin.«sorted»;refine ag (m:=HL "sorted" 1 1 _)<|aC ?_;refine ag<|Ri k ?_ i;refine ag<|tK ?_ i;have c:((s.heap.push<|bE "list" #[] 0).update s⁻¹ (b_ (·++vs.toArray))).objs.size=s⁻¹+1:=by
  rw[lA,uh]
 have e:(((s.heap.push<|bE "list" #[] 0).update s⁻¹ (b_ (·++vs.toArray))).push<|bE "list" vs.toArray 0).get? (s⁻¹+1)=U (bE "list" vs.toArray 0):=by
  rw[<-c];exact dv _ O
 have f:∀b o,s.heap.get? b=U o->(((s.heap.push<|bE "list" #[] 0).update s⁻¹ (b_ (·++vs.toArray))).push<|bE "list" vs.toArray 0).get? b=U o:=λb o q=>by
  have d:b<s⁻¹:=bT q;rw[tZ _ _ _ (by rw[c];exact ck<|jM d),yu _ _ _ _<|ck d,tZ _ _ _<|ck d];exact q
 show am _ _ _ _ _ {s with heap:=((s.heap.push<|bE "list" #[] 0).update s⁻¹ (b_ (·++vs.toArray))).push<|bE "list" vs.toArray 0};rw[c];refine ag (fz (lT IG (_,e,O) IR (JO (s:={s with heap:=((s.heap.push<|bE "list" #[] 0).update s⁻¹ (b_ (·++vs.toArray))).push<|bE "list" vs.toArray 0}) e t (λg p=>n g λb o q=>p b o (ck<|jM<|bT q)<|f b o q) i j λa r=>(_,O,?_))<|args_list_sort _));exact aC (_,O,h a r)
def JI{f:Array aa}{e e1:Nat}{P:t_->ai->Prop}(u:s.heap.get? d=U (bE "list" f e))(y:s.heap.get? a=U (bE "list" #[] e1))(j:d≠a)(m:f.size<=bG)(z:pM ls vs ((aS g).map (·.2)).toList)(n:(aS g).size=vs.length)(C:vs.length<=bG)(p:vW g=Z)(h:∀k l c,(∀b o,b≠d->b≠a->s.heap.get? b=U o->k.get? b=U o)->k.get? a=U (bE "list" l c)->(∃o,k.get? d=U o)->pM ls vs l.toList->k.objs.size=s⁻¹->P (.done<|.ret .none) {s with heap:=k}):am (aE prog w) A (ksk_tail a ao e1 (.ref d) g) P E s:=by
 have v:=jl s.heap d<|b_ λ_=>(#[]:Array aa);have i:(s.heap.update d<|b_ λ_=>(#[]:Array aa)).get? a=U (bE "list" #[] e1):=(v.2 a j.symm).trans y;have x:=jl (s.heap.update d<|b_ λ_=>(#[]:Array aa)) a (b_ λ_=>(aS g).map (·.2));obtain⟨r,t⟩:∃r,((s.heap.update d<|b_ λ_=>(#[]:Array aa)).update a (b_ λ_=>(aS g).map (·.2))).get? a=U (bE "list" ((aS g).map (·.2)) r):=
  (_,rW i λ_=>(aS g).map (·.2))
 unfold ksk_tail
 try dsimp only
 simp only[dc,cM];refine ag<|ui u O ?_ m<|dZ _;refine ag<|po ?_;refine ag<|Db i O ?_;refine ag<|ui i O ?_ (dZ _)<|dE (yG<|(jD ..).trans n)<|IX C;rw[p];simp only[bne_self_eq_false,dc,cM];refine aC<|h _ _ r (λb o D G q=>(x.2 b G).trans<|(v.2 b D).trans q) t (_,(x.2 d j).trans<|rW u λ_=>#[]) z (by rw[lA,lA])
end
def gH(a:List (al×V)):List (al×lz)->List (al×V)->List (al×V)
 |[],b=>b
 |(adc n k)::r,b=>if(k==.free)=ae then gH a r ((adc n ((a.lookup n).getD 0))::b) else gH a r b
def Mv{env:dD}:∀(b:List (al×lz))(d:List (al×V)),(∀x∈b,x.2=.free->∃c,env.cells.lookup x.1=U c)-> (uA b d λx(r:List (al×V))=>if(x.2==.free)=ae then do let c <-cellOf env x.1;bH (se<|(adc x.1 c)::r) else bH (se r):jy (List<|al×V))=bH (gH env.cells b d)
 |[],d,_=>O
 |(adc n k)::r,d,h=>by
  rw[Ds];have g:=λa=>Mv (env:=env) r a λx i=>h x<|d_ _ i;unfold gH
  by_cases e:(k==bQ)=ae
  ·have f:k=.free:=by cases k<;>first|rfl|cases e
   obtain⟨c,j⟩:=h (adc n k) dC f;simp only[e,dQ];unfold cellOf;rw[j];simp only[pure_bind,yD];exact g _
  ·simp only[e,dc,cM,pure_bind]
   exact g _
def Wl{a:eO}{b:dD}(h:∀x∈a.names,x.2=.free->∃c,b.cells.lookup x.1=U c):Cz a b=bH (gH b.cells a.names []):=by
 rw[<-Mv a.names [] h];unfold Cz;simp
def EE:∀{l:List (al×V)},(adc x c)∈l->∃d,l.lookup x=U d
 |[],h=>nomatch h
 |(adc y d)::l,h=>by
  rw[kM]
  by_cases e:x=y
  ·subst e;exact(d,by simp)
  ·have a:(x==y)=ao:=by simpa using e
   rw[a];rcases ci.mp h with q|q
   ·cases q;exact aZ O e
   ·exact EE q
def zY{cells:List (al×V)}:∀{a:List (al×lz)}{acc:List (al×V)},((adc x bQ)∈a\/∃c,(adc x c)∈acc)->∃c,(adc x c)∈gH cells a acc
 |[],acc,h=>h.elim (λq=>nomatch q) id
 |(adc n k)::r,acc,h=>by
  unfold gH
  by_cases b:(k==bQ)=ae
  ·rw[aB b]
   refine zY ?_;rcases h with h|⟨c,h⟩
   ·rcases ci.mp h with q|q
    ·cases q;exact .inr (_,dC)
    ·exact .inl q
   ·exact .inr (c,d_ _ h)
  ·rw[au b]
   refine zY ?_;rcases h with h|h
   ·rcases ci.mp h with q|q
    ·cases q;exact aZ O b
    ·exact .inl q
   ·exact .inr h
def jW(X:aK)(a:eO)(f:List al)(d:List (al×V))(C:V)(b:ai)(c:ac)(e:List V):aK where
 prog:=X.prog
 w:=X.w
 K:=X.K
 mg:=X.mg
 base:=X.base
 A:=X.A
 N:=f
 d:=b
 h:=c
 env:=Cv a d C X.env
 outer:=X.c
 c:=X.c
 e:=e
 g:=λ_=>ao
 b:=X.b
 f:=X.f
 a:=λ_ _=>False
def oW(X:aK)(b:List bf)(t:eB):Prop:=
 ∀(a:Ψ)(s:ai)(d:aM)(H:ac)(Q:Bool->ac->Prop),aw X a d H s->t d H Q->
  am (aE X.prog X.w) X.A (uA b ae λc r=>if r=ae then do let e <-HI c X.env (dO c X.env);bH (se e) else bH (se r)) (ES X a d Q) X.a s
def ja:eB:=λ_ H Q=>Q ae H
def gE:oW X [] ja:=λ_ _ _ H _ I h=>wpAny_tests_nil (H,I,h)
def oE{t:eB}(h:kx X c t):oW X [c] t:=λa s b H Q I d=>wpAny_tests_one<|h a s b H Q I d
def wT(a:List (Option Nat))(b:aM):aM:=a.map λc=>match c with
 |none=>Z
 |some j=>(b[j]?).getD Z
def fg(r:jt)(g:gY)(l:eB)(n:bb)(o:aM)(p:ac)(D:V)(Q:aL):Prop:=
 ∃s:Nat->Nat->aM->ac->Prop,(∃m,s 0 m o (av p D<|.a []))/\
 ∀i m c d,s i m c d->(r.b i d/\Q (.c D) d)\/(r.a i d/\∀x h,r.c i d x h->g x c h λa q=>l a q λb j=>
  if b=ae then n a j λy k=>∃f e,k D=U (.a f)/\f.length<bG/\e<m/\s (i+1) e a (av k D<|.a<|f++[y])
  else ∃e,e<m/\s (i+1) e a j)
def qH(d:kw)(a:List (Option Nat))(g:gY)(e:eB)(f:bb):bb:=λb H Q=>d b H λh c=>∀D,c D=Z->fg h g e f (wT a b) c D Q
def vb(d c:List al)(a:List (Option Nat))(b:eO):Prop:=
 a.length=c.length/\∀i j:Nat,a[i]?=U (U j)->∃x:al,c[i]?=U x/\d[j]?=U x/\b.names.lookup x=U .free
def zX{b:List (al×V)}:∀{a:List (al×lz)}{e:List (al×V)},(∀y∈a,y.2=.free->∃d,b.lookup y.1=U d)->(∀p∈e,False)->(adc x c)∈gH b a e->b.lookup x=U c/\(adc x bQ)∈a:=by
 have l:∀{a:List (al×lz)}{e:List (al×V)},(∀y∈a,y.2=.free->∃d,b.lookup y.1=U d)->(adc x c)∈gH b a e->(adc x c)∈e\/(b.lookup x=U c/\(adc x bQ)∈a):=by
  intro a
  induction a with
  |nil=>intro e _ h;exact .inl h
  |cons y r t=>
   intro e j h;obtain⟨n,k⟩:=y;unfold gH at h;have f:∀y∈r,y.2=.free->∃d,b.lookup y.1=U d:=λy u=>j y<|d_ _ u
   by_cases m:(k==bQ)=ae
   ·have g:k=.free:=by cases k<;>first|rfl|cases m
    obtain⟨d,v⟩:=j (adc n k) dC g;rw[aB m] at h;rcases t f h with q|⟨o,s⟩
    ·rcases ci.mp q with q|q
     ·refine .inr (?_,?_)
      ·have i:b.lookup n=U d:=v
       rw[i] at q;cases q;exact i
      ·cases q
       rw[g];exact dC
     ·exact .inl q
    ·exact .inr (o,d_ _ s)
   ·rw[au m] at h
    rcases t f h with q|⟨o,s⟩
    ·exact .inl q
    ·exact .inr (o,d_ _ s)
 intro a e j w h;rcases l j h with q|q
 ·exact(w _ q).elim
 ·exact q
def EM:∀(a:List (al×lz))(h:aI)(b:List (al×V))(x:al)(c:V),(adc x c)∈ir h.objs.size a b->(adc x c)∈b\/((adc x cx)∈a/\h.objs.size<=c/\(Cq h a).IsCell c Z)
 |[],h,b,x,c,d=>.inl d
 |(adc n k)::r,h,b,x,c,d=>by
  rw[cellsFrom.eq_2] at d;have l:Cq h ((adc n k)::r)=if(k==cx)=ae then Cq (h.push {cls:=ay "cell",data:=uc Z}) r else Cq h r:=O
  by_cases e:(k==cx)=ae
  ·have g:k=.cell:=by cases k<;>first|rfl|cases e
   rw[aB e] at d;rw[l,aB e];have m:(h.push {cls:=ay "cell",data:=uc Z}).objs.size=h.objs.size+1:=mF ..;rw[<-m] at d;rcases EM r _ _ x c d with q|⟨i,f,j⟩
   ·rcases ci.mp q with q|q
    ·cases q
     refine .inr (by rw[g];exact dC,bc _,_,P' r _ _ _<|dv _ O,O)
    ·exact .inl q
   ·rw[m] at f
    exact .inr (d_ _ i,Rs f,j)
  ·rw[au e] at d
   rw[l,au e];rcases EM r h b x c d with q|⟨i,f,j⟩
   ·exact .inl q
   ·exact .inr (d_ _ i,f,j)
def EN:∀(b:List (al×lz))(n:Nat)(a:List (al×V)),(∀x y c,(adc x c)∈a->(adc y c)∈a->x=y)->(∀p∈a,p.2<n)->∀x y c,(adc x c)∈ir n b a->(adc y c)∈ir n b a->x=y
 |[],n,a,f,_,x,y,c,d,e=>f x y c d e
 |(adc m k)::r,n,a,f,g,x,y,c,d,e=>by
  rw[cellsFrom.eq_2] at d e
  by_cases i:(k==cx)=ae
  ·rw[aB i] at d e
   refine EN r (n+1) ((adc m n)::a) (λx y c p q=>?_) (λp h=>?_) x y c d e
   ·rcases ci.mp p with p|p<;>rcases ci.mp q with q|q
    ·cases p;cases q;rfl
    ·cases p
     have:n<n:=g _ q;omega
    ·cases q
     have:n<n:=g _ p;omega
    ·exact f x y c p q
   ·rcases ci.mp h with rfl|h
    ·exact yF _
    ·exact jM<|g p h
  ·rw[au i] at d e
   exact EN r n a f g x y c d e
def Va{M:tY}{A:bg}{E:Ω}{s:ai}{a:eO}{d:V}{i:List (al×V)}{g:al}{j:dD}{Q:dD->ai->Prop}(h:∀f:aI,(f.Ns s⁻¹ λ_=>Z)->(∀b o,s.heap.get? b=U o->f.get? b=U o)->
   (∀x c,(adc x c)∈ir (s⁻¹+1) a.names i->(adc x c)∈i\/((adc x cx)∈a.names/\s⁻¹+1<=c/\f.IsCell c Z))->
   Q (newEnv a s⁻¹ d (ir (s⁻¹+1) a.names i) g Z .none (U j) tQ) {s with heap:=f}):
  am M A (newFunctionEnv a d i [] g Z bj<|U j) Q E s:=by
 unfold newFunctionEnv;refine ag<|wpAny_alloc ?_;refine ag<|wpAny_layCells _ (λl m k=>O) a.names i _ _ ?_;have n:(s.heap.push {cls:=ay "dict",data:=jm #[]}).objs.size=s⁻¹+1:=mF ..;have:=h (Cq (s.heap.push {cls:=ay "dict",data:=jm #[]}) a.names) ((Heap.Ns.new s.heap<|.type "dict").keeps λb o e=>P' _ _ _ _ e) (λb o e=>P' _ _ _ _<|bJ _ e) (λx c p=>by
  rw[<-n] at p ⊢;exact EM a.names _ i x c p)
 show am M A _ _ _ _;refine ag<|aC ?_;refine aC ?_;rw[<-n] at this;exact this
def jV(X:aK)(a:eO)(f:List al)(d:List (al×V))(C:V)(b:ai)(c:ac)(e:List V):aK:={jW X a f d C b c e with g:=λx=>aG<|a.names.lookup x=U .cell}
section
variable{X:aK}{scope:eO}{N':List al}{caps:List (Option Nat)}{tg iter elt:bf}{ifs:List bf}{wi:kw}{g:gY}{tc:eB}{te:bb}{pos:bR}
def Ek{scope:eO}{env:dD}{x:al}:∀{names:List (al×lz)},(names.lookup x=U .free\/names.lookup x=U .cell)-> ((names.map λ|adc n k=>if(k==bQ&&env.scope.kind==.function&&env.kindOf n==U .cell) then(adc n cx) else(adc n k)).lookup x=U .free \/
   (names.map λ|adc n k=>if(k==bQ&&env.scope.kind==.function&&env.kindOf n==U .cell) then(adc n cx) else(adc n k)).lookup x=U .cell)
 |[],h=>by simp at h
 |(adc n k)::r,h=>by
  have c:=@Ek scope env x r;show mJ x ((if(k==bQ&&env.scope.kind==.function&&env.kindOf n==U .cell)=ae then(adc n cx) else(adc n k))::_)=_\/mJ x ((if(k==bQ&&env.scope.kind==.function&&env.kindOf n==U .cell)=ae then(adc n cx) else(adc n k))::_)=_;cases a:x==n with
  |true=>
   simp only[kM,a] at h
   by_cases b:(k==bQ&&env.scope.kind==.function&&env.kindOf n==U .cell)=ae
   ·rw[aB b];simp[kM,a]
   ·rw[au b];simp only[kM,a];exact h
  |false=>
   simp only[kM,a] at h
   by_cases b:(k==bQ&&env.scope.kind==.function&&env.kindOf n==U .cell)=ae
   ·rw[aB b];simp only[kM,a];exact c h
   ·rw[au b];simp only[kM,a];exact c h
def Ec{a:dD}{x:al}{f:lz}:∀{c:List (al×lz)},(c.map λ|adc n k=>if(k==bQ&&a.scope.kind==.function&&a.kindOf n==U .cell) then(adc n cx) else(adc n k)).lookup x=U f->
  ∃g,c.lookup x=U g/\(f=g\/(g=.free/\f=.cell))
 |[],h=>by simp at h
 |(adc n k)::r,h=>by
  have i:=@Ec a x f r;have b:mJ x ((if(k==bQ&&a.scope.kind==.function&&a.kindOf n==U .cell)=ae then(adc n cx) else(adc n k))::_)=U f:=h;cases e:x==n with
  |true=>
   simp only[kM,e]
   by_cases d:(k==bQ&&a.scope.kind==.function&&a.kindOf n==U .cell)=ae
   ·rw[aB d] at b
    simp only[kM,e] at b;cases b;have j:k=.free:=by
     rw[iN,iN] at d;cases k<;>first|rfl|exact aZ d.1.1 ξ
    exact(k,O,.inr (j,O))
   ·rw[au d] at b
    simp only[kM,e] at b;cases b;exact(_,O,.inl O)
  |false=>
   simp only[kM,e]
   by_cases d:(k==bQ&&a.scope.kind==.function&&a.kindOf n==U .cell)=ae
   ·rw[aB d] at b;simp only[kM,e] at b;exact i b
   ·rw[au d] at b;simp only[kM,e] at b;exact i b
structure Na(X:aK)(pins:Ψ)(σ:aM)(H':ac)(s4:ai)(C:V):Prop where
 ns:∃m,s4.heap.Ns C m
 g:X.d⁻¹<=C
 e:C≠X.env.locals
 d:∀x c,X.env.cells.lookup x=U c->c≠C
 f:∀p∈X.f++pins,p.1≠C
 b:H' C=Z
 a:∀h',gA C s4.heap h'->aw X pins σ H' {s4 with heap:=h'}
def Mr{R:Ω}(hc:X.b=ae)(hk:scope.kind=.function)(b6:∀y∈scope.names,y.2=.cell->scope.names.lookup y.1=U .cell)(b7:∀y∈scope.names,y.2=.free->scope.names.lookup y.1=U .free)(b8:∀y∈scope.names,y.2=.local->scope.names.lookup y.1=U .local)(c7:∀y∈scope.names,y.2=.free->X.env.kindOf y.1=U .cell\/X.env.kindOf y.1=U .free)(c5:vb X.N N' caps scope)(hi:kX X tg iter wi)(hg:∀cl C a7 a8 ex,lQ (jV X scope N' cl C a7 a8 ex) tg g)(ht:∀cl C a7 a8 ex,oW (jV X scope N' cl C a7 a8 ex) ifs tc)(he:∀cl C a7 a8 ex,bA (jV X scope N' cl C a7 a8 ex) elt te)(hs:∀x,tP iter X.env x=bH x){s:ai}(I:aw X l σ H s)(h:qH wi caps g tc te σ H Q)(fin:∀(D C:V)(A:ac)(s4:ai)(f:Flow),Na X l σ A s4 C->Q (.c D) A->Qr (aE X.prog X.w) X.A X.a use R (.ref D) C (.ok f) s4):am (aE X.prog X.w) X.A (Qq (.ListComp elt [(tg,iter,ifs,0)] scope pos) scope X.env pp (HG []) (Ql [(tg,iter,ifs,0)]) (Qk [(tg,iter,ifs,0)] X.env) use) R X.a s:=by
 have b0:∀y∈scope.names,y.2=.free->∃c,X.env.cells.lookup y.1=U c:=λy hy e=>I.a.has y.1<|c7 y hy e;refine wpAny_comprehension_free (use:=use) O hs (Wl b0) hk b8 ?_;refine bI (hi l s σ H _ I h) λxv s1 h1=>bI h1 λj0 s2 h2=>?_;obtain⟨it,fp,tn,j3,H2,e,I2,T,c8,f2,q⟩:=h2;subst e;have b9:H2 s2⁻¹=Z:=I2.b.B<|bc _;obtain⟨j4,⟨m0,w0⟩,d6⟩:=q s2⁻¹ b9;refine mE<|Va λE a6 K L=>?_;dsimp only at a6 K L ⊢;generalize hD:s2⁻¹=D at *;obtain⟨k,e3⟩:∃k:ai,k={s2 with heap:=s2.heap.push {cls:=.type "list",dict:=Z,data:=.seq ([]:List aa).toArray}}:=(_,O);have h3:k.heap=s2.heap.push {cls:=.type "list",dict:=Z,data:=.seq ([]:List aa).toArray}:=by rw[e3]
 rw[<-h3] at a6 K L ⊢;have b1:k⁻¹=D+1:=by rw[h3,mF,hD]
 have I3:aw X l σ (av H2 D<|.a []) k:=by
  rw[e3,<-hD];exact I2.C2 (t':=s2.toks) (ys:=[]) .nil<|dZ _
 obtain⟨Xc,M⟩:∃Xc,Xc=jV X scope N' (ir (k⁻¹+1) scope.names<|gH X.env.cells scope.names []) k⁻¹ k (av H2 D<|.a []) fp:=(_,O);have g0:lQ Xc tg g:=by rw[M];exact hg _ _ _ _ _
 have g1:oW Xc ifs tc:=by rw[M];exact ht _ _ _ _ _
 have g2:bA Xc elt te:=by rw[M];exact he _ _ _ _ _
 have xP:Xc.prog=X.prog:=by rw[M];rfl
 have xw:Xc.w=X.w:=by rw[M];rfl
 have xK:Xc.K=X.K:=by rw[M];rfl
 have xA:Xc.A=X.A:=by rw[M];rfl
 have xc:Xc.b=ae:=by rw[M];exact hc
 have xe:Xc.env=Cv scope (ir (k⁻¹+1) scope.names<|gH X.env.cells scope.names []) k⁻¹ X.env:=by rw[M];rfl
 have xE:Xc.a=λ_ _=>False:=by rw[M];rfl
 have a0:∀x c,(ir (k⁻¹+1) scope.names<|gH X.env.cells scope.names []).lookup x=U c->(X.env.cells.lookup x=U c/\scope.names.lookup x=U .free)\/(scope.names.lookup x=U .cell/\k⁻¹+1<=c/\E.IsCell c Z):=λx c e=>by
  rcases L x c (nV e) with q|⟨q1,q2,q3⟩
  ·obtain⟨q4,q5⟩:=zX b0 (λp hp=>aZ hp (by simp)) q
   exact .inl (q4,b7 _ q5 O)
  ·exact .inr (b6 _ q1 O,q2,q3)
 have d7:∀p∈gH X.env.cells scope.names [],p.2<k⁻¹+1:=λp hp=>by
  obtain⟨q4,_⟩:=zX b0 (λp hp=>aZ hp (by simp)) (x:=p.1) (c:=p.2) hp;obtain⟨v,o,ho,_⟩:=I3.g p.1 p.2 q4;exact jM<|bT ho
 have b2:∀b∈fp,b≠D/\b<D:=λb w=>by
  obtain⟨ob,eb,_⟩:=T.a 0 _ c8 b w;have:=bT eb;rw[hD] at this;exact(ck this,this)
 have j1:∀b∈iP X.c,b<D:=λb w=>by
  obtain⟨_,ob,eb,_⟩:=I2.B2.mem w;have:=bT eb;rw[hD] at this;exact this
 have P:∀b o,k.heap.get? b=U o->E.get? b=U o:=K;have g3:(av H2 D<|.a []) k⁻¹=Z:=I3.b.B<|bc _;have Ic:aw Xc l (wT caps σ) (av H2 D<|.a []) {k with heap:=E}:=by
  have g4:Xc.J:=by
   rw[M];refine(I.a.e,hk,I.a.f,I.a.l,bc _,λx y c a b=>EN scope.names _ _ (λx y c p q=>I.a.n x y c (zX b0 (λp hp=>aZ hp (by simp)) p).1 (zX b0 (λp hp=>aZ hp (by simp)) q).1) d7 x y c (nV a)<|nV b,λx hx=>?_,(λx c a e=>by
    rcases a0 x c e with ⟨_,q⟩|⟨_,q,_⟩
    ·have a':=iE a
     rw[q] at a';cases a'
    ·exact Rs q),I.a.hd,I.a.j,.inl O,λb w=>(?_,λx c e=>?_),λb o e=>?_,?_,λb o e z=>?_,λb w z=>?_,?_,λb w=>?_)
   ·have g5:(relabel scope X.env).names.lookup x=U .cell\/(relabel scope X.env).names.lookup x=U .free:=hx
    have g6:∃k',scope.names.lookup x=U k'/\(k'=.free\/k'=.cell):=by
     rcases g5 with q|q
     ·obtain⟨k',e1,G⟩:=Ec q
      rcases G with G|⟨G,_⟩
      ·exact(k',e1,.inr G.symm)
      ·exact(k',e1,.inl G)
     ·obtain⟨k',e1,G⟩:=Ec q
      rcases G with G|⟨G,_⟩
      ·exact(k',e1,.inl G.symm)
      ·exact(k',e1,.inl G)
    obtain⟨k',e1,G⟩:=g6;have hm:=nV e1;rcases G with rfl|rfl
    ·obtain⟨c,g7⟩:=zY (cells:=X.env.cells) (acc:=[])<|.inl hm
     obtain⟨d,hd⟩:=EE g7;exact uk.mp<|yi scope.names (k⁻¹+1) _<|.inr (by rw[hd];rfl)
    ·exact uk.mp<|yi scope.names (k⁻¹+1) _<|.inl e1
   ·show b≠k⁻¹
    exact ck (by rw[b1];exact jM (b2 b w).2)
   ·rcases a0 x c e with ⟨q,_⟩|⟨_,q,_⟩
    ·exact(f2 b w).2.2.2.2.1 x c q
    ·have h1:b<k⁻¹+1:=by rw[b1];exact jM<|jM (b2 b w).2
     exact iM<|fB h1 q
   ·exact I3.bs b o e
   ·exact dE I.a.i I3.sz
   ·obtain⟨f,_,_,fx,_,_⟩:=f2 b z
    rcases fx with fx|fx
    ·exact I.a.h b o e fx
    ·have:=fB (bT e) I.a.i
     exact ø this fx
   ·rcases ci.mp (I2.A8 b z) with r|r
    ·exact(f2 b w).2.1 r
    ·exact(f2 b w).2.2.1 r
   ·exact I3.B2
   ·exact I3.B9 b w
  refine(g4,(by rw[M];rfl),I3.e,?_,?_,λx c e=>?_,?_,λx c e=>?_,λp hp=>?_,?_,?_)
  ·rw[M]
   exact mU.B P
  ·rw[xe]
   refine(_,a6,λi x v e1 G e3=>?_);obtain⟨c1,c2⟩:=c5;unfold wT at G;rw[cm] at G;cases e4:caps[i]? with
   |none=>rw[e4] at G;cases G
   |some cc=>
    rw[e4] at G;cases cc with
    |none=>cases G
    |some j=>
     obtain⟨y,d1,d2,d3⟩:=c2 i j e4;have d8:N'[i]?=U x:=by rw[M] at e1;exact e1
     rw[d1] at d8;have g8:y=x:=ca d8;subst g8;have e5:σ[j]?=U (U v):=by
      simp only[nz,pF] at G;cases e6:σ[j]? with
      |none=>rw[e6] at G;cases G
      |some ov=>rw[e6] at G;simp only[yD] at G;rw[G]
     have hm:=nV d3;have g9:wW X.env.scope y:=by
      rcases c7 _ hm O with q|q
      ·exact .inr<|.inl q
      ·exact .inr<|.inr q
     obtain⟨m,_,hl⟩:=I3.d;obtain⟨u,ru,lk⟩:=hl j y v d2 e5 g9;refine(u,ru,?_);have h0:∃c,X.env.cells.lookup y=U c/\k.heap.IsCell c (U u):=by
      rcases lk with ⟨k1,_⟩|⟨_,c,k2,k3⟩
      ·rcases c7 _ hm O with q|q
       ·rw[k1] at q;cases q
       ·rw[k1] at q;cases q
      ·exact(c,k2,k3)
     obtain⟨c,k2,k3⟩:=h0;obtain⟨d,h5⟩:=zY (cells:=X.env.cells) (acc:=[])<|.inl hm;obtain⟨d',i0⟩:=EE h5;obtain⟨d2,d9⟩:=uk.mp<|yi scope.names (k⁻¹+1) (gH X.env.cells scope.names []) (x:=y)<|.inr (by rw[i0];rfl);have:c=d2:=by
      rcases a0 y d2 d9 with ⟨q,_⟩|⟨q,_⟩
      ·rw[k2] at q
       exact ca q
      ·rw[d3] at q;cases q
     subst this;refine .inr (?_,c,d9,k3.keeps P);have rl:=Ek (scope:=scope) (env:=X.env) (x:=y) (names:=scope.names)<|.inl d3;rcases rl with q|q
     ·exact .inr q
     ·exact .inl q
  ·rw[xe] at e
   rcases a0 x c e with ⟨q,_⟩|⟨_,_,q⟩
   ·obtain⟨v,k3⟩:=I3.g x c q
    exact(v,k3.keeps P)
   ·exact(_,q)
  ·rw[xe];exact g3
  ·rw[xe] at e
   rcases a0 x c e with ⟨q,_⟩|⟨_,q,_⟩
   ·exact I3.j x c q
   ·exact I3.b.B<|Rs q
  ·have i1:p∈X.f++l:=by rw[M] at hp;exact hp
   obtain⟨a1,a2,a3,a4,a5⟩:=I3.f p i1;refine(P _ _ a1,a2,?_,?_,a5)
   ·rw[xe]
    show p.1≠k⁻¹;exact ck<|bT a1
   ·rw[M]
    intro z;rcases ci.mp (I3.A8 p.1 z) with r|r
    ·exact a3 r
    ·exact a4 r
  ·rw[xP,xw]
   exact I3.b.J P
  ·unfold wT
   rw[aA,c5.1,M]
   rfl
 have c9:∀{t:aM}{A:ac}{s4:ai}{h':aI},aw Xc l t A s4->gA k⁻¹ s4.heap h'->aw X l σ A {s4 with heap:=h'}:=λ{t A s4 h'} I4 a9=>by
  have c0:∀b o,s2.heap.get? b=U o->b≠D/\b≠k⁻¹:=λb o e=>by
   have w:=bT e;rw[hD] at w;exact(ck w,ck (by rw[b1];exact jM w))
  have c3:∀b o,s2.heap.get? b=U o->k.heap.get? b=U o:=λb o e=>by rw[h3];exact bJ _ e
  have S:mU (iP X.c) fp (av H2 D<|.a []) A k.heap s4.heap:=by
   have:=I4.base;rw[M] at this;exact this
  have e0:A k⁻¹=Z:=by
   have:=I4.h;rw[xe] at this;exact this
  have i2:s4.os=s2.os:=by
   have:=I4.k;rw[M] at this;rw[this];show k.os=s2.os;rw[e3]
  refine I2.A6 (s':={s4 with heap:=h'}) (ch:=fp) i2 (λb o q n w hx=>?_,λb o q n w hx=>?_,λb o q n hx=>?_,λb o q hx=>?_,λb xs q=>?_,λb o u q=>?_,λb ps q=>?_) ?_ I4.e λb w=>?_
  ·obtain⟨n1,n2⟩:=c0 b o q
   exact(a9.2 b n2).trans<|S.a b o (c3 b o q) (by rw[a_ n1];exact n) w hx
  ·obtain⟨n1,n2⟩:=c0 b o q
   obtain⟨sl,e⟩:=S.g b o (c3 b o q) (by rw[a_ n1];exact n) w hx;exact(sl,(a9.2 b n2).trans e)
  ·obtain⟨n1,n2⟩:=c0 b o q
   exact S.c b o (c3 b o q) (by rw[a_ n1];exact n) hx
  ·obtain⟨n1,n2⟩:=c0 b o q
   obtain⟨o',e⟩:=S.d b o (c3 b o q) hx;exact(o',(a9.2 b n2).trans e)
  ·exact S.i b xs (by rw[a_<|dH q b9];exact q)
  ·exact S.f b o u (by rw[a_<|dH q b9];exact q)
  ·exact S.e b ps (by rw[a_<|dH q b9];exact q)
  ·intro b u e
   have e7:=I4.b b u e;rw[xP,xw] at e7;refine e7.B (λc v hc q=>(a9.2 c ?_).trans q) (λ_ q=>q) λ_ _ q=>q;rintro rfl;rcases hc with z|z
   ·rw[<-z,e0] at e;cases e
   ·rw[e0] at z;cases z
  ·obtain⟨f0,f1,f3,f4,f5,f6⟩:=f2 b w
   exact(f4,f1,f5,f6)
 have b3:∀{A:ac},(∀b∈fp,A b=Z)->∀b∈fp,fQ Xc l A b:=λ{A} hn b w=>by
  obtain⟨f0,f1,f3,f4,f5,f6⟩:=f2 b w;refine(hn b w,?_,?_,.inl (by rw[M];exact w),λx c e=>?_,λp hp=>?_)
  ·rw[xe]
   show b≠k⁻¹;exact ck (by rw[b1];exact jM (b2 b w).2)
  ·rw[M]
   intro z;rcases ci.mp (I2.A8 b z) with r|r
   ·exact f1 r
   ·exact f3 r
  ·rw[xe] at e
   rcases a0 x c e with ⟨q,_⟩|⟨_,q,_⟩
   ·exact f5 x c q
   ·have h1:b<k⁻¹+1:=by rw[b1];exact jM<|jM (b2 b w).2
    exact iM<|fB h1 q
  ·rw[M] at hp
   exact f6 p hp
 subst M;have c6:∀n s',(∃i t A,aw (jV X scope N' (ir (k⁻¹+1) scope.names<|gH X.env.cells scope.names []) k⁻¹ k (av H2 D<|.a []) fp) l t A s'/\tn i s'.heap/\(∀b∈fp,A b=Z)/\j4 i n t A)->
   iK (aE X.prog X.w) X.A (.compLoop (.ListComp elt [(tg,iter,ifs,0)] scope pos) 0 (.ref it) (.ref D)<|Cv scope (ir (k⁻¹+1) scope.names<|gH X.env.cells scope.names []) k⁻¹ X.env) (Qr (aE X.prog X.w) X.A X.a use R (.ref D) k⁻¹) s':=by
  intro n0 j2 i3;refine codeAny_loop O (λn s'=>∃i t A,aw (jV X scope N' (ir (k⁻¹+1) scope.names<|gH X.env.cells scope.names []) k⁻¹ k (av H2 D<|.a []) fp) l t A s'/\tn i s'.heap/\(∀b∈fp,A b=Z)/\j4 i n t A) (λn s' hI=>?_) n0 i3;obtain⟨i,t,A,I',e8,f7,w'⟩:=hI;show am _ X.A ((compTurn (.ListComp elt [(tg,iter,ifs,0)] scope pos) 0 (.ref it) (.ref D)<|Cv scope (ir (k⁻¹+1) scope.names<|gH X.env.cells scope.names []) k⁻¹ X.env).onRaise (λx=>do Hz x (Cv scope (ir (k⁻¹+1) scope.names<|gH X.env.cells scope.names []) k⁻¹ X.env);theTreesLotGoes x)) _ _ s';refine wpAny_noted ?_;rw[compTurn_list];refine ag<|PD<|ag ?_;rcases d6 i n t A w' with ⟨f8,qn⟩|⟨go,f9⟩
  ·refine bI (T.done (jV X scope N' (ir (k⁻¹+1) scope.names<|gH X.env.cells scope.names []) k⁻¹ k (av H2 D<|.a []) fp) O O O hc i l s' t A _ I' (b3 f7) e8 f8) λr s4 (hr,I4)=>?_
   subst hr;refine aC ?_;obtain⟨m,hn,_⟩:=id I4.d;refine fin D _ A s4 _ ((m,hn),I3.sz,λe=>?_,λx c e=>?_,λp hp=>ck<|bT (I3.f p hp).1,I4.h,λh' a9=>c9 I4 a9) qn
   ·obtain⟨m3,i4,_⟩:=I3.d
    obtain⟨o3,_,_,d0,_⟩:=i4;exact aZ e.symm<|ck<|bT d0
   ·obtain⟨v,hv⟩:=I3.g x c e
    obtain⟨o3,d0,_⟩:=hv;exact ck<|bT d0
  ·refine bI (T.d (jV X scope N' (ir (k⁻¹+1) scope.names<|gH X.env.cells scope.names []) k⁻¹ k (av H2 D<|.a []) fp) O O O hc i l s' t A _ I' (b3 f7) e8 go) λr s4 (u,hr,h4)=>?_
   subst hr;refine ag<|bI h4 λ_ s5 (x,H5,I5,r5,y5,d4,i5)=>?_;have i6:=I5.D4 (b3 i5)<|T.a _ _ d4;refine ag<|ic (g0 _ s5 t H5 x u _ i6 r5<|f9 x H5 y5) (λ_ s6 h6=>?_) λ_ _ z=>z.elim;obtain⟨d5,H6,I6,q6⟩:=h6;refine ag<|ic (g1 _ s6 d5 H6 _ I6 q6) (λok s7 h7=>?_) λ_ _ z=>z.elim;obtain⟨H7,I7,q7⟩:=h7;have b4:∀{c4:aM}{H8:ac}{s8:ai}{m':Nat},aw (jV X scope N' (ir (k⁻¹+1) scope.names<|gH X.env.cells scope.names []) k⁻¹ k (av H2 D<|.a []) fp) (l++wD fp s5.heap) c4 H8 s8->m'<n->j4 (i+1) m' c4 H8->
     ∃m,m<n/\∃i t A,aw (jV X scope N' (ir (k⁻¹+1) scope.names<|gH X.env.cells scope.names []) k⁻¹ k (av H2 D<|.a []) fp) l t A s8/\tn i s8.heap/\(∀b∈fp,A b=Z)/\j4 i m t A:=λ{c4 H8 s8 m'} I8 hm w8=>by
    refine(m',hm,i+1,c4,H8,I8.C0,T.c _ _ _ d4 λb w o e=>(I8.f (adc b o)<|oq _<|oq _<|zQ w e).1,λb w=>?_,w8);obtain⟨o,e,d⟩:=T.a _ _ d4 b w;exact(I8.f (adc b o)<|oq _<|oq _<|zQ w e).2.1
   cases ok with
   |false=>
    obtain⟨m',hm,w7⟩:=q7;exact aC (O,b4 I7 hm w7)
   |true=>
    refine ag<|ag<|ic (g2 _ s7 d5 H7 _ I7 q7) (λv s8 h8=>?_) λ_ _ z=>z.elim;obtain⟨y,H8,I8,r8,ys,m',i7,i8,i9,w8⟩:=h8;refine ag<|ic (wI (X:=jV X scope N' (ir (k⁻¹+1) scope.names<|gH X.env.cells scope.names []) k⁻¹ k (av H2 D<|.a []) fp) _ s8 d5 H8 (.c D) [y] (.ref D) [v] (λ_ H9=>H9=av H8 D (.a<|ys++[y])) I8 O (.cons r8 .nil) (D,ys,y,O,O,i7,i8,O)) (λ_ s9 h9=>?_) λ_ _ z=>z.elim;obtain⟨_,H9,I9,_,e9⟩:=h9;subst e9;exact aC<|aC (O,b4 I9 i9 w8)
 have b5:∃i t A,aw (jV X scope N' (ir (k⁻¹+1) scope.names<|gH X.env.cells scope.names []) k⁻¹ k (av H2 D<|.a []) fp) l t A {k with heap:=E}/\tn i ({k with heap:=E}:ai).heap/\(∀b∈fp,A b=Z)/\j4 i m0 t A:=by
  refine(0,wT caps σ,av H2 D<|.a [],Ic,T.c 0 _ _ c8 λb w o e=>P b o (by rw[h3];exact bJ _ e),λb w=>?_,w0);rw[a_ (b2 b w).1];exact(f2 b w).1
 have es:({s2 with heap:=E}:ai)={k with heap:=E}:=by rw[e3]
 show iK (aE X.prog X.w) X.A _ _ ({s2 with heap:=E}:ai);rw[es];refine codeAny_compStart_list (c6 m0 _ b5)<|T.e _ 0 _ _ _ ?_<|c6 m0 _ b5;exact T.c 0 _ _ c8 λb w o e=>P b o (by rw[h3];exact bJ _ e)
def uS(c:∀y∈scope.names,y.2≠.cell)(d:List (al×V))(C:V)(a:ai)(b:ac)(f:List V):jW X scope N' d C a b f=jV X scope N' d C a b f:=by
 unfold jV;have:(λx=>aG<|scope.names.lookup x=U cx)=λ_=>ao:=by
  funext x
  exact cf λe=>c _ (nV e) O
 rw[this]
 rfl
def Wh{R:Ω}(t:X.b=ae)(u:scope.kind=.function)(c:∀y∈scope.names,y.2≠.cell)(j:∀y∈scope.names,y.2=.free->scope.names.lookup y.1=U .free)(k:∀y∈scope.names,y.2=.local->scope.names.lookup y.1=U .local)(n:∀y∈scope.names,y.2=.free->X.env.kindOf y.1=U .cell\/X.env.kindOf y.1=U .free)(m:vb X.N N' caps scope)(v:kX X tg iter wi)(w:∀d C a b i,lQ (jW X scope N' d C a b i) tg g)(z:∀d C a b i,oW (jW X scope N' d C a b i) ifs tc)(A:∀d C a b i,bA (jW X scope N' d C a b i) elt te)(E:∀x,tP iter X.env x=bH x){s:ai}(I:aw X l o H s)(h:qH wi caps g tc te o H Q)(fin:∀(D C:V)(p:ac)(q:ai)(f:Flow),Na X l o p q C->Q (.c D) p->Qr (aE X.prog X.w) X.A X.a use R (.ref D) C (.ok f) q):am (aE X.prog X.w) X.A (Qq (.ListComp elt [(tg,iter,ifs,0)] scope pos) scope X.env r (HG []) (Ql [(tg,iter,ifs,0)]) (Qk [(tg,iter,ifs,0)] X.env) use) R X.a s:=
 Mr t u (λy G e=>aZ e<|c y G) j k n m v (λd C a b i=>uS (X:=X) (N':=N') c d C a b i▸w d C a b i) (λd C a b i=>uS (X:=X) (N':=N') c d C a b i▸z d C a b i) (λd C a b i=>uS (X:=X) (N':=N') c d C a b i▸A d C a b i) E I h fin
def UM(p:X.b=ae)(r:scope.kind=.function)(e:∀y∈scope.names,y.2≠.cell)(c:∀y∈scope.names,y.2=.free->scope.names.lookup y.1=U .free)(d:∀y∈scope.names,y.2=.local->scope.names.lookup y.1=U .local)(l:∀y∈scope.names,y.2=.free->X.env.kindOf y.1=U .cell\/X.env.kindOf y.1=U .free)(i:vb X.N N' caps scope)(t:kX X tg iter wi)(u:∀j C a b k,lQ (jW X scope N' j C a b k) tg g)(v:∀j C a b k,oW (jW X scope N' j C a b k) ifs tc)(w:∀j C a b k,bA (jW X scope N' j C a b k) elt te)(z:∀x,tP iter X.env x=bH x:=by intro _;rfl):bA X (.ListComp elt [(tg,iter,ifs,0)] scope pos) (qH wi caps g tc te):=by
 intro o s K H Q I h;rw[eval_ListComp];refine Wh (use:=Z) p r e c d l i t u v w z I h λD C A M f L q=>?_;obtain⟨m,E⟩:=L.ns;exact(m,E,λG n=>(.c D,A,L.a G n,O,q))
end
section
variable{prog:aU}{w:aO}{A:bg}{E:Ω}{s:ai}
def RS{c t:V}{i:Nat}{Q:Ω}(b:s.heap.IsTupleIter c t i)(j:s.heap.IsTuple t a)(k:a[i]?=U x)(l:∀f,f.IsTupleIter c t (i+1)->gA c s.heap f->Q x {s with heap:=f}):am (aE prog w) A (rV<|.ref c) Q E s:=by
 obtain⟨o,e,m,d⟩:=id b;obtain⟨n,g,_,p,h⟩:=j;unfold rV;refine ag<|pt (name:=iu "__next__") b.typeIs Ir<|lT Ir b.typeIs ae6 ?_<|afc _;show am _ _ (qm (.ref c) 0 >>= _) _ _ s;refine ag<|gm e d (x:=.ref t) O ?_;show am _ _ (if(Y t==bj)=ae then _ else _) _ _ s;rw[au<|show ¬((Y t==bj)=ae) from eP];show am _ _ (qm (.ref c) 1 >>= _) _ _ s;refine ag<|gm e d (x:=.int i 0) O ?_;show am _ _ (Cg (.ref t) >>= _) _ _ s;refine ag<|lS g h ?_;simp only[wn,k];refine ag<|qg e d (by simp)<|aC (x,O,aC<|l _ ?_<|jl ..);exact(_,pC _ e<|CN<|rQ d _,(QF ..).trans m,by
  rw[rQ d];simp[dY])
def RT{d t:V}{i:Nat}(l:A.handled=Z)(c:s.heap.IsTupleIter d t i)(n:s.heap.IsTuple t b)(p:b[i]?=Z)(q:∀f e,Io d s.heap f->(∃o,f.get? e=U o/\o.cls=.type "StopIteration")->E (.ref e) {s with heap:=f}):am (aE prog w) A (rV<|.ref d) Q E s:=by
 obtain⟨o,g,r,h⟩:=id c;obtain⟨u,j,_,v,k⟩:=n;unfold rV;refine ag<|pt (name:=iu "__next__") c.typeIs Ir<|lT Ir c.typeIs ae6 ?_<|afc _;show am _ _ (qm (.ref d) 0 >>= _) _ _ s;refine ag<|gm g h (x:=.ref t) O ?_;show am _ _ (if(Y t==bj)=ae then _ else _) _ _ s;rw[au<|show ¬((Y t==bj)=ae) from eP];show am _ _ (qm (.ref d) 1 >>= _) _ _ s;refine ag<|gm g h (x:=.int i 0) O ?_;show am _ _ (Cg (.ref t) >>= _) _ _ s;refine ag<|lS j k ?_;simp only[wn,p];refine ag<|nU<|ag<|qg g h (by simp) ?_;show am _ _ (yd (.type "StopIteration") [] >>= _) _ _ _;refine ag ?_;simp only[yd,Qe];refine ag<|mE ?_ (by size_fits);refine ag (m:=Qm _ _)<|qh (a:=bj) (by first|rfl|(simp only[firstArgMember];rfl)) ?_;refine mE ?_ (by size_fits);simp only[P_];refine ag<|PK ?_
 first|rw[show A.in1.handled=Z from l]|rw[l]
 refine ag<|aC<|PC ?_;exact q _ _ (((jl ..).extBut.push _).push _) (_,dv _ O,O)
end
def RU{h c:aI}(x:h.IsTuple a b)(e:∀o,h.get? a=U o->c.get? a=U o):c.IsTuple a b:=let ⟨o,d,r⟩:=x;(o,e o d,r)
def JA{A:bg}(m:A.handled=Z)(d t:V)(j:t≠d)(a:Array aa):vT c w A d [d,t] a.size (λi v=>a[i]?=U v) (λi h=>h.IsTupleIter d t i/\h.IsTuple t a) where
 live:=λ_ _ b=>let ⟨o,n,_⟩:=b.1;(o,n)
 frame:=λ_ _ _ b k=>(b.1.at λo e=>k d (by simp) o e,RU b.2 λo e=>k t (by simp) o e)
 item:=λi s Q E l b p=>by
  refine RS b.1 b.2 (x:=a[i]) (by simp[l]) λq f g=>?_;exact p _ q s.toks (by simp[l]) (f,b.2.extBut g.extBut j) g
 done:=λs Q E b r=>RT m b.1 b.2 (by simp) r
structure yW(z TI TO i1 i2:V)(fp1 fp2:List V):Prop where
 c:z∉fp1
 d:z∉fp2
 h:TO∉fp1
 e:TO∉fp2
 b:i1∈fp1
 m2:i2∈fp2
 f:i1∉fp2
 i:i2∉fp1
 g:TI≠z
 a:TO≠z
 k:TI≠TO
 l:TI≠i1
 j:TI≠i2
section
variable{prog:aU}{w:aO}{A:bg}{E:Ω}{s:ai}{z TI TO i1 i2:V}{fp1 fp2:List V}{n1 n2 i:Nat}{P1 P2:Nat->aa->Prop}{S1 S2:Nat->aI->Prop}{a b:aa}
def RP{Q:Ω}(P:vT prog w A i1 fp1 n1 P1 S1)(R:vT prog w A i2 fp2 n2 P2 S2)(D:yW z TI TO i1 i2 fp1 fp2)(p:lW s.heap z TI TO .none)(a0:jz s.heap TI (.ref i1) (.ref i2))(a1:jz s.heap TO a b)(h1:S1 i s.heap)(h2:S2 i s.heap)(l1:i<n1)(l2:i<n2)(hQ:∀x y g tk,P1 i x->P2 i y->lW g z TI TO (dY s⁻¹)->jz g TO x y->S1 (i+1) g->S2 (i+1) g->jz g s⁻¹ x y->g.objs.size=s⁻¹+1->
   (∀c o,c≠z->c≠TO->c≠i1->c≠i2->s.heap.get? c=U o->g.get? c=U o)->Q (.ref s⁻¹) {s with heap:=g,toks:=tk}):
  am (aE prog w) A (Builtin.«zip.__next__» ([.ref z],[])) (λfin s'=>∃v,fin=.done (.ret v)/\Q v s') E s:=by
 have h:∀c∈fp1,c≠z:=λc d e=>D.c<|e▸d;have j:∀c∈fp2,c≠z:=λc d e=>D.d<|e▸d;have k:∀c∈fp1,c≠TO:=λc d e=>D.h<|e▸d;have l:∀c∈fp2,c≠TO:=λc d e=>D.e<|e▸d;have a2:∀c∈fp2,c≠i1:=λc d e=>D.f<|e▸d;have a3:∀c∈fp1,c≠i2:=λc d e=>D.i<|e▸d;have a4:i1≠z:=h _ D.b;have a5:i2≠z:=j _ D.m2;have q:TO≠i1:=(k _ D.b).symm;have r:TO≠i2:=(l _ D.m2).symm;show am _ _ (qm (.ref z) 2 >>= _) _ _ _;refine ag<|gm p O (x:=.bool ao) O ?_;show am _ _ (qm (.ref z) 3 >>= _) _ _ _;refine ag<|gm p O (x:=.ref TI) O ?_;refine ag<|lS a0 O ?_;show am _ _ (Ix (.ref z) >>= _) _ _ _;refine ag ?_;unfold Ix;refine ag<|gm p O (x:=.none) O<|aC ?_;simp only[dQ];refine ag<|nU ?_;refine ag<|gm p O (x:=.ref TO) O ?_;refine ag<|nT p (by simp) λg1 m t=>?_;replace m:lW g1 z TI TO .ellipsis:=m;refine ag ?_;simp only[agw,agv,Ds,Jh];refine ag<|ag<|BW ?_;show am _ _ (rV (.ref i1) >>= _) _ _ _;refine ag<|P.item i _ _ _ l1 (P.frame _ _ _ h1 λc d o e=>t.extBut c o (h c d) e) λx g2 a6 px s2 u=>aC ?_;have t2:jz g2 TO a b:=u.extBut _ _ q<|t.extBut _ _ D.a a1;refine ag<|lS t2 O ?_;refine ag<|PB t2 λg3 t3 C=>?_;replace t3:jz g3 TO x b:=t3;refine ag<|po<|aC ?_;refine ag<|ag<|BW ?_;show am _ _ (rV (.ref i2) >>= _) _ _ _;refine ag<|R.item i _ _ _ l2 (R.frame _ _ _ h2 λc d o e=>C.extBut c o (l c d)<|u.extBut c o (a2 c d)<|t.extBut c o (j c d) e) λy g4 a7 py s4 G=>aC ?_;have t4:jz g4 TO x b:=G.extBut _ _ r t3;refine ag<|lS t4 O ?_;refine ag<|PB t4 λf S H=>?_;replace S:jz f TO x y:=S;refine ag<|po<|aC<|aC ?_;refine ag<|lS S O ?_;refine ag<|BX ?_;have I:f.objs.size=s⁻¹:=by rw[H.1,G.1,C.1,u.1,t.1]
 have z5:lW f z TI TO .ellipsis:=H.extBut _ _ D.a.symm<|G.extBut _ _ a5.symm<|C.extBut _ _ D.a.symm<|u.extBut _ _ a4.symm m;have kk:∀c o,c≠z->c≠TO->c≠i1->c≠i2->s.heap.get? c=U o->f.get? c=U o:=λc o n T c3 c4 e=>
  H.extBut _ _ T<|G.extBut _ _ c4<|C.extBut _ _ T<|u.extBut _ _ c3<|t.extBut _ _ n e
 have d1:S1 (i+1) f:=P.frame _ _ _ s2 λc d o e=>H.extBut c o (k c d)<|G.extBut c o (a3 c d)<|C.extBut c o (k c d) e;have d2:S2 (i+1) f:=R.frame _ _ _ s4 λc d o e=>H.extBut c o (l c d) e;have K:z<f.objs.size:=bT z5;have e1:∀c∈fp1,∀o,f.get? c=U o->c<f.objs.size:=λc _ o e=>bT e;show am _ _ (afk (.ref z) (.ref f.objs.size) >>= _) _ _ _;refine ag ?_;unfold afk;have z6:lW (f.push {cls:=.type "tuple",data:=.seq #[x,y]}) z TI TO .ellipsis:=bJ _ z5;refine ag<|nT z6 (by simp) λg7 z7 k7=>?_;replace z7:lW g7 z TI TO (dY f.objs.size):=z7;refine nT z7 (by simp) λL X k8=>?_;replace X:lW L z TI TO (dY f.objs.size):=X;have up:∀c o,c≠z->f.get? c=U o->L.get? c=U o:=λc o n e=>k8.extBut _ _ n<|k7.extBut _ _ n<|bJ _ e;have T8:jz L f.objs.size x y:=k8.extBut _ _ (iM K)<|k7.extBut _ _ (iM K)<|dv _ O;have M:L.objs.size=f.objs.size+1:=by rw[k8.1,k7.1,mF]
 rw[I] at X T8 M;refine aC (_,O,?_);show Q (.ref f.objs.size) _;rw[I];exact hQ x y L _ px py X (up _ _ D.a S) (P.frame _ _ _ d1 λc d o e=>up c o (h c d) e) (R.frame _ _ _ d2 λc d o e=>up c o (j c d) e) T8 M λc o n T c3 c4 e=>up c o n<|kk c o n T c3 c4 e
def RQ(v:vT prog w A i1 fp1 n1 P1 S1)(D2:vT prog w A i2 fp2 n2 P2 S2)(D:yW z TI TO i1 i2 fp1 fp2)(l:lW s.heap z TI TO .none)(y:jz s.heap TI (.ref i1) (.ref i2))(C:jz s.heap TO a b)(h1:S1 i s.heap)(h2:S2 i s.heap)(m:i=n1\/(i<n1/\i=n2))(hE:∀G e tk,(∀c o,c≠z->c≠TO->c≠i1->c≠i2->s.heap.get? c=U o->G.get? c=U o)->(∃o,G.get? e=U o/\o.cls=.type "StopIteration")->E (.ref e) {s with heap:=G,toks:=tk}):am (aE prog w) A (Builtin.«zip.__next__» ([.ref z],[])) Q E s:=by
 have n:∀c∈fp1,c≠z:=λc d e=>D.c<|e▸d;have p:∀c∈fp2,c≠z:=λc d e=>D.d<|e▸d;have H:∀c∈fp1,c≠TO:=λc d e=>D.h<|e▸d;have I:∀c∈fp2,c≠TO:=λc d e=>D.e<|e▸d;have K:∀c∈fp2,c≠i1:=λc d e=>D.f<|e▸d;have q:i1≠z:=n _ D.b;have L:i2≠z:=p _ D.m2;have r:TO≠i1:=(H _ D.b).symm;show am _ _ (qm (.ref z) 2 >>= _) _ _ _;refine ag<|gm l O (x:=.bool ao) O ?_;show am _ _ (qm (.ref z) 3 >>= _) _ _ _;refine ag<|gm l O (x:=.ref TI) O ?_;refine ag<|lS y O ?_;show am _ _ (Ix (.ref z) >>= _) _ _ _;refine ag ?_;unfold Ix;refine ag<|gm l O (x:=.none) O<|aC ?_;simp only[dQ];refine ag<|nU ?_;refine ag<|gm l O (x:=.ref TO) O ?_;refine ag<|nT l (by simp) λg1 h t=>?_;replace h:lW g1 z TI TO .ellipsis:=h;refine ag ?_;simp only[agw,agv,Ds,Jh];refine ag<|ag<|BW ?_;have f1:=v.frame _ _ _ h1 λc d o e=>t.extBut c o (n c d) e;rcases m with M|⟨l1,M⟩
 ·show am _ _ (rV (.ref i1) >>= _) _ _ _
  refine ag<|v.done _ _ _ (M▸f1) λP e j R=>?_;obtain⟨S,f,g⟩:=R;have z2:lW P z TI TO .ellipsis:=j _ _ q.symm h;have T:e≠z:=λx=>by subst x;rw[z2] at f;cases f;simp at g
  refine nT z2 (by simp) λX _ k=>hE X e _ (λc o u _ c3 _ x=>k.extBut _ _ u<|j _ _ c3<|t.extBut _ _ u x) (S,k.extBut _ _ T f,g)
 ·show am _ _ (rV (.ref i1) >>= _) _ _ _
  refine ag<|v.item i _ _ _ l1 f1 λx P a0 px s2 j=>aC ?_;have t2:jz P TO a b:=j.extBut _ _ r<|t.extBut _ _ D.a C;refine ag<|lS t2 O ?_;refine ag<|PB t2 λX t3 k=>?_;refine ag<|po<|aC ?_;refine ag<|ag<|BW ?_;have f2:S2 i X:=D2.frame _ _ _ h2 λc d o e=>k.extBut c o (I c d)<|j.extBut c o (K c d)<|t.extBut c o (p c d) e;show am _ _ (rV (.ref i2) >>= _) _ _ _;refine ag<|D2.done _ _ _ (M▸f2) λg4 e k4 R=>?_;obtain⟨S,f,g⟩:=R;have z4:lW g4 z TI TO .ellipsis:=k4 _ _ L.symm<|k.extBut _ _ D.a.symm<|j.extBut _ _ q.symm h;have T:e≠z:=λx=>by subst x;rw[z4] at f;cases f;simp at g
  refine nT z4 (by simp) λg5 _ k5=>hE g5 e _ (λc o u c2 c3 c4 x=>k5.extBut _ _ u<|k4 _ _ c4<|k.extBut _ _ c2<|j.extBut _ _ c3<|t.extBut _ _ u x) (S,k5.extBut _ _ T f,g)
end
def RR{A:bg}{z v p K L:V}(P:vT prog w A.in1 K C H P1 S1)(R:vT prog w A.in1 L G M P2 S2)(D:yW z v p K L C G):WalksT prog w A z (z::v::p::(C++G)) [z,p,K,L] (fV H M) (λi S=>∃x y,P1 i x/\P2 i y/\S=#[x,y])
   (λi h=>lW h z v p .none/\jz h v (.ref K) (.ref L)/\(∃a b,jz h p a b)/\S1 i h/\S2 i h)
   (λi T h=>lW h z v p (dY T)/\jz h v (.ref K) (.ref L)/\(∃a b,jz h p a b)/\S1 (i+1) h/\S2 (i+1) h/\T≠z/\T≠p/\T≠K/\T≠L) where
 sub:=λc d=>by
  simp at d ⊢;rcases d with rfl|rfl|rfl|rfl
  ·simp
  ·simp
  ·exact .inr<|.inr<|.inr<|.inl D.b
  ·exact .inr<|.inr<|.inr<|.inr D.m2
 frame:=λi h X j m=>by
  obtain⟨n,f,⟨a,b,g⟩,r,t⟩:=j;exact(m z (by simp) _ n,m v (by simp) _ f,(a,b,m p (by simp) _ g),P.frame _ _ _ r λc d o e=>m c (by simp[d]) o e,R.frame _ _ _ t λc d o e=>m c (by simp[d]) o e)
 item:=λi s Q E hi j I=>by
  obtain⟨n,f,⟨a,b,g⟩,r,t⟩:=j;have u:s.TypeIs (.ref z) "zip":=(_,n,O);unfold jh;refine ag (pv (pt (name:=iu "__next__") u Iq (lT Iq u ae5
   (RP P R D n f g r t (fB hi<|Nat.min_le_left ..) (fB hi<|Rp ..) λx y X tk px py a1 a2 a3 a4 a5 a6 m=>aC ?_)<|afb _)))
  have lt:∀{c o},s.heap.get? c=U o->s⁻¹≠c:=λe=>iM<|bT e;obtain⟨o1,l1⟩:=P.live _ _ r;obtain⟨o2,l2⟩:=R.live _ _ t;exact I s⁻¹ #[x,y] X tk (_,_,px,py,O) (bc _) (_,a5,O,_,O) (a1,m _ _ D.g D.k D.l D.j f,(_,_,a2),a3,a4,lt n,lt g,lt l1,lt l2)
   λc o d e=>m c o (λx=>d (by simp[x])) (λx=>d (by simp[x])) (λx=>d (by simp[x])) (λx=>d (by simp[x])) e
 go:=λa8 k a9 i T s Q E hm I=>by
  obtain⟨n,f,⟨a,b,g⟩,r,t,_⟩:=hm;refine wpAny_letOwnedTupleGo_zip n λX a7 l=>I X (a7,l.extBut _ _ D.g f,(a,b,l.extBut _ _ D.a g),
   P.frame _ _ _ r λc d o e=>l.extBut c o (λq=>D.c<|q▸d) e,R.frame _ _ _ t λc d o e=>l.extBut c o (λq=>D.d<|q▸d) e) λc o d e=>l.extBut _ _ (λx=>d (by simp[x])) e
 apart:=λi T h hm u=>by
  obtain⟨_,_,_,_,_,t1,t2,t3,t4⟩:=hm;simp at u;rcases u with rfl|rfl|rfl|rfl
  ·exact t1 O
  ·exact t2 O
  ·exact t3 O
  ·exact t4 O
 done:=λs Q E j I=>by
  obtain⟨n,f,⟨a,b,g⟩,r,t⟩:=j;have u:s.TypeIs (.ref z) "zip":=(_,n,O);have a0:fV H M=H\/(fV H M<H/\fV H M=M):=ω
  unfold jh;refine ag (pv (pt (name:=iu "__next__") u Iq
  <|lT Iq u ae5 (RQ P R D n f g r t a0 λX e tk m he=>?_)<|afb _))
  obtain⟨o,ho,d⟩:=he;refine ag<|tL (T:="StopIteration") (b:=ae) (o,ho,d) Qi ?_;exact aC<|I _ tk λc o d e=>m c o (λx=>d (by simp[x])) (λx=>d (by simp[x])) (λx=>d (by simp[x])) (λx=>d (by simp[x])) e
 self:=λi s Q E j I=>PF j.1 I
section
variable{X:aK}{pins:Ψ}{σ:aM}{H:ac}{s:ai}{h':aI}
def aw.A1{t':Nat}{ch:List V}(I:aw X pins σ H s)(f:∀b∈ch,fQ X pins H b)(k:∀b o,b∉ch->s.heap.get? b=U o->h'.get? b=U o):aw X pins σ H {s with heap:=h',toks:=t'}:=by
 have d:∀b u,H b=U u->b∉ch:=λb u e z=>by have:=(f b z).1;rw[this] at e;cases e
 refine I.step (g':=s.gens) (d':=s.drawn) (ch:=ch) (λb g=>?_) (λb o _ _ a e _=>k b o a e) (λb o _ _ a e _=>(o.slots,k b o a e)) (λ_ _ _ _ n=>n)
  (λb o a e=>(o,k b o a e)) (λ_ _ e=>e) (λ_ _ _ e=>e) (λb y e=>(#[],by rw[e];simp)) (λm h=>?_) (λb u e=>?_) I.e
 ·obtain⟨A,i,C,j,l,p⟩:=f b g
  exact(j,i,l,p)
 ·obtain⟨o,t,w,x,r⟩:=h
  exact(o,t,w,k _ o (λz=>(f _ z).2.1 O) x,r)
 ·refine(I.b b u e).B (λc v a q=>k c v ?_ q) (λ_ q=>q) λ_ _ q=>q
  rcases a with z|z
  ·rw[z];exact d b u e
  ·exact d c _ z
def aw.C1{a:V}(I:aw X pins σ H s)(d:H a=Z)(i:X.d⁻¹<=a)(j:a≠X.env.locals)(k:∀x c,X.env.cells.lookup x=U c->c≠a)(l:∀p∈X.f++pins,p.1≠a)(h:db X.prog X.w (av H a o) s.heap a o):aw X pins σ (av H a o) s:=by
 refine I.step (h':=s.heap) (g':=s.gens) (t':=s.toks) (d':=s.drawn) (ch:=[a]) (λb f=>?_) (λb o _ _ g e _=>e) (λb o _ _ g e _=>(o.slots,e)) (λb o g e n=>?_)
  (λb o g e=>(o,e)) (λb r e=>?_) (λb o u e=>?_) (λb v e=>(#[],?_)) (λm t=>t) (λb u e=>?_) I.e
 ·have e:b=a:=by simpa using f
  subst e;exact(.inr i,j,k,l)
 ·rw[a_ (λz=>g (by simp[z]))];exact n
 ·rw[a_<|dH e d];exact e
 ·rw[a_<|dH e d];exact e
 ·rw[a_<|dH e d,e];simp
 ·by_cases f:b=a
  ·subst f;rw[aD] at e;cases e;exact h
  ·rw[a_ f] at e
   exact(I.b b u e).B (λ_ _ _ q=>q) (λc q=>by rw[a_<|dH q d];exact q) λc r q=>by rw[a_<|dH q d];exact q
def aw.D9{e:Nat}{ch:List V}{a:V}{o:cP}(I:aw X pins σ H s)(f:∀b∈ch,fQ X pins H b)(k:∀b o,b∉ch->s.heap.get? b=U o->h'.get? b=U o)(c:s⁻¹<=a)(d:db X.prog X.w (av H a o) h' a o):aw X pins σ (av H a o) {s with heap:=h',toks:=e}:=by
 have g:aw X pins σ H {s with heap:=h',toks:=e}:=I.A1 f k;obtain⟨h,i,m,n,j,l⟩:=I.A0 c<|I.b.B c;exact g.C1 h (dE I.sz c) i j l d
def Ma{b t:V}(I:aw X pins σ H s)(f:fQ X pins H b)(a:X.K.lookup t=U o):t≠b:=by
 intro z;subst z;have e:=I.a.e.a t o a;rcases f.2.2.2.1 with q|q
 ·exact I.a.h t o e q
 ·exact aZ (fB (bT (I.a.bs t o e).1) q)<|oj _
def L'{b t:V}(I:aw X pins σ H s)(f:fQ X pins H b)(h:fm X.K H t a):t≠b:=by
 rcases h with (h|⟨o,h⟩)|⟨o,_,_,c,_⟩
 ·exact dH h f.1
 ·exact dH h f.1
 ·exact Ma I f c
def VQ{b t:V}(I:aw X pins σ H s)(f:fQ X pins H b)(h:bx X.K H t a):t≠b:=by
 rcases h with (h|⟨o,h⟩)|⟨o,_,_,c,_⟩
 ·exact dH h f.1
 ·exact dH h f.1
 ·exact Ma I f c
end
def KA{P:aU}{w:aO}{K:aH}{a9:jt}{l wr:List V}{G:V}{u:Nat->aI->Prop}{m:List bf}{k:Nat}{L:bR}(a6:G∈l)(M:∀i h,u i h->∀b∈l,∃o,h.get? b=U o/\∀v,o.data≠.cell v)(R:∀i h r,u i h->(∀b∈l,∀o,h.get? b=U o->r.get? b=U o)->u i r)(hw:∀b∈wr,b∈l)(b0:∀(X:aK),X.prog=P->X.w=w->X.K=K->X.b=ae->∀(i:Nat)(a:Ψ)(s:ai)(x:aM)(H:ac),aw X a x H s->(∀b∈l,fQ X a H b)->u i s.heap->(a9.a i H\/a9.b i H)->
   ∃(y:List V)(n:Nat)(Pt:Nat->Array aa->Prop)(S:Nat->aI->Prop)(z:Nat->V->aI->Prop),WalksT P w X.A G y wr n Pt S z/\S i s.heap/\(∀j h,S j h->u j h)/\
    (a9.a i H->i<n/\∀c,Pt i c->∃t:List af,bW t c.toList/\t.length<=bG/\∀p,H p=Z->a9.c i H (.c p) (av H p<|.b t))/\(a9.b i H->i=n))
  (a0:∀(A:bg)(i:Nat)(s:ai)(Q:Ω)(E:Ω),u i s.heap->Q (.ref G) s->am (aE P w) A (qi<|.ref G) Q E s) :
  pS P w K (.Tuple m k L) a9 l G u where
 f:=a6
 a:=M
 c:=R
 d:=by
  intro X hP f hK hc i a s x H E I D st hg;obtain⟨y,n,Pt,S,z,WT,C,a1,g,_⟩:=b0 X hP f hK hc i a s x H I D st<|.inl hg;obtain⟨hi,hv⟩:=g hg;subst hP f hK;refine WT.item i s _ _ hi C λT c r tk hp hT a2 hm hk=>(.ref T,O,?_);obtain⟨t,rv,hz,hy⟩:=hv c hp;have I1:aw X a x (av H T<|.b t) {s with heap:=r,toks:=tk}:=I.D9 (ch:=wr) (λb d=>D b<|hw b d) hk hT<|show db X.prog X.w _ r T (.b t) from(hz,c.toList,rv,by have q:jL r T c:=a2;simpa using q);have a7:∀b∈l,b≠T:=λb d=>by
   obtain⟨o,e,_⟩:=M i _ st b d;exact ck<|fB (bT e) hT
  have a3:∀b∈l,fQ X a (av H T<|.b t) b:=λb d=>by
   obtain⟨f0,fr⟩:=D b d;exact(by rw[a_<|a7 b d];exact f0,fr)
  refine WT.go m k L i T _ _ _ hm λa8 a4 a5=>?_;have I2:aw X a x (av H T<|.b t) {s with heap:=a8,toks:=tk}:=I1.A1 (s:={s with heap:=r,toks:=tk}) (t':=tk) (ch:=wr) (λb d=>a3 b<|hw b d) a5;exact(.c T,_,I2,O,hy T<|I.b.B hT,a1 _ _ a4,λb d=>(a3 b d).1)
 done:=by
  intro X hP f hK hc i a s x H E I D st hg;obtain⟨y,n,Pt,S,z,WT,C,a1,_,g⟩:=b0 X hP f hK hc i a s x H I D st<|.inr hg;subst hP f hK;have e:=g hg;subst e;exact WT.done s _ _ C λr tk hk=>(O,I.A1 (ch:=wr) (λb d=>D b<|hw b d) hk)
 e:=a0
def EW(K:aH)(c d:V):jt:=
 (λi H=>∃a b,fm K H c a/\fm K H d b/\i<fV a.length b.length,
  λi H v e=>∃p x y,v=.c p/\H p=Z/\e=av H p (.b [x,y])/\(∀a,fm K H c a->a[i]?=U x)/\∀b,fm K H d b->b[i]?=U y,
  λi H=>∃a b,fm K H c a/\fm K H d b/\i=fV a.length b.length)
def Ky:(2:Nat)<=bG:=by rw[jx];decide
def Tu{K:aH}{k:Nat}(R S z r m c d:V)(hd:r≠z/\m≠z/\r≠m/\r≠c/\r≠d/\z≠c/\z≠d/\m≠c/\m≠d/\c≠d):pS P w K (.Tuple M k a7) (EW K R S) [z,r,m,c,d] z (λi h=>lW h z r m .none/\jz h r (.ref c) (.ref d)/\(∃a b,jz h m a b)/\h.IsTupleIter c R i/\h.IsTupleIter d S i):=by
 obtain⟨d1,d2,d3,d4,d5,d6,d7,d8,d9,T⟩:=hd;refine KA (wr:=[z,m,c,d]) (by simp) (λi h l b t=>?_) (λi h h' l kk=>?_) (λb t=>?_) (λX hP hw hK hc i b2 s σ H I hf l a8=>?_) λA i s Q E l h=>PF l.1 h
 ·obtain⟨a1,a2,⟨a,b',a3⟩,⟨o4,a4,_,e4⟩,⟨o5,a5,_,e5⟩⟩:=l
  simp at t;rcases t with rfl|rfl|rfl|rfl|rfl
  ·exact(_,a1,λv z=>by cases z)
  ·exact(_,a2,λv z=>by cases z)
  ·exact(_,a3,λv z=>by cases z)
  ·exact(_,a4,λv z=>by rw[e4] at z;cases z)
  ·exact(_,a5,λv z=>by rw[e5] at z;cases z)
 ·obtain⟨a1,a2,⟨a,b',a3⟩,a4,a5⟩:=l
  exact(kk z (by simp) _ a1,kk r (by simp) _ a2,(a,b',kk m (by simp) _ a3),a4.at λo e=>kk c (by simp) o e,a5.at λo e=>kk d (by simp) o e)
 ·simp at t ⊢
  rcases t with rfl|rfl|rfl|rfl<;>simp
 ·subst hP hw hK
  have hd:∃G L,fm X.K H R G/\fm X.K H S L:=by
   rcases a8 with ⟨G,L,a,b,_⟩|⟨G,L,a,b,_⟩
   ·exact(G,L,a,b)
   ·exact(G,L,a,b)
  obtain⟨G,L,q1,q2⟩:=hd;obtain⟨us,r1,p1,_⟩:=I.J q1;obtain⟨ws,r2,p2,_⟩:=I.J q2;have a0:=r1.B;have a6:=r2.B;have hh:=I.a.hd hc;obtain⟨a1,a2,a3,a4,a5⟩:=l;have f:=λb t=>L' I (hf b t) q1;have f':=λb t=>L' I (hf b t) q2;have AP:yW z r m c d [c,R] [d,S]:=by
   refine(?_,?_,?_,?_,by simp,by simp,?_,?_,d1,d2,d3,d4,d5)
   ·simp;exact(d6,(f z (by simp)).symm)
   ·simp;exact(d7,(f' z (by simp)).symm)
   ·simp;exact(d8,(f m (by simp)).symm)
   ·simp;exact(d9,(f' m (by simp)).symm)
   ·simp;exact(T,(f' c (by simp)).symm)
   ·simp;exact(T.symm,(f d (by simp)).symm)
  have WZ:=RR (prog:=X.prog) (w:=X.w) (A:=X.A) (JA (A:=X.A.in1) hh c R (f c (by simp)) us.toArray) (JA (A:=X.A.in1) hh d S (f' d (by simp)) ws.toArray) AP;refine(_,_,_,_,_,WZ,(a1,a2,a3,(a4,p1),(a5,p2)),λj h l=>(l.1,l.2.1,l.2.2.1,l.2.2.2.1.1,l.2.2.2.2.1),λg=>?_,λg=>?_)
  ·obtain⟨n,q,C,D,hi⟩:=g
   have e1:=I.B0 C q1;have e2:=I.B0 D q2;subst e1 e2;refine(by simpa[<-a0,<-a6] using hi,λb3 hp=>?_);obtain⟨x,y,px,py,rfl⟩:=hp;have a9:us[i]?=U x:=by simpa using px
   have b0:ws[i]?=U y:=by simpa using py
   have lx:i<n.length:=ω
   have ly:i<q.length:=ω
   have gx:n[i]?=U n[i]:=by simp[lx]
   have gy:q[i]?=U q[i]:=by simp[ly]
   obtain⟨u,e3,ru⟩:=r1.J gx;obtain⟨u',e4,b1⟩:=r2.J gy;rw[a9] at e3;cases e3;rw[b0] at e4;cases e4;refine([n[i],q[i]],.cons ru<|.cons b1 .nil,Ky,λp hp=>(p,_,_,O,hp,O,λzs hz=>?_,λzs hz=>?_))
   ·rw[I.B0 hz q1];exact gx
   ·rw[I.B0 hz q2];exact gy
  ·obtain⟨n,q,C,D,hi⟩:=g
   have e1:=I.B0 C q1;have e2:=I.B0 D q2;subst e1 e2
   simpa[<-a0,<-a6] using hi
def Tg(b f:V)(m n:Array aa):Meets (Builtin.«zip.__new__» ([.type "zip",.ref b,.ref f],[])) (λ_ R s=>s.heap.IsTuple b m/\s.heap.IsTuple f n/\
   ∀a,lW a (s⁻¹+4) (s⁻¹+2) (s⁻¹+3) .none->jz a (s⁻¹+2) (.ref s⁻¹) (.ref<|s⁻¹+1)->
   jz a (s⁻¹+3) .none .none->a.IsTupleIter s⁻¹ b 0->a.IsTupleIter (s⁻¹+1) f 0->
   (∀c o,s.heap.get? c=U o->a.get? c=U o)->R (.ok<|.ret<|.ref<|s⁻¹+4) {s with heap:=a}):=
 .of_wp λp w A R s h=>by
  obtain⟨q,g,d,r,t⟩:=s;obtain⟨i,j,h⟩:=h;have u:=sub_zip;have k:aeo (QD (q,g,d,r,t)) b m:=i;have l:aeo (QD (q.push {cls:=.type "tuple_iterator",data:=.fields #[.ref b,.int 0 0]},g,d,r,t)) f n:=ai6 j _
  wp_walk using PG k,PG l
  refine(_,O,?_);dsimp only at h ⊢;have e:∀(h:aI)(o:aR),(h.push o).objs.size=h.objs.size+1:=λh o=>mF ..;simp only[e,Nat.add_assoc,Nat.reduceAdd];refine h _ ?_ ?_ ?_ ?_ ?_ λc o x=>bJ _<|bJ _<|bJ _<|bJ _<|bJ _ x
  ·exact Im (by simp only[e]) O
  ·exact bJ _<|bJ _<|Im (by simp only[e]) O
  ·exact bJ _<|Im (by simp only[e]) O
  ·exact(_,bJ _<|bJ _<|bJ _<|bJ _<|dv _ O,O,O)
  ·exact(_,bJ _<|bJ _<|bJ _<|Im (by simp only[e]) O,O,O)
section
variable{X:aK}{elts:List bf}{k:Nat}{tpos:bR}
def VE(K:aH)(d:ff):kw:=λe H R=>d e H λf a=>∃b c,f=[.c b,.c c]/\(∃g,fm K a b g)/\(∃h,fm K a c h)/\R (EW K b c) a
def UA{a b:bf}{p f:bR}(D:iH X "zip")(E:X.mg "zip"=Z)(G:ig "zip"=U (.type "zip"))(K:je X [a,b] v)(L:eM [a,b] X.env=[(adc ao (dO a X.env)),(adc ao (dO b X.env))]:=by rfl)(g:eM [b] X.env=[(adc ao (dO b X.env))]:=by rfl):kX X (.Tuple elts k tpos) (.Call (.Name "zip" p) [a,b] [] f) (VE X.K v):=by
 intro d s w H R I h;refine Call_<|oQ I D E G<|IS (bI (K f d s w H _ I h) λus c (vs,x,i,M,l)=>?_) (by rw[L,g]) (by rw[g];rfl);obtain⟨y,A,e,⟨xs,l⟩,⟨ys,P⟩,q⟩:=l;subst e;obtain⟨u,u',rfl,Q,m⟩:=Eb M;cases Q;cases m;obtain⟨n,_,S,_⟩:=i.J l;obtain⟨o,_,T,_⟩:=i.J P;refine callType_new F.called_zip ξ (F.typeCall_zip_2 _ _) (F.newCall_zip_2 _ _) (λr=>F.args_object_init_3 r _ _) F.entry_zip_new (Tg y A n.toArray o.toArray) (S,T,λh' t a2 a3 a4 a5 kk=>?_);refine((_,t,O),PF t ?_);have I2:aw X d w x {c with heap:=h'}:=i.W (t':=c.toks) kk;refine(c⁻¹+4,[c⁻¹+4,c⁻¹+2,c⁻¹+3,c⁻¹,c⁻¹+1],_,_,x,O,I2,Tu y A _ _ _ _ _ (by refine(?_,?_,?_,?_,?_,?_,?_,?_,?_,?_)<;>(intro z;have z':(_:Nat)=_:=z;omega)),(t,a2,(_,_,a3),a4,a5),λb C=>?_,q);have j:c⁻¹<=b:=by
  simp only[ci,on,nE] at C;rcases C with rfl|rfl|rfl|rfl|rfl
  ·exact yH _ _
  ·exact yH _ _
  ·exact yH _ _
  ·exact bc _
  ·exact yH _ _
 exact i.A0 j<|i.b.B j
end
def uZ(K:aH)(a:V):jt:=
 (λi H=>∃b,bx K H a b/\i<b.length,
  λi H v c=>∃p x,v=.c p/\H p=Z/\c=av H p (.b [.d i,x])/\∀b,bx K H a b->b[i]?=U x,
  λi H=>∃b,bx K H a b/\i=b.length)
def TA{K:aH}{k:Nat}(a e m:V)(hd:e≠m):pS P w K (.Tuple D k S) (uZ K a) [e,m] e (λi h=>(∃c,IsEnum h e m i c)/\h.IsListIter m a i):=by
 refine KA (wr:=[e,m]) (by simp) (λi h d b y=>?_) (λi h h' d kk=>?_) (λb y=>y) (λX hP hw hK hc i a3 s σ H I hf d T=>?_) λA i s Q E d h=>?_
 ·obtain⟨⟨c,n⟩,⟨o4,G,_,e4⟩⟩:=d
  simp at y;rcases y with rfl|rfl
  ·exact(_,n,λv z=>by cases z)
  ·exact(_,G,λv z=>by rw[e4] at z;cases z)
 ·obtain⟨⟨c,n⟩,G⟩:=d
  exact((c,kk e (by simp) _ n),G.at λo q=>kk m (by simp) o q)
 ·subst hP hw hK
  have a0:∃C,bx X.K H a C:=by
   rcases T with ⟨C,q,_⟩|⟨C,q,_⟩
   ·exact(C,q)
   ·exact(C,q)
  obtain⟨C,L⟩:=a0;obtain⟨us,r1,p1,_⟩:=I.B L;have M:=r1.B;have hh:=I.a.hd hc;obtain⟨n,G⟩:=d;have f:=λb y=>VQ I (hf b y) L;have WZ:=WalksT.enumerateD (prog:=X.prog) (w:=X.w) (A:=X.A) (Draws.list (A:=X.A.in1) hh m a (f m (by simp)) us.toArray) e hd (by simp;exact(hd,(f e (by simp)).symm)) (by simp);refine(_,_,_,_,_,WZ,(n,G,p1.isList),λj h d=>(d.1,d.2.1),λg=>?_,λg=>?_)
  ·obtain⟨l,r,R⟩:=g
   have e1:=I.B8 r L;subst e1;refine(by simpa[<-M] using R,λa5 hp=>?_);obtain⟨t,x,px,rfl⟩:=hp;have a2:us[i]?=U x:=by simpa using px
   have gx:l[i]?=U l[i]:=by simp[R]
   obtain⟨u,e3,ru⟩:=r1.J gx;rw[a2] at e3;cases e3;refine([.d i,l[i]],.cons (_,O)<|.cons ru .nil,Ky,λp hp=>(p,_,O,hp,O,λzs hz=>?_));rw[I.B8 hz L];exact gx
  ·obtain⟨l,r,R⟩:=g
   have e1:=I.B8 r L;subst e1
   simpa[<-M] using R
 ·obtain⟨⟨c,n⟩,_⟩:=d
  exact ac2 n h
section
variable{X:aK}{elts:List bf}{k:Nat}{tpos:bR}
def VJ(K:aH)(c:ff):kw:=λd H R=>c d H λe b=>∃a,e=[.c a]/\(∃f,bx K b a f)/\R (uZ K a) b
def Ev{a:bf}{p f:bR}(t:iH X "enumerate")(v:X.mg "enumerate"=Z)(w:ig "enumerate"=U (.type "enumerate"))(x:je X [a] l)(y:eM [a] X.env=[(adc ao (dO a X.env))]:=by rfl):kX X (.Tuple elts k tpos) (.Call (.Name "enumerate" p) [a] [] f) (VJ X.K l):=by
 intro c s m H R I h;refine Call_<|oQ I t v w<|IS (bI (x f c s m H _ I h) λQ d (S,n,i,A,j)=>?_) y O;obtain⟨C,e,⟨T,j⟩,q⟩:=j;subst e;obtain⟨u,rfl,D⟩:=gU A;cases D;obtain⟨E,_,G,_⟩:=i.B j;refine call_enumerate_list G.isList λK o L a3 M=>?_;refine ac2 o ?_;have P:aw X c m n {d with heap:=K}:=i.W (t':=d.toks) M;refine(d⁻¹+1,[d⁻¹+1,d⁻¹],_,_,n,O,P,TA C _ _ (by intro z;have z':(_:Nat)=_:=z;exact ù ß (å z')),((_,o),L),λb r=>?_,q);have g:d⁻¹<=b:=by
  simp only[ci,on,nE] at r;rcases r with rfl|rfl
  ·exact yH _ _
  ·exact bc _
 exact i.A0 g<|i.b.B g
def Me{K:aH}{xs:List af}{g:gY}{l:fe}{D:kz}(c:Nat->aM->ac->Prop)(o:c 0 b H)(r:∀i b H,i<=xs.length->c i b H->bx K H a xs)(s:∀i x p b H,xs[i]?=U x->c i b H->H p=Z->g (.c p) b (av H p<|.b [.d i,x]) λd k=>l {D with a:=c<|i+1,d:=c<|i+1,c:=D.a} d k)(t:∀b H,c xs.length b H->D.a b H):∃C:Nat->Nat->aM->ac->Prop,(∃m,C 0 m b H)/\∀i m b H,C i m b H->
   ((uZ K a).b i H/\D.a b H)\/((uZ K a).a i H/\∃E:aM->ac->Prop,(∀f h,E f h->∃n,n<m/\C (i+1) n f h)/\∀x h,(uZ K a).c i H x h->g x b h λd k=>l {D with a:=E,d:=E,c:=D.a} d k):=by
 refine(λi m b H=>m=xs.length-i/\i<=xs.length/\c i b H,(xs.length,by simp,dZ _,o),?_);rintro i m b H ⟨rfl,u,p⟩;have q:=r i b H u p
 by_cases j:i<xs.length
 ·refine .inr ((xs,q,j),c<|i+1,λf h v=>(xs.length-(i+1),ω,O,j,v),λx h y=>?_)
  obtain⟨w,z,rfl,A,rfl,y⟩:=y;exact s i z w b _ (y xs q) p A
 ·have e:i=xs.length:=(û u (ô j))
  subst e;exact .inl ((xs,q,O),t b H p)
def MF:∀{a:List Bool}{c:List aa},bW (a.map af.e) c->LSm.BoolsAre c a
 |[],_,.nil=>.nil
 |b::a,_,.cons r t=>by cases r;exact .cons b<|MF t
def wU(n:X.b=ae):io X (.builtin "all") (λg H Q=>∃(l:V)(a:List Bool),g=[.c l]/\bx X.K H l (a.map af.e)/\Q (.e<|a.all id) H):=by
 intro j s C H g D Q I r h;obtain⟨l,a,rfl,o,q⟩:=h;obtain⟨u,rfl,p⟩:=gU r;cases p;obtain⟨c,t,w,_⟩:=I.B o;have x:=I.a.hd n;have d:=w.isList;have k:=MF t;have f:l<s⁻¹:=by obtain⟨_,e,_⟩:=d;exact bT e
 refine call_all_walk<|xY d ?_;refine(s⁻¹,[s⁻¹,l],[s⁻¹],c.toArray.size,_,_,λi=>(a[i]?).getD ae,O,vL (A:=X.A.in1) x _ l (ck f) c.toArray,
  ((_,dv _ O,O,O),d.push _),λi v E G K y m=>?_,λL M z=>?_)
 ·obtain⟨b,e,rfl⟩:=k.get i v (by simpa using y)
  simp only[e,yD] at m;exact vE m
 ·have e:((dk c.toArray.size).all λi=>(a[i]?).getD ae)=a.all id:=by
   rw[cz,k.length];exact LSm.range_all a
  rw[e];exact(.e _,H,I.W<|LSm.kept_iter z,O,q)
end
section
variable{K:aH}{a:V}{xs:List af}{g:gY}{tc:eB}{te:bb}{σ:aM}{H1:ac}{Q:aL}{D:V}
def EY(n:Nat)(b:Nat->aM->List af->ac->Prop)(i m:Nat)(σ:aM)(H:ac):Prop:=m=n-i/\i<=n/\∃a,a.length<=i/\b i σ a H
def re(n:Nat)(e:Nat->aM->List af->ac->Prop)(D:V)(i:Nat)(a:aM):aL:=λy c=>∃b d,c D=U (.a b)/\b.length<bG/\d<n-i/\EY n e (i+1) d a (av c D<|.a<|b++[y])
def s_(n:Nat)(c:Nat->aM->List af->ac->Prop)(i:Nat)(a:aM)(d:ac):Prop:=∃b,b<n-i/\EY n c (i+1) b a d
def gG{n:Nat}{c:Nat->aM->List af->ac->Prop}{i:Nat}{a:aM}{ys:List af}{y:af}{b:ac}(f:n<=bG)(d:i<n)(g:ys.length<=i)(e:b D=U (.a ys))(p:c (i+1) a (ys++[y]) (av b D<|.a<|ys++[y])):re n c D i a y b:=
 (ys,n-(i+1),e,(à (à (ï g) d) f),ω,O,d,ys++[y],by simp;exact g,p)
def sQ{n:Nat}{c:Nat->aM->List af->ac->Prop}{i:Nat}{a:aM}{b:List af}(e:i<n)(f:b.length<=i)(p:c (i+1) a b d):s_ n c i a d:=
 (n-(i+1),ω,O,e,b,(í f),p)
def sR{A:jt}(n:Nat)(f:Nat->aM->List af->ac->Prop)(r:f 0 σ [] (av H1 D<|.a []))(h:∀σ a H,f n σ a H->A.b n H)(l:∀i σ a H,i<n->f i σ a H->A.a i H)(s:∀i σ a H x o,i<n->a.length<=i->f i σ a H->A.c i H x o->g x σ o λc t=>tc c t λb q=>if b=ae then te c q (re n f D i c) else s_ n f i c q)(u:∀σ a H,f n σ a H->Q (.c D) H):fg A g tc te σ H1 D Q:=by
 refine(EY n f,(n,by simp,dZ _,[],bc _,r),?_);rintro i m d k ⟨rfl,z,a,v,p⟩
 by_cases j:i<n
 ·exact .inr (l i d a k j p,λx w y=>s i d a k x w j v p y)
 ·have e:i=n:=(û z (ô j))
  subst e;exact .inl (h d a k p,u d a k p)
def jX(f:Nat->aM->List af->ac->Prop)(l:f 0 σ [] (av H1 D<|.a []))(h:∀i σ c H,f i σ c H->bx K H a xs)(m:∀i σ c H x,xs[i]?=U x->i<xs.length->c.length<=i->f i σ c H->g x σ H λd n=>tc d n λb k=>if b=ae then te d k (re xs.length f D i d) else s_ xs.length f i d k)(o:∀σ c H,f xs.length σ c H->Q (.c D) H):fg (im K a) g tc te σ H1 D Q:=by
 refine sR xs.length f l (λσ c H p=>(xs,h _ _ _ _ p,bc _)) (λi σ c H j p=>(xs,xs[i],h _ _ _ _ p,by simp[j])) (λi σ c H x r j q p y=>?_) o;obtain⟨e,y⟩:=y;subst e;exact m i σ c _ x (y xs<|h _ _ _ _ p) j q p
def Wf(f:Nat->aM->List af->ac->Prop)(l:f 0 σ [] (av H1 D<|.a []))(h:∀i σ c H,f i σ c H->fm K H a xs)(m:∀i σ c H x,xs[i]?=U x->i<xs.length->c.length<=i->f i σ c H->g x σ H λd n=>tc d n λb k=>if b=ae then te d k (re xs.length f D i d) else s_ xs.length f i d k)(o:∀σ c H,f xs.length σ c H->Q (.c D) H):fg (sZ K a) g tc te σ H1 D Q:=by
 refine sR xs.length f l (λσ c H p=>(xs,h _ _ _ _ p,bc _)) (λi σ c H j p=>(xs,xs[i],h _ _ _ _ p,by simp[j])) (λi σ c H x r j q p y=>?_) o;obtain⟨e,y⟩:=y;subst e;exact m i σ c _ x (y xs<|h _ _ _ _ p) j q p
def wS{h:Int}{n:Nat}(d:Nat->aM->List af->ac->Prop)(k:d 0 σ [] (av H1 D<|.a []))(l:∀i σ c H,i<n->c.length<=i->d i σ c H->g (.d<|h+i) σ H λa m=>tc a m λb j=>if b=ae then te a j (re n d D i a) else s_ n d i a j)(o:∀σ c H,d n σ c H->Q (.c D) H):fg (mV h n) g tc te σ H1 D Q:=by
 refine sR n d k (λσ c H p=>bc _) (λi σ c H f p=>f) (λi σ c H x r f q p y=>?_) o;obtain⟨e,y⟩:=y;subst e y;exact l i σ c _ f q p
def We{h j:V}(d:Nat->aM->List af->ac->Prop)(l:d 0 σ [] (av H1 D<|.a []))(e:∀i σ a H,d i σ a H->fm K H h xs/\fm K H j ys)(m:∀i σ a H p x y,xs[i]?=U x->ys[i]?=U y->i<fV xs.length ys.length->a.length<=i->d i σ a H->H p=Z->g (.c p) σ (av H p<|.b [x,y]) λc n=>tc c n λb k=>if b=ae then te c k (re (fV xs.length ys.length) d D i c) else s_ (fV xs.length ys.length) d i c k)(o:∀σ a H,d (fV xs.length ys.length) σ a H->Q (.c D) H):fg (EW K h j) g tc te σ H1 D Q:=by
 refine sR (fV xs.length ys.length) d l (λσ a H p=>(xs,ys,(e _ _ _ _ p).1,(e _ _ _ _ p).2,O)) (λi σ a H f p=>(xs,ys,(e _ _ _ _ p).1,(e _ _ _ _ p).2,f)) (λi σ a H v z f q p y=>?_) o;obtain⟨r,x,s,rfl,t,rfl,u,w⟩:=y;exact m i σ a H r x s (u xs (e _ _ _ _ p).1) (w ys (e _ _ _ _ p).2) f q p t
end
def iW(h:aI)(d:V)(a:Array lX)(b:Nat):Prop:=∃o,h.get? d=U o/\o.ExactDict/\o.data=.dict a b
def iW.B{h a:aI}(x:iW h d b c)(k:∀o,h.get? d=U o->a.get? d=U o):iW a d b c:=let ⟨o,e,r⟩:=x;(o,k o e,r)
def iW.F(x:iW h d a b):d<h.objs.size:=let ⟨_,c,_⟩:=x;bT c
section
variable{prog:aU}{w:aO}{A:bg}{E:Ω}{s:ai}{it d:V}{i ep:Nat}{es:Array lX}
def iW.typeIs(x:iW s.heap d es ep):s.TypeIs (.ref d) "dict":=let ⟨o,a,r⟩:=x;(o,a,r.1.1)
def Pl{Q:Ω}(f:(d==kH)=ao)(c:iW s.heap d es ep)(g:Q (.ref s⁻¹) {s with heap:=s.heap.push {cls:=.type "dict_keyiterator",data:=.fields #[.ref d,.int 0 0,.int es.size 0,.int ep 0]}}):am (aE prog w) A (qi<|.ref d) Q E s:=by
 have b:=c.typeIs;obtain⟨o,e,h,a⟩:=id c;refine ac0 b aez<|lT aez b PySem.F.entry_dict_iter ?_<|PySem.F.args_dict_iter_1 _;unfold Builtin.«dict.__iter__»;refine ag ?_;unfold akc;refine ag<|PH b ?_;show am _ _ (bH<|Y d) _ _ s;refine aC ?_;show am _ _ (IB d >>= _) _ _ s;unfold IB;rw[au (by rw[f];exact eP)];refine ag<|aC ?_;refine ag<|pq e a ?_;refine ag<|tN e a ?_;refine ag<|mE<|aC (_,O,"dict_keyiterator",_,(_,dv _ O,O),CS.lookup,?_)
 simpa[dY] using g
def Pm{Q:Option aa->ai->Prop}(a:s.heap.IsKeyIter it d i es.size ep)(k:iW s.heap d es ep)(l:i<es.size)(m:∀h,h.IsKeyIter it d (i+1) es.size ep->gA it s.heap h->Q (U es[i].key) {s with heap:=h}):am (aE prog w) A (jh<|.ref it) Q E s:=by
 obtain⟨o,j,n,g⟩:=id a;obtain⟨q,c,p,e⟩:=id k;unfold jh;refine ag (pv (pt (name:=iu "__next__") a.typeIs CS
 <|lT CS a.typeIs ae8 ?_<|afd _))
 refine ag<|aC ?_;refine ag ?_;refine ag ?_
 first|refine ag<|Hl a.typeIs<|aC ?_|refine wpAny_bind<|wpAny_typeNameOf_keyiter a.typeIs<|wpAny_pure ?_
 refine ag<|Hq j g ?_;have f:Da "dict_keyiterator"=ao:=ξ
 simp only[f,dc,cM];show am _ _ (if(Y d==bj)=ae then _ else _) _ _ s;rw[au<|show ¬((Y d==bj)=ae) from eP];refine ag<|aC ?_;refine ag<|pq c e ?_;rw[au (by simp)];refine ag<|aC ?_;refine ag<|tN c e ?_;rw[au (by simp)];refine aC ?_;simp only[show ¬((i:Int)<0) from ω,cM,wn,yV l];refine ag ?_
 first|refine ag<|Hl a.typeIs<|aC ?_|refine wpAny_bind<|wpAny_typeNameOf_keyiter a.typeIs<|wpAny_pure ?_
 refine ag<|ac7 a.typeIs ?_;show am _ _ (rI (.ref it) 1 (dY<|(i:Int)+1) >>= _) _ _ s;refine ag<|qg j g (by simp) ?_;have b:(s.heap.update it (rP (·.setIfInBounds 1<|dY<|(i:Int)+1))).IsKeyIter it d (i+1) es.size ep:=
  (_,pC _ j<|CN<|rQ g _,(QF ..).trans n,by rw[rQ g];simp[dY])
 refine ag<|fz ?_;refine ag (ac7 (s:={s with heap:=s.heap.update it (rP (·.setIfInBounds 1<|dY<|(i:Int)+1))}) b.typeIs ?_);show am _ _ (bH es[i].key) _ _ _;exact aC<|aC (_,O,aC<|m _ b<|jl ..)
def done{Q:Option aa->ai->Prop}(k:A.handled=Z)(c:s.heap.IsKeyIter it d es.size es.size ep)(l:iW s.heap d es ep)(n:∀h,Io it s.heap h->Q Z {s with heap:=h}):am (aE prog w) A (jh<|.ref it) Q E s:=by
 obtain⟨o,i,q,j⟩:=id c;obtain⟨r,e,p,f⟩:=id l;unfold jh;refine ag (pv (pt (name:=iu "__next__") c.typeIs CS
 <|lT CS c.typeIs ae8 ?_<|afd _))
 refine ag<|aC ?_;refine ag ?_;refine ag ?_
 first|refine ag<|Hl c.typeIs<|aC ?_|refine wpAny_bind<|wpAny_typeNameOf_keyiter c.typeIs<|wpAny_pure ?_
 refine ag<|Hq i j ?_;have g:Da "dict_keyiterator"=ao:=ξ
 simp only[g,dc,cM];show am _ _ (if(Y d==bj)=ae then _ else _) _ _ s;rw[au<|show ¬((Y d==bj)=ae) from eP];refine ag<|aC ?_;refine ag<|pq e f ?_;rw[au (by simp)];refine ag<|aC ?_;refine ag<|tN e f ?_;rw[au (by simp)];refine aC ?_;simp only[show ¬((es.size:Int)<0) from ω,cM,wn,RM (bc es.size)];refine ag ?_
 first|refine ag<|Hl c.typeIs<|aC ?_|refine wpAny_bind<|wpAny_typeNameOf_keyiter c.typeIs<|wpAny_pure ?_
 show am _ _ (rI (.ref it) 0 .none >>= _) _ _ s;refine ag<|qg i j (by simp) ?_;show am _ _ (yd (.type "StopIteration") [] >>= _) _ _ _;refine ag ?_;simp only[yd,Qe];refine ag<|mE ?_ (by size_fits);refine ag (m:=Qm _ _)<|qh (a:=bj) (by first|rfl|(simp only[firstArgMember];rfl)) ?_;refine mE ?_ (by size_fits);simp only[P_];refine ag<|PK ?_;rw[show A.in1.handled=Z from k];refine ag<|aC<|PC ?_;refine ag<|tL (T:="StopIteration") (b:=ae) (_,dv _ O,O) Qi ?_;exact aC<|n _<|((jl ..).extBut.push _).push _
def abr(p:A.handled=Z)(I d:V)(j:d≠I)(es:Array lX)(ep:Nat):Walks prog w A I [I,d] [I] es.size (λi v=>∃e,es[i]?=U e/\v=e.key) (λi h=>h.IsKeyIter I d i es.size ep/\iW h d es ep) where
 sub:=λb c=>by simp at c ⊢;exact .inl c
 frame:=λi h g a k=>(let ⟨o,q,r⟩:=a.1;(o,k I (by simp) o q,r),a.2.B λo e=>k d (by simp) o e)
 item:=λi s Q E m a f=>Pm a.1 a.2 m λg l n=>f _ g s.toks (es[i],by simp[m],O) (l,a.2.B λo e=>(n.2 d j).trans e) λb o c e=>(n.2 b (λz=>c (by simp[z]))).trans e
 done:=λs Q E a f=>done p a.1 a.2 λg t=>f g s.toks λb o c e=>t b o (λz=>c (by simp[z])) e
 self:=λi s Q E a f=>ac1 a.1 f
def Pk(c:(d==kH)=ao):QB prog w "dict" d d es.size (λi v=>∃e,es[i]?=U e/\v=e.key) (λh=>iW h d es ep) where
 type:=λ_ a=>a.typeIs
 there:=λ_ a=>(a.F,a.F)
 keep:=λ_ _ a f=>a.B λo e=>f d (.inl O) o e
 notList:=ξ
 notTuple:=ξ
 hint:=λ_ _ _ _ a b=>PySem.W.kdl_hint_dict a.typeIs b
 iter:=λ_ s g a=>(_,_,(λ_ _ b=>Pl c a b),abr g _ d (ck a.F) es ep,((_,dv _ O,O,O),a.B λo e=>bJ _ e))
end
section
variable{X:aK}
def Vy{k:aN}(h:(fH P w).is k u=ae):cb (dM k) u:=by
 rcases oR h with ⟨i,t,rfl,rfl⟩|⟨x,t,rfl,rfl⟩
 ·exact(t,O)
 ·exact(t,O)
def MC(R:X.b=ae):io X (.type "list") (λD H Q=>∃a d,D=[.c a]/\H a=U (.c d)/\
  ∀(j:List V),dA (λ(p:List aN×af) b=>H b=U (.b<|p.1.map dM)) d j->∀l,H l=Z->Q (.c l) (av H l<|.a<|j.map af.c)):=by
 intro E s σ H D us Q I r h;obtain⟨a,d,rfl,v,q⟩:=h;obtain⟨u,rfl,S⟩:=gU r;cases S;obtain⟨z,y,f,g,o,k,G,T,h2,h3,K,h5⟩:=(show db X.prog X.w H s.heap a (.c d) from I.b a _ v);have L:k.size=d.length:=by
  have:=gD aF K;rw[aA,<-hZ g] at this
  simpa using this
 refine ad3 (Pk (ep:=G) (es:=k) y) (I.a.hd R) (o,T,h2,h3) (by rw[L];exact z) λh' tk c c' kk e it=>?_;obtain⟨n1,n2⟩:=it;have pb:dA (λ(p:List aN×af) b=>H b=U (.b<|p.1.map dM)) d (f.map (·.2.1)):=by
  have:∀{l:List (List aN×af)}{m:List (List aN×V×aa)},js H l m->dA (λ(p:List aN×af) b=>H b=U (.b<|p.1.map dM)) l (m.map (·.2.1)):=by
   intro l m q
   induction q with
   |nil=>exact .nil
   |cons v t w=>exact .cons v.2.1 w
  exact this g
 have ea:c.toList=(f.map (·.2.1)).map Y:=by
  apply Dv;intro i;have M:f.length=c.size:=by rw[n1,L];exact(hZ g).symm
  by_cases x:i<c.size
  ·obtain⟨e',A,C⟩:=n2 i c[i] (by simp[x])
   have n:k.toList[i]?=U e':=by simpa using A
   rw[K,cm] at n;have P:f[i]?=U f[i]:=by simp[M,x]
   rw[P] at n;simp only[nz,pF] at n;simp only[cm,P,nz,km,yV x];rw[C,<-n]
   rfl
  ·have A:c.toList.length<=i:=by simp;exact ô x
   have C:((f.map (·.2.1)).map Y).length<=i:=by simp[M];exact ô x
   rw[nC A,nC C]
 have vv:bW ((f.map (·.2.1)).map af.c) c.toList:=by
  rw[ea];generalize f.map (·.2.1)=j
  induction j with
  |nil=>exact .nil
  |cons b j w=>exact .cons O w
 refine(.c s⁻¹,_,I.F kk (bc _) (show db X.prog X.w _ h' _ (.a ((f.map (·.2.1)).map af.c)) from(?_,c.toList,c',vv,by simpa using e)),O,q _ pb _<|I.b.B<|bc _);simp only[aA];rw[<-hZ g];exact z
end
def cG(H:ac)(a:V)(b:List Int):Prop:=H a=U (.b<|b.map af.d)
abbrev aW(H:ac)(c:List V)(b:Ξ):Prop:=dA (λa d=>cG H a d) c b
def aQ.N(e:aQ H b)(h:cG H a c):cG b a c:=e _ _ h
def aQ.J(e:aQ H b)(h:aW H c a):aW b c a:=il h λ_ _ q=>e.N q
def aQ.B{H:ac}(h:H a=Z):aQ H (av H a o):=λb u e=>by rw[a_<|dH e h];exact e
def aQ.A0(e:aQ H c)(h:H a=Z):aQ H (av c a o):=λb u q=>by rw[a_<|dH q h];exact e b u q
def aW.B(h:aW H b a):b.length=a.length:=hZ h
def aW.F:∀{c:List V}{b:Ξ}{i:Nat}{a:V},aW H c b->c[i]?=U a->∃d,b[i]?=U d/\cG H a d
 |_,_,_,_,.nil,e=>by simp at e
 |_,_,0,_,.cons r _,e=>by simp at e;subst e;exact(_,O,r)
 |_,_,i+1,a,.cons _ t,e=>by
  obtain⟨u,f,g⟩:=aW.F (i:=i) (a:=a) t (by simpa using e);exact(u,by simpa using f,g)
def aW.J(h:aW H c b)(q:cG H a d):aW H (c++[a]) (b++[d]):=by
 induction h with
 |nil=>exact .cons q .nil
 |cons r t e=>exact .cons r e
def aW.N(h:aW H c a)(q:aW H d b):aW H (c++d) (a++b):=by
 induction h with
 |nil=>exact q
 |cons r t e=>exact .cons r e
def aW.W:∀{b:List V}{a:Ξ}(n:Nat),aW H b a->aW H (b.take n) (a.take n)
 |_,_,0,_=>.nil
 |_,_,_+1,.nil=>.nil
 |_,_,n+1,.cons r t=>.cons r (aW.W n t)
def aW.A0:∀{b:List V}{a:Ξ}(n:Nat),aW H b a->aW H (b.drop n) (a.drop n)
 |_,_,0,r=>r
 |_,_,_+1,.nil=>.nil
 |_,_,n+1,.cons _ t=>aW.A0 n t
def mQ:∀{b:List V}{c:List aa},bW (b.map af.c) c->c=b.map Y
 |[],_,.nil=>O
 |a::b,_,.cons r t=>by cases r;rw[mQ t];rfl
def zH{b:Type}(f:b->V):∀l:List b,bW (l.map λq=>af.c<|f q) (l.map λq=>Y<|f q)
 |[]=>.nil
 |a::l=>.cons O (zH f l)
section
variable{X:aK}
def LN{b:List aa}(j:jL h c b.toArray)(g:fU b f):dT (fH a w) h (f.map bd) c:=by
 obtain⟨o,e,i,k,d⟩:=j;refine(o,b.toArray,k,e,i,d,?_);have:∀{b:List aa}{f:List Int},fU b f->CP (fH a w) (f.map bd) b:=by
  intro b f g
  induction g with
  |nil=>exact .nil
  |cons n t h l=>exact .cons (ED a w n t) l
 simpa using this g
def pR{a b:List Int}:(a.map bd:List aN)=b.map bd↔a=b:=
 (λz=>(uq (f:=(bd:Int->aN)) (λx y h=>vC h)).mp z,λz=>by rw[z])
def VT{i:aM}{s:ai}{A:bg}{e f:List Int}(I:aw X c i H s)(j:cG H a e)(k:cG H b f)(l:A.units<cH):yt A s (.ref a) (.ref b) (aG<|e=f):=by
 intro d w E Q h;obtain⟨m,n,o,_⟩:=I.J<|fm.B j;obtain⟨g,p,q,_⟩:=I.J<|fm.B k;refine Hr (knd:=fH d w) l (LN o<|oU n) (LN q<|oU p) ?_;rw[show aG ((e.map bd:List aN)=f.map bd)=aG (e=f) from by simp only[pR]];exact h
inductive zJ(x:af)(y:af)(H:ac)(Q:aL):Prop
 |c:∀a b xs ys,(x=.c a)->(y=.c b)->(H a=U (.b xs))->(H b=U (.b ys))->(xs.length+ys.length<=bG)->(∀p H',aQ H H'->H' p=U (.b<|xs++ys)->Q (.c p) H')->zJ x y H Q
def zN:fy X (pz .Add) zJ:=by
 intro m s σ H x y v u Q I P R h;obtain⟨a,b,p,S,rfl,rfl,r,t,w,q⟩:=h;cases P;cases R;obtain⟨T,g,A,_⟩:=I.J<|fm.B r;obtain⟨c,i,C,_⟩:=I.J<|fm.B t
 by_cases D:p=[]
 ·subst D
  have e1:=g.A1.mpr O;subst e1;obtain⟨⟨a0,dd,E,sl⟩,G,K,n,L⟩:=id A;obtain⟨⟨M,j,k,l⟩,d,e,n2,f⟩:=id C;simp only at K L e f;subst K L e f;exact Qp (_,G,O) (_,d,O) Qd PV QI QL (QP _ _)
   (tuple_addW0 a b (cX []) c.toArray n n2 dd j sl l (by simp)) (G,d,.c b,H,I,O,q b H (aQ.A3 H) (by simpa using t))
 ·refine abo A C (λz=>D<|g.A1.mp z) (λz=>(.c a,H,I,O,q a H (aQ.A3 H) ?_)) (λz=>?_) (by rw[<-g.B,<-i.B];exact w)
  ·rw[i.A1.mp z,lG];exact r
  ·have hf:=I.b.B<|bc s⁻¹
   refine(.c s⁻¹,_,I.F (t':=s.toks) (o:=.b<|p++S) (λb ob q=>bJ _ q) (bc _) ?_,O,q _ _ (aQ.B hf) aD);exact(by rw[dz];exact w,_,g.F i,Rk _ _)
inductive uK(neg:Bool)(K:aH)(x:af)(y:af)(H:ac)(Q:aL):Prop
 |b:∀a l ps as pss,(x=.c a)->(y=.c l)->(cG H a ps)->(bx K H l<|as.map af.c)->(aW H as pss)->(Q (.e<|if neg then !aG (ps∈pss) else aG (ps∈pss)) H)->uK neg K x y H Q
def qS(H:ac)(a:List Int)(u:aa):Bool:=match u with
 |.ref b=>(match H b with|some (.b c)=>aG (c=a.map af.d)|_=>ao)
 |_=>ao
def VD{a b:List Int}:(a.map af.d:List af)=b.map af.d↔a=b:=
 (λz=>(uq (f:=af.d) (λx y h=>af.d.inj h)).mp z,λz=>by rw[z])
def EJ(h:cG H b c):qS H a (.ref b)=aG (c=a):=by
 show(match H b with|some (.b d)=>aG (d=a.map af.d)|_=>ao)=_;rw[show H b=U (.b<|c.map af.d) from h];simp only[VD]
def WA(h:aW H d b):(d.map Y).any (qS H c)=aG (c∈b):=by
 induction h with
 |nil=>simp
 |@cons a f d b r t g=>
  rw[df,wh,g,EJ r]
  by_cases e:f=c
  ·subst e;simp
  ·have:¬c=f:=λz=>e z.symm
   simp[e,this]
def LI{j:aM}{s:ai}{A:bg}{i:List Int}(I:aw X d j H s)(k:cG H a i)(g:A.units<cH):∀{e:List V}{c:Ξ},aW H e c->∀u∈e.map Y,yt A s u (.ref a) (qS H i u):=by
 intro e c h
 induction h with
 |nil=>intro u g;simp at g
 |@cons b m e c r t l=>
  intro u f;rw[df] at f;rcases ci.mp f with rfl|f
  ·rw[EJ r];exact VT I r k g
  ·exact l u f
def UT(f:X.A.in1.units<cH):fy X (gu .NotIn) (uK ae X.K):=by
 intro c s t H x y v u Q I g i h;obtain⟨a,l,b,d,j,rfl,rfl,k,m,e,q⟩:=h;cases g;cases i;obtain⟨n,r,o,z⟩:=I.B m;obtain rfl:=mQ r;refine aee (qS H b) o.isList (λw p=>LI I k f e w (by simpa using p)) (.e _,H,I,O,?_);rw[show(d.map Y).toArray.any (qS H b)=(d.map Y).any (qS H b) by simp,WA e];exact q
def El{s:ai}(I:aw X b d H s)(e:cG H a c):Reads s.heap (.ref a) (.tuple<|c.map iw) []:=by
 obtain⟨f,r,p,_⟩:=I.J<|fm.B e;obtain⟨o,g,h,n,i⟩:=id p;exact .tuple g h i<|(ad1<|oU r).reads s.heap
def Uk{s:ai}(I:aw X b d H s):∀{c:List V}{a:Ξ},aW H c a->ReadsAll s.heap (c.map Y) (a.map λe=>kb<|e.map iw) []:=by
 intro c a h
 induction h with
 |nil=>exact .nil
 |cons r t f=>exact .cons (as:=[]) (bs:=[]) (El I r) f
def KW{s:ai}{c:List V}(I:aw X a d H s)(e:bx X.K H l (c.map af.c))(h:aW H c b):Reads s.heap (.ref l) (.list<|b.map λf=>kb<|f.map iw) [l]:=by
 obtain⟨g,r,p,_⟩:=I.B e;obtain rfl:=mQ r;obtain⟨o,i,j,n,k⟩:=p.isList;exact .list i j k (by simpa using Uk I h)
def My(a:List Int):Ig (.tuple<|a.map iw)=ae:=by simp[Ig,ad2]
def Mj(a:List Int):CM (.tuple<|a.map iw)=1:=by simp[CM,ad0]
def KM(a:List Int):tV (.tuple<|a.map iw)=ae:=by
 simp[tV,My,Mj]
def Mz:∀a:Ξ,aej (a.map λb=>kb<|b.map iw)=ae
 |[]=>O
 |b::r=>by rw[df,aej,My,Mz r];rfl
def Mk:∀a:Ξ,aei (a.map λb=>kb<|b.map iw)<=1
 |[]=>dZ _
 |b::r=>by rw[df,aei,Mj];exact Nat.max_le.mpr (bc _,Mk r)
def KO(a:Ξ):tV (.list<|a.map λb=>kb<|b.map iw)=ae:=by
 have:=Mk a;have e:CM (.list<|a.map λb=>kb<|b.map iw)<=64:=by rw[CM];exact â (ð this)
 unfold tV;rw[bZ e,Ig,Mz]
 rfl
def KV:∀c d:Ξ,CI (c.map λe=>kb<|e.map iw) (d.map λe=>kb<|e.map iw)=aG (c=d)
 |[],[]=>by simp[CI]
 |[],_::_=>by simp[CI]
 |_::_,[]=>by simp[CI]
 |a::r,b::t=>by
  simp only[df,CI,rM,Qy,KV r t]
  by_cases h:a=b<;>by_cases f:r=t<;>simp[h,f]
def LY(a:List Int):(HZ .int).has (.tuple<|a.map iw)=ae:=by simp[yo]
def LZ(a:Ξ):(H_<|.tuples .int).has (.list<|a.map λb=>kb<|b.map iw)=ae:=by simp[yo]
def Ep(e:Bool)(K:aH):mq:=λx y H Q=>(∃a b f g,x=.c a/\y=.c b/\cG H a f/\cG H b g/\Q (.e<|if e then !aG (f=g) else aG (f=g)) H) \/
 (∃l m h i c d,x=.c l/\y=.c m/\bx K H l (h.map af.c)/\aW H h c/\bx K H m (i.map af.c)/\aW H i d/\Q (.e<|if e then !aG (c=d) else aG (c=d)) H)
def Ez(g:X.A.units+64<cH):fy X (gu .NotEq) (Ep ae X.K):=by
 intro i s z H x y v u Q I j k h;rcases h with ⟨a,b,c,f,rfl,rfl,n,o,q⟩|⟨l,m,A,C,d,e,rfl,rfl,p,r,t,w,q⟩
 ·cases j
  cases k;refine IJ (El I n) (El I o) (KM _) (KM _) g (QE (.tuples .int) O _ _ (LY _)<|LY _) ?_;rw[show rM (.tuple<|c.map iw) (.tuple<|f.map iw)=aG (c=f) from by simp only[rM];exact Qy c f];exact(.e _,H,I,O,q)
 ·cases j
  cases k;refine IJ (KW I p r) (KW I t w) (KO _) (KO _) g (QE (.list<|.tuples .int) O _ _ (LZ _)<|LZ _) ?_;rw[show rM (.list<|d.map λc=>kb<|c.map iw) (.list<|e.map λc=>kb<|c.map iw)=aG (d=e) from by simp only[rM];exact KV d e];exact(.e _,H,I,O,q)
inductive Lg(x:af)(vs:List af)(H:ac)(Q:aL):Prop
 |a:∀l xs i y,(x=.c l)->(vs=[.d i,y])->(H l=U (.a xs))->(0<=i)->(i<=xs.length)->(xs.length<bG)->(Q .g<|av H l<|.a<|xs.take i.toNat++y::xs.drop i.toNat)->Lg x vs H Q
def Ve:sX X "list.insert" Lg:=by
 intro c s w H x A v C Q I g j h;obtain⟨l,D,i,y,rfl,rfl,d,E,G,K,q⟩:=h;cases g;obtain⟨u,f,rfl,k,b⟩:=j.A7;obtain⟨t,rfl⟩:=k;obtain⟨z,a,n,r,L,e⟩:=I.A4 d;have m:bG<2 ^ 62:=by rw[jx];decide
 have o:QZ i=ae:=by
  unfold QZ;simp only[iN,ii];constructor<;>omega
 refine nW aet (_,e,O) F.entry_list_insert (F.args_list_insert_3 _ _ _) (ake l a.toArray n i t f (by simp[o]) (by rw[cz];exact à (æ L) z)) (e,?_);refine(.g,_,I.B5 (its':=a.take i.toNat++f::a.drop i.toNat) (t':=s.toks) d e ?_ ((r.A0 _).F<|.cons b<|r.W _) ?_,O,q)
 ·have p:(if i<0 then(i+(a.toArray.size:Int)).toNat else fV i.toNat a.toArray.size)=i.toNat:=by
   rw[au ω,cz];omega
  dsimp only;rw[p];simp;exact gb (by rw[mK];exact bc _)
 ·rw[dz,dP,eF,mK]
  omega
def Wx:io X (.type "int") (λa H Q=>∃x n,a=[.f x]/\HJ x=U n/\x.length<=640/\Q (.d n) H):=by
 intro b s e H a f Q I r h;obtain⟨x,n,rfl,c,d,q⟩:=h;obtain⟨u,rfl,t,rfl⟩:=gU r;exact ait c d (.d n,H,I.N _,(_,O),q)
end
section
variable{X:aK}{pins:Ψ}{σ:aM}{H:ac}{s:ai}
def LU{A:bg}(h:A.units+64<cH):A.in1.in1.units<cH:=by show A.units+1+1<cH;omega
def LV{A:bg}(h:A.units+64<cH):A.in1.units<cH:=by show A.units+1<cH;omega
def Wn:io X (.builtin "sorted") (λA H Q=>∃(l:V)(b:List Int),A=[.c l]/\bx X.K H l (b.map af.d)/\b.length<64/\∀(D:V)(v:List Int),v.Perm b->v.Pairwise (·<=·)->H D=Z->Q (.c D) (av H D<|.a<|v.map af.d)):=by
 intro pins s σ H A us Q I r h;obtain⟨l,b,rfl,w,M,q⟩:=h;obtain⟨u,rfl,P⟩:=gU r;cases P;obtain⟨d,C,R,E⟩:=I.B w;have G:fU d b:=oU C;have j:=C.B;rw[aA] at j E;refine JJ (ls:=b.map λn=>[n]) (good:=λ_=>True) R.isList (DJ G) (λ_ _=>trivial) (à (æ j) E) (à (ï (æ j)) M) λk x=>?_;obtain⟨a,K,x,S⟩:=x;have f:∀p∈a,∃n t,p.1=[n]/\p.2=aJ n t:=λp y=>by
  obtain⟨i,e⟩:=jO.mp<|K.mem_iff.mp y;rw[lI,cm] at e;cases c:b[i]? with
  |none=>rw[c] at e;simp at e
  |some n=>
   obtain⟨t,g⟩:=G.get i n c;rw[c,g] at e;simp only[nz,Dh,pF] at e;subst e;exact(n,t,O,O)
 have T:∀a:List (List Int×aa),(∀p∈a,∃n t,p.1=[n]/\p.2=aJ n t)->bW ((a.map λp=>p.1.headD 0).map af.d) (a.map (·.2)):=by
  intro a
  induction a with
  |nil=>intro _;exact .nil
  |cons p a ih=>
   intro h;obtain⟨n,t,c,g⟩:=h p dC;refine .cons ?_<|ih λq w=>h q<|d_ _ w;show cb (af.d<|p.1.headD 0) p.2;rw[c,g];exact(t,O)
 have L:(a.map λp=>p.1.headD 0).Perm b:=by
  have o:=K.map (λp:List Int×aa=>p.1.headD 0);have e:((b.map λn=>[n]).zip d).map (λp:List Int×aa=>p.1.headD 0)=b:=by
   rw[show(λp:List Int×aa=>p.1.headD 0)=(λl:List Int=>l.headD 0) ∘ yB from O,<-bY,yL (by rw[aA];exact å j),bY];exact wb b
  rw[e] at o;exact o
 have pw:(a.map λp=>p.1.headD 0).Pairwise (·<=·):=by
  rw[jN];refine S.imp_of_mem λ{p q} o h2 z=>?_;obtain⟨n,t,c,_⟩:=f p o;obtain⟨m,t',g,_⟩:=f q h2;rw[c,g,ib] at z;rw[c,g];show n<=m
  by_cases e:m=n
  ·omega
  ·rw[au e] at z
   have:=mM z;omega
 obtain⟨e,he⟩:=sortedAll_at s.heap d k;refine(.c<|s⁻¹+1,_,I.F (t':=s.toks) (λ_ _=>sortedAll_old) (lY _)<|show db X.prog X.w _ _ _ (.a<|(a.map λp=>p.1.headD 0).map af.d) from(?_,k.toList,e,?_,?_),O,q _ _ L pw<|I.b.B<|lY _)
 ·rw[aA,L.length_eq];exact E
 ·rw[x];exact T a f
 ·simpa using he
def MV(H:ac)(p:V)(l:List Int):Prop:=∃n b a,l=n::a/\H p=U (.b [.d n,.c b])/\cG H b a
def Lo(I:aw X pins σ H s)(h:MV H p l):nI s.heap (.ref p) l:=by
 obtain⟨n,b,d,rfl,e,f⟩:=h;obtain⟨g,i,j,_⟩:=I.J<|fm.B (K:=X.K) e;obtain⟨u,o,rfl,⟨t,rfl⟩,c⟩:=Eb i;cases c;obtain⟨a,k,m,_⟩:=I.J<|fm.B (K:=X.K) f;exact(p,b,n,t,a,d,O,O,j,m,oU k)
def Uy{h f:aI}(k:∀b o,h.get? b=U o->f.get? b=U o)(x:nI h u l):nI f u l:=by
 obtain⟨a,b,n,t,c,g,j,m,⟨o,p,q⟩,⟨r,d,e⟩,i⟩:=x;exact(a,b,n,t,c,g,j,m,(o,k _ _ p,q),(r,k _ _ d,e),i)
def qM{c d:Type}{R:c->d->Prop}{l:List c}{m:List d}(p:dA R l m):∀(i:Nat) x y,l[i]?=U x->m[i]?=U y->R x y:=by
 induction p with
 |nil=>intro i x y h;simp at h
 |cons r t e=>
  intro i x y a b;cases i with
  |zero=>simp at a b;subst a b;exact r
  |succ i=>exact e i x y (by simpa using a) (by simpa using b)
def jc:aa->V
 |.ref a=>a
 |_=>0
def Wm(L:X.A.units+64<cH):io X (.builtin "sorted") (λA H Q=>∃(l:V)(c:List V)(d:Ξ),A=[.c l]/\bx X.K H l (c.map af.c)/\dA (MV H) c d/\d.length<64/\
  ∀(D:V)(t:List (List Int×V)),t.Perm (d.zip c)->t.Pairwise (λa b=>co b.1 a.1=ao)->H D=Z->Q (.c D) (av H D<|.a<|t.map λq=>af.c q.2)):=by
 intro pins s σ H A us Q I r h;obtain⟨l,c,d,rfl,M,C,P,q⟩:=h;obtain⟨u,rfl,R⟩:=gU r;cases R;obtain⟨S,E,T,G⟩:=I.B M;have k:=E.B;obtain rfl:=mQ E;rw[aA] at k G;have v:=hZ C;have w:∀h:aI,(∀b o,s.heap.get? b=U o->h.get? b=U o)->∀(i:Nat) u l,(c.map Y)[i]?=U u->d[i]?=U l->nI h u l:=λh x i u l f h2=>by
  rw[cm] at f;cases e:c[i]? with
  |none=>rw[e] at f;simp at f
  |some a=>
   rw[e] at f;obtain rfl:=ca f;exact Uy x<|Lo I<|qM C i a l e h2
 refine JJ (ls:=d) (good:=λh=>∀b o,s.heap.get? b=U o->h.get? b=U o) T.isList (JQ (by rw[aA];exact v) (LU L) (s.heap,λ_ _ e=>e) w) (λh' x=>x) (by rw[aA];exact G) (by rw[aA];exact à (ï (å v)) P) λg y=>?_;obtain⟨n,m,y,hs⟩:=y;have z:∀p∈n,p.2=Y (jc p.2):=λp j=>by
  have:=(vZ (m.mem_iff.mp j:(adc p.1 p.2)∈d.zip (c.map Y))).2;obtain⟨a,_,e⟩:=bq.mp this;rw[<-e];rfl
 have K:(n.map λp=>(adc p.1 (jc p.2))).Perm (d.zip c):=by
  have f:=m.map (λp:List Int×aa=>(adc p.1 (jc p.2)));have e:(d.zip<|c.map Y).map (λp:List Int×aa=>(adc p.1 (jc p.2)))=d.zip c:=by
   rw[agu,bY];exact(gC λp _=>O).trans<|wb _
  rw[e] at f;exact f
 obtain⟨e,he⟩:=sortedAll_at s.heap (c.map Y) g;have ex:g.toList=((n.map λp=>(adc p.1 (jc p.2))).map λq=>Y q.2):=by
  rw[y,bY];exact gC λp j=>z p j
 refine(.c<|s⁻¹+1,_,I.F (t':=s.toks) (λ_ _=>sortedAll_old) (lY _)<|show db X.prog X.w _ _ _ (.a<|(n.map λp=>(adc p.1 (jc p.2))).map λq=>af.c q.2) from(?_,g.toList,e,?_,?_),O,q _ _ K ?_<|I.b.B<|lY _)
 ·rw[aA,K.length_eq,ur];omega
 ·rw[ex]
  exact zH (λq:List Int×V=>q.2) _
 ·simpa using he
 ·rw[jN];exact hs
def KJ(c:ac->V->List Int->Prop)(d:V->List Int->List af):ia:=λe H Q _=>∃a b,e=[.c a]/\c H a b/\∀p,H p=Z->Q (.c p) (av H p<|.b<|d a b)
def zw:ia:=λc H Q _=>∃a b,c=[.c a]/\cG H a b/\∀p,H p=Z->Q (.c p) (av H p<|.b [.d b.length,.c a])
def Ew{a c:Type}{R:a->c->Prop}{l:List a}{m:List c}{i:Nat}{x:a}(h:dA R l m)(e:l[i]?=U x):∃y,m[i]?=U y/\R x y:=by
 have b:=(cE.mp e).1;rw[hZ h] at b;exact(m[i],cw b,qM h i _ _ e<|cw b)
def oV(h:fQ X pins H b):∀c∈[b],fQ X pins H c:=λc a=>by rw[fu.mp a];exact h
def wO{a:ac}(f:fQ X pins H b)(c:a b=Z):fQ X pins a b:=(c,f.2)
def qR(I:aw X pins σ H s)(f:fQ X pins H b):b∉iP X.c:=λa=>by
 rcases ci.mp (I.A8 b a) with e|e
 ·exact f.2.1 e
 ·exact f.2.2.1 e
def KL{At:ac->V->List Int->Prop}{Kf:V->List Int->List af}{Is:aI->aa->List Int->Prop}{rk un:List Int->List Int}(b2:∀{H H':ac}{a:V}{n:List Int},aQ H H'->At H a n->At H' a n)(a4:∀n,un (rk n)=n)(c5:∀{pins:Ψ}{σ:aM}{H:ac}{s:ai}{p a:V}{n:List Int},aw X pins σ H s->At H a n->H p=U (.b<|Kf a n)->Is s.heap (.ref p) (rk n))(c6:∀(A:bg)(E:aI->Prop)(us:List aa)(ls:Ξ),us.length=ls.length->A.units<cH->(∃h,E h)->(∀h,E h->∀(i:Nat) u l,us[i]?=U u->ls[i]?=U l->Is h u l)->oC X.prog X.w A E us ls){k:Nat}{t:List V}{x:al}{Q:Ω}(F:bD X.prog X.w X.K X.mg X.base aX k f fd [x] (KJ At Kf))(hr:eJ (k+2) X.A)(T:eT X.K fd [x] [])(I:aw X pins σ H s)(hl:bx X.K H l (t.map af.c))(ht:dA (At H) t w)(e8:w.length<64)(h:∀D H'(qs:List (List Int×V)) y,aw X pins σ H' y->aQ H H'->H D=Z->H' D=U (.a<|qs.map λq=>af.c q.2)->qs.Perm (w.zip t)->
   qs.Pairwise (λa b=>co (rk b.1) (rk a.1)=ao)->Q (.ref D) y):
  am (aE X.prog X.w) X.A (gv (.builtin "sorted") [.ref l] [(adc (iu "key") (.ref f))]) Q X.a s:=by
 have hu:X.A.units+64<cH:=hr.units;obtain⟨e9,r1,p1,hz⟩:=I.B hl;have b3:=r1.B;obtain rfl:=mQ r1;have c7:=hZ ht;rw[aA] at b3 hz;have K:(t.map Y).length<=bG:=by rw[aA];exact hz
 generalize a5:t.map Y=g at p1 K;have b4:g.length=t.length:=by rw[<-a5,aA]
 refine af9 IN II IQ (ksk_s1 _ _) ?_;unfold Builtin.«sorted»;refine ag (m:=HL "sorted" 1 1 _)<|aC ?_;refine ag<|Ri p1.isList ?_ K;refine ag<|tK ?_ K;have a6:((s.heap.push<|bE "list" #[] 0).update s⁻¹ (b_ (·++g.toArray))).objs.size=s⁻¹+1:=by
  rw[lA,uh]
 have C:(((s.heap.push<|bE "list" #[] 0).update s⁻¹ (b_ (·++g.toArray))).push<|bE "list" g.toArray 0).get? (s⁻¹+1)=U (bE "list" g.toArray 0):=by
  rw[<-a6];exact dv _ O
 have a3:∀b o,s.heap.get? b=U o->(((s.heap.push<|bE "list" #[] 0).update s⁻¹ (b_ (·++g.toArray))).push<|bE "list" g.toArray 0).get? b=U o:=λb o q=>by
  have a7:b<s⁻¹:=bT q;rw[tZ _ _ _ (by rw[a6];exact ck<|jM a7),yu _ _ _ _<|ck a7,tZ _ _ _<|ck a7];exact q
 show am _ _ _ _ _ {s with heap:=((s.heap.push<|bE "list" #[] 0).update s⁻¹ (b_ (·++g.toArray))).push<|bE "list" g.toArray 0};rw[a6];generalize hA:((s.heap.push<|bE "list" #[] 0).update s⁻¹ (b_ (·++g.toArray))).push (bE "list" g.toArray 0)=d at C a3 ⊢;have I1:aw X pins σ H {s with heap:=d}:=I.W (t':=s.toks) a3;have L:fQ X pins H (s⁻¹+1):=I.A0 (lY _)<|I.b.B<|lY _;generalize hD:s⁻¹+1=D at C L ⊢;have e6:D<d.objs.size:=bT C;refine ag<|fz<|afz IG (_,C,O) IR ?body<|ksk_l1 _ _
 case body=>
  show am (aE X.prog X.w) X.A.in1.in1 (Builtin.«list.sort» ([.ref D],[(adc (iu "key") (.ref f))])) _ _ _;rw[ksk_t1];unfold ksk_tree;refine ag<|Df C O ?_;refine ag<|ui C O ?_ (by rw[cz];exact K)<|dZ _;obtain⟨e1,b5⟩:∃e1,(d.update D<|b_ λ_=>(#[]:Array aa)).get? D=U (bE "list" #[] e1):=(_,rW C λ_=>#[]);refine ag<|Db b5 O ?_;refine ag<|BX ?_ (by show g.length<=_;exact K);refine ag<|tK ?_<|dZ _;refine fz ?_;have I2:aw X pins σ H {s with heap:=d.update D<|b_ λ_=>(#[]:Array aa)}:=
   aw.A1 (s:={s with heap:=d}) (t':=s.toks) (ch:=[D]) I1 (oV L) λb o T q=>by rw[yu _ _ _ _ (λz=>T (by simp[z]))];exact q
  have I3:aw X pins σ H {s with heap:=((d.update D<|b_ λ_=>(#[]:Array aa)).push<|bE "tuple" g.toArray 0)}:=I2.W (t':=s.toks) λb u q=>bJ _ q;have a1:fQ X pins H ((d.update D<|b_ λ_=>(#[]:Array aa)).push<|bE "tuple" g.toArray 0).objs.size:=I3.A0 (bc _)<|I3.b.B<|bc _;have b6:((d.update D<|b_ λ_=>(#[]:Array aa)).push<|bE "tuple" g.toArray 0).objs.size≠D:=by
   rw[uh,lA];exact ö (í e6)
  have I4:aw X pins σ H {s with heap:=(((d.update D<|b_ λ_=>(#[]:Array aa)).push<|bE "tuple" g.toArray 0).push<|bE "list" #[] 0)}:=I3.W (t':=s.toks) λb u q=>bJ _ q;have c8:(((d.update D<|b_ λ_=>(#[]:Array aa)).push<|bE "tuple" g.toArray 0).push<|bE "list" #[] 0).get? ((d.update D<|b_ λ_=>(#[]:Array aa)).push<|bE "tuple" g.toArray 0).objs.size=U (bE "list" #[] 0):=dv _ O;have c9:(((d.update D<|b_ λ_=>(#[]:Array aa)).push<|bE "tuple" g.toArray 0).push<|bE "list" #[] 0).get? D=U (bE "list" #[] e1):=bJ _<|bJ _ b5;show am (aE X.prog X.w) X.A.in1.in1 (IM D (.ref f) ao g.toArray e1<|.ref ((d.update D<|b_ λ_=>(#[]:Array aa)).push<|bE "tuple" g.toArray 0).objs.size) _ _ {s with heap:=((d.update D<|b_ λ_=>(#[]:Array aa)).push<|bE "tuple" g.toArray 0).push<|bE "list" #[] 0};generalize ((d.update D<|b_ λ_=>(#[]:Array aa)).push<|bE "tuple" g.toArray 0).objs.size=kS at *;generalize ((d.update D<|b_ λ_=>(#[]:Array aa)).push<|bE "tuple" g.toArray 0).push (bE "list" #[] 0)=f6 at *;unfold IM;refine ag<|nU ?_
  first
   |rw[ahe]
   |(rw[<-Array.forIn_toList];simp only[List.toList_toArray])
  refine ag (ksk_fold (λi y=>∃G kA e M,aw X pins σ G y/\aQ H G/\G D=Z/\G kS=Z/\y.heap.get? kS=U (bE "list" kA e)/\y.heap.get? D=U (bE "list" #[] e1)/\kA.toList=M.map Y/\M.length=i/\
    ∀(j:Nat) p,M[j]?=U p->∃a n,t[j]?=U a/\w[j]?=U n/\G p=U (.b<|Kf a n)) g 0 _
   (H,#[],0,[],I4,aQ.A3 H,L.1,a1.1,c8,c9,O,O,λj p e=>by simp at e) ?step ?done)
  case step=>
   rintro j v y hv ⟨G,kA,e,M,Ik,sk,P,a0,nk,na,a2,hj,a8⟩;simp only[rY] at hj ⊢;have d0:j<t.length:=by rw[<-b4];exact(cE.mp hv).1
   have ea:t[j]?=U t[j]:=cw d0;obtain⟨n,d1,d2⟩:=Ew ht ea;have ev:v=.ref t[j]:=by
    rw[<-a5,cm,ea] at hv;exact(ca hv).symm
   subst ev;refine ag (pv (pu (ka (F.a X.A.in1.in1 X.c y G ([.ref t[j]],[]) [.ref t[j]] [.c t[j]] (λv H'=>∃p,v=.c p/\G p=Z/\H'=av G p (.b<|Kf t[j] n)) oY
    (eJ.B<|eJ.B hr) Ik.B3.B.B (T y [.ref t[j]] Ik.A2 O) (.cons O .nil) (t[j],n,O,b2 sk d2,λp hp=>(p,O,hp,O))) λr R hq=>?_)))
   cases r with
   |error e=>exact dm hq
   |ok fl=>
    cases fl with
    |next=>exact dm hq
    |brk=>exact dm hq
    |cont=>exact dm hq
    |ret u=>
     obtain⟨v,H',os,b7,un,d3,ru,p,rfl,hp,rfl⟩:=hq;cases ru;have I5:aw X pins σ (av G p<|.b<|Kf t[j] n) R:=Ik.A6 os un d3 b7 (λb z=>nomatch z);have fD:=wO L P;have fK:=wO a1 a0;have d4:=un.a D _ na P (qR Ik fD) (by simp);have b8:=un.a kS _ nk a0 (qR Ik fK) (by simp);have d5:=un.c D _ na P (by simp);have b9:=un.c kS _ nk a0 (by simp)
     try dsimp only
     have f7:kA.size=j:=by rw[<-i_,a2,aA,hj]
     obtain⟨c2,d6⟩:∃c2,(R.heap.update kS (b_ (·.push<|.ref p))).get? kS=U (bE "list" (kA.push<|.ref p) c2):=(_,rW b8 (·.push<|.ref p));have s1:=jl R.heap kS (b_ (·.push<|.ref p));have d7:=wO a1 b9;have I6:aw X pins σ (av G p<|.b<|Kf t[j] n) {R with heap:=R.heap.update kS (b_ (·.push<|.ref p))}:=
      I5.A1 (t':=R.toks) (ch:=[kS]) (oV d7) λb o T q=>(s1.2 b (λz=>T (by simp[z]))).trans q
     refine ag<|ui b8 O ?_ (à (à (å f7) (ì d0)) hz)<|dE (yG<|DD ..) (í (à (à (ï (å f7)) d0) hz));refine aC (O,_,kA.push<|.ref p,c2,M++[p],I6,sk.A0 (by exact sk.A2 hp),d5,b9,d6,(s1.2 D b6.symm).trans d4,by rw[Jy,a2,cv];rfl,by rw[dz,hj];rfl,λi p' e'=>?_)
     by_cases hi:i<M.length
     ·rw[yP hi] at e'
      obtain⟨a,c0,x1,x2,x3⟩:=a8 i p' e';exact(a,c0,x1,x2,by rw[a_<|dH x3 hp];exact x3)
     ·rw[yO (ô hi)] at e'
      have h0:i-M.length=0:=by
       rcases agr (i-M.length) with z|z
       ·exact z
       ·rw[nC (by simp only[dP,nB];exact z)] at e';cases e'
      rw[h0] at e';obtain rfl:p=p':=by simpa using e'
      have d8:i=j:=ω
      subst d8;exact(_,n,ea,d1,aD)
  case done=>
   rintro y ⟨G,kA,e,M,Ik,sk,P,a0,nk,na,a2,hj,a8⟩;simp only[rY] at hj
   try dsimp only
   refine ag<|Df nk O ?_;unfold ksk_end
   try dsimp only
   simp only[dc,cM];have d9:kA=(M.map Y).toArray:=by rw[<-a2,aia]
   subst d9;have e0:∀(i:Nat) u l,(M.map Y)[i]?=U u->(w.map rk)[i]?=U l->Is y.heap u l:=λi u l S h2=>by
    rw[cm] at S h2;cases ek:M[i]? with
    |none=>rw[ek] at S;simp at S
    |some p=>
     obtain⟨a,n,x1,x2,x3⟩:=a8 i p ek;rw[ek] at S;rw[x2] at h2;obtain rfl:=ca S;obtain rfl:=ca h2;obtain⟨c0,y1,y2⟩:=Ew ht x1;rw[x2] at y1;obtain rfl:=ca y1;exact c5 Ik (b2 sk y2) x3
   refine JK (us:=M.map Y) (vs:=g) (ls:=w.map rk) (good:=λh=>h=y.heap) (c6 _ _ _ _ (by rw[aA,aA,hj,b4];exact c7) (LU hu) (_,O) (by rintro h rfl;exact e0)) (by rw[aA,hj]) (à (à (ï (å b4)) (ï (å c7))) e8) O λf8 ho e3 hf=>?_;refine JI (ls:=w.map rk) (vs:=g) nk na b6 (by rw[cz,aA];exact à (å hj) K) ho e3 K hf λh' a9 c kk e4 f9 c1 e7=>(_,O,?_);refine aC (_,O,?_);obtain⟨n,c3,c4,hs⟩:=c1;subst a5;have I7:aw X pins σ G {y with heap:=h'}:=Ik.A1 (t':=y.toks) (ch:=[kS,D]) (λb T=>by
     simp only[ci,on,nE] at T;rcases T with rfl|rfl
     ·exact wO a1 a0
     ·exact wO L P) λb o T q=>kk b o (λz=>T (by simp[z])) (λz=>T (by simp[z])) q
   have b0:∀p∈n,∃a qs,p.2=Y a/\p.1=rk qs:=λp b1=>by
    obtain⟨S,h2⟩:=vZ (c3.mem_iff.mp b1:(adc p.1 p.2)∈_);obtain⟨a,_,ea⟩:=bq.mp h2;obtain⟨qs,_,eq⟩:=bq.mp S;exact(a,qs,ea.symm,eq.symm)
   have pm:(n.map λp=>(adc (un p.1) (jc p.2))).Perm (w.zip t):=by
    have S:=c3.map (λp:List Int×aa=>(adc (un p.1) (jc p.2)));have e:((w.map rk).zip<|t.map Y).map (λp:List Int×aa=>(adc (un p.1) (jc p.2)))=w.zip t:=by
     rw[List.zip_map,bY];exact(gC λp _=>by show(adc (un<|rk p.1) p.2)=p;rw[a4]).trans<|wb _
    rw[e] at S;exact S
   have ex:a9.toList=((n.map λp=>(adc (un p.1) (jc p.2))).map λq=>Y q.2):=by
    rw[c4,bY];refine gC λp b1=>?_;obtain⟨a,qs,e1,_⟩:=b0 p b1;show p.2=Y (jc p.2);rw[e1];rfl
   have vv:bW ((n.map λp=>(adc (un p.1) (jc p.2))).map λq=>af.c q.2) a9.toList:=by
    rw[ex];exact zH (λq:List Int×V=>q.2) _
   obtain⟨f0,f1,f2,f3,f4,f5⟩:=L;have e5:X.d⁻¹<=D:=by rw[<-hD];exact dE I.sz<|lY _
   have I8:aw X pins σ (av G D<|.a<|(n.map λp=>(adc (un p.1) (jc p.2))).map λq=>af.c q.2) {y with heap:=h'}:=by
    refine I7.C1 P e5 f1 f4 f5 (?_,a9.toList,c,vv,?_)
    ·rw[aA,pm.length_eq,ur];omega
    ·simpa using e4
   refine h D _ _ _ I8 (sk.A0 f0) f0 aD pm ?_;rw[jN];refine hs.imp_of_mem λ{p q} S h2 h3=>?_;obtain⟨_,qs,_,e1⟩:=b0 p S;obtain⟨_,g0,_,e2⟩:=b0 q h2;rw[e1,e2] at h3;show co (rk<|un q.1) (rk<|un p.1)=ao;rw[e1,e2,a4,a4];exact h3
def Ue{k:Nat}{j:List V}{x:al}{Q:Ω}(F:bD X.prog X.w X.K X.mg X.base aX k f p [x] zw)(t:eJ (k+2) X.A)(u:eT X.K p [x] [])(I:aw X pins σ H s)(v:bx X.K H l (j.map af.c))(w:aW H j g)(m:g.length<64)(h:∀D n(o:List (List Int×V)) r,aw X pins σ n r->aQ H n->H D=Z->n D=U (.a<|o.map λq=>af.c q.2)->o.Perm (g.zip j)->
   o.Pairwise (λa b=>co ((b.1.length:Int)::b.1) ((a.1.length:Int)::a.1)=ao)->Q (.ref D) r):
  am (aE X.prog X.w) X.A (gv (.builtin "sorted") [.ref l] [(adc (iu "key") (.ref f))]) Q X.a s:=
 KL (At:=cG) (Kf:=λa i=>[.d i.length,.c a]) (Is:=nI) (rk:=λi=>(i.length:Int)::i) (un:=yJ) (λs h=>s.N h) (λ_=>O) (λI h e=>Lo I (_,_,_,O,e,h)) (λ_ _ _ _ a b c d=>JQ a b c d) F t u I v w m h
end
section
variable{X:aK}{a:bf}{ta:ff}{p p2 pos kpos:bR}{k:Nat}{f:V}{fd:cr}{x y:al}
def TK(K:aH)(ta:ff):bb:=λh H Q=>ta h H λi d=>∃(l:V)(e:List V)(c:Ξ),i=[.c l]/\bx K d l (e.map af.c)/\aW d e c/\c.length<64/\
 ∀D f(g:List (List Int×V)),aQ d f->d D=Z->f D=U (.a<|g.map λq=>af.c q.2)->g.Perm (c.zip e)->g.Pairwise (λa b=>co ((b.1.length:Int)::b.1) ((a.1.length:Int)::a.1)=ao)->Q (.c D) f
def UG(F:bD X.prog X.w X.K X.mg X.base aX k f fd [x] zw)(o:eJ (k+2) X.A)(r:eT X.K fd [x] [])(t:iH X "sorted")(v:X.mg "sorted"=Z)(w:ig "sorted"=U (.builtin "sorted"))(c:iH X y)(d:X.mg y=U (.ref f))(z:je X [a] ta)(e:(y==("__debug__":al))=ao:=by decide)(j:eM [a] X.env=[(adc ao (dO a X.env))]:=by rfl):bA X (.Call (.Name "sorted" p) [a] [(U "key",.Name y p2,kpos)] pos) (TK X.K ta):=by
 intro b s A H Q I h;refine tO<|oQ I t v w ?_;refine IT ?_ (by rw[j];rfl) (by rw[j];rfl) O O;refine bI (z pos b s A H _ I h) λus C (vs,H1,m,E,G)=>?_;obtain⟨l,as,K,rfl,L,M,g,q⟩:=G;obtain⟨u,rfl,P⟩:=gU E;cases P;refine IL<|uO m c d (IK ?_) e;show am (aE X.prog X.w) X.A (gv (.builtin "sorted") [.ref l] [(adc (iu "key") (.ref f))]) _ _ C;exact Ue F o r m L M g λD n R s' S T hD i hp hs=>(.c D,n,S,O,q D n R T hD i hp hs)
end
section
open PySem.SetTable
def sy(c:Array Nat):Prop:=∀(i j a b:Nat),c[i]?=U a->c[j]?=U b->i<j->a<b
def sy.B(h:sy b){i j a:Nat}(c:b[i]?=U a)(d:b[j]?=U a):i=j:=by
 rcases Dj i j with q|q|q
 ·exact aZ (h i j a a c d q)<|oj _
 ·exact q
 ·exact aZ (h j i a a d c q)<|oj _
def DU{j:Nat}(k:sy f):∀(b c d:Nat),d-c<=b->c<=d->d<=f.size->(∀i a,f[i]?=U a->i<c->a<j)->(∀i a,f[i]?=U a->d<=i->j<=a)->
  yp f j b c d<=f.size/\(∀i a,f[i]?=U a->i<yp f j b c d->a<j)/\(∀i a,f[i]?=U a->yp f j b c d<=i->j<=a)
 |0,c,d,t,u,l,m,n=>by
  have e:c=d:=ω
  subst e;exact(l,m,n)
 |b+1,c,d,t,u,l,m,n=>by
  have r:yp f j (b+1) c d=if c<d then(if f.getD ((c+d) / 2) j<j then yp f j b ((c+d) / 2+1) d else yp f j b c ((c+d) / 2)) else c:=O;rw[r]
  by_cases h:c<d
  ·rw[aB h]
   have s:(c+d) / 2<f.size:=ω
   have o:f[(c+d) / 2]?=U f[(c+d) / 2]:=kP f _ s;have v:f.getD ((c+d) / 2) j=f[(c+d) / 2]:=by simp[aih,s]
   rw[v]
   by_cases p:f[(c+d) / 2]<j
   ·rw[aB p]
    refine DU k b _ _ ω ω l (λi a e g=>?_) n;rcases Rr (qu.mp g) with q|q
    ·exact rZ (k _ _ _ _ e o q) p
    ·subst q;rw[o] at e;cases e;exact p
   ·rw[au p]
    refine DU k b _ _ ω ω (ì s) m (λi a e g=>?_);rcases Rr g with q|q
    ·have:=k _ _ _ _ o e q
     exact à (ô p) (ì this)
    ·subst q;rw[o] at e;cases e;exact ô p
  ·rw[au h]
   have e:c=d:=(û u (ô h))
   subst e;exact(l,m,n)
def D_(c:sy b)(j:Nat):gN b j<=b.size/\(∀i a,b[i]?=U a->i<gN b j->a<j)/\(∀i a,b[i]?=U a->gN b j<=i->j<=a):=
 DU c b.size 0 b.size ω ú (bc _) (λ_ _ _ h=>aZ h<|yE _) (λi a e h=>by have:=(qB.mp e).1;omega)
def Tf(b:sy a){i j:Nat}(e:a[i]?=U j):gN a j=i:=by
 obtain⟨h,d,f⟩:=D_ b j;rcases Dj (gN a j) i with q|q|q
 ·have g:gN a j<a.size:=rZ q (qB.mp e).1
  have c:=kP a (gN a j) g;have k:=f _ _ c<|bc _;have l:=b _ _ _ _ c e q;omega
 ·exact q
 ·exact aZ (d i j e q)<|oj _
def mP{c:Type}(a:Array c)(p:Nat)(j:c)(g:p<=a.size)(i:Nat):(eY a p j)[i]?=if i<p then a[i]? else if i=p then U j else a[i-1]?:=by
 unfold eY;have f:((a.extract 0 p).push j).size=p+1:=by rw[DD,DE];omega
 by_cases b:i<p
 ·rw[aB b,aig (à b (ì (æ f))),Array.getElem?_push_lt (by rw[DE];omega)]
  simp[Array.getElem_extract,b]
 ·rw[au b]
  by_cases d:i=p
  ·subst d
   rw[aB O,aig (æ f)];have e:(a.extract 0 i).size=i:=by rw[DE];omega
   have:=Array.getElem?_push_size (xs:=a.extract 0 i) (x:=j);rw[e] at this;exact this
  ·rw[au d,Array.getElem?_append_right (à (å f) (ÿ (ô b) d)),f,Array.getElem?_extract]
   by_cases h:i-(p+1)<a.size-p
   ·rw[aB ω]
    congr 1
    omega
   ·rw[au ω]
    exact(RM ω).symm
def wA{b:Type}(a:Array b)(p:Nat)(x:b)(c:p<=a.size):(eY a p x).size=a.size+1:=by
 unfold eY;rw[Array.size_append,DD,DE,DE];omega
def SN{e:Array Nat}(f:sy e){j:Nat}(n:∀i:Nat,e[i]?≠U j):sy (eY e (gN e j) j):=by
 obtain⟨o,p,r⟩:=D_ f j;intro a b x y d c g;rw[mP _ _ _ o] at d c
 by_cases h:a<gN e j
 ·rw[aB h] at d
  by_cases k:b<gN e j
  ·rw[aB k] at c;exact f _ _ _ _ d c g
  ·rw[au k] at c
   by_cases l:b=gN e j
   ·rw[aB l] at c;cases c;exact p _ _ d h
   ·rw[au l] at c;exact f _ _ _ _ d c ω
 ·rw[au h] at d
  rw[au (ù (à (ô h) (ì g)))] at c
  by_cases m:a=gN e j
  ·rw[aB m] at d;cases d
   rw[au (ö (à (ï (ô h)) g))] at c;have:=r _ _ c ω;rcases Rr this with q|q
   ·exact q
   ·subst q;exact aZ c<|n _
  ·rw[au m] at d
   rw[au (ö (à (ï (ô h)) g))] at c;exact f _ _ _ _ d c ω
def mh(a:Nat)(p:CL):CL:=
 if p.more>0 then {p with j:=p.j+1,more:=p.more-1} else
 {p with j:=(rO a p.i p.perturb).1,more:=fT a (rO a p.i p.perturb).1-(rO a p.i p.perturb).1,i:=(rO a p.i p.perturb).1,perturb:=(rO a p.i p.perturb).2}
def SS(a:Nat)(h:Int):CL:={j:=kI h%(a+1),more:=fT a (kI h%(a+1))-kI h%(a+1),i:=kI h%(a+1),perturb:=kI h,dummy:=Z}
def cF(a:Nat)(h:Int):Nat->CL
 |0=>SS a h
 |n+1=>mh a (cF a h n)
def bU(a:Nat)(h:Int)(n:Nat):Nat:=(cF a h n).j
def Kd(a:Nat)(h:Int):∀n,(cF a h n).dummy=Z
 |0=>O
 |n+1=>by
  show(mh a<|cF a h n).dummy=Z;unfold mh;split<;>exact Kd a h n
def bM(a:Nat)(h:Int):Nat->Nat×Nat
 |0=>(kI h%(a+1),kI h)
 |r+1=>rO a (bM a h r).1 (bM a h r).2
def Sz(a i:Nat):fT a i-i<=9:=by unfold fT;split<;>omega
def zb(a:Nat)(h:Int){n r:Nat}(e:cF a h n={j:=(bM a h r).1,more:=fT a (bM a h r).1-(bM a h r).1,i:=(bM a h r).1,perturb:=(bM a h r).2,dummy:=Z}):∀k,k<=fT a (bM a h r).1-(bM a h r).1->cF a h (n+k)={j:=(bM a h r).1+k,more:=fT a (bM a h r).1-(bM a h r).1-k,i:=(bM a h r).1,perturb:=(bM a h r).2,dummy:=Z}
 |0,_=>e
 |k+1,c=>by
  have b:=zb a h e k (ì c);show mh a (cF a h<|n+k)=_;rw[b];unfold mh;rw[aB (by show fT a (bM a h r).1-(bM a h r).1-k>0;omega)]
  congr 1
def Kb(a:Nat)(h:Int):∀r,∃n,n<=10*r/\cF a h n={j:=(bM a h r).1,more:=fT a (bM a h r).1-(bM a h r).1,i:=(bM a h r).1,perturb:=(bM a h r).2,dummy:=Z}
 |0=>(0,bc _,O)
 |r+1=>by
  obtain⟨n,b,e⟩:=Kb a h r;have c:=Sz a (bM a h r).1;refine(n+(fT a (bM a h r).1-(bM a h r).1)+1,ω,?_);show mh a (cF a h<|n+(fT a (bM a h r).1-(bM a h r).1))=_;rw[zb a h e _<|bc _];unfold mh;rw[au (by show ¬(fT a (bM a h r).1-(bM a h r).1-(fT a (bM a h r).1-(bM a h r).1)>0);omega)]
  rfl
def Te(h:Int):kI h<2 ^ 64:=by
 unfold kI;have a:(0:Int)<=h%(2 ^ 64:Int):=uw _ ξ;have b:h%(2 ^ 64:Int)<2 ^ 64:=ux _ ξ;omega
def Ki(a:Nat)(h:Int):∀r,(bM a h r).2=kI h / 32 ^ r
 |0=>by simp[bM]
 |r+1=>by
  show(bM a h r).2 / 32=_;rw[Ki a h r,Nat.div_div_eq_div_mul,agl]
def SJ(a:Nat)(h:Int){r:Nat}(b:13<=r):(bM a h r).2=0:=by
 rw[Ki];have c:=Te h;have d:32 ^ 13<=32 ^ r:=Rn ξ b;exact Nat.div_eq_of_lt<|fB c<|dE ξ d
def Kj(a:Nat)(h:Int):∀r,(bM a h r).1<=a
 |0=>qu.mp (Di _<|IV _)
 |r+1=>qu.mp (Di _<|IV _)
def nJ(a x:Nat):Nat:=(x*5+1)%(a+1)
def lJ(a:Nat):Nat->Nat->Nat
 |0,x=>x
 |k+1,x=>nJ a (lJ a k x)
def DS(a:Nat)(h:Int):∀k,(bM a h<|13+k).1=lJ a k (bM a h 13).1
 |0=>O
 |k+1=>by
  show((bM a h<|13+k).1*5+1+(bM a h<|13+k).2 / 32)%(a+1)=nJ a (lJ a k (bM a h 13).1);rw[SJ a h ü,DS a h k]
  rfl
def jR(a:Nat):Prop:=∀i s,i<=a->s<=a->∃k,k<=a/\lJ a k i=s
def uF(a:Nat):Nat->Nat->List Nat
 |0,_=>[]
 |n+1,x=>x::uF a n (nJ a x)
def Kg(a:Nat):∀(n x k:Nat),k<n->(uF a n x)[k]?=U (lJ a k x)
 |0,_,_,h=>aZ h (yE _)
 |n+1,x,0,_=>O
 |n+1,x,k+1,h=>by
  have b:=Kg a n (nJ a x) k (ò h);show(uF a n<|nJ a x)[k]?=_;rw[b]
  congr 1
  have c:∀k x,lJ a k (nJ a x)=nJ a (lJ a k x):=by
   intro k
   induction k with
   |zero=>intro x;rfl
   |succ k b=>intro x;show nJ a (lJ a k<|nJ a x)=_;rw[b];rfl
  exact c k x
def DQ(a:Nat):∀n x,(uF a n x).length=n
 |0,_=>O
 |n+1,x=>by show(uF a n<|nJ a x).length+1=_;rw[DQ a n]
def zf(c:Nat):∀(a b x:Nat),lJ c (a+b) x=lJ c a (lJ c b x)
 |0,b,x=>by rw[rY];rfl
 |a+1,b,x=>by
  rw[Nat.add_right_comm];show nJ c (lJ c (a+b) x)=_;rw[zf c a b x]
  rfl
def uG{c:Nat}(h:((dk<|c+1).all λs=>(uF c (c+1) 0).contains s)=ae)(n:lJ c (c+1) 0=0):jR c:=by
 have d:∀s,s<=c->∃k,k<=c/\lJ c k 0=s:=λs g=>by
  have o:=kN.mp h s<|h_.mpr (ï g);obtain⟨k,f,e⟩:=um.mp<|List.contains_iff_mem.mp o;rw[DQ] at f;refine(k,(ò f),?_);have j:=Kg c (c+1) 0 k f;rw[cw (by rw[DQ];exact f),e] at j;exact(ca j).symm
 intro i s p g;obtain⟨a,r,l⟩:=d i p;obtain⟨b,t,m⟩:=d s g;rcases oh b a with q|q
 ·refine(c+1-a+b,ω,?_)
  rw[<-l,<-zf,show c+1-a+b+a=b+(c+1) from ω,zf,n,m]
 ·refine(b-a,ω,?_)
  rw[<-l,<-zf,show b-a+a=b from ω,m]
def S_:jR 7:=uG δ δ
def DY:jR 31:=uG δ δ
def Ta:jR 15:=uG δ δ
def Kq:jR 63:=uG δ δ
def S':jR 255:=uG δ δ
def DZ:jR 127:=uG δ δ
def SC(b:jR a)(h:Int){x:Nat}(c:x<=a):∃n,n<10*lw a/\bU a h n=x:=by
 obtain⟨k,f,e⟩:=b (bM a h 13).1 x (Kj a h 13) c;obtain⟨n,g,d⟩:=Kb a h<|13+k;refine(n,by unfold lw;omega,?_);show(cF a h n).j=x;rw[d];show(bM a h<|13+k).1=x;rw[DS,e]
def DO(a:Nat)(h:Int)(n:Nat):bU a h n<=a:=by
 have b:∀n,(cF a h n).i<=a/\(cF a h n).j+(cF a h n).more<=a:=by
  intro n;have c:∀f,f<=a->f+(fT a f-f)<=a:=λf e=>by unfold fT;split<;>omega
  induction n with
  |zero=>
   have q:kI h%(a+1)<=a:=qu.mp<|Di _<|IV _;exact(q,c _ q)
  |succ n d=>
   show(mh a<|cF a h n).i<=a/\(mh a<|cF a h n).j+(mh a<|cF a h n).more<=a;unfold mh;split
   ·exact(d.1,by show(cF a h n).j+1+((cF a h n).more-1)<=a;omega)
   ·have q:(rO a (cF a h n).i (cF a h n).perturb).1<=a:=qu.mp<|Di _<|IV _
    exact(q,c _ q)
 have:=(b n).2;unfold bU;exact è this
end
section
open PySem.SetTable
structure gQ(t:gz)(hs:Array Int):Prop where
 c:sy t.place
 b:t.dummies=#[]
 a:t.place.size=hs.size
 l:∀(i j:Nat),t.place[i]?=U j->j<=t.mask
 f:jR t.mask
 e:t.mask%2=1
 g:hs.size<=t.mask
 d:∀(k j:Nat)(h:Int),hs[k]?=U h->t.place[k]?=U j->∃n,bU t.mask h n=j/\∀m,m<n->∃k':Nat,t.place[k']?=U (bU t.mask h m)
def jE(t:gz)(j:Nat):Prop:=∃i:Nat,t.place[i]?=U j
def jE.B(t:gz)(j:Nat):jE t j\/¬jE t j:=Classical.em _
section
variable{t:gz}{hs:Array Int}
def uE(T:gQ t hs){i j:Nat}(e:t.place[i]?=U j):t.slot j=.live i:=by
 show(if(t.place[gN t.place j]?==U j)=ae then tU (gN t.place j) else _)=_;rw[Tf T.c e,e,aB (by simp)]
def Sv(T:gQ t hs){j:Nat}(e:¬jE t j):t.slot j=.empty:=by
 show(if(t.place[gN t.place j]?==U j)=ae then tU (gN t.place j) else if has t.dummies j=ae then Ib else yq)=_;have a:¬(t.place[gN t.place j]?==U j)=ae:=by
  intro q;exact e (_,yU q)
 have b:has t.dummies j=ao:=by
  unfold has;rw[T.b]
  rfl
 rw[au a,b]
 rfl
def SP(T:gQ t hs):∃x,x<=t.mask/\¬jE t x:=by
 apply oy;intro d;have a:∀x,x<=t.mask->jE t x:=λx b=>oy λq=>d (x,b,q);have c:dk (t.mask+1) ⊆ t.place.toList:=λx b=>by
  obtain⟨i,e⟩:=a x<|qu.mp<|h_.mp b;rw[<-km] at e;exact dy e
 have:=(Dp (n:=t.mask+1)).length_le_of_subset c;rw[lZ,i_,T.a] at this;have:=T.g;omega
def DT{P:Nat->Prop}(n:Nat)(h:P n):∃m,m<=n/\P m/\∀k,k<m->¬P k:=by
 induction n using Nat.strongRecOn with
 |ind n c=>
  by_cases q:∃k,k<n/\P k
  ·obtain⟨k,a,b⟩:=q
   obtain⟨m,f,d,e⟩:=c k a b;exact(m,(à f (ì a)),d,e)
  ·exact(n,bc _,h,λk a b=>q (k,a,b))
def zh(T:gQ t hs)(h:Int):∃a,a<10*lw t.mask/\¬jE t (bU t.mask h a)/\∀m,m<a->jE t (bU t.mask h m):=by
 obtain⟨x,b,c⟩:=SP T;obtain⟨n,i,e⟩:=SC T.f h b;obtain⟨m,j,d,f⟩:=DT (P:=λm=>¬jE t (bU t.mask h m)) n (by rw[e];exact c);exact(m,(à (ï j) i),d,λk g=>oy λq=>f k g q)
def DV(T:gQ t hs){a:Nat->Int}:∀(d b n:Nat),(∀m,n<=m->m<n+d->∃i:Nat,t.place[i]?=U (bU t.mask h m)/\a i≠h)->tT t a h (b+d) (cF t.mask h n)=tT t a h b (cF t.mask h<|n+d)
 |0,b,n,_=>O
 |d+1,b,n,c=>by
  obtain⟨i,e,f⟩:=c n (bc _) ω;have g:t.slot (cF t.mask h n).j=.live i:=uE T e;have k:=DV T d b (n+1) (λm l o=>c m (ì l) ω);rw[show b+(d+1)=(b+d)+1 from (û ß ß),show n+(d+1)=n+1+d from ω,<-k];show(match t.slot (cF t.mask h n).j with
   |.empty=>U (yr (cF t.mask h n).j (cF t.mask h n).dummy)
   |.dummy=>tT t a h (b+d) (t.advance {(cF t.mask h n) with dummy:=U (cF t.mask h n).j})
   |.live i=>if a i==h then U (Ie (cF t.mask h n).j i<|t.advance<|cF t.mask h n) else tT t a h (b+d) (t.advance<|cF t.mask h n))=_
  rw[g];dsimp only;rw[au (by simpa using f)]
  rfl
def DN(T:gQ t hs){hashAt:Nat->Int}{g n:Nat}(w:g<10*lw t.mask)(x:¬jE t (bU t.mask h g))(s:∀m,m<g->jE t (bU t.mask h m))(C:n<=g):(t.probe hashAt h (cF t.mask h n)=U (.empty (bU t.mask h g) Z)/\∀m i,n<=m->m<g->t.place[i]?=U (bU t.mask h m)->hashAt i≠h) \/
  ∃(E i:Nat),n<=E/\E<g/\t.place[i]?=U (bU t.mask h E)/\hashAt i=h/\t.probe hashAt h (cF t.mask h n)=U (.candidate (bU t.mask h E) i<|cF t.mask h<|E+1)/\∀m k,n<=m->m<E->t.place[k]?=U (bU t.mask h m)->hashAt k≠h:=by
 by_cases q:∃E,n<=E/\E<g/\∃i:Nat,t.place[i]?=U (bU t.mask h E)/\hashAt i=h
 ·right
  obtain⟨p,o⟩:=q;obtain⟨E,D,⟨y,z,i,u,v⟩,A⟩:=DT (P:=λE=>n<=E/\E<g/\∃i:Nat,t.place[i]?=U (bU t.mask h E)/\hashAt i=h) p o;have l:∀m k,n<=m->m<E->t.place[k]?=U (bU t.mask h m)->hashAt k≠h:=λm k a b c d=>A m b (a,(à b (ì z)),k,c,d);refine(E,i,y,z,u,v,?_,l);obtain⟨f,r⟩:∃f,10*lw t.mask=(f+1)+(E-n):=(10*lw t.mask-(E-n)-1,ω);unfold aec;rw[r,DV T (E-n) (f+1) n (λm a b=>?_),show n+(E-n)=E from ω]
  ·show(match t.slot (cF t.mask h E).j with
    |.empty=>U (yr (cF t.mask h E).j (cF t.mask h E).dummy)
    |.dummy=>tT t hashAt h f (t.advance {(cF t.mask h E) with dummy:=U (cF t.mask h E).j})
    |.live i=>if hashAt i==h then U (Ie (cF t.mask h E).j i<|t.advance<|cF t.mask h E) else tT t hashAt h f (t.advance<|cF t.mask h E))=_
   rw[show t.slot (cF t.mask h E).j=.live i from uE T u];dsimp only;rw[aB (by simpa using v)]
   rfl
  ·obtain⟨k,e⟩:=s m ω
   exact(k,e,l m k a ω e)
 ·left
  have l:∀m i,n<=m->m<g->t.place[i]?=U (bU t.mask h m)->hashAt i≠h:=λm i a b c d=>q (m,a,b,i,c,d);refine(?_,l);obtain⟨f,r⟩:∃f,10*lw t.mask=(f+1)+(g-n):=(10*lw t.mask-(g-n)-1,ω);unfold aec;rw[r,DV T (g-n) (f+1) n (λm a b=>?_),show n+(g-n)=g from ω]
  ·show(match t.slot (cF t.mask h g).j with
    |.empty=>U (yr (cF t.mask h g).j (cF t.mask h g).dummy)
    |.dummy=>tT t hashAt h f (t.advance {(cF t.mask h g) with dummy:=U (cF t.mask h g).j})
    |.live i=>if hashAt i==h then U (Ie (cF t.mask h g).j i<|t.advance<|cF t.mask h g) else tT t hashAt h f (t.advance<|cF t.mask h g))=_
   rw[show t.slot (cF t.mask h g).j=.empty from Sv T x];dsimp only;rw[Kd]
   rfl
  ·obtain⟨k,e⟩:=s m ω
   exact(k,e,l m k a ω e)
def SF(T:gQ t hs){a k j:Nat}(b:¬jE t (bU t.mask h a))(d:hs[k]?=U h)(c:t.place[k]?=U j):∃g,g<a/\bU t.mask h g=j:=by
 obtain⟨n,e,f⟩:=T.d k j h d c;refine(n,?_,e);rcases Dj n a with q|q|q
 ·exact q
 ·subst q;exact aZ (k,by rw[e];exact c) b
 ·exact aZ (f a q) b
def Kc(T:gQ t hs)(x:¬jE t (bU t.mask h c))(y:∀m,m<c->jE t (bU t.mask h m))(z:hs.size+1<=t.mask):(t.put<|bU t.mask h c).2<=hs.size/\(t.put<|bU t.mask h c).1.mask=t.mask/\gQ (t.put<|bU t.mask h c).1 (eY hs (t.put<|bU t.mask h c).2 h):=by
 have A:∀i:Nat,t.place[i]?≠U (bU t.mask h c):=λi e=>x (i,e);obtain⟨o,E,G⟩:=D_ T.c<|bU t.mask h c;have u:gN t.place (bU t.mask h c)<=hs.size:=by rw[<-T.a];exact o
 have p:(t.put<|bU t.mask h c).1.place=eY t.place (gN t.place<|bU t.mask h c) (bU t.mask h c):=O;have v:(t.put<|bU t.mask h c).1.mask=t.mask:=O;have l:∀j,jE t j->∃C:Nat,(t.put<|bU t.mask h c).1.place[C]?=U j:=λj (i,e)=>by
  by_cases q:i<gN t.place (bU t.mask h c)
  ·exact(i,by rw[p,mP _ _ _ o,aB q];exact e)
  ·exact(i+1,by rw[p,mP _ _ _ o,au (ù (í (ô q))),au (ö (ï (ô q))),Rt];exact e)
 refine(u,v,(?_,?_,?_,λi j e=>?_,T.f,T.e,?_,λk j w D g=>?_))
 ·rw[p];exact SN T.c A
 ·show(if has t.dummies (bU t.mask h c)=ae then _ else t.dummies)=#[]
  rw[T.b]
  rfl
 ·rw[p,wA _ _ _ o]
  show _=(eY hs (gN t.place<|bU t.mask h c) h).size;rw[wA _ _ _ u,T.a]
 ·rw[p,mP _ _ _ o] at e
  rw[v]
  by_cases r:i<gN t.place (bU t.mask h c)
  ·rw[aB r] at e;exact T.l _ _ e
  ·rw[au r] at e
   by_cases s:i=gN t.place (bU t.mask h c)
   ·rw[aB s] at e;cases e;exact DO _ _ _
   ·rw[au s] at e;exact T.l _ _ e
 ·show(eY hs (gN t.place<|bU t.mask h c) h).size<=t.mask
  rw[wA _ _ _ u];exact z
 ·have d:(eY hs (gN t.place<|bU t.mask h c) h)[k]?=U w:=D
  rw[mP _ _ _ u] at d;rw[p,mP _ _ _ o] at g;rw[v]
  by_cases r:k<gN t.place (bU t.mask h c)
  ·rw[aB r] at d g
   obtain⟨n,a,b⟩:=T.d k j w d g;exact(n,a,λm f=>l _<|b m f)
  ·rw[au r] at d g
   by_cases s:k=gN t.place (bU t.mask h c)
   ·rw[aB s] at d g
    cases d;cases g;exact(c,O,λm f=>l _<|y m f)
   ·rw[au s] at d g
    obtain⟨n,a,b⟩:=T.d (k-1) j w d g;exact(n,a,λm f=>l _<|b m f)
end
def DK(c d:Nat)(f:Bool):gQ (eZ c d f) #[]:=
 (λi j a b h=>by simp[eZ] at h,O,O,λi j h=>by simp[eZ] at h,S_,show 7%2=1 from O,show 0<=7 from dZ _,λk j h e=>by simp at e)
end
section
open PySem.SetTable
def nK(a:Array (Option Nat))(j:Nat):Prop:=∃q,a[j]?=U (U q)
def iO(a:Nat)(h:Int):Nat->Nat
 |0=>0
 |r+1=>iO a h r+(fT a (bM a h r).1-(bM a h r).1)+1
def Ss(a:Nat)(h:Int){r R:Nat}(b:r<=R):iO a h r<=iO a h R:=by
 induction b with
 |refl=>exact bc _
 |step _ c=>exact dE c (by show _<=iO a h _+_+1;exact í ü)
def DL(a:Nat)(h:Int):∀r,cF a h (iO a h r)={j:=(bM a h r).1,more:=fT a (bM a h r).1-(bM a h r).1,i:=(bM a h r).1,perturb:=(bM a h r).2,dummy:=Z}
 |0=>O
 |r+1=>by
  show mh a (cF a h<|iO a h r+(fT a (bM a h r).1-(bM a h r).1))=_;rw[zb a h (DL a h r) _<|bc _];unfold mh;rw[au (by show ¬(fT a (bM a h r).1-(bM a h r).1-(fT a (bM a h r).1-(bM a h r).1)>0);omega)]
  rfl
def DP{a:Array (Option Nat)}{b j:Nat}(i:a.size=b+1)(k:j<=b):(a.getD j<|U 0).isNone=ae↔¬nK a j:=by
 have d:j<a.size:=(à (ï k) (æ i))
 have e:a.getD j (U 0)=a[j]:=by simp[aih,d]
 have f:a[j]?=U a[j]:=kP a j d;rw[e];constructor
 ·intro h (q,g)
  rw[f] at g;rw[ca g] at h;cases h
 ·intro h
  cases c:a[j] with
  |none=>rfl
  |some q=>exact aZ (q,by rw[f,c]) h
def SO{a:Nat}{b:Array (Option Nat)}(j:b.size=a+1)(h:Int){e R:Nat}(o:¬nK b (bU a h e))(n:∀m,m<e->nK b (bU a h m))(hR:e<=iO a h R):∀(c A:Nat),iO a h A<=e->R<A+c->CJ a b c (bM a h A).1 (bM a h A).2=U (bU a h e):=by
 intro c
 induction c with
 |zero=>
  intro A v w;have q:=Ss a h (r:=R+1) (R:=A) w;have:iO a h (R+1)=iO a h R+(fT a (bM a h R).1-(bM a h R).1)+1:=O;omega
 |succ c p=>
  intro A x y;have i:=zb a h<|DL a h A;have d:∀k,k<=fT a (bM a h A).1-(bM a h A).1->bU a h (iO a h A+k)=(bM a h A).1+k:=λk g=>by
   unfold bU;rw[i k g]
  have s:(bM a h A).1<=fT a (bM a h A).1:=by unfold fT;split<;>omega
  have f:∀k,k<=fT a (bM a h A).1-(bM a h A).1->(bM a h A).1+k<=a:=λk g=>by rw[<-d k g];exact DO _ _ _
  show(match (dk<|fT a (bM a h A).1+1-(bM a h A).1).find? (λk=>(b.getD ((bM a h A).1+k)<|U 0).isNone) with
   |some k=>U ((bM a h A).1+k)
   |none=>CJ a b c (rO a (bM a h A).1 (bM a h A).2).1 (rO a (bM a h A).1 (bM a h A).2).2)=_
  by_cases t:e<=iO a h A+(fT a (bM a h A).1-(bM a h A).1)
  ·have l:(dk<|fT a (bM a h A).1+1-(bM a h A).1).find? (λk=>(b.getD ((bM a h A).1+k)<|U 0).isNone)=U (e-iO a h A):=by
    rw[List.find?_range_eq_some];refine(?_,h_.mpr ω,λk g=>?_)
    ·show(b.getD ((bM a h A).1+(e-iO a h A))<|U 0).isNone=ae
     rw[DP j<|f _ ω,<-d _ ω,show iO a h A+(e-iO a h A)=e from ω];exact o
    ·have q:¬(b.getD ((bM a h A).1+k)<|U 0).isNone=ae:=by
      rw[DP j<|f _ ω,<-d k ω];exact λz=>z<|n _ ω
     rw[ah6] at q;rw[q]
     rfl
   rw[l];dsimp only;rw[<-d _ ω,show iO a h A+(e-iO a h A)=e from ω]
  ·have l:(dk<|fT a (bM a h A).1+1-(bM a h A).1).find? (λk=>(b.getD ((bM a h A).1+k)<|U 0).isNone)=Z:=by
    rw[RA];intro k g;have u:=h_.mp g;rw[DP j<|f _ ω,<-d k ω];exact λz=>z<|n _ ω
   rw[l];dsimp only;refine p (A+1) ?_ ω;show iO a h A+(fT a (bM a h A).1-(bM a h A).1)+1<=e;exact ó t
structure qF(mask:Nat)(hashes:List Int)(owner:Array (Option Nat))(k:Nat):Prop where
 b:owner.size=mask+1
 all:∀q:Nat,q<k->∃j:Nat,owner[j]?=U (U q)
 a:∀j q:Nat,owner[j]?=U (U q)->q<k
 c:∀(i j q:Nat),owner[i]?=U (U q)->owner[j]?=U (U q)->i=j
 d:∀(j q:Nat)(h:Int),owner[j]?=U (U q)->hashes[q]?=U h->∃n,bU mask h n=j/\∀m,m<n->nK owner (bU mask h m)
def qF.F{d:Nat}{c:Array (Option Nat)}{k:Nat}(L:qF d f c k)(w:k<=d):∃x,x<=d/\¬nK c x:=by
 apply oy;intro o;have g:∀x,x<=d->∃q,q<k/\c[x]?=U (U q):=λx i=>by
  have:nK c x:=oy λq=>o (x,i,q);obtain⟨q,e⟩:=this;exact(q,L.a x q e,e)
 have j:((dk<|d+1).map λx=>(c.getD x Z).getD 0) ⊆ dk k:=λy r=>by
  obtain⟨x,i,e⟩:=bq.mp r;obtain⟨q,s,h⟩:=g x<|qu.mp<|h_.mp i;rw[Jz,h] at e;subst e;exact h_.mpr s
 have t:((dk<|d+1).map λx=>(c.getD x Z).getD 0).Nodup:=by
  refine v_.mpr<|jN.mpr ?_;refine RD ?_<|v_.mp<|Dp (n:=d+1);intro a b u v l e;obtain⟨q,_,m⟩:=g a<|qu.mp<|h_.mp u;obtain⟨p,_,h⟩:=g b<|qu.mp<|h_.mp v;simp only[Jz,m,h,yD] at e;subst e;exact l<|L.c a b q m h
 have:=t.length_le_of_subset j;rw[aA,lZ,lZ] at this;exact ø this w
def Sy{a:Array (Option Nat)}{b j k:Nat}(c:a.size=b+1)(d:j<=b)(i:Nat):(a.setIfInBounds j<|U k)[i]?=if i=j then U (U k) else a[i]?:=by
 by_cases q:i=j
 ·subst q
  rw[aB O,Array.getElem?_setIfInBounds_self_of_lt (à (ï d) (æ c))]
 ·rw[au q,Array.getElem?_setIfInBounds_ne<|dB q]
def qF.step{c:Nat}(D:jR c)(L:qF c g f X)(E:X<=c)(G:g[X]?=U h):∃j,CJ c f (lw c) (kI h%(c+1)) (kI h)=U j/\qF c g (f.setIfInBounds j<|U X) (X+1):=by
 obtain⟨x,H,I⟩:=L.F E;obtain⟨d,S,e⟩:=D (bM c h 13).1 x (Kj c h 13) H;have K:bU c h (iO c h<|13+d)=x:=by
  unfold bU;rw[DL];show(bM c h<|13+d).1=x;rw[DS,e]
 obtain⟨l,M,v,Q⟩:=DT (P:=λm=>¬nK f (bU c h m)) (iO c h<|13+d) (by rw[K];exact I);have y:∀m,m<l->nK f (bU c h m):=λm q=>oy λz=>Q m q z;refine(bU c h l,SO L.b h v y M (lw c) 0 (dZ _) (by unfold lw;omega),?_);have u:bU c h l<=c:=DO _ _ _;have r:=Sy (k:=X) L.b u;have s:∀i,nK f i->nK (f.setIfInBounds (bU c h l)<|U X) i:=λi (q,e)=>by
  by_cases z:i=bU c h l
  ·exact(X,by rw[r,aB z])
  ·exact(q,by rw[r,au z];exact e)
 refine(by rw[Array.size_setIfInBounds];exact L.b,λq T=>?_,λj q e=>?_,λi j q o p=>?_,λj q R o p=>?_)
 ·by_cases z:q=X
  ·exact(bU c h l,by rw[r,aB O,z])
  ·obtain⟨j,A⟩:=L.all q (þ (ò T) z)
   refine(j,?_);rw[r,au λw=>v (q,by rw[<-w];exact A)];exact A
 ·rw[r] at e
  by_cases z:j=bU c h l
  ·rw[aB z] at e;cases e;exact ß
  ·rw[au z] at e;have:=L.a j q e;exact í this
 ·rw[r] at o p
  by_cases C:i=bU c h l
  ·rw[aB C] at o;cases o
   by_cases t:j=bU c h l
   ·exact û (à (å C) (æ t)) (à (å t) (æ C))
   ·rw[au t] at p;have:=L.a j X p;omega
  ·rw[au C] at o
   by_cases t:j=bU c h l
   ·rw[aB t] at p;cases p;have:=L.a i X o;omega
   ·rw[au t] at p;exact L.c i j q o p
 ·rw[r] at o
  by_cases z:j=bU c h l
  ·rw[aB z] at o;cases o
   rw[G] at p;cases p;exact(l,z.symm,λm q=>s _<|y m q)
  ·rw[au z] at o
   obtain⟨n,a,b⟩:=L.d j q R o p;exact(n,a,λm q=>s _<|b m q)
def qF.B(a:Nat)(b:List Int):qF a b (aic (a+1) Z) 0:=by
 have c:∀(j q:Nat),(aic (a+1) (Z:Option Nat))[j]?=U (U q)->False:=λj q e=>by
  rw[Array.getElem?_replicate] at e;split at e<;>cases e
 exact(by simp,λq h=>aZ h<|yE _,λj q e=>(c j q e).elim,λi j q e=>(c i q e).elim,λj q h e=>(c j q e).elim)
def SL(n:jR g)(c:Array Int)(x:c.size<=g+1):∃d,layClean g c=U d/\qF g c.toList d c.size:=by
 have p:∀(f:List Int)(d:Array (Option Nat))(k:Nat),qF g c.toList d k->c.toList.drop k=f->
   ∃i,(f.foldl (λm h=>do
    let (d,k) <-m
    let j <-CJ g d (lw g) (kI h%(g+1)) (kI h)
    bH (adc (d.setIfInBounds j<|U k) (k+1)))<|U (adc d k))=U (adc i (k+f.length))/\qF g c.toList i (k+f.length):=by
  intro f
  induction f with
  |nil=>intro d k L _;exact(d,O,L)
  |cons h f r=>
   intro d k L e;have l:k<c.toList.length:=by
    rcases oh k c.toList.length with q|q
    ·exact q
    ·rw[List.drop_eq_nil_of_le q] at e;cases e
   have s:c.toList[k]?=U h:=by
    rw[Jm l] at e;injection e with e1 _
    rw[cw l,e1]
   have t:c.toList.drop (k+1)=f:=by
    rw[Jm l] at e;injection e
   rw[i_] at l;obtain⟨j,u,v⟩:=L.step n ω s;obtain⟨w,a,b⟩:=r (d.setIfInBounds j<|U k) (k+1) v t;refine(w,?_,?_)
   ·rw[pH]
    show Dt _ (CJ g d (lw g) (kI h%(g+1)) (kI h) >>= λj=>bH (adc (d.setIfInBounds j<|U k) (k+1))) f=_;rw[u];show Dt _ (U (adc (d.setIfInBounds j<|U k) (k+1))) f=_;rw[a,dP,show k+1+f.length=k+(f.length+1) from ω]
   ·rw[dP,show k+(f.length+1)=k+1+f.length from ω]
    exact b
 obtain⟨o,a,b⟩:=p c.toList _ 0 (qF.B g _) O;rw[rY,i_] at a b;refine(o,?_,b);unfold layClean;rw[<-Array.foldl_toList,a]
 rfl
def gP(a:Array (Option Nat))(n:Nat):List (Nat×Nat):=(dk n).filterMap λj=>(a.getD j Z).map (adc j ·)
def qC{n:Nat}{x:Nat×Nat}:x∈gP a n↔x.1<n/\a[x.1]?=U (U x.2):=by
 unfold gP;rw[Rv];constructor
 ·rintro⟨j,d,e⟩
  rw[pG] at e;obtain⟨q,b,rfl⟩:=e;refine(h_.mp d,?_);rw[Jz] at b;cases c:a[j]? with
  |none=>rw[c] at b;cases b
  |some v=>rw[c] at b;simp only[yD] at b;rw[b]
 ·rintro⟨f,g⟩
  refine(x.1,h_.mpr f,?_);rw[Jz,g]
  rfl
def Kk(c:Array (Option Nat))(i:Nat):(gP c i).Pairwise λx y=>x.1<y.1:=by
 unfold gP;refine akj (S:=λx y:Nat×Nat=>x.1<y.1) _ ?_<|List.pairwise_lt_range (n:=i);intro a f h b e g d;rw[pG] at e d;obtain⟨_,_,rfl⟩:=e;obtain⟨_,_,rfl⟩:=d;exact h
def SK{k:Nat}(L:qF d f c k):(gP c<|d+1).length=k/\((gP c<|d+1).map (·.2)).Nodup:=by
 have h:((gP c<|d+1).map (·.2)).Nodup:=by
  refine v_.mpr<|jN.mpr ?_;refine RD ?_<|Kk c<|d+1;intro a b m o p e;have r:=(qC.mp m).2;have i:=(qC.mp o).2;rw[<-e] at i;have:=L.c _ _ _ r i;exact ø p (æ this)
 refine(?_,h);have s:(gP c<|d+1).map (·.2) ⊆ dk k:=λq g=>by
  obtain⟨x,t,rfl⟩:=bq.mp g;exact h_.mpr<|L.a _ _ (qC.mp t).2
 have u:dk k ⊆ (gP c<|d+1).map (·.2):=λq g=>by
  obtain⟨j,l⟩:=L.all q<|h_.mp g;have v:j<d+1:=by rw[<-L.b];exact(qB.mp l).1
  exact bq.mpr ((adc j q),qC.mpr (v,l),O)
 have w:=h.length_le_of_subset s;have y:=(Dp (n:=k)).length_le_of_subset u;rw[aA,lZ] at w;rw[lZ,aA] at y;exact û w y
def Kl(P:jR d)(R:d%2=1)(o p:Nat)(u l:Bool)(f:Array Int)(S:f.size<=d):∃t g,laid d o p u l f=U (adc t g)/\t.mask=d/\t.led=u/\t.plain=l/\g.size=f.size/\g.toList.Nodup/\(∀q∈g.toList,q<f.size)/\
   gQ t (g.map λq=>(f[q]?).getD 0):=by
 obtain⟨c,e,L⟩:=SL P f (í S);obtain⟨Q,T⟩:=SK L;refine(_,_,by unfold laid;rw[e];exact O,O,O,O,?_,?_,?_,?_)
 ·show((gP c<|d+1).map (·.2)).toArray.size=_
  rw[cz,aA,Q]
 ·exact T
 ·intro q A
  obtain⟨x,w,rfl⟩:=bq.mp (show q∈(gP c<|d+1).map (·.2) from A);exact L.a _ _ (qC.mp w).2
 ·have v:∀i:Nat,(((gP c<|d+1).map (·.1)).toArray)[i]?=((gP c<|d+1)[i]?).map (·.1):=λi=>by
   rw[Jf,cm]
  have X:∀i:Nat,(((gP c<|d+1).map (·.2)).toArray)[i]?=((gP c<|d+1)[i]?).map (·.2):=λi=>by
   rw[Jf,cm]
  have C:∀j,nK c j->∃i:Nat,(((gP c<|d+1).map (·.1)).toArray)[i]?=U j:=λj (q,z)=>by
   have D:j<d+1:=by rw[<-L.b];exact(qB.mp z).1
   obtain⟨i,E,ei⟩:=um.mp (qC.mpr (D,z):(adc j q)∈gP c (d+1));exact(i,by rw[v,cw E,ei];rfl)
  refine(λi j a b ha hb G=>?_,O,?_,λi j z=>?_,P,R,?_,λk j h e1 e2=>?_)
  ·have H:((gP c<|d+1)[i]?).map (·.1)=U a:=by rw[<-v];exact ha
   have I:((gP c<|d+1)[j]?).map (·.1)=U b:=by rw[<-v];exact hb
   obtain⟨x,s,rfl⟩:=pG.mp H;obtain⟨y,ey,rfl⟩:=pG.mp I;obtain⟨E,rfl⟩:=cE.mp s;obtain⟨D,rfl⟩:=cE.mp ey;exact ul.mp (Kk c<|d+1) i j E D G
  ·show((gP c<|d+1).map (·.1)).toArray.size=(kO _ ((gP c<|d+1).map (·.2)).toArray).size
   rw[jD,cz,cz,aA,aA]
  ·have K:((gP c<|d+1)[i]?).map (·.1)=U j:=by rw[<-v];exact z
   obtain⟨x,s,rfl⟩:=pG.mp K;exact qu.mp (qC.mp<|dy s).1
  ·show(kO _ ((gP c<|d+1).map (·.2)).toArray).size<=d
   rw[jD,cz,aA,Q];exact S
  ·have M:((gP c<|d+1)[k]?).map (·.1)=U j:=by rw[<-v];exact e2
   obtain⟨x,s,rfl⟩:=pG.mp M;have r:(kO (λq=>(f[q]?).getD 0) ((gP c<|d+1).map (·.2)).toArray)[k]?=U h:=e1;rw[sg,X,s] at r;have w:=(qC.mp<|dy s).2;have A:=L.a _ _ w;have eh:f.toList[x.2]?=U h:=by
    rw[km];have:f[x.2]?=U f[x.2]:=kP f x.2 A;simp only[nz,this,yD] at r;rw[this,ca r]
   obtain⟨n,a,b⟩:=L.d x.1 x.2 h w eh;exact(n,a,λm hm=>C _<|b m hm)
end
section
open PySem.SetTable
section
variable{prog:aU}{w:aO}{K:Type}[DecidableEq K]{knd:kc prog w K}{A:bg}{E:Ω}{s:ai}
def jQ{t:gz}{a:Array (Int×aa)}(T:gQ t (a.map (·.1))):t.fits a.size=ae:=by
 have b:=T.a;have c:=T.g;rw[jD] at b c;unfold SetTable.fits Ia;rw[T.b,b];simp;exact c
def SG(n:Nat)(h:Qt v=ae):Qb n v=bH ao:=by
 cases v with
 |ref a=>simp[Qt] at h
 |_=>cases n<;>rfl
def JY{j:List K}{Q:Bool->ai->Prop}(i:dT knd s.heap j b)(h:Q ao s):am (aE prog w) A (Qb 8<|.ref b) Q E s:=by
 have k:=i.typeIs;obtain⟨o,d,n,l,_,m,p⟩:=i;unfold Qb;refine ag<|rH k ?_;show am _ _ ((if("tuple" == "tuple")=ae then bH ae else isSubtype (.type "tuple") (.type "tuple")) >>= _) _ _ s;rw[aB ξ];refine ag<|aC ?_;simp only[oz,dc,cM];refine ag<|lS l m ?_;refine ag ?_;show am _ _ (uA d _ _) _ _ s;rw[<-RN];refine tM _ (λa r e=>r.1=Z/\e=s/\∀v∈a,Qt v=ae) _ ?_ ?_ _ _ (O,O,p.byValue)
 ·rintro v a r e ⟨f,rfl,c⟩
  rw[SG _<|c v dC];refine ag<|aC ?_;simp only[dc,cM];exact aC (O,O,λu g=>c u<|d_ _ g)
 ·rintro⟨q,t⟩ e ⟨f,rfl,_⟩
  simp only at f;subst f;exact aC h
def Sk{n:List K}{j:List aa}{Q:Bool->ai->Prop}(k:dT knd s.heap n b)(o:∀y∈j,∃e c,y=.ref c/\dT knd s.heap e c)(h:Q ao s):am (aE prog w) A (adi (.ref b) j) Q E s:=by
 unfold adi;refine ag ?_;refine tM _ (λa r f=>r.1=Z/\f=s/\∀y∈a,∃e c,y=.ref c/\dT knd s.heap e c) _ ?_ ?_ _ _ (O,O,o)
 ·rintro v a r f ⟨g,rfl,d⟩
  obtain⟨e,c,rfl,l⟩:=d v dC;have m:∀u∈a,∃e c,u=.ref c/\dT knd f.heap e c:=λu i=>d u<|d_ _ i;dsimp only;split
  ·exact aC (O,O,m)
  ·refine ag<|ac9 k ?_
   simp only[oz,dc,cM];refine ag<|ac9 l ?_;simp only[oz,dc,cM];refine ag<|JY k ?_;simp only[dc,cM];refine ag<|JY l ?_;simp only[dc,cM];exact aC (O,O,m)
 ·rintro⟨p,q⟩ f ⟨g,rfl,_⟩
  simp only at g;subst g;exact aC h
structure fw(knd:kc prog w K)(h:aI)(S:V)(o:aR)(es:Array (Int×aa))(ep:Nat)(t:gz)(ks:List (List K))(B:List V):Prop where
 a:h.get? S=U o
 g:o.ExactSet
 c:o.data=.set es ep t
 d:gQ t (es.map (·.1))
 j:es.size=ks.length
 n:ks.Nodup
 f:∀e∈es.toList,∃k b,k∈ks/\e=(adc (cD knd k) (Y b))/\dT knd h k b
 i:∀k∈ks,∃b,(adc (cD knd k) (Y b))∈es.toList/\dT knd h k b
 l:(t.mask=7/\es.size<=4)\/(t.mask=31/\es.size<=18)\/(t.mask=127/\es.size<=76)\/(t.mask=15/\es.size<=8)\/(t.mask=63/\es.size<=37)\/(t.mask=255/\es.size<=152)
 p:∀e∈es.toList,∃b∈B,e.2=Y b
 m:w.params.followText "set-order"=ae\/(t.led=ae/\t.plain=ae)
def JW{t:gz}(X:fw knd s.heap S o f ep t ks b9)(hu:A.units<cH){k:List K}(hk:dT knd s.heap k b){u:Nat}(a0:u<10*lw t.mask)(he:¬jE t (bU t.mask (cD knd k) u))(hm:∀m,m<u->jE t (bU t.mask (cD knd k) m)){h:Bool}{Q:SetFound->ai->Prop}(I:k∈ks->∀r:Option Nat,(h=ao->r.isSome=ae)->Q (.there r) s)(h2:k∉ks->Q (.free (bU t.mask (cD knd k) u) ao) s):∀(a n:Nat)(d:Option CL),u<n+a->n<=u->d.getD (t.probeStart<|cD knd k)=cF t.mask (cD knd k) n->
   (∀(m i:Nat)(c:V),m<n->t.place[i]?=U (bU t.mask (cD knd k) m)->f[i]?=U (adc (cD knd k) (Y c))->¬dT knd s.heap k c)->
   am (aE prog w) A (Hx S (.ref b) (cD knd k) h a d) Q E s:=by
 have T:=X.d;have v:=jQ T;have hA:∀i:Nat,(f.map (·.1))[i]?=(f[i]?).map (·.1):=λi=>sg ..;intro a
 induction a with
 |zero=>intro n d a1 a2 _ _;omega
 |succ a ih=>
  intro n d a1 a2 a3 a4;unfold Hx;refine ag<|lR X.a X.c v ?_;dsimp only;have gw:t.gaveWay=ao:=by
   unfold aed;rw[T.e]
   rfl
  rw[gw];simp only[dc,cM];rw[a3];rcases DN T (hashAt:=λi=>((f[i]?).map (·.1)).getD 0) a0 he hm a2 with ⟨a5,x⟩|⟨c0,i,b1,b2,D,b4,b5,b6⟩
  ·have G:t.probe (λi=>((f[i]?).map (·.1)).getD 0) (cD knd k) (cF t.mask (cD knd k) n)=U (.empty (bU t.mask (cD knd k) u) Z):=a5
   show am _ _ (match t.probe (λi=>((f[i]?).map (·.1)).getD 0) (cD knd k) (cF t.mask (cD knd k) n) with|some a6=>_|_=>_) _ _ s;rw[G];dsimp only;refine aC<|h2 λa7=>?_;obtain⟨c,a8,a9⟩:=X.i k a7;obtain⟨i,L,g⟩:=um.mp a8;have C:f[i]?=U (adc (cD knd k) (.ref c)):=by
    rw[<-km,cw L,g]
   have b0:i<t.place.size:=by rw[T.a,jD];simpa using L
   have ej:t.place[i]?=U t.place[i]:=kP t.place i b0;obtain⟨c0,hN,eN⟩:=SF T he (k:=i) (by rw[hA,C];rfl) ej;rcases oh c0 n with q|q
   ·exact a4 c0 i c q (by rw[eN];exact ej) C a9
   ·exact x c0 i q hN (by rw[eN];exact ej) (by show((f[i]?).map (·.1)).getD 0=_;rw[C];rfl)
  ·show am _ _ (match t.probe (λi=>((f[i]?).map (·.1)).getD 0) (cD knd k) (cF t.mask (cD knd k) n) with|some a6=>_|_=>_) _ _ s
   rw[b5];dsimp only;have L:i<f.size:=by
    have:=(qB.mp D).1;rw[T.a,jD] at this;exact this
   have g:f[i]?=U f[i]:=kP f i L;obtain⟨M,c,j,ee,hc⟩:=X.f f[i] (by simp);rw[ee] at g;have eh:cD knd M=cD knd k:=by
    have:((f[i]?).map (·.1)).getD 0=cD knd k:=b4;rw[g] at this;exact this
   rw[eh] at g;have P:t.sameMemory t.moves t.mask=U ae:=by unfold SetTable.sameMemory;rw[aB (by simp)]
   have p:M≠k->am (aE prog w) A (Hx S (.ref b) (cD knd k) h a<|U<|cF t.mask (cD knd k)<|c0+1) Q E s:=λl=>by
    refine ih (c0+1) _ ω b2 O λm i2 c2 q1 q2 R q4=>?_;rcases oh m n with z|z
    ·exact a4 m i2 c2 z q2 R q4
    ·rcases oh m c0 with z2|z2
     ·exact b6 m i2 z z2 q2 (by show((f[i2]?).map (·.1)).getD 0=_;rw[R];rfl)
     ·have:m=c0:=(û (ò q1) z2)
      subst this;have:=T.c.B q2 D;subst this;rw[g] at R;cases R;exact l<|aem hc q4
   cases b8:t.led
   all_goals simp only[oz,Jv,dc,dQ,cM]
   ·refine ag<|Sk hk (λy hy=>?_) ?_
    ·obtain⟨e,H,rfl⟩:=bq.mp hy
     rw[Array.toList_filter] at H;obtain⟨k2,c2,_,e2,b7⟩:=X.f e (nA.mp H).1;exact(k2,c2,by rw[e2],b7)
    simp only[dc,cM];rw[g];refine ag<|fz<|Hr hu hc hk ?_;refine ag<|lR X.a X.c v ?_
    by_cases l:M=k
    ·subst l
     cases h
     ·simp only[decide_true,sf,dc,cM]
      rw[P];simp only[dQ];rw[uE T D];dsimp only;rw[g];refine ag<|Hp<|ag<|aC ?_;simp only[dQ];exact aC<|I j _ λ_=>O
     ·simp only[decide_true,Jx,dQ]
      exact aC (I j _ λz=>by cases z)
    ·rw[cf l]
     simp only[pJ,dc,cM];rw[P];simp only[dQ];rw[uE T D];dsimp only;rw[g];refine ag<|Hp<|ag<|aC ?_;simp only[dQ];exact p l
   ·rw[g]
    refine ag<|fz<|Hr hu hc hk ?_;refine ag<|lR X.a X.c v ?_
    by_cases l:M=k
    ·subst l
     cases h
     ·simp only[decide_true,sf,dc,cM]
      rw[P];simp only[dQ];rw[uE T D];dsimp only;rw[g];refine ag<|Hp<|ag<|aC ?_;simp only[dQ];exact aC<|I j _ λ_=>O
     ·simp only[decide_true,Jx,dQ]
      exact aC (I j _ λz=>by cases z)
    ·rw[cf l]
     simp only[pJ,dc,cM];rw[P];simp only[dQ];rw[uE T D];dsimp only;rw[g];refine ag<|Hp<|ag<|aC ?_;simp only[dQ];exact p l
end
end
section
open PySem.SetTable
section
variable{prog:aU}{w:aO}{K:Type}[DecidableEq K]{knd:kc prog w K}{A:bg}{E:Ω}{s:ai}
def qD{k:List K}{i j t}(l:dT knd h k b)(m:h.get? S=U o)(p:o.data=.set i j t)(q:gA S h f):dT knd f k b:=by
 obtain⟨g,a,n,d,r,c,s⟩:=l;have e:b≠S:=by
  rintro rfl;obtain rfl:g=o:=ca<|d.symm.trans m;rw[p] at c;exact nomatch c
 exact(g,a,n,(q.2 b e).trans d,r,c,s)
def Sm{j:List K}{Q:Bool->ai->Prop}(m:∀k v n,knd.is k v=ae->qk n v=bH ae)(l:dT knd s.heap j b)(h:Q ae s):am (aE prog w) A (qk 8<|.ref b) Q E s:=by
 have p:=l.typeIs;obtain⟨o,c,n,q,_,t,u⟩:=l;unfold qk;refine ag<|xX p F.slot_tuple_hash.lookup ?_;dsimp only;refine ag<|lS q t ?_;refine ag ?_;show am _ _ (uA c _ _) _ _ s;rw[<-RN];refine tM _ (λa r f=>r.1=Z/\f=s/\∃d,CP knd d a) _ ?_ ?_ _ _ (O,O,j,u)
 ·rintro v a r f ⟨g,rfl,d,i⟩
  cases i with
  |@cons k _ e _ x y=>
   rw[m k v 7 x];refine ag<|aC ?_;simp only[oz,dc,cM];exact aC (O,O,e,y)
 ·rintro⟨z,C⟩ f ⟨g,rfl,_⟩
  simp only at g;subst g;exact aC h
def zd{h:aI}{t:gz}(d:h.get? S=U o)(b:o.data=.set c a t):(h.update S<|Ii es' t').get? S=U {o with data:=.set es' (a+1) t'}:=by
 have:=pC (Ii es' t') d (by rw[putSet_of es' t' b];rfl);rw[putSet_of es' t' b] at this;exact this
def DW{c:Type}{es:Array c}:∀{l:List Nat},(∀q∈l,q<es.size)->∃b:List c,l.filterMap (es[·]?)=b/\b.length=l.length/\(∀x∈b,x∈es.toList)/\(∀(i q:Nat),l[i]?=U q->b[i]?=es[q]?)
 |[],_=>([],O,O,(λx a=>by cases a),(λi q e=>by cases i<;>simp at e))
 |q::l,h=>by
  obtain⟨b,f,g,j,k⟩:=DW (l:=l) λx a=>h x<|d_ _ a;have d:=h q dC;refine(es[q]::b,?_,by rw[dP,dP,g],λx a=>?_,λi p e=>?_)
  ·rw[Jk,kP es q d,f]
  ·rcases ci.mp a with rfl|a
   ·simp
   ·exact j x a
  ·cases i with
   |zero=>simp at e;subst e;simp[kP es q d]
   |succ i=>simp at e ⊢;exact k i p e
def JX{a5:List V}{t:gz}{ks:List (List K)}{d f:Nat}(g:s.heap.get? S=U o)(y:o.ExactSet)(l:o.data=.set c v t)(T:gQ t (c.map (·.1)))(C:c.size=ks.length)(nd:ks.Nodup)(ad:∀e∈c.toList,∃b∈a5,e.2=Y b)(el:∀e∈c.toList,∃k b,k∈ks/\e=(adc (cD knd k) (Y b))/\dT knd s.heap k b)(ke:∀k∈ks,∃b,(adc (cD knd k) (Y b))∈c.toList/\dT knd s.heap k b)(hw:n_ d-1=f)(D:n_ d<=bG)(hc:jR f)(ho:f%2=1)(hr:c.size<=f)(hz:c.size<=1000)(G:(f=7/\c.size<=4)\/(f=31/\c.size<=18)\/(f=127/\c.size<=76)\/(f=15/\c.size<=8)\/(f=63/\c.size<=37)\/(f=255/\c.size<=152))(wk:w.params.followText "set-order"=ae\/(t.led=ae/\t.plain=ae)){Q:Unit->ai->Prop}(h:∀H o' I L t',fw knd H S o' I L t' ks a5->gA S s.heap H->Q () {s with heap:=H}):am (aE prog w) A (yb S d) Q E s:=by
 have M:=jQ T;unfold yb;refine ag<|lR g l M ?_;dsimp only;rw[au<|Nat.not_lt.mpr D];obtain⟨m,a,e1,e2,e3,e4,P,e6,r,e8⟩:=Kl hc ho t.finger (t.movedTo f) t.led t.plain (c.map (·.1)) (by rw[jD];exact hr);have er:t.relaid (c.map (·.1)) d=U (adc m a):=by
  unfold aeb;rw[hw];exact e1
 rw[jD] at P r;obtain⟨j,f1,f2,f3,f4⟩:=DW (es:=c) r;have eo:a.filterMap (c[·]?)=j.toArray:=by
  apply ah8.mp;rw[ah9,f1]
 have u:j.length=c.size:=by rw[f2,i_,P]
 rw[er];refine ag ?_;show am _ _ (ite (((a.filterMap (c[·]?)).size != c.size)=ae) _ _) _ _ _;rw[au (by rw[eo,cz,u];simp),eo];refine aC ?_;dsimp only;have R:(j.toArray.map (·.1))=a.map λq=>((c.map (·.1))[q]?).getD 0:=by
  apply RO;intro i;rw[sg,sg,Jf];cases q:a[i]? with
  |none=>
   have:a.toList.length<=i:=by rw[i_];exact aif.mp q
   rw[nC (à (å f2) this)]
   rfl
  |some p=>
   have e:=f4 i p (by rw[km];exact q);have hp:=r p (by rw[<-km] at q;exact dy q);rw[e,kP c p hp];simp[hp]
 have T2:gQ m (j.toArray.map (·.1)):=by rw[R];exact e8
 have X:∀q,q<c.size->q∈a.toList:=λq n=>oy λz=>by
  have a0:(q::a.toList).Nodup:=iB.mpr (z,e6);have a4:(q::a.toList) ⊆ dk c.size:=λx hx=>by
   rcases ci.mp hx with rfl|hx
   ·exact h_.mpr n
   ·exact h_.mpr<|r x hx
  have:=a0.length_le_of_subset a4;rw[dP,i_,P,lZ] at this;exact ù ß this
 refine Hn g l ?_ (by rw[cz,u,jx];exact â hz);refine h _ {o with data:=.set j.toArray (v+1) m} j.toArray (v+1) m ?_<|jl ..;have sb:gA S s.heap (s.heap.update S<|Ii j.toArray m):=jl ..;refine(zd g l,y,O,T2,by rw[cz,u];exact C,nd,λe he=>?_,λk hk=>?_,?_,λe he=>ad e<|f3 e he,by rw[e3,e4];exact wk)
 ·obtain⟨k,b,a1,a2,a3⟩:=el e<|f3 e he
  exact(k,b,a1,a2,qD a3 g l sb)
 ·obtain⟨b,a1,a2⟩:=ke k hk
  refine(b,?_,qD a2 g l sb);obtain⟨q,n,eq⟩:=um.mp a1;rw[i_] at n;obtain⟨i,hi,ei⟩:=um.mp<|X q n;have e:=f4 i q (by rw[cw hi,ei]);refine dy (i:=i) ?_;rw[e,<-eq];simp[n]
 ·rw[e2,cz,u]
  exact G
def Kn{c g:Type}(f:c->g)(d:Array c)(p:Nat)(x:c)(e:p<=d.size):(eY d p x).map f=eY (d.map f) p (f x):=by
 apply RO;intro i;rw[sg,mP _ _ _ e,mP _ _ _ (by rw[jD];exact e),sg,sg]
 by_cases a:i<p
 ·rw[aB a,aB a]
 ·rw[au a,au a]
  by_cases b:i=p
  ·rw[aB b,aB b];rfl
  ·rw[au b,au b]
def zg{g:Type}{b:Array g}{p:Nat}{x y:g}(c:p<=b.size):y∈(eY b p x).toList↔y=x\/y∈b.toList:=by
 constructor
 ·intro h
  obtain⟨k,f,e⟩:=um.mp h;have a:(eY b p x)[k]?=U y:=by rw[<-km,cw f,e]
  rw[mP _ _ _ c] at a
  by_cases d:k<p
  ·rw[aB d,<-km] at a;exact .inr<|dy a
  ·rw[au d] at a
   by_cases j:k=p
   ·rw[aB j] at a;exact .inl (ca a).symm
   ·rw[au j,<-km] at a;exact .inr<|dy a
 ·rintro(rfl|h)
  ·refine dy (i:=p) ?_
   rw[km,mP _ _ _ c,au<|oj _,aB O]
  ·obtain⟨k,f,e⟩:=um.mp h
   have a:b[k]?=U y:=by rw[<-km,cw f,e]
   by_cases d:k<p
   ·refine dy (i:=k) ?_
    rw[km,mP _ _ _ c,aB d];exact a
   ·refine dy (i:=k+1) ?_
    rw[km,mP _ _ _ c,au (ù (í (ô d))),au (ö (ï (ô d))),Rt];exact a
def J_{t:gz}(X:fw knd s.heap S o d ep t D d6)(hu:A.units<cH)(hv:∀k v n,knd.is k v=ae->qk n v=bH ae){k:List K}(hk:dT knd s.heap k b)(c5:b∈d6)(hn:D.length<60){Q:Bool->ai->Prop}(h:∀(r:Bool) f o' c6 c7 t',fw knd f S o' c6 c7 t' (if k∈D then D else D++[k]) d6->gA S s.heap f->Q r {s with heap:=f}):am (aE prog w) A (Ce S (.ref b)<|cD knd k) Q E s:=by
 unfold Ce;refine fz ?_;have T:=X.d;have a8:=jQ T;have X':fw knd s.heap S o d ep t D d6:=X;unfold PU;refine ag<|lR (s:=s) X.a X.c a8 ?_;dsimp only;have nb:byScan (.ref b) d=ao:=O;rw[nb];simp only[dc,cM];obtain⟨ne,a9,R,hm⟩:=zh T<|cD knd k;refine ag ?_;unfold PS;refine JW (s:=s) X' hu hk a9 R hm (λc8 r0 _=>?_) (λb0=>?_) 100000 0 Z ?_ (dZ _) O (λm i c c9=>aZ c9<|yE _)
 ·dsimp only
  refine aC<|h ao s.heap o d ep t ?_<|CQ ..;rw[aB c8];exact X
 ·dsimp only
  refine ag<|lR (s:=s) X.a X.c a8 ?_;dsimp only;have a6:(d.map (·.1)).size+1<=t.mask:=by
   rw[jD];rcases X.l with ⟨a,b⟩|⟨a,b⟩|⟨a,b⟩|⟨a,b⟩|⟨a,b⟩|⟨a,b⟩<;>exact à (ï b) (ã (æ a))
  obtain⟨p1,p2,p3⟩:=Kc T R hm a6;rw[jD] at p1;obtain⟨G,p,a4⟩:∃G p,t.put (bU t.mask (cD knd k) ne)=(adc G p):=(_,_,O);rw[a4] at p1 p2 p3 ⊢;dsimp only at p1 p2 p3 ⊢;have H:k∉D:=b0;have g:(eY d p (adc (cD knd k) (Y b))).size=d.size+1:=wA _ _ _ p1;have b1:=X.j;have d4:d.size<60:=(à (ï (å b1)) hn)
  have b2:∀j:gz,gQ j (eY (d.map (·.1)) p<|cD knd k)->j.mask=t.mask->am (aE prog w) A (PR S (eY d p (adc (cD knd k) (Y b))) j)
    (λ_ s'=>∃f,s'={s with heap:=f}/\f.get? S=U {o with data:=.set (eY d p (adc (cD knd k) (Y b))) (ep+1) j}/\gA S s.heap f) E s:=λj T2 m2=>
   Hn (s:=s) X.a X.c (_,O,zd X.a X.c,jl ..) (by rw[g,jx];exact â d4)
  have b3:(eY d p (adc (cD knd k) (Y b))).map (·.1)=eY (d.map (·.1)) p (cD knd k):=Kn (·.1) d p _ p1;have a5:(D++[k]).Nodup:=by
   rw[mI];refine(X.n,by simp,λx hx y hy=>?_);rw[fu.mp hy];exact λz=>H<|z▸hx
  have b4:∀f,gA S s.heap f->∀e∈(eY d p (adc (cD knd k) (Y b))).toList,∃k' I,k'∈D++[k]/\e=(adc (cD knd k') (Y I))/\dT knd f k' I:=λf l e R=>by
   rcases(zg p1).mp R with rfl|R
   ·exact(k,b,by simp,O,qD hk X.a X.c l)
   ·obtain⟨k',I,a1,a2,a3⟩:=X.f e R
    exact(k',I,uo _ a1,a2,qD a3 X.a X.c l)
  have b5:∀f,gA S s.heap f->∀k'∈D++[k],∃I,(adc (cD knd k') (Y I))∈(eY d p (adc (cD knd k) (Y b))).toList/\dT knd f k' I:=λf l k' L=>by
   rcases gB.mp L with L|L
   ·obtain⟨I,a1,a2⟩:=X.i k' L
    exact(I,(zg p1).mpr<|.inr a1,qD a2 X.a X.c l)
   ·rw[fu.mp L]
    exact(b,(zg p1).mpr<|.inl O,qD hk X.a X.c l)
  have b6:∀e∈(eY d p (adc (cD knd k) (Y b))).toList,∃I∈d6,e.2=Y I:=λe R=>by
   rcases(zg p1).mp R with rfl|R
   ·exact(b,c5,O)
   ·exact X.p e R
  have M:∀(j:gz)(f:aI),gQ j (eY (d.map (·.1)) p<|cD knd k)->j.mask=t.mask->(w.params.followText "set-order"=ae\/(j.led=ae/\j.plain=ae))->f.get? S=U {o with data:=.set (eY d p (adc (cD knd k) (Y b))) (ep+1) j}->gA S s.heap f->
    am (aE prog w) A (if(!ao&&j.tooFull)=ae then(yb S (pB<|d.size+1) >>= λ_=>bH ae) else bH ae) Q E {s with heap:=f}:=λj f T2 m2 b7 hg l=>by
   have a0:gQ j ((eY d p (adc (cD knd k) (Y b))).map (·.1)):=by rw[b3];exact T2
   have fl:j.fill=d.size+1:=by
    unfold Ia;rw[a0.b,a0.a,jD,g]
    rfl
   have tf:j.tooFull=aG ((d.size+1)*5 ≥ t.mask*3):=by unfold aea;rw[fl,m2]
   have lk:d.size+1=(D++[k]).length:=by rw[dz,b1];rfl
   have u:((d.size+1)*5<t.mask*3)->((j.mask=7/\d.size+1<=4)\/(j.mask=31/\d.size+1<=18)\/(j.mask=127/\d.size+1<=76)\/(j.mask=15/\d.size+1<=8)\/(j.mask=63/\d.size+1<=37)\/(j.mask=255/\d.size+1<=152))->am (aE prog w) A (if(!ao&&j.tooFull)=ae then(yb S (pB<|d.size+1) >>= λ_=>bH ae) else bH ae) Q E {s with heap:=f}:=λq mk=>by
    rw[tf,cf (ø q)];simp only[pJ,dc,cM];refine aC<|h ae f {o with data:=.set (eY d p (adc (cD knd k) (Y b))) (ep+1) j} (eY d p (adc (cD knd k) (Y b))) (ep+1) j ?_ l;rw[au H];exact(hg,X.g,O,a0,by rw[g];exact lk,a5,b4 f l,b5 f l,by rw[g];exact mk,b6,b7)
   have C:∀P n,d.size+1=n->((d.size+1)*5 ≥ t.mask*3)->n_ (pB n)-1=P->n_ (pB n)<=1000->jR P->P%2=1->d.size+1<=P->((P=7/\d.size+1<=4)\/(P=31/\d.size+1<=18)\/(P=127/\d.size+1<=76)\/(P=15/\d.size+1<=8)\/(P=63/\d.size+1<=37)\/(P=255/\d.size+1<=152))->
     am (aE prog w) A (if(!ao&&j.tooFull)=ae then(yb S (pB<|d.size+1) >>= λ_=>bH ae) else bH ae) Q E {s with heap:=f}:=λP n en q w1 w2 c1 c2 c3 mk=>by
    rw[tf,bZ q];simp only[Jv,Jx,dQ];subst en;refine ag<|JX (s:={s with heap:=f}) (ks:=D++[k]) hg X.g O a0 (by rw[g];exact lk) a5 b6 (b4 f l) (b5 f l) w1 (by rw[jx];exact â w2) c1 c2 (by rw[g];exact c3) (by rw[g];exact â d4) (by rw[g];exact mk) b7 λd0 d1 b8 b9 d2 d3 c0=>?_;refine aC<|h ae d0 d1 b8 b9 d2 ?_<|l.trans c0;rw[au H];exact d3
   rcases X.l with ⟨a,c⟩|⟨a,c⟩|⟨a,c⟩|⟨a,c⟩|⟨a,c⟩|⟨a,c⟩
   ·by_cases q:d.size+1<=4
    ·exact u ω<|.inl ((û (à (å m2) (å a)) (à (æ a) (æ m2))),q)
    ·exact C 31 5 (û (ï c) (ó q)) ω δ δ DY O (â (ð c))<|.inr<|.inl (O,(â (ð c)))
   ·by_cases q:d.size+1<=18
    ·exact u ω<|.inr<|.inl (ω,q)
    ·exact C 127 19 (û (ï c) (ó q)) ω δ δ DZ O (â d4)<|.inr<|.inr<|.inl (O,(â d4))
   ·exact u ω<|.inr<|.inr<|.inl (ω,(â d4))
   ·by_cases q:d.size+1<=8
    ·exact u ω<|.inr<|.inr<|.inr<|.inl (ω,q)
    ·exact C 63 9 (û (ï c) (ó q)) ω δ δ Kq O (â d4)<|.inr<|.inr<|.inr<|.inr<|.inl (O,(â (ð c)))
   ·by_cases q:d.size+1<=37
    ·exact u ω<|.inr<|.inr<|.inr<|.inr<|.inl (ω,q)
    ·exact C 255 38 (û (ï c) (ó q)) ω δ δ S' O (â d4)<|.inr<|.inr<|.inr<|.inr<|.inr (O,(â d4))
   ·exact u ω<|.inr<|.inr<|.inr<|.inr<|.inr (ω,(â d4))
  have c4:w.params.followText "set-order"=ae\/(G.led=ae/\G.plain=ae):=by
   have e1:G=(t.put<|bU t.mask (cD knd k) ne).1:=by rw[a4]
   have e2:G.led=t.led:=by rw[e1];rfl
   have e3:G.plain=t.plain:=by rw[e1];rfl
   rw[e2,e3];exact X.m
  cases d5:G.plain with
  |true=>
   simp only[dQ];refine ag<|Sm (s:=s) hv hk ?_;simp only[dQ];refine ag<|ic (b2 G p3 p2) (λ_ s' a7=>?_) λ_ _ e=>e;obtain⟨f,rfl,g1,g2⟩:=a7;exact M G f p3 p2 c4 g1 g2
  |false=>
   simp only[dc,cM];refine ag<|aC ?_;simp only[dQ];refine ag<|ic (b2 G p3 p2) (λ_ s' a7=>?_) λ_ _ e=>e;obtain⟨f,rfl,g1,g2⟩:=a7;exact M G f p3 p2 c4 g1 g2
 ·have:t.mask<=255:=by rcases X.l with ⟨a,_⟩|⟨a,_⟩|⟨a,_⟩|⟨a,_⟩|⟨a,_⟩|⟨a,_⟩<;>omega
  unfold lw at a9;omega
def Sp{j:Array (Int×aa)}{t:gz}(X:fw knd s.heap S o j l t a x)(g:A.units<cH)(m:∀k v n,knd.is k v=ae->qk n v=bH ae){k:List K}(i:dT knd s.heap k b)(c:b∈x)(p:a.length<60){Q:Bool->ai->Prop}(h:∀(r:Bool) d q e f u,fw knd d S q e f u (if k∈a then a else a++[k]) x->gA S s.heap d->Q r {s with heap:=d,toks:=s.toks+(k.length+1)}):am (aE prog w) A (Cf S<|.ref b) Q E s:=by
 unfold Cf;exact fz<|ag<|wpAny_pyHash_tuple g i<|J_ (s:={s with toks:=s.toks+(k.length+1)}) X g m i c p h
end
end
def bh{b:Type}[DecidableEq b](l:List b):List b:=l.foldl (λa x=>if x∈a then a else a++[x]) []
def qE{a:Type}[DecidableEq a](l:List a)(x:a):bh (l++[x])=if x∈bh l then bh l else bh l++[x]:=by unfold bh;rw[Ji];rfl
def sw{b:Type}[DecidableEq b](l:List b):(bh l).length<=l.length:=by
 have:∀(l a:List b),(l.foldl (λa x=>if x∈a then a else a++[x]) a).length<=a.length+l.length:=by
  intro l
  induction l with
  |nil=>intro a;simp
  |cons x l c=>
   intro a;rw[pH];refine dE (c _) ?_;split
   ·rw[dP];omega
   ·rw[dz,dP,dP,nB];omega
 simpa[bh] using this l []
def sv{b:Type}[DecidableEq b](l:List b)(x:b):x∈bh l↔x∈l:=by
 have:∀(l a:List b),x∈(l.foldl (λa x=>if x∈a then a else a++[x]) a)↔x∈a\/x∈l:=by
  intro l
  induction l with
  |nil=>intro a;simp
  |cons y l c=>
   intro a;rw[pH,c]
   by_cases h:y∈a
   ·rw[aB h,ci]
    constructor
    ·rintro(q|q)
     ·exact .inl q
     ·exact .inr<|.inr q
    ·rintro(q|q|q)
     ·exact .inl q
     ·subst q;exact .inl h
     ·exact .inr q
   ·rw[au h,gB,fu,ci]
    constructor
    ·rintro((q|q)|q)
     ·exact .inl q
     ·exact .inr<|.inl q
     ·exact .inr<|.inr q
    ·rintro(q|q|q)
     ·exact .inl<|.inl q
     ·exact .inl<|.inr q
     ·exact .inr q
 simpa[bh] using this l []
def DR{d:Type}[DecidableEq d](l:List d):(bh l).Nodup:=by
 have:∀(l c:List d),c.Nodup->(l.foldl (λc x=>if x∈c then c else c++[x]) c).Nodup:=by
  intro l
  induction l with
  |nil=>intro c h;exact h
  |cons y l f=>
   intro c h;rw[pH]
   by_cases q:y∈c
   ·rw[aB q];exact f c h
   ·rw[au q]
    refine f _ ?_;rw[mI];refine(h,by simp,λa i b g e=>?_);rw[fu] at g;subst g;subst e;exact q i
 exact this l [] lD
def SZ{b:Type}[DecidableEq b](l m:List b):(bh<|l++m).length<=(bh l).length+m.length:=by
 have:∀(m a:List b),(m.foldl (λa x=>if x∈a then a else a++[x]) a).length<=a.length+m.length:=by
  intro m
  induction m with
  |nil=>intro a;simp
  |cons x l c=>
   intro a;rw[pH];refine dE (c _) ?_;split
   ·rw[dP];omega
   ·rw[dz,dP,dP,nB];omega
 unfold bh;rw[Ji];exact this m _
def SY{a:Type}[DecidableEq a](l:List a)(h:∀(k:Nat) x,l[k]?=U x->x∉l.take k):bh l=l:=by
 have:∀k,k<=l.length->bh (l.take k)=l.take k:=by
  intro k
  induction k with
  |zero=>intro _;rfl
  |succ k c=>
   intro d;have b:l[k]?=U l[k]:=cw ω;rw[r_,b];show bh (l.take k++[l[k]])=_;rw[qE,c ω,au<|h k _ b]
   rfl
 have q:=this l.length<|bc _;rw[gb<|bc _] at q;exact q
def SW{a:Type}[DecidableEq a](l:List a){k:Nat}{x:a}(h:l[k]?=U x)(c:x∈l.take k):(bh l).length<l.length:=by
 have f:k<l.length:=(cE.mp h).1;have e:l=(l.take k++[x])++l.drop (k+1):=by
  have:=I_ (k+1) l;rw[r_,h] at this;exact this.symm
 have b:=SZ (l.take k++[x])<|l.drop<|k+1;rw[<-e,qE,aB<|(sv _ _).mpr c] at b;have d:=sw<|l.take k;rw[eF] at d;rw[mK] at b;omega
def SX{a:Type}[DecidableEq a](l:List a):(bh l).length<l.length↔∃(k:Nat)(x:a),l[k]?=U x/\x∈l.take k:=by
 constructor
 ·intro h
  apply oy;intro n;have:=SY l λk x e b=>n (k,x,e,b);rw[this] at h;exact oj _ h
 ·rintro⟨k,x,e,b⟩
  exact SW l e b
section
set_option maxHeartbeats 3200000
section
open PySem.SetTable
section
variable{prog:aU}{w:aO}{K:Type}[DecidableEq K]{knd:kc prog w K}{A:bg}{R:tW->ai->Prop}{I:V}{fp wr:List V}{G:Array vR->Array vR->Prop}{n:Nat}{P:Nat->aa->Prop}{St:Nat->ai->Prop}
def fw.F{h a:aI}{g:Array (Int×aa)}{i:Nat}{t:gz}{j:List (List K)}(X:fw knd h S o g i t j q)(m:a.get? S=U o)(l:∀k b,dT knd h k b->dT knd a k b):fw knd a S o g i t j q:=
 (m,X.g,X.c,X.d,X.j,X.n,λe n=>let ⟨k,b,c,d,p⟩:=X.f e n;(k,b,c,d,l k b p),λk f=>let ⟨b,c,d⟩:=X.i k f;(b,c,l k b d),X.l,X.p,X.m)
def ze{h c:aI}{k:List K}(d:dT knd h k b)(e:∀o,h.get? b=U o->c.get? b=U o):dT knd c k b:=by
 obtain⟨o,a,n,f,r⟩:=d;exact(o,a,n,e o f,r)
def Sq{b0:List V}(b1:WalksS prog w A.in1 I fp wr G n P St)(hu:A.in1.units<cH)(hv:∀k v n,knd.is k v=ae->qk n v=bH ae)(S:V)(L:S∉fp)(a:List (List K))(l:Nat->V)(hn:a.length=n)(hB:∀i,i<n->l i∈b0)(hz:n<=59)(M:∀i v,P i v->v=.ref (l i))(hna:∀b o,(∃c m,o.cls=ay "tuple"/\o.data=.seq c m)->∀s i,St i s->s.heap.get? b=U o->b∉wr):∀(k i:Nat)(s:ai),n-i=k->i<=n->St i s->(∃o y z t,fw knd s.heap S o y z t (bh<|a.take i) b0)->(∀(j:Nat)(x:List K),a[j]?=U x->dT knd s.heap x (l j))->
   (∀g,Moved (S::wr) G s g->(∃o y z t,fw knd g.heap S o y z t (bh a) b0)->R (.ok<|.ret .none) g)->iK (aE prog w) A (.builtin "set.update.loop" ([.ref S,.ref I],[])) R s:=by
 have Q:S∉wr:=λh=>L<|b1.sub _ h;have u:∀b∈wr,b∈S::wr:=λb T=>d_ _ T;have d:∀{i:Nat}{s g:ai}{x:List K}{b:V},St i s->Moved wr G s g->dT knd s.heap x b->dT knd g.heap x b:=λ{i s g x b} f p C=>by
  obtain⟨o,c,m,ho,hc,hd,hi⟩:=id C;exact(o,c,m,p.heap b o (hna b o (c,m,hc,hd) s i f ho) ho,hc,hd,hi)
 intro k
 induction k with
 |zero=>
  intro i s C hi f hS hT hR;have a7:i=n:=ω
  subst a7;refine jj IU ?_;rw[kK yA _];show am _ A.in1 (jh (.ref I) >>= _) _ _ s;refine ag<|b1.done s _ _ f λg p=>?_;show am _ A.in1 (ret bj) _ _ g;refine aC<|hR g (p.mono u) ?_;obtain⟨o,y,z,t,X⟩:=hS;rw[gb ω] at X;exact(o,y,z,t,X.F (p.heap S _ Q X.a) λk b C=>d f p C)
 |succ k ih=>
  intro i s C hi f hS hT hR;have D:i<n:=ω
  refine jj IU ?_;rw[kK yA _];show am _ A.in1 (jh (.ref I) >>= _) _ _ s;refine ag<|b1.item i s _ _ D f λv g hP a0 p=>?_;obtain rfl:=M i v hP;obtain⟨o,y,z,t,X⟩:=hS;have X':fw knd g.heap S o y z t (bh<|a.take i) b0:=X.F (p.heap S _ Q X.a) λk b C=>d f p C;have hx:a[i]?=U a[i]:=cw ω;have a1:=sw<|a.take i;rw[eF] at a1;show am _ A.in1 (qj [Y<|l i] (Cf S<|.ref<|l i) >>= _) _ _ g;refine ag<|fz<|Sp X' hu hv (d f p<|hT i _ hx) (hB i D) ω λr h' o' a2 a3 t' X2 E=>?_;have a4:g.toks<=g.toks+(a[i].length+1):=yH _ _;have a8:St (i+1) {g with heap:=h',toks:=g.toks+(a[i].length+1)}:=b1.frame _ g _ _ a0 a4 λb T o2 e=>by
   rw[E.2 b (λh:b=S=>L (by rw[<-h];exact T))];exact e
  have H:a.take (i+1)=a.take i++[a[i]]:=by rw[r_,hx];rfl
  have X3:fw knd h' S o' a2 a3 t' (bh<|a.take<|i+1) b0:=by
   rw[H,qE]
   by_cases q:a[i]∈bh (a.take i)
   ·rw[aB q] at X2 ⊢;exact X2
   ·rw[au q] at X2 ⊢;exact X2
  refine aC (lp yA _,ih (i+1) _ ω D a8 (o',a2,a3,t',X3) (λj x hj=>qD (d f p<|hT j x hj) X'.a X'.c E) λa9 a5 a6=>?_);refine hR a9 (aek b1.gtrans ((p.mono u).then_heap a4 λb o2 T e=>?_) a5) a6;rw[E.2 b (λh:b=S=>T (by rw[h];exact dC))];exact e
end
end
end
section
open PySem.SetTable
section
variable{prog:aU}{w:aO}{K:Type}[DecidableEq K]{knd:kc prog w K}{A:bg}{E:Ω}{s:ai}
def DM(a:aa){Q₁:Ω}(h:Q₁ (.ref s⁻¹) {s with heap:=s.heap.push {cls:=.type "set",dict:=Z,data:=.set #[] 0<|.fresh 0 0<|!w.params.followText "set-order"}}):iK (aE prog w) A (.call (.builtin "set.__new__") ([.type "set",a],[])) (vG Q₁ E) s:=by
 refine ye<|show am _ A.in1 (do CA "set.__new__" ([.type "set",a],[]);again (.builtin "set.__new__" ([.type "set",a],[]))) _ _ s from ag (qh (F.newCall_set_1 a)<|aC (lp ae2 _,jj F.entry_set_new ?_));rw[kK ae2 _];unfold Builtin.«set.__new__» aj4;have b:=sub_set_self;obtain⟨c,g,d,e,f⟩:=s;dsimp only;wp_walk;refine PM<|aC ?_;dsimp only;simp only[newObj];exact ag<|wpAny_alloc<|aC<|aC h
def Kr{B:List V}{vals:List (List K)}{adr:Nat->V}{Q:Ω}(hh:A.handled=Z)(hl:s.heap.IsList l a)(hu:A.units+64<cH)(hv:∀k v n,knd.is k v=ae->qk n v=bH ae)(hz:a.size<=59)(hn:vals.length=a.size)(hB:∀i,i<a.size->adr i∈B)(a3:∀(i:Nat) v,a[i]?=U v->v=.ref (adr i))(hT:∀(j:Nat) x,vals[j]?=U x->dT knd s.heap x (adr j))(h:∀g tk,(∃o es ep t,fw knd g s⁻¹ o es ep t (bh vals) B)->(∀b o,b<s⁻¹->s.heap.get? b=U o->g.get? b=U o)->Q (.ref s⁻¹) {s with heap:=g,toks:=tk}):am (aE prog w) A (gv (.type "set") [.ref l]) Q E s:=by
 obtain⟨c,tl,b5⟩:=iz.mro;have a4:=iz.made;have b6:=iz.sub;refine pu<|ye ?_;show am _ _ (HN (.type "set") _) _ _ _;refine aC (Iw _ δ,jj Iv ?_);rw[IC (Hs "set" [.ref l] []) O];have h1:=iz.notType;have h2:=iz.canCreate;have c0:=QG<|.ref l
 repeat(any_goals(first|assumption|wp_step))
 refine ka (DM (.ref l) (E:=E) (Q₁:=λH u=>∃d:Bool,(w.params.followText "set-order"=ae\/d=ae)/\H=.ref s⁻¹/\u={s with heap:=s.heap.push {cls:=.type "set",dict:=Z,data:=.set #[] 0<|.fresh 0 0 d}}) (_,by cases w.params.followText "set-order" <;> simp,O,O)) λr u hr=>?_;cases r with
 |error e=>exact hr
 |ok fl=>
  cases fl with
  |ret H=>
   obtain⟨d,I,rfl,rfl⟩:=hr;have hS:(s.heap.push {cls:=.type "set",dict:=Z,data:=.set #[] 0<|.fresh 0 0 d}).get? s⁻¹=U {cls:=.type "set",dict:=Z,data:=.set #[] 0<|.fresh 0 0 d}:=dv _ O;have a5:rN {s with heap:=s.heap.push {cls:=.type "set",dict:=Z,data:=.set #[] 0<|.fresh 0 0 d}} (.ref s⁻¹) "set":=(_,hS,O);have c1:=iz.init.lookup;have c2:=iz.init.bind<|.ref s⁻¹
   repeat(any_goals(first|assumption|wp_step))
   refine ka (Cx (R:=vG (λr y=>r=.none/\∃g tk,y={s with heap:=g,toks:=tk}/\
     (∃o es ep t,fw knd g s⁻¹ o es ep t (bh vals) B)/\
     (∀b o,b<s⁻¹->s.heap.get? b=U o->g.get? b=U o)) E) iz.init.plain QN<|Qs a5 ?_) λL y f=>?_
   ·obtain⟨ol,M,P,nl,S⟩:=hl
    obtain⟨b7,C,a6,p⟩:=ol;simp only at P S;subst P;subst S;have T:(s.heap.push {cls:=.type "set",dict:=Z,data:=.set #[] 0<|.fresh 0 0 d}).get? l=U {cls:=.type "list",dict:=C,data:=.seq a nl,slots:=p}:=bJ _ M;have b8:=aep;have b9:=aeq;have c3:(ay "list" == ay "dict")=ao:=ξ
    have X:(s.heap.push {cls:=.type "set",dict:=Z,data:=.set #[] 0<|.fresh 0 0 d}).IsList l a:=(_,T,O,nl,O);unfold Builtin.«set.__init__» Qc C_;generalize a7:qi=PI
    wp_walk
    subst a7;refine xY X ?_;refine ag<|PE ?_;have a0:l<s⁻¹:=bT M;have a8:A.in1.in1.in1.handled=Z:=by simp[hh]
    have a1:l≠(s.heap.push {cls:=.type "set",dict:=Z,data:=.set #[] 0<|.fresh 0 0 d}).objs.size:=by
     rw[mF];exact ck<|jM a0
    have a9:s⁻¹∉[(s.heap.push {cls:=.type "set",dict:=Z,data:=.set #[] 0<|.fresh 0 0 d}).objs.size,l]:=by
     rw[mF];simp only[ci,fu,on,nE,not_or];exact(ck<|yF _,iM a0)
    refine Sq (knd:=knd) ((vL a8 _ l a1 a).toS) (by show A.units+1+1+1<cH;omega) hv s⁻¹ a9 vals adr hn hB hz (λi v q=>a3 i v q) (λb o ho s' i st e hb=>?hna)
     (a.size-0) 0 _ ω (dZ _) ((_,dv _ O,O,O),(X.push _)) ({cls:=.type "set",dict:=Z,data:=.set #[] 0<|.fresh 0 0 d},#[],0,.fresh 0 0 d,?hS0) (λj x hx=>ze (hT j x hx) λo e=>bJ _<|bJ _ e) ?hR
    case hna=>
     obtain⟨⟨oi,e1,e2,_⟩,_⟩:=st;obtain⟨c4,m,hc,_⟩:=ho;simp only[fu] at hb;subst hb;have e3:=ca<|e1.symm.trans e;rw[<-e3,e2] at hc;exact aZ hc ξ
    case hS0=>
     have a2:((s.heap.push {cls:=.type "set",dict:=Z,data:=.set #[] 0<|.fresh 0 0 d}).push {cls:=.type "list_iterator",data:=.fields #[.ref l,.int 0 0]}).get? s⁻¹
      =U {cls:=.type "set",dict:=Z,data:=.set #[] 0<|.fresh 0 0 d}:=bJ _ hS
     exact(a2,(O,O,O),O,(by simpa using DK 0 0 d),O,lD,λe he=>by simp at he,λk hk=>by simp[bh] at hk,.inl (O,dZ _),(λe he=>by simp at he),I.imp id λz=>(z,O))
    case hR=>
     intro s' hm D;obtain⟨g,g',d',b0,b1⟩:=s';have eg:g'=s.gens:=hm.gens;have ed:d'=s.drawn:=hm.drawn;have eo:b1=s.os:=hm.os;subst eg;subst ed;subst eo;show am _ _ _ _ _ _;refine aC ?_;show am _ _ (ret bj) _ _ _;refine aC (O,g,b0,O,D,λb o hb e=>?_);have b2:b≠s⁻¹:=ck hb;have b3:b≠(s.heap.push {cls:=.type "set",dict:=Z,data:=.set #[] 0<|.fresh 0 0 d}).objs.size:=by
      rw[mF];exact ck<|jM hb
     exact hm.heap b o (by simp only[ci,fu,on,nE,not_or];exact(b2,b3))<|bJ _<|bJ _ e
   ·cases L with
    |error e=>exact f
    |ok G=>
     cases G with
     |ret r=>
      obtain⟨rfl,g,tk,rfl,D,b4⟩:=f
      repeat(any_goals(first|assumption|wp_step))
      exact h _ _ D b4
     |_=>exact f.elim
  |_=>exact hr.elim
end
end
def wZ(D:V)(n:Nat):cP:=.i λh=>∃o a b t,h.get? D=U o/\o.ExactSet/\o.data=.set a b t/\t.fits a.size=ae/\a.size=n/\n<=100
section
variable{X:aK}
def EG:∀(k:Int)(v:aa)(n:Nat),(dR a w).is k v=ae->qk n v=bH ae:=by
 intro k v n h;obtain⟨t,rfl⟩:=HX h;cases n<;>rfl
def LO{b:List aa}(j:jL h c b.toArray)(g:fU b f):dT (dR a w) h f c:=by
 obtain⟨o,e,i,k,d⟩:=j;refine(o,b.toArray,k,e,i,d,?_);have:∀{b:List aa}{f:List Int},fU b f->CP (dR a w) f b:=by
  intro b f g
  induction g with
  |nil=>exact .nil
  |cons n t h l=>exact .cons (by show HY n (.int n t)=ae;simp[HY]) l
 simpa using this g
def Wq(G:X.b=ae)(L:X.A.units+64<cH):io X (.type "set") (λy H Q=>∃(l:V)(d:List V)(c:Ξ),y=[.c l]/\bx X.K H l (d.map af.c)/\aW H d c/\c.length<=59/\
  ∀D,H D=Z->Q (.c D) (av H D<|wZ D (bh c).length)):=by
 intro z s σ H y us Q I r h;obtain⟨l,d,c,rfl,M,A,hz,q⟩:=h;obtain⟨u,rfl,P⟩:=gU r;cases P;obtain⟨k,R,S,_⟩:=I.B M;obtain rfl:=mQ R;have m:=A.B;refine Kr (B:=d) (knd:=dR X.prog X.w) (vals:=c) (adr:=λi=>d.getD i 0) (I.a.hd G) S.isList L EG (by rw[cz,aA];omega) (by rw[cz,aA];omega) (λi n=>by rw[cz,aA] at n;rw[l_,cw n];exact lE n)
  (λi v e=>?_) (λj x e=>?_) λh' tk (o,es,ep,t,T) kk=>?_
 ·have g:(d.map Y)[i]?=U v:=by simpa using e
  rw[cm] at g;cases f:d[i]? with
  |none=>rw[f] at g;simp at g
  |some a=>
   rw[f] at g;rw[<-ca g,l_,f]
   rfl
 ·have hj:j<d.length:=by rw[m];exact(cE.mp e).1
  have f:d[j]?=U d[j]:=cw hj;obtain⟨a0,C,e2⟩:=A.F f;rw[e] at C;obtain rfl:=ca C;obtain⟨k,r2,p2,_⟩:=I.J<|fm.B (K:=X.K) e2;rw[l_,f];exact LO p2<|oU r2
 ·have E:=sw c
  refine(.c s⁻¹,_,I.F (o:=wZ s⁻¹ (bh c).length) (λb u e=>kk b u (bT e) e) (bc _) ?_,O,q _<|I.b.B<|bc _);refine((o,es,ep,t,T.a,T.g,T.c,jQ T.d,T.j,ω),(o,T.a),λh1 h2 (o',p,w,t',g1,g2) kp=>(o',p,w,t',kp _ g1,g2))
def Ww:io X (.builtin "len") (λa H Q=>∃D n,a=[.c D]/\H D=U (wZ D n)/\Q (.d n) H):=by
 intro b s k H a l Q I r h;obtain⟨D,n,rfl,c,q⟩:=h;obtain⟨u,rfl,d⟩:=gU r;cases d;obtain⟨⟨o,m,p,t,e,f,g,i,j,v⟩,_⟩:=(show db X.prog X.w H s.heap D (wZ D n) from I.b D _ c);exact call_len_set e f g i ω (.d n,H,I.N _,(_,by rw[j]),q)
end
section
open PySem.Builtin PySem.Builtin.Str
section
variable{prog:aU}{w:aO}{A:bg}{E:Ω}{s:ai}{x y:al}{t u:ga}{Q:Ω}
def Sj(c:(y.length==0)=ao)(h:∀(l:List (al×ga)) k,l.map (·.1)=CH x y->Q (.ref s⁻¹) {s with heap:=s.heap.push {cls:=.type "list",data:=.seq (PQ l).toArray},toks:=k})(d:x.length+2<=bG):am (aE prog w) A (gv (.builtin "str.split") [.str x t,.str y u]) Q E s:=by
 have e:(partsBetween x (QX x y 0 x.length<|x.length+1) y.length).length<=bG:=by
  have f:=StrLaws.occ_length_le x y 0 x.length<|x.length+1;rw[length_partsBetween];omega
 cases a:(aG (x.length<y.length)|| decide (strKind x<strKind y))
 ·cases b:(QX x y 0 x.length<|x.length+1).isEmpty
  ·refine nW It (Hu _ _ _) QM (QQ _ _) (meets_str_split_sep x y t u a c b ω e) ?_
   show vG Q E _ {s with toks:=_,heap:=s.heap.push {cls:=.type "list",data:=.seq (strsFrom s.toks<|partsBetween x (QX x y 0 x.length<|x.length+1) y.length).toArray}};rw[strsFrom_eq];exact h (numbered s.toks _) _<|(numbered_texts _ _).trans ((au<|ne_true_of_eq_false a).trans<|au<|ne_true_of_eq_false b).symm
  ·exact nW It (Hu _ _ _) QM (QQ _ _) (meets_str_split_not_found x y t u a c b)
   <|h [(adc x t)] s.toks ((au<|ne_true_of_eq_false a).trans<|aB b).symm
 ·exact nW It (Hu _ _ _) QM (QQ _ _) (meets_str_split_cannot_occur x y t u a)
  <|h [(adc x t)] s.toks (aB a).symm
end
end
section
variable{X:aK}
def Ks:∀(l:List (al×ga)),bW ((l.map (·.1)).map af.f) (PQ l)
 |[]=>.nil
 |p::l=>.cons (p.2,O) (Ks l)
inductive K'(x:af)(vs:List af)(H:ac)(Q:aL):Prop
 |a:∀z y,(x=.f z)->(vs=[.f y])->((y.length==0)=ao)->(z.length+2<=bG)->((CH z y).length<=bG)->(∀D,H D=Z->Q (.c D) (av H D<|.a<|(CH z y).map af.f))->K' x vs H Q
def Vb:sX X "str.split" K':=by
 intro a s m H x n v p Q I c d h;obtain⟨z,y,rfl,rfl,f,g,i,q⟩:=h;obtain⟨t,rfl⟩:=c;obtain⟨u,rfl,j⟩:=d.N;obtain⟨t',rfl⟩:=j;refine Sj f (λl k e=>?_) g;refine(.c s⁻¹,_,I.F (t':=k) (o:=.a<|(CH z y).map af.f) (λb r q=>bJ _ q) (bc _) ?_,O,q _<|I.b.B<|bc _);refine(by rw[aA];exact i,PQ l,0,?_,dv _ O);rw[<-e];exact Ks l
def Af(x:al):jt:=(λi _=>i<x.cps.size,λi H v a=>a=H/\∃c,x.cps[i]?=U c/\v=.f ⟨#[c]⟩,λi _=>i=x.cps.size)
def Kz{K:aH}(x:al)(a:V)(T:String)(hn:["enumerate","zip","dict_itemiterator","dict_reverseitemiterator","odict_iterator","itertools.zip_longest","itertools.pairwise"].contains T=ao)(t:ga)(a0:∀A':bg,A'.handled=Z->Walks P w A' a [a] [a] x.cps.size (SignAt x) (λi h=>h.IsStrIter a T x t i))(p:∀(A:bg)(i:Nat)(s:ai)(Q:Ω)(E:Ω),s.heap.IsStrIter a T x t i->Q (.ref a) s->am (aE P w) A (qi<|.ref a) Q E s):pS P w K tg (Af x) [a] a (λi h=>h.IsStrIter a T x t i) where
 f:=by simp
 a:=λi h g b j=>by
  have e:b=a:=by simpa using j
  subst e;obtain⟨o,e,c,d⟩:=g;exact(o,e,λv z=>by rw[d] at z;cases z)
 c:=λi h m g k=>by
  obtain⟨o,e,c⟩:=g;exact(o,k a (by simp) o e,c)
 d:=by
  intro X q r y C i f s σ H E I n g D;subst q r y;obtain⟨G,L,f2,M,R,S⟩:=n a (by simp);refine(a0 X.A<|I.a.hd C).item i s _ _ D g λv m tk hv l kk=>?_;obtain⟨c,u,hx,rfl⟩:=hv;have I1:aw X f σ H {s with heap:=m,toks:=tk}:=I.A5 (λb o j e=>kk b o (by simpa using j) e) G L M R S;obtain⟨o,e1,e2,e3⟩:=id l;exact(_,O,wN (s:={s with heap:=m,toks:=tk}) e1 e2 e3 hn (.f ⟨#[c]⟩,H,I1,(u,O),(O,c,hx,O),l,λb j=>(n b j).1))
 done:=by
  intro X q r y C i f s σ H E I n g D;subst q r y;obtain⟨G,L,f2,M,R,S⟩:=n a (by simp);have hi:i=x.cps.size:=D;subst hi;exact(a0 X.A<|I.a.hd C).done s _ _ g λm tk kk=>(O,I.A5 (λb o j e=>kk b o (by simpa using j) e) G L M R S)
 e:=p
def VG(a:bb):kw:=λb H R=>a b H λv c=>∃x,v=.f x/\R (Af x) c
def UB{m:bb}(w:bA X l m):kX X u l (VG m):=by
 intro a s n H R I h;refine bI (w a s n H _ I h) λv c (x,f,g,y,C)=>?_;obtain⟨z,e,q⟩:=C;subst e;obtain⟨t,rfl⟩:=y;have d:∀(o:aR),aw X a n f {c with heap:=c.heap.push o}:=λo=>g.W (t':=c.toks) λb o e=>bJ _ e;have p:∀b∈[c⁻¹],fQ X a f b:=λb D=>by
  have e:b=c⁻¹:=by simpa using D
  subst e;exact g.A0 (bc _)<|g.b.B<|bc _
 cases r:z.cps.all (·<128)
 ·refine wpAny_pyIter_wide r ?_
  exact(c⁻¹,[c⁻¹],_,_,f,O,d _,Kz z _ "str_iterator" ξ t (λG j=>Walks.strWide j _ z t) (λA i s Q E k h=>wpAny_pyIter_striter_wide k h),(_,dv _ O,O,O),p,q)
 ·refine wpAny_pyIter_ascii r ?_
  exact(c⁻¹,[c⁻¹],_,_,f,O,d _,Kz z _ "str_ascii_iterator" ξ t (λG j=>Walks.strAscii j _ z t) (λA i s Q E k h=>wpAny_pyIter_striter_ascii k h),(_,dv _ O,O,O),p,q)
def Wg{g:gY}{k:eB}{l:bb}{m:ac}{Q:aL}{x:al}(h:Nat->aM->List af->ac->Prop)(o:h 0 a [] (av m D<|.a []))(q:∀i a f H c,x.cps[i]?=U c->i<x.cps.size->f.length<=i->h i a f H->g (.f ⟨#[c]⟩) a H λd r=>k d r λb n=>if b=ae then l d n (re x.cps.size h D i d) else s_ x.cps.size h i d n)(s:∀a f H,h x.cps.size a f H->Q (.c D) H):fg (Af x) g k l a m D Q:=by
 refine sR x.cps.size h o (λa f H p=>O) (λi a f H j p=>j) (λi a f H v w j t p y=>?_) s;obtain⟨e,c,u,rfl⟩:=y;subst e;exact q i a f _ c u j t p
end
def lj(b:List Int):Ξ:=b.foldl (λa x=>a++a.map (·++[x])) [[]]
def cy(a:List Int):Ξ:=(lj a).drop 1
def GR(a:List Int)(x:Int):lj (a++[x])=lj a++(lj a).map (·++[x]):=by unfold lj;rw[Ji];rfl
def BI(b:List Int):(lj b).length=2 ^ b.length:=by
 have:∀(b:List Int)(c:Ξ),(b.foldl (λa x=>a++a.map (·++[x])) c).length=c.length*2 ^ b.length:=by
  intro b
  induction b with
  |nil=>intro c;simp
  |cons x b d=>
   intro c;rw[pH,d,dz,aA,dP,agl];rw[<-Nat.two_mul,Ro 2,Nat.mul_assoc,Ro 2]
 simpa[lj] using this b [[]]
def GS(c:List Int):∃t,lj c=[]::t/\∀q∈t,q≠[]:=by
 have:∀(c:List Int)(b:Ξ),(∃t,b=[]::t/\∀q∈t,q≠[])->∃t,c.foldl (λa x=>a++a.map (·++[x])) b=[]::t/\∀q∈t,q≠[]:=by
  intro c
  induction c with
  |nil=>intro b h;exact h
  |cons x c e=>
   rintro b ⟨t,rfl,h⟩;rw[pH];refine e _ (t++([]::t).map (·++[x]),O,λq d=>?_);rcases gB.mp d with d|d
   ·exact h q d
   ·obtain⟨r,_,rfl⟩:=bq.mp d
    simp
 exact this c [[]] ([],O,λq d=>nomatch d)
def aa7(a:List Int):(lj a).filter (λq=>!aG (q=[]))=cy a:=by
 obtain⟨t,e,h⟩:=GS a;unfold cy;rw[e];show iC _ ([]::t)=t;rw[yS,au (by simp)];exact List.filter_eq_self.mpr λq b=>by simp[h q b]
def vr(a:List Int):(cy a).length=2 ^ a.length-1:=by unfold cy;rw[mK,BI]
def OU(b:List Int):∀q∈lj b,q.length<=b.length:=by
 have:∀(b:List Int)(c:Ξ)(n:Nat),(∀q∈c,q.length<=n)->∀q∈b.foldl (λa x=>a++a.map (·++[x])) c,q.length<=n+b.length:=by
  intro b
  induction b with
  |nil=>intro c n h q e;simpa using h q e
  |cons x b f=>
   intro c n h q e;rw[pH] at e;have:=f _ (n+1) (λr d=>by
    rcases gB.mp d with d|d
    ·exact IX<|h r d
    ·obtain⟨u,g,rfl⟩:=bq.mp d
     rw[dz];exact agj<|h u g) q e
   rw[dP];omega
 intro q e;have:=this b [[]] 0 (λr d=>by simp at d;subst d;exact bc _) q e;omega
def iJ:List Int->Bool
 |a::b::r=>aG (a<b)&&iJ (b::r)
 |_=>ae
def OV:∀c:List Int,((c.zip<|c.drop 1).map λp=>aG<|p.1<p.2).all id=iJ c
 |[]=>O
 |[_]=>O
 |a::b::r=>by
  have:=OV<|b::r;unfold iJ;rw[<-this]
  rfl
def OX:∀e:List Int,iJ e=ae↔∀(i:Nat) a b,e[i]?=U a->e[i+1]?=U b->a<b
 |[]=>by simp[iJ]
 |[x]=>by simp[iJ]
 |x::y::r=>by
  unfold iJ;rw[iN,ii,OX<|y::r];constructor
  ·rintro⟨f,g⟩ i a b c d
   cases i with
   |zero=>simp at c d;subst c d;exact f
   |succ i=>exact g i a b (by simpa using c) (by simpa using d)
  ·intro h
   exact(h 0 x y O O,λi a b c d=>h (i+1) a b (by simpa using c) (by simpa using d))
def OW(c:List Int)(h:iJ c=ae):∀(d i:Nat) a b,c[i]?=U a->c[i+d]?=U b->a<=b:=by
 intro d
 induction d with
 |zero=>intro i a b f e;rw[agt,f] at e;cases e;exact md _
 |succ d j=>
  intro i a b f e;have k:i+(d+1)<c.length:=(cE.mp e).1;have g:c[i+d]?=U c[i+d]:=cw ω;have l:=j i a _ f g;have m:=(OX c).mp h (i+d) _ b g e;omega
def gl(a:List Int):Bool:=aG (1<=a.length)&&aG (a.length<=5)&&!(aG<|a.headD 0<0)&&!(aG<|99<a.getLastD 0)&&iJ a
def ll(a:List Int):Bool:=aG (1<=a.length)&&aG (a.length<=5)&&a.all (λp=>aG (0<=p)&&aG (p<=99))&&iJ a
def BL(b:List Int):gl b=ll b:=by
 unfold gl ll;cases b with
 |nil=>rfl
 |cons x r=>
  by_cases a:iJ (x::r)=ae
  ·rw[a,ah7,ah7]
   by_cases j:(x::r).length<=5
   ·have e:(x::r).getLastD 0=(x::r)[(x::r).length-1]:=by
     rw[ahb,List.getLast?_eq_getElem?,cw (by simp)];rfl
    have c:(!(aG<|(x::r).headD 0<0)&&!(aG<|99<(x::r).getLastD 0))=(x::r).all (λp=>aG (0<=p)&&aG (p<=99)):=by
     rw[qA];rw[iN,Jw,Jw,decide_eq_false_iff_not,decide_eq_false_iff_not,kN];constructor
     ·rintro⟨k,l⟩ p m
      obtain⟨i,d⟩:=jO.mp m;have n:i<(x::r).length:=(cE.mp d).1;have f:=OW (x::r) a i 0 x p O (by simpa using d);have g:=OW (x::r) a ((x::r).length-1-i) i p ((x::r)[(x::r).length-1]) d (by
       rw[show i+((x::r).length-1-i)=(x::r).length-1 from ω];exact cw (by simp))
      rw[e] at l;have o:¬x<0:=k;simp only[iN,ii];constructor<;>omega
     ·intro h
      have f:=h x dC;have g:=h ((x::r)[(x::r).length-1])<|lE _;rw[e];simp only[iN,ii] at f g;constructor
      ·show ¬x<0;omega
      ·omega
    rw[<-c];simp only[Bool.and_assoc]
   ·rw[cf j];simp
  ·have:iJ (x::r)=ao:=by simpa using a
   rw[this,pJ,pJ]
def gj(a:Ξ):Bool:=aG (a.length<=20)&&a.all gl&&!(aG<|(bh a).length<a.length)&&aG ((bh<|a.flatMap cy).length<=200)
def Pb(a:Ξ)(k:Nat):Prop:=∀(i:Nat) b,i<k->a[i]?=U b->b∉a.take i/\ll b=ae
def aa5(a:Ξ)(h:a.length<=20)(b:Pb a a.length):gj a=aG ((bh<|a.flatMap cy).length<=200):=by
 unfold gj;have d:a.all gl=ae:=kN.mpr λf g=>by
  obtain⟨i,c⟩:=jO.mp g;rw[BL];exact(b i f (cE.mp c).1 c).2
 have j:¬(bh a).length<a.length:=λz=>by
  obtain⟨k,x,e,l⟩:=(SX a).mp z;exact(b k x (cE.mp e).1 e).1 l
 rw[bZ h,d,cf j]
 rfl
def aa4(a:Ξ)(h:¬a.length<=20):gj a=ao:=by unfold gj;rw[cf h];rfl
def zZ(d c:List al)(a:List (Option Nat))(b:eO):Bool:=aG (a.length=c.length)&&(a.zip c).all λp=>match p.1 with
 |none=>ae
 |some j=>aG (d[j]?=U p.2)&&aG (b.names.lookup p.2=U .free)
def Mx(h:zZ g c a b=ae):vb g c a b:=by
 unfold zZ at h;rw[iN,ii,kN] at h;refine(h.1,λi j e=>?_);have f:i<a.length:=(cE.mp e).1;have d:c[i]?=U c[i]:=cw (by rw[<-h.1];exact f);have:=h.2 (adc (U j) (c[i]))<|jO.mpr (i,by rw[lI,e,d];rfl);simp only[iN,ii] at this;exact(c[i],d,this.1,this.2)
section
variable{X:aK}{scope:eO}{caps:List (Option Nat)}{tg iter elt:bf}{ifs:List bf}{wi:kw}{g:gY}{tc:eB}{te:bb}{pos:bR}
def fE(s j:List al)(caps:List (Option Nat))(k:kX X tg iter wi)(l:∀f C a b h,lQ (jW X scope j f C a b h) tg g)(m:∀f C a b h,oW (jW X scope j f C a b h) ifs tc)(n:∀f C a b h,bA (jW X scope j f C a b h) elt te)(o:X.b=ae:=by rfl)(p:scope.kind=.function:=by rfl)(e:∀y∈scope.names,y.2≠.cell:=by decide +kernel)(c:∀y∈scope.names,y.2=.free->scope.names.lookup y.1=U .free:=by decide +kernel)(d:∀y∈scope.names,y.2=.local->scope.names.lookup y.1=U .local:=by decide +kernel)(hfr:∀y∈scope.names,y.2=.free->X.env.kindOf y.1=U .cell\/X.env.kindOf y.1=U .free)(q:X.N=s:=by rfl)(i:zZ s j caps scope=ae:=by decide +kernel)(r:∀x,tP iter X.env x=bH x:=by intro _;rfl):bA X (.ListComp elt [(tg,iter,ifs,0)] scope pos) (qH wi caps g tc te):=
 UM o p e c d hfr (Mx (by rw[q];exact i)) k l m n r
end
def lN{b:dD}{a:eO}(h:a.names.all (λy=>aG<|y.2≠.free)=ae):∀y∈a.names,y.2=.free->b.kindOf y.1=U .cell\/b.kindOf y.1=U .free:=λy c e=>
 aZ e<|iE<|kN.mp h y c
def iQ{b:dD}{a:eO}(c:eO)(h:a.names.all (λy=>aG (y.2≠.free)|| decide (c.names.lookup y.1=U .cell)|| decide (c.names.lookup y.1=U .free))=ae)(d:b.scope=c:=by rfl):∀y∈a.names,y.2=.free->b.kindOf y.1=U .cell\/b.kindOf y.1=U .free:=λy f e=>by
 subst d;have:=kN.mp h y f;simp only[RI,ii] at this;rcases this with (q|q)|q
 ·exact aZ e q
 ·exact .inl q
 ·exact .inr q
def eI(l:List al)(h:l.Nodup:=by decide +kernel):l.Nodup:=h
def Ea{c:bb}{S:ac->Prop}(h:c a H P):ja a H λb d=>if b=ae then c a d P else S d:=by
 show if ae=ae then c a H P else S H;rw[aB O];exact h
def jU{i:Nat}{d:bb}{c:aM}{P:aM->aL}{S:aM->ac->Prop}(h:d (c.set i<|U v) H (P<|c.set i<|U v)):eA i v c H λa f=>ja a f λb e=>if b=ae then d a e (P a) else S a e:=Ea (S:=S<|c.set i<|U v) h
def fc{e:jt}(h:fg e g a b c d D Q):fg e g a b c d D Q:=h
def MW{c d:Type}{R:c->d->Prop}:∀{l:List c}{m:List d},l.length=m.length->(∀(i:Nat) x y,l[i]?=U x->m[i]?=U y->R x y)->dA R l m
 |[],[],_,_=>.nil
 |x::l,y::m,h,f=>.cons (f 0 x y O O) (MW (by simpa using h) λi a b e g=>f (i+1) a b (by simpa using e) (by simpa using g))
 |[],_::_,h,_=>by simp at h
 |_::_,[],h,_=>by simp at h
section
variable{prog:aU}{w:aO}{A:bg}{E:Ω}{s:ai}
def abl{t f:V}{k l:aa}{b e:Option Int}{Q:Ω}(c:jL s.heap t a)(m:s.heap.IsSliceOf f k l .none)(n:qp k b)(o:qp l e)(hw:cu a.size 0 b=0/\cu a.size a.size e=a.size)(h:Q (.ref t) s):am (aE prog w) A (ql (.ref t)<|.ref f) Q E s:=by
 obtain⟨p,g,i,q⟩:=id m;have j:s.TypeIs (.ref f) "slice":=(p,g,i);obtain⟨x,r,u,y,v⟩:=id c;unfold ql
 try with_reducible refine fz ?_
 first|refine ag<|aC ?_|skip
 refine ag<|acz c.typeIs ξ ?_;refine ag (pt (name:=iu "__getitem__") c.typeIs vV
 <|lT vV c.typeIs af8 ?_<|aga _ _)
 show am _ _ (afj (.ref t) >>= _) _ _ s;refine ag<|tupleItemsOf_ c ?_;refine ag<|rH j ?_;rw[aB ξ];refine ag<|Pf m n o ?_;have d:((((cu a.size 0 b:Nat):Int)==0&&(1:Int)==1&&(cu a.size a.size e-cu a.size 0 b)==a.size)=ae):=by
  rw[hw.1,hw.2];simp
 show am _ _ (if(((cu a.size 0 b:Nat):Int)==0&&(1:Int)==1&&(cu a.size a.size e-cu a.size 0 b)==a.size)=ae then _ else _) _ _ s;rw[aB d];refine ag ?_;unfold ajv;refine ag<|rH c.typeIs<|aC ?_;rw[aB ξ];refine ag<|nU ?_;exact aC (_,O,aC h)
end
section
variable{X:aK}
inductive zI(x:af)(lo:Option Int)(hi:Option Int)(H:ac)(Q:aL):Prop
 |b:∀a xs,(x=.c a)->(H a=U (.b xs))->(∀p H',aQ H H'->H' p=U (.b<|iR xs lo hi)->Q (.c p) H')->zI x lo hi H Q
def zx:z_ X zI:=by
 intro c s t H x v u w i j y Q I k l m n h;obtain⟨a,b,rfl,f,q⟩:=h
 by_cases e:cu b.length 0 i=0/\cu b.length b.length j=b.length
 ·cases k
  obtain⟨g,r,o,A⟩:=I.J<|fm.B (K:=X.K) f;have d:g.toArray.size=b.length:=by rw[cz];exact r.B.symm
  refine("tuple",_,vV.lookup,o.typeIs,abl o l m n (by rw[d];exact e) (.c a,H,I,O,q a H (aQ.A3 H) ?_));rw[f];unfold iR;rw[e.1,e.2,ahi,IW,gb<|bc _]
 ·exact Ei c s t H (.c a) v u w i j y Q I k l m n (a,b,O,fm.B f,e,λp z=>q p _ (aQ.B z) aD)
end
def de(i:Nat):bV:=PySem.Challenge.pw_seamwright_k69_growing_refused_everywher.main.body.getD i<|.Pass (0,0,0,0)
abbrev AY:bV:=de 11
abbrev vg:bV:=de 12
abbrev vi:bV:=de 14
abbrev xC:bV:=de 15
abbrev xI:bV:=de 16
abbrev Be:bV:=de 21
structure eC(mg:al->Option aa):Prop where
 a:mg "len"=Z
 all:mg "all"=Z
 i:mg "zip"=Z
 d:mg "sorted"=Z
 e:mg "set"=Z
 b:mg "list"=Z
 g:mg "tuple"=Z
 c:mg "range"=Z
 f:mg "enumerate"=Z
 h:mg "int"=Z
 j:mg "isinstance"=Z
 l:mg "reversed"=Z
 k:mg "bool"=Z
def fZ:ig "len"=U (.builtin "len"):=δ
def xO:ig "all"=U (.builtin "all"):=δ
def aam:ig "zip"=U (.type "zip"):=δ
def vp:ig "sorted"=U (.builtin "sorted"):=δ
def xN:ig "set"=U (.type "set"):=δ
def mz:ig "list"=U (.type "list"):=δ
def OJ:ig "tuple"=U (.type "tuple"):=δ
def GL:ig "enumerate"=U (.type "enumerate"):=δ
def aap:ig "int"=U (.type "int"):=δ
def OK:ig "isinstance"=U (.builtin "isinstance"):=δ
def dN{n:Nat}(h:n<=100000):n<=bG:=by rw[jx];omega
def li{n:Nat}(h:n<=100000):n<bG:=by rw[jx];omega
def cg{n:Nat}(h:Nat.ble n 100000=ae):n<=bG:=dN<|Nat.le_of_ble_eq_true h
def aar(x:Int)(r:List Int):lP ((x::r).map af.d) (-1)=U (.d<|(x::r).getLastD 0):=by
 obtain⟨q,z,e⟩:∃q z,x::r=q++[z]:=((x::r).dropLast,(x::r).getLast<|ahl x r,(ahj<|ahl x r).symm);rw[e,cv,ahb,List.getLast?_append];exact Wz _ _
def xM{a:List Int}{i:Nat}(h:(a.map af.d)[i]?=U x):∃p,a[i]?=U p/\x=.d p:=by
 rw[cm] at h;cases e:a[i]? with
 |none=>rw[e] at h;cases h
 |some p=>rw[e] at h;exact(p,O,(ca h).symm)
def fY{b:List V}{i:Nat}(h:(b.map af.c)[i]?=U x):∃a,b[i]?=U a/\x=.c a:=by
 rw[cm] at h;cases e:b[i]? with
 |none=>rw[e] at h;cases h
 |some p=>rw[e] at h;exact(p,O,(ca h).symm)
def di{a:Type}{l:List a}{i:Nat}{x:a}(h:l[i]?=U x):l.take (i+1)=l.take i++[x]:=by rw[r_,h];rfl
def iI{a:Type}(l:List a):l.take l.length=l:=gb<|bc _
def aah(x:Int)(r:List Int):iR ((x::r).map af.d) (U 1) Z=r.map af.d:=by
 unfold iR;have e:cu ((x::r).map af.d).length 0 (U 1)=1:=by
  have:=xR ((x::r).map af.d).length 0 1;rw[show((1:Nat):Int)=1 from O] at this;rw[this,aA,dP];omega
 rw[e,BP];show eE _ (r.map af.d)=_;rw[gb (by simp)]
section
variable{P:aU}{w:aO}{K:aH}{mg:al->Option aa}{base:aI}
inductive Ax(vs:List af)(H:ac)(Q:aL)(E':bK):Prop
 |b:∀a ps,(vs=[.c a])->(cG H a ps)->(∀H',aQ H H'->Q (.e<|gl ps) H')->Ax vs H Q E'
def Xy:cQ ["numbers"] ["numbers"] (bB AY):=(O,O,O,δ,O,δ,δ)
def N_(F:bF K "is_piece" "is_piece" AY f fd)(a1:eC mg)(m5:mg "MOST_POINTS"=U (.int 5 t5))(R:mg "LAST_POINT"=U (.int 99 M)):bD P w K mg base aX 1 f fd ["numbers"] Ax:=by
 refine F.B Xy (λvs H Q E h=>?_) (λa0 A S s H vs Q E hr h=>?_)
 ·obtain⟨a,b,rfl,_⟩:=h;rfl
 ·obtain⟨a,b,rfl,t,k⟩:=h
  refine(_,aY (dh (mR<|Ll uN uN aV (eH gW O a1.a fZ<|aj (ah 0) az)<|oN O m5 (v:=.d 5) (_,O)) (be<|cp gd) dq)
   (aY (dh (sW.B<|sH (cV sJ (dG gF (ah 0) aV (λ_ _=>O)) aV<|cN _)<|sG<|cV sK (dG gF (ah 0) (uL uH aV) (λ_ _=>O)) (oN O R (v:=.d 99) (_,O))<|cN _) (be<|cp gd) dq)
   (be (cp (eH (wU O) O a1.all xO (aj
    (fE ["numbers"] ["low","high"] [Z,Z] (UA O a1.i aam<|aj (ah 0)<|aj (oM Ei (ah 0) (oH aV) oJ) az)
     (λcl C m n ex=>wF O<|oK (cB (i:=0) (eI ["low","high"]) O<|ak O)<|oK (cB (i:=1) (eI ["low","high"]) O<|ak O) wE)
     (λcl C m n ex=>gE) (λcl C m n ex=>wG sJ (ah 0) (ah 1)<|cN _) (hfr:=lN δ) (g:=zU K 2<|sM (eA 0)<|sM (eA 1) zV)) az))))),?_)
  have I:gl b=ao->Q (.e ao) H:=λe=>by have:=k H<|aQ.A3 H;rw[e] at this;exact this
  refine(_,O,a,_,O,.inr<|fm.B t,_,_,O,O,_,O,?_);rw[aA];refine qQ (λT=>?_) (λT=>?_)
  ·refine(_,_,O,O,_,O,?_)
   have c:1<=b.length:=by have:=iE T;omega
   cases h5:aG ((b.length:Int)<=5) with
   |false=>
    have d:¬b.length<=5:=by have:=mM h5;omega
    exact dI<|I (by unfold gl;rw[cf d];simp)
   |true=>
    have d:b.length<=5:=by have:=iE h5;omega
    refine cZ ?_;obtain⟨x,r,rfl⟩:∃x r,b=x::r:=by
     cases b with
     |nil=>simp at c
     |cons x r=>exact(x,r,O)
    refine(_,O,a,_,_,_,O,O,fm.B t,kW (j:=0) O,_,_,O,O,_,O,?_);refine qQ (λX=>?_) (λX=>?_)
    ·refine dI<|I ?_
     unfold gl;rw[show aG ((x::r).headD 0<0)=ae from X];simp
    ·refine(_,O,_,O,a,_,_,_,O,O,fm.B t,aar x r,_,_,O,O,_,O,?_)
     cases hl:aG (99<(x::r).getLastD 0) with
     |true=>
      refine dI<|I ?_;unfold gl;rw[hl];simp
     |false=>
      refine cZ ?_;refine(_,O,_,O,_,O,a,_,O,fm.B t,?_,λp hp=>?_)
      ·intro z
       have e:=xR ((x::r).map af.d).length 0 1;rw[show((1:Nat):Int)=1 from O,z.1,aA,dP] at e;omega
      ·rw[aah]
       have s1:aQ H (av H p<|.b<|r.map af.d):=aQ.B hp;refine(a,p,O,(_,fm.B<|s1.N t),(_,fm.B aD),λD hD=>?_);have hm:fV ((x::r).map af.d).length (r.map af.d).length=r.length:=by simp
       refine fc (We (K:=K) (xs:=(x::r).map af.d) (ys:=r.map af.d) (λi L y u=>∃v1 v2,L=[v1,v2]/\aQ (av H p<|.b<|r.map af.d) u/\u D=U (.a y)/\y=((((x::r).zip r).map λq=>aG<|q.1<q.2).take i).map af.e)
        (Z,Z,O,aQ.B hD,aD,O) (λi L y u (_,_,_,o,_)=>(fm.B<|o.N<|s1.N t,fm.B<|o _ _ aD)) ?_ ?_)
       ·rintro i L y u p' y1 y2 e1 e2 hi hz ⟨v1,v2,rfl,o,l,rfl⟩ G
        obtain⟨q1,g1,rfl⟩:=xM e1;obtain⟨q2,g2,rfl⟩:=xM e2;refine(p',_,O,fm.B aD,O,_,_,O,_,_,O,O,Ea ?_);refine(_,O,_,O,_,_,O,O,gG (dE (Rp _ _) (by rw[aA];exact dN (by simp at d;omega))) hi hz (by rw[a_<|dH l G];exact l) (_,_,O,?_,aD,?_))
        ·exact(o.A0<|o.A2 G).A0 hD
        ·have e3:(((x::r).zip r).map λq=>aG<|q.1<q.2)[i]?=U (aG<|q1<q2):=by
          rw[cm,lI,g1,g2];rfl
         rw[di e3,cv];rfl
       ·rintro L y u ⟨v1,v2,rfl,o,l,rfl⟩
        refine(D,(((x::r).zip r).map λq=>aG<|q.1<q.2),O,bx.B ?_,?_)
        ·rw[l,hm,gb (by simp)]
        ·have:=k u<|s1.F o
         have e4:=OV<|x::r;rw[show(x::r).drop 1=r from O] at e4;rw[e4];have e5:gl (x::r)=iJ (x::r):=by
          unfold gl;rw[bZ c,bZ d,hl];rw[show aG ((x::r).headD 0<0)=ao from by simpa using X]
          rfl
         rw[e5] at this;exact this
  ·refine(_,O,dI<|I ?_)
   have c:¬1<=b.length:=λz=>T<|bZ ω;unfold gl;rw[cf c]
   rfl
end
section
variable{P:aU}{w:aO}{K:aH}{mg:al->Option aa}{base:aI}
inductive xk(vs:List af)(H:ac)(Q:aL)(E':bK):Prop
 |b:∀a ps,(vs=[.c a])->(cG H a ps)->(ps.length<=5)->(∀D as H',aQ H H'->H D=Z->H' D=U (.a<|as.map af.c)->aW H' as (cy ps)->Q (.c D) H')->xk vs H Q E'
def AK:cQ ["piece","found","point"] ["piece"] (bB vg):=(O,O,O,δ,O,δ,δ)
def vk{n:Nat}(h:n<=5):2 ^ n<=32:=by
 have:2 ^ n<=2 ^ 5:=Rn ξ h;exact this
def NT{i:ac}{u:List V}{w:Ξ}{q:Int}{Q:aL}(S:i l=U (.a<|u.map af.c))(I:aW i u w)(hz:u.length<=100)(A:∀f∈w,f.length<=100)(L:i D=Z)(k:∀g b,aQ i b->b D=U (.a<|g.map af.c)->aW b g (w.map (·++[q]))->Q (.c D) b):fg (im K l) (eA 0) ja (dW zJ (bz 0)<|ko<|cT (bz 1) e_) [Z,U<|.d q] i D Q:=by
 have C:=I.B;refine jX (xs:=u.map af.c) (λj y m b=>∃g v,y=[v,U<|.d q]/\aQ i b/\b D=U (.a m)/\m=g.map af.c/\aW b g ((w.take j).map (·++[q]))) ?_ ?_ ?_ ?_
 ·exact([],Z,O,aQ.B L,aD,O,.nil)
 ·rintro j y m b ⟨g,v,rfl,n,d,rfl,o⟩
  exact bx.B<|n _ _ S
 ·rintro j y m b x T X hy ⟨g,v,rfl,n,d,rfl,o⟩
  obtain⟨a,ea,rfl⟩:=fY T;obtain⟨f,M,hf⟩:=I.F ea;refine jU ?_;refine(_,O,_,O,cg O,λt E=>?_);have G:=n.N hf;have P:aQ b (av b t<|.b [.d q]):=aQ.B E;refine(a,t,_,_,O,O,P _ _ G,aD,?_,λp H s2 R=>?_)
  ·rw[aA]
   exact dN (by have:=A f<|dy M;simp;omega)
  ·have r:aQ b H:=P.F s2
   refine gG (ys:=g.map af.c) (by rw[aA];exact dN ω) X hy (r _ _ d) (g++[p],_,O,(n.F r).A0 L,aD,by rw[cv];rfl,?_);rw[di M,cv];have a0:p≠D:=fL R (r _ _ d) (by intro z;cases z);have h:∀c s,H c=U (.b s)->av H D (.a<|g.map af.c++[af.c p]) c=U (.b s):=λc s e=>by
    rw[a_<|fL e (r _ _ d) (by intro z;cases z)];exact e
   refine aW.J (il (r.J o) λc s e=>h c _ e)<|h p _ ?_;rw[R,cv];rfl
 ·rintro y m b ⟨g,v,rfl,n,d,rfl,o⟩
  rw[aA,C,iI] at o;exact k g b n d o
def YN(F:bF K "parts_of" "parts_of" vg f X):bD P w K mg base aX 1 f X ["piece"] xk:=by
 refine F.B AK (λvs H Q E h=>?_) (λa0 A G s H vs Q E hr h=>?_)
 ·obtain⟨a,o,rfl,_⟩:=h;rfl
 ·obtain⟨a,o,rfl,ha,h5,k⟩:=h
  refine(_,aY (cJ (i:=1) AK.a O (ak O)<|eR<|aj (ij az) az)
   (aY (iF iL O (Eu<|ah 0) (cB (i:=2) AK.a O<|aq O)
    (be (cJ (i:=1) AK.a O (ak O) (cA kT (ah 1) (fE ["piece","found","point"] ["part","point"] [Z,U 2] (eG<|ah 1) (λcl C g j ex=>cB (i:=0) (eI ["part","point"]) O<|ak O) (λcl C g j ex=>gE)
     (λcl C g j ex=>cA zN (ah 0)<|ij<|aj (ah 1) az) (hfr:=iQ (bB vg) δ))))))
  <|be<|cp<|oM zy (ah 1) (oH aV) oJ),?_)
  refine(cg O,λe I=>(cg O,λl c=>?_));have s1:aQ H (av (av H e<|.b []) l<|.a [.c e]):=(aQ.B I).A0<|(aQ.B I).A2 c;have L:e≠l:=dH (H:=av H e<|.b []) aD c;refine(_,O,a,O,(_,fm.B<|s1 _ _ ha),Mb (K:=K) (a:=a) (xs:=o.map af.d) (λi y p=>∃l b v,y=[U<|.c a,U<|.c l,v]/\aQ H p/\H l=Z/\p l=U (.a<|b.map af.c)/\aW p b (lj<|o.take i))
   (l,[e],Z,O,s1,(aQ.B I).A2 c,aD,.cons (by show av _ _ _ e=_;rw[a_ L];exact aD) .nil) (λi y p _ (_,_,_,_,m,_)=>fm.B<|m _ _ ha) ?_ ?_)
  ·rintro i x y p hx ⟨l,b,v,rfl,m,M,c,n⟩
   obtain⟨q,eq,rfl⟩:=xM hx;have hi:i<o.length:=(cE.mp eq).1;have R:=n.B;have hn:b.length<=32:=by
    rw[R,BI,eF];exact vk ω
   have hm:∀f∈lj (o.take i),f.length<=100:=λf hf=>by
    have:=OU _ f hf;rw[eF] at this;omega
   refine(_,O,_,O,l,O,(_,bx.B c),λD z=>fc<|NT c n ω hm z λbs H3 d S hb=>?_);have T:=hb.B;rw[aA] at T;refine(l,D,_,_,O,O,d _ _ c,S,by rw[aA,aA];exact dN ω,λl2 r=>?_);have u:H l2=Z:=(m.F d).A2 r;refine(l2,b++bs,_,O,(m.F d).A0 u,u,by rw[aD,cv],?_);rw[di eq,GR];exact(aQ.B r).J<|(d.J n).N hb
  ·rintro y p ⟨l,b,v,rfl,m,M,c,n⟩
   rw[aA,iI] at n;refine(_,O,_,O,l,_,O,bx.B c,λD z=>?_);have h0:H D=Z:=m.A2 z;obtain⟨t,et,_⟩:=GS o;refine k D (b.drop 1) _ (m.A0 h0) h0 ?_ ?_
   ·rw[aD]
    unfold iR;have a1:1<=b.length:=by rw[n.B,et];simp
    have e1:cu (b.map af.c).length 0 (U 1)=1:=by
     have:=xR (b.map af.c).length 0 1;rw[show((1:Nat):Int)=1 from O] at this;rw[this,aA];omega
    rw[e1,BP,<-Jc,gb (by simp)]
   ·exact(aQ.B z).J<|n.A0 1
def XC:cQ ["piece"] ["piece"] (bB vi):=(O,O,O,δ,O,δ,δ)
def Zi(F:bF K "order_key" "order_key" vi f c)(m:eC mg):bD P w K mg base aX 1 f c ["piece"] zw:=by
 refine F.B XC (λd H Q E h=>?_) (λe A b s H d Q E l h=>?_)
 ·obtain⟨a,g,rfl,_⟩:=h;rfl
 ·obtain⟨a,g,rfl,i,k⟩:=h
  refine(_,be<|cp<|ij<|aj (eH gW O m.a fZ<|aj (ah 0) az)<|aj (ah 0) az,?_);refine(_,O,a,_,O,.inr<|fm.B i,_,O,cg O,λp j=>?_);rw[aA];exact k p j
inductive AA(K:aH)(vs:List af)(H:ac)(Q:aL)(E':bK):Prop
 |c:∀l as pss,(vs=[.c l])->(bx K H l<|as.map af.c)->(aW H as pss)->(pss.length<64)->(∀D H2(qs:List (List Int×V)),aQ H H2->H D=Z->H2 D=U (.a<|qs.map λq=>af.c q.2)->qs.Perm (pss.zip as)->qs.Pairwise (λa b=>co ((b.1.length:Int)::b.1) ((a.1.length:Int)::a.1)=ao)->Q (.c D) H2)->AA K vs H Q E'
def Xz:cQ ["some"] ["some"] (bB xC):=(O,O,O,δ,O,δ,δ)
def Oa(F:bF K "in_order" "in_order" xC f g)(v:eC mg)(j:bF K "order_key" "order_key" vi c a)(m:eT K a ["piece"] [])(n:mg "order_key"=U (.ref c)):bD P w K mg base aX 4 f g ["some"] (AA K):=by
 have o:bD P w K mg base aX 1 c a ["piece"] zw:=Zi j v;refine F.B Xz (λp H Q E h=>?_) (λq A d s H p Q E r h=>?_)
 ·obtain⟨l,i,b,rfl,_⟩:=h;rfl
 ·obtain⟨l,i,b,rfl,t,u,e,k⟩:=h
  refine(_,be<|cp<|UG o r m O v.d vp O n<|aj (ah 0) az,?_);exact(_,O,l,i,b,O,t,u,e,k)
end
def kD(h:aW H f b)(g:H d=U c)(i:∀j,c≠.b j):aW (av H d o) f b:=
 il h λa k e=>by
  show av H d o a=_;rw[a_<|fL (show H a=U _ from e) g λz=>i _ z.symm];exact e
def iU(a:Ξ):List (List aN×af):=(bh a).map λb=>(adc ((b.map bd:List aN)) (af.e ae))
def Bw(a:Ξ):(iU a).length<=a.length:=by unfold iU;rw[aA];exact sw a
def Br(a:Ξ)(b:List Int):eQ (iU a) (b.map bd) (.e ae)=iU (a++[b]):=by
 unfold eQ iU;rw[qE];have d:(((bh a).map λb=>(adc ((b.map bd:List aN)) (af.e ae))).any λe=>aG<|e.1=b.map bd)=aG (b∈bh a):=by
  rw[ahn]
  by_cases h:b∈bh a
  ·rw[bZ h,uu]
   exact(b,h,by simp)
  ·rw[cf h,Jn]
   intro q c;simp only[DB,ii,pR];rintro rfl;exact h c
 rw[d]
 by_cases h:b∈bh a
 ·rw[bZ h,aB O,aB h,bY]
  refine gC λq c=>?_;simp only[DB];split<;>rfl
 ·rw[cf h,au (by simp),au h,cv]
  rfl
def Os{H:ac}(h:dA (λ(p:List aN×af) b=>H b=U (.b<|p.1.map dM)) (iU a) c):aW H c (bh a):=by
 unfold iU at h;generalize bh a=l at h
 induction l generalizing c with
 |nil=>cases h;exact .nil
 |cons x l d=>
  rw[df] at h;cases h with
  |cons r t=>
   refine .cons ?_<|d t;show H _=_;rw[r,bY]
   rfl
def GG(a:Ξ)(h:∀b∈a,b.length<=5):(a.flatMap cy).length<=31*a.length:=by
 induction a with
 |nil=>simp
 |cons x l c=>
  rw[ot,dz,vr,dP];have:=c λb d=>h b<|d_ _ d;have:=vk<|h x dC;omega
def Oz{a:Ξ}{i:Nat}(h:a[i]?=U b):(a.take<|i+1).flatMap cy=(a.take i).flatMap cy++cy b:=by
 rw[di h,Du];simp
def OO(H d:ac)(e:Ξ)(D:V)(c:List (List Int×V)):Prop:=
 aQ H d/\H D=Z/\d D=U (.a<|c.map λq=>af.c q.2)/\(∀q∈c,cG d q.2 q.1)/\(c.map (·.1)).Perm (bh<|e.flatMap cy)/\c.Pairwise (λa b=>co ((b.1.length:Int)::b.1) ((a.1.length:Int)::a.1)=ao)
section
variable{P:aU}{w:aO}{K:aH}{mg:al->Option aa}{base:aI}
inductive ve(K:aH)(vs:List af)(H:ac)(Q:aL)(E':bK):Prop
 |a:∀l as pss,(vs=[.c l])->(bx K H l<|as.map af.c)->(aW H as pss)->((∀ps∈pss,ps.length<=5))->(pss.length<=20)->((bh<|pss.flatMap cy).length<64)->(∀D H2 qs,OO H H2 pss D qs->Q (.c D) H2)->ve K vs H Q E'
def AR:cQ ["some","found","piece","part"] ["some"] (bB xI):=(O,O,O,δ,O,δ,δ)
def Oc(F:bF K "all_parts" "all_parts" xI f fd)(b6:eC mg)(Fp:bF K "parts_of" "parts_of" vg fp C)(bp:eT K C ["piece"] [])(mp:mg "parts_of"=U (.ref fp))(Fo:bF K "in_order" "in_order" xC fo G)(bo:eT K G ["some"] [])(mo:mg "in_order"=U (.ref fo))(Fk:bF K "order_key" "order_key" vi fk a0)(bk:eT K a0 ["piece"] [])(mk:mg "order_key"=U (.ref fk)):bD P w K mg base aX 5 f fd ["some"] (ve K):=by
 have Gp:bD P w K mg base aX 1 fp C ["piece"] xk:=YN Fp;have Go:bD P w K mg base aX 4 fo G ["some"] (AA K):=Oa Fo b6 Fk bk mk;refine F.B AR (λvs H Q E h=>?_) (λb2 A a4 s H vs Q E hr h=>?_)
 ·obtain⟨l,as,e,rfl,_⟩:=h;rfl
 ·obtain⟨l,as,e,rfl,hl,ht,h5,b3,a5,k⟩:=h
  have hu:=jb hr;have a6:eJ 1 _:=hr.F ξ;refine(_,aY (cJ (i:=1) AR.a O (ak O) ml)
   (aY (iF iL O (eG<|ah 0) (cB (i:=2) AR.a O<|ak O)
    (be (iF iL O (eG<|kr Gp a6 O mp Fp.a bp .nil ce<|aj (ah 2) az) (cB (i:=3) AR.a O<|ak O)
    <|be<|oG hu (ah 1) (ah 3) gd O)))
  <|be<|cp<|kr Go hr O mo Fo.a bo .nil ce<|aj (ik (MC O) O b6.b mz<|aj (ah 1) az) az),?_)
  intro d hd;have a7:=ht.B;refine(_,O,l,O,(_,(aQ.B hd).W hl),mm (K:=K) (a:=l) (xs:=as.map af.c) (λi r H2=>∃v I,r=[U<|.c l,U<|.c d,v,I]/\aQ H H2/\H2 d=U (.c<|iU<|(e.take i).flatMap cy))
   (Z,Z,O,aQ.B hd,aD) (λi r H2 _ (_,_,_,t,_)=>t.W hl) ?_ ?_)
  ·rintro i x r H2 hx ⟨v,I,rfl,t,n⟩
   obtain⟨a,ea,rfl⟩:=fY hx;obtain⟨X,L,a8⟩:=ht.F ea;have u:=h5 X<|dy L;have hi:i<e.length:=(cE.mp L).1;refine(_,O,a,X,O,t.N a8,u,λD cs H3 g b4 hD a1=>(D,O,(_,bx.B hD),?_));have a9:=a1.B;have b0:D≠d:=fL hD (g _ _ n) (by intro z;cases z);refine mm (K:=K) (a:=D) (xs:=cs.map af.c) (λj r M=>∃I,r=[U<|.c l,U<|.c d,U<|.c a,I]/\aQ H M/\M D=U (.a<|cs.map af.c)/\aW M cs (cy X)/\M d=U (.c<|iU<|(e.take i).flatMap cy++(cy X).take j))
    (_,O,t.F g,hD,a1,by rw[vY,lG];exact g _ _ n) (λj r M _ (_,_,_,q,_)=>bx.B q) ?_ ?_
   ·rintro j x r M hx ⟨I,rfl,R,a2,o,p⟩
    obtain⟨c,ec,rfl⟩:=fY hx;obtain⟨f,ef,hf⟩:=o.F ec;have a3:(iU<|(e.take i).flatMap cy++(cy X).take j).length<bG:=by
     refine li<|dE (Bw _) ?_;rw[dz];have h1:=GG (e.take i) (λq hq=>h5 q<|wa hq);have h2:=vr X;have h3:=vk u;rw[eF] at h1 ⊢;omega
    refine(_,O,_,O,d,_,O,xf.t (k:=f.map bd) p (by rw[bY];exact hf) a3,(_,O,R.A0 hd,?_,?_,?_))
    ·rw[a_ b0];exact a2
    ·exact kD o p (by intro xs z;cases z)
    ·rw[aD,Br,ut,<-di ef]
   ·rintro r M ⟨I,rfl,R,a2,o,p⟩
    refine(_,_,O,R,?_);rw[aA,a9,iI] at p;rw[Oz L];exact p
  ·rintro r H2 ⟨v,I,rfl,t,n⟩
   rw[aA,a7,iI] at n;refine(_,O,d,_,O,n,λbs hb l2 S=>?_);have tb:=Os hb;have b5:=tb.B;refine(l2,bs,bh<|e.flatMap cy,O,bx.B aD,(aQ.B S).J tb,a5,λD H3 qs g hD b1 hp hs=>?_);have y:H l2=Z:=t.A2 S;refine k D H3 qs ((t.A0 y).F g,(t.A0 y).A2 hD,b1,λq hq=>?_,?_,hs)
   ·obtain⟨m,T⟩:=jO.mp<|hp.mem_iff.mp hq
    rw[lI] at T;cases e1:(bh<|e.flatMap cy)[m]? with
    |none=>rw[e1] at T;cases T
    |some f=>
     cases e2:bs[m]? with
     |none=>rw[e1,e2] at T;cases T
     |some b=>
      rw[e1,e2] at T;obtain rfl:(adc f b)=q:=ca T;exact g.N<|(aQ.B S).N<|qM tb m b f e2 e1
   ·have:=hp.map (·.1)
    rw[yL ω] at this;exact this
inductive AG(K:aH)(vs:List af)(H:ac)(Q:aL)(E':bK):Prop
 |a:∀l as pss,(vs=[.c l])->(bx K H l<|as.map af.c)->(aW H as pss)->((pss.all gl=ae->(bh<|pss.flatMap cy).length<64))->(∀H',aQ H H'->Q (.e<|gj pss) H')->AG K vs H Q E'
def XD:cQ ["web"] ["web"] (bB Be):=(O,O,O,δ,O,δ,δ)
def Zj{fd n o G I L:cr}(F:bF K "is_web" "is_web" Be f fd)(b4:eC mg)(m5:mg "MOST_POINTS"=U (.int 5 t5))(a6:mg "LAST_POINT"=U (.int 99 a4))(a7:mg "MOST_HANDED"=U (.int 20 a5))(R:mg "MOST_PIECES"=U (.int 200 M))(Fi:bF K "is_piece" "is_piece" AY fi n)(bi:eT K n ["numbers"] [])(mi:mg "is_piece"=U (.ref fi))(Fa:bF K "all_parts" "all_parts" xI fa o)(ba:eT K o ["some"] [])(ma:mg "all_parts"=U (.ref fa))(Fp:bF K "parts_of" "parts_of" vg fp G)(bp:eT K G ["piece"] [])(mp:mg "parts_of"=U (.ref fp))(Fo:bF K "in_order" "in_order" xC fo I)(bo:eT K I ["some"] [])(mo:mg "in_order"=U (.ref fo))(Fk:bF K "order_key" "order_key" vi fk L)(bk:eT K L ["piece"] [])(mk:mg "order_key"=U (.ref fk)):bD P w K mg base aX 6 f fd ["web"] (AG K):=by
 have Gi:bD P w K mg base aX 1 fi n ["numbers"] Ax:=N_ Fi b4 m5 a6;have Ga:bD P w K mg base aX 5 fa o ["some"] (ve K):=Oc Fa b4 Fp bp mp Fo bo mo Fk bk mk;refine F.B XD (λvs H Q E h=>?_) (λb3 A a8 s H vs Q E hr h=>?_)
 ·obtain⟨l,T,b,rfl,_⟩:=h;rfl
 ·obtain⟨l,T,b,rfl,y,ht,a9,k⟩:=h
  have X:=hr.units;have b0:eJ 1 _:=hr.F ξ;refine(_,aY (dh (cV sK (eH gW O b4.a fZ<|aj (ah 0) az) (oN O a7 (v:=.d 20) (_,O))<|cN _) (be<|cp gd) dq)
   (aY (dh (mR (oF (eH (wU O) O b4.all xO (aj
    (fE ["web"] ["numbers"] [Z] (eG<|ah 0) (λcl C j m ex=>cB (i:=0) (eI ["numbers"]) O<|ak O) (λcl C j m ex=>gE)
     (λcl C j m ex=>kr Gi b0 O mi Fi.a bi .nil ce<|aj (ah 0) az) (hfr:=lN δ)) az)))) (be<|cp gd) dq)
   (aY (dh (cV sJ (eH Ww O b4.a fZ<|aj (ik (Wq O X) O b4.e xN<|aj (ah 0) az) az) (eH gW O b4.a fZ<|aj (ah 0) az)<|cN _) (be<|cp gd) dq)
  <|be<|cp<|wG uN (eH gW O b4.a fZ<|aj (kr Ga hr O ma Fa.a ba .nil ce<|aj (ah 0) az) az) (oN O R (v:=.d 200) (_,O))<|cN _)),?_)
  have a0:=ht.B;refine(_,O,l,_,O,.inl y,_,_,O,O,_,O,?_);rw[aA];refine qQ (λh1=>?_) (λh1=>?_)
  ·have:=k H<|aQ.A3 H
   rw[aa4 b (by have:=iE h1;omega)] at this;exact this
  ·have a1:b.length<=20:=by
    have:¬((20:Int)<T.length):=λz=>h1<|bZ z;omega
   refine(_,O,l,O,(_,y),λD hD=>fc (jX (K:=K) (a:=l) (xs:=T.map af.c) (λi σ ys p=>∃v,σ=[v]/\aQ H p/\p D=U (.a ys)/\ys=((b.map gl).take i).map af.e)
    (Z,O,aQ.B hD,aD,O) (λi σ ys p (_,_,c,_)=>c.W y) ?_ ?_))
   ·rintro i σ ys p x hx hi hy ⟨v,rfl,c,d,rfl⟩
    obtain⟨a,ea,rfl⟩:=fY hx;obtain⟨ps,b1,r⟩:=ht.F ea;refine jU ?_;refine(_,O,a,ps,O,c.N r,λH4 g=>gG (by rw[aA];exact dN ω) hi hy (g _ _ d) (_,O,(c.F g).A0 hD,aD,?_));have e:(b.map gl)[i]?=U (gl ps):=by rw[cm,b1];rfl
    rw[di e,cv];rfl
   ·rintro σ ys p ⟨v,rfl,c,d,rfl⟩
    rw[aA,a0,gb (by simp)] at d;refine(D,b.map gl,O,bx.B d,_,O,?_);have a2:(b.map gl).all id=b.all gl:=by rw[RB];rfl
    rw[a2];cases hp:b.all gl with
    |false=>
     refine dI ?_;have:=k p c;rw[show gj b=ao from by unfold gj;rw[hp];simp] at this;exact this
    |true=>
     refine cZ ?_;refine(_,O,l,T,b,O,c.W y,c.J ht,ω,λS hS=>?_);have sS:aQ H (av p S<|wZ S (bh b).length):=c.A0<|c.A2 hS;refine(S,_,O,aD,_,O,l,_,O,.inl<|sS.W y,_,_,O,O,_,O,?_);rw[aA,a0];refine qQ (λh2=>?_) (λh2=>?_)
     ·have t:(bh b).length<b.length:=by have:=iE h2;omega
      have:=k _ sS;rw[show gj b=ao from by unfold gj;rw[bZ t];simp] at this;exact this
     ·have t:¬(bh b).length<b.length:=λz=>h2<|bZ ω
      refine(_,O,l,T,b,O,sS.W y,sS.J ht,λps r=>?_,a1,a9 hp,λD2 H4 qs (g,_,b2,_,u,_)=>?_)
      ·have:=kN.mp hp ps r
       unfold gl at this;simp only[iN,ii] at this;exact this.1.1.1.2
      ·refine(D2,_,O,.inl<|bx.B b2,_,_,O,O,?_)
       have a3:(qs.map λq=>af.c q.2).length=(bh<|b.flatMap cy).length:=by
        rw[aA,<-u.length_eq,aA]
       rw[a3];have:=k H4<|sS.F g;have e:gj b=aG (((bh<|b.flatMap cy).length:Int)<=200):=by
        unfold gj;rw[hp,bZ a1,cf t]
        by_cases q:(bh<|b.flatMap cy).length<=200
        ·rw[bZ q,bZ (show((bh<|b.flatMap cy).length:Int)<=200 from ω)];rfl
        ·rw[cf q,cf (show ¬((bh<|b.flatMap cy).length:Int)<=200 from ω)];rfl
       rw[e] at this;exact this
end
def WJ(i j:Int):Prop:=0<j/\j<1180591620717411303424
section
variable{X:aK}
def Lz:fy X (pz .FloorDiv) (mj WJ λi j=>.d<|i / j):=zO λi j _ _ _ _ _ a q=>by
 have d:(0:Int)<j:=a.1;have e:j<1180591620717411303424:=a.2;refine floordiv_int ω (by rw[Int.fdiv_eq_ediv_of_nonneg i ω];exact q)<|.inl<|PyProof.noPylong_of_log2 ?_;have b:j.natAbs≠0:=ω
 have c:j.natAbs.log2<70:=(Nat.log2_lt b).mpr ω;omega
end
abbrev Gh:bV:=de 57
abbrev Gn:bV:=de 58
abbrev AV:bV:=de 59
def OS(x y:Int):Prop:=0<=x/\(y=0\/(y=1/\x<4294967296))
def fR(H:ac)(p:V):Prop:=∃x y,H p=U (.a [.d x,.d y])/\OS x y
def gi(p:V)(H a:ac):Prop:=∀b o,b≠p->H b=U o->a b=U o
def gi.F(a:gi p H d)(b:gi p d f):gi p H f:=λc o g e=>b c o g<|a c o g e
def gi.J(a:aQ H b):gi p H b:=λc o _ e=>a c o e
def gi.A2(e:gi p H a)(f:fR H p)(b:fR a p)(h:a l=Z):H l=Z:=by
 cases q:H l with
 |none=>rfl
 |some o=>
  obtain⟨x,y,c,_⟩:=b;have d:l≠p:=λz=>by rw[z,c] at h;cases h
  rw[e l o d q] at h;cases h
def fR.B(b:fR H p)(e:aQ H a):fR a p:=let ⟨x,y,h,o⟩:=b;(x,y,e _ _ h,o)
def fR.F{c:List V}(b:fR H p)(h:H l=U (.a<|c.map af.c)):l≠p:=by
 obtain⟨x,y,e,_⟩:=b;refine fL h e λd=>?_;injection d with d
 cases c with
 |nil=>cases d
 |cons a r=>rw[df] at d;cases d
def fR.J{p t:V}(b:fR H p)(h:H t=U (.b a)):t≠p:=by
 obtain⟨x,y,e,_⟩:=b;exact fL h e (by intro z;cases z)
def gi.W(e:gi p H c)(b:fR H p)(h:cG H a d):cG c a d:=e _ _ (b.J h) h
def gi.B(e:gi p H c)(b:fR H p)(h:aW H d a):aW c d a:=il h λ_ _ q=>e.W b q
def gi.N(e:gi p H c)(h:H a=Z):gi p H (av c a o):=λb u d q=>by rw[a_<|dH q h];exact e b u d q
def fR.N{p l:V}(b:fR H p)(h:l≠p):fR (av H l o) p:=let ⟨x,y,e,k⟩:=b;(x,y,by rw[a_ h.symm];exact e,k)
def fR.W(b:fR H p)(h:H l=Z):fR (av H l o) p:=b.B<|aQ.B h
section
variable{P:aU}{w:aO}{K:aH}{mg:al->Option aa}{base:aI}
inductive FI(K:aH)(vs:List af)(H:ac)(Q:aL)(E':bK):Prop
 |a:∀(l:V)(ns:List Int),(vs=[.c l,.d 0])->(bx K H l<|ns.map af.d)->(∀n,Q (.d n) H)->FI K vs H Q E'
def XF:cQ ["script","k"] ["script","k"] (bB Gh):=(O,O,O,δ,O,δ,δ)
def Zq(F:bF K "_law_cell_at" "_law_cell_at" Gh f c)(o:eC mg):bD P w K mg base aX 1 f c ["script","k"] (FI K):=by
 refine F.B XF (λg H Q E h=>?_) (λi A a s H g Q E m h=>?_)
 ·obtain⟨l,b,rfl,_⟩:=h;rfl
 ·obtain⟨l,b,rfl,d,k⟩:=h
  refine(_,aY (dh (cV sJ (ah 1) (eH gW O o.a fZ<|aj (ah 0) az)<|cN _) (be<|cp<|dG jr (ah 0) (ah 1) (λ_ _=>O)) dq)<|be<|cp aV,?_);refine(_,O,_,O,l,_,O,.inl d,_,_,O,O,_,O,?_);refine qQ (λe=>?_) (λe=>?_)
  ·cases b with
   |nil=>have:=iE e;simp at this
   |cons n b=>exact(_,O,_,O,l,_,_,_,O,O,d,kW (j:=0) O,k n)
  ·exact k 0
inductive FM(vs:List af)(H:ac)(Q:aL)(E':bK):Prop
 |a:∀n,(vs=[.d n])->(∀p x y,H p=Z->OS x y->Q (.c p) (av H p<|.a [.d x,.d y]))->FM vs H Q E'
def XI:cQ ["cell"] ["cell"] (bB Gn):=(O,O,O,δ,O,δ,δ)
def Zt{e:cr}(F:bF K "_law_box" "_law_box" Gn f e):bD P w K mg base aX 1 f e ["cell"] FM:=by
 refine F.B XI (λi H Q E h=>?_) (λj A a s H i Q E l h=>?_)
 ·obtain⟨n,rfl,_⟩:=h;rfl
 ·obtain⟨n,rfl,k⟩:=h
  refine(_,aY (dh (cV UX (ah 0) (cA zM aV aV)<|cN _) (be<|cp<|eR<|aj (cA uM (ah 0)<|cA zM aV aV)<|aj aV az) dq)
  <|be<|cp<|eR<|aj (cA oP (cA lM (cA qP (cA oP (ah 0)<|cA zM aV aV) aV) aV) aV)<|aj aV az,?_)
  have b:EZ 10 18:=(ξ,ξ,ξ);have c:(10:Int) ^ (18:Int).toNat=1000000000000000000:=ξ
  refine(_,O,_,_,O,O,b,_,_,O,O,_,O,?_);refine qQ (λg=>?_) (λg=>?_)
  ·refine(_,O,_,_,O,O,b,_,_,O,O,cg O,λp d=>k p _ 0 d (?_,.inl O))
   have:=iE g;omega
  ·refine(_,O,_,_,O,O,b,_,_,O,O,(by show(0:Int)<10 ^ (18:Int).toNat;rw[c];decide),_,_,O,O,.inr (ξ,ξ),_,_,O,O,_,_,O,O,(by show(0:Int)<2147483629;decide),cg O,λp d=>k p _ 1 d (?_,.inr (O,?_)))
   ·exact uw _ ξ
   ·have:=ux (n%10 ^ (18:Int).toNat*69621+7001) (show(0:Int)<2147483629 from ξ)
    omega
inductive ti(vs:List af)(H:ac)(Q:aL)(E':bK):Prop
 |a:∀p m,(vs=[.c p,.d m])->(fR H p)->(0<m)->(m<1180591620717411303424)->(∀r H',0<=r->r<m->gi p H H'->fR H' p->Q (.d r) H')->ti vs H Q E'
def FS:cQ ["box","most","found","mixed"] ["box","most"] (bB AV):=(O,O,O,δ,O,δ,δ)
def NY{t:cr}(F:bF K "_law_take" "_law_take" AV f t):bD P w K mg base aX 1 f t ["box","most"] ti:=by
 refine F.B FS (λM H Q E h=>?_) (λR A r s H M Q E hr h=>?_)
 ·obtain⟨p,m,rfl,_⟩:=h;rfl
 ·obtain⟨p,m,rfl,⟨x,y,c,v,d⟩,a,S,k⟩:=h
  refine(_,aY (dh (cV jT (dG jr (ah 0) aV (λ_ _=>O)) aV<|cN _)
    (aY (cJ (i:=2) FS.a O (ak O)<|cA oP (dG jr (ah 0) aV (λ_ _=>O))<|ah 1)
    (aY (Ln (cA Lz (dG jr (ah 0) aV (λ_ _=>O))<|ah 1)<|Lt (ah 0) aV KQ)
   <|be<|cp<|ah 2)) dq)
   (aY (cJ (i:=3) FS.a O (ak O)<|cA oP (cA lM (cA lM (cA qP (dG jr (ah 0) aV (λ_ _=>O))<|dG jr (ah 0) aV (λ_ _=>O))<|cA qP aV<|dG jr (ah 0) aV (λ_ _=>O)) aV) aV)
   (aY (Ln (cA oP (cA lM (cA lM (cA qP (ah 3)<|ah 3)<|cA qP aV<|ah 3) aV) aV)<|Lt (ah 0) aV KQ)
  <|be<|cp<|cA oP (cA Lz (dG jr (ah 0) aV (λ_ _=>O)) aV)<|ah 1)),?_)
  have g:lP ([.d x,.d y]:List af) 0=U (.d x):=kW (j:=0) O;have T:lP ([.d x,.d y]:List af) 1=U (.d y):=kW (j:=1) O;refine(_,O,p,_,_,_,O,O,bx.B c,T,O,_,O,?_);refine qQ (λC=>?_) (λC=>?_)
  ·refine(_,O,p,_,_,_,O,O,bx.B c,g,_,O,_,_,O,O,a,?_)
   refine(_,O,p,_,_,_,O,O,bx.B c,g,_,O,_,_,O,O,(a,S),_,O,p,_,_,0,O,O,c,O,?_);refine(_,O,k (x%m) _ (uw _ ω) (ux _ a) (λb o l e=>by rw[a_ l];exact e) (x / m,y,aD,Int.ediv_nonneg v ω,?_));rcases d with q|⟨q,D⟩
   ·exact .inl q
   ·refine .inr (q,Int.lt_of_le_of_lt (Int.ediv_le_self _ v) D)
  ·have X:y=1/\x<4294967296:=by
    rcases d with q|q
    ·exact aZ (by subst q;rfl) C
    ·exact q
   obtain⟨rfl,D⟩:=X;have l:vc x x:=.inl (ω,ω);refine(_,O,p,_,_,_,O,O,bx.B c,g,_,O,p,_,_,_,O,O,bx.B c,g,_,_,O,O,l,_,O,p,_,_,_,O,O,bx.B c,g,_,_,O,O,.inl (ξ,ξ),_,_,O,O,_,_,O,O,_,_,O,O,(by show(0:Int)<2147483647;decide),?_);have m0:=uw (x*x+39373*x+12345) (show(2147483647:Int)≠0 from ξ);have m1:=ux (x*x+39373*x+12345) (show(0:Int)<2147483647 from ξ);obtain⟨z,G⟩:∃z,z=(x*x+39373*x+12345)%2147483647:=(_,O);rw[<-G] at m0 m1;show KB _ _ _ ([U<|.c p,U<|.d m,Z,U<|.d<|(x*x+39373*x+12345)%2147483647]:aM) H;rw[<-G];refine(_,O,_,O,_,_,O,O,.inl (ω,ω),_,O,_,_,O,O,.inl (ξ,ξ),_,_,O,O,_,_,O,O,_,_,O,O,(by show(0:Int)<2147483587;decide),_,O,p,_,_,0,O,O,c,O,?_);have I:=uw (z*z+16807*z+7) (show(2147483587:Int)≠0 from ξ);have g1:=ux (z*z+16807*z+7) (show(0:Int)<2147483587 from ξ);obtain⟨u,L⟩:∃u,u=(z*z+16807*z+7)%2147483587:=(_,O);rw[<-L] at I g1;have n:av H p (.a [.d<|(z*z+16807*z+7)%2147483587,.d 1]) p=U (.a [.d u,.d 1]):=by rw[L];exact aD
   refine(_,O,p,_,_,_,O,O,bx.B n,kW (j:=0) O,_,_,O,O,(ξ,ξ),_,O,_,_,O,O,a,?_);exact k _ _ (uw _ ω) (ux _ a) (λb o l e=>by rw[a_ l];exact e) (u,1,n,I,.inr (O,ω))
end
abbrev xG:bV:=de 60
abbrev Gf:bV:=de 61
section
variable{P:aU}{w:aO}{K:aH}{mg:al->Option aa}{base:aI}
def aaa{n:ac}{A:List V}{Q:aL}(S:n l=U (.a<|A.map af.c))(I:aW n A E)(hz:A.length<=100)(L:n D=Z)(k:∀g b,aQ n b->b D=U (.a<|g.map af.c)->aW b g (E.filter λq=>!aG (q=[]))->Q (.c D) b):fg (im K l) (eA 0) (jF<|dW (Ep ae K) (bz 0)<|ko e_) (bz 0) [Z] n D Q:=by
 have G:=I.B;refine jX (xs:=A.map af.c) (λj C p b=>∃g v,C=[v]/\aQ n b/\b D=U (.a p)/\p=g.map af.c/\aW b g ((E.take j).filter λq=>!aG (q=[]))) ?_ ?_ ?_ ?_
 ·exact([],Z,O,aQ.B L,aD,O,.nil)
 ·rintro j C p b ⟨g,v,rfl,r,d,rfl,s⟩
  exact bx.B<|r _ _ S
 ·rintro j C p b x T M P ⟨g,v,rfl,r,d,rfl,s⟩
  obtain⟨a,X,rfl⟩:=fY T;obtain⟨f,R,hf⟩:=I.F X;refine(_,O,cg O,λt H=>?_);have u:=r.N hf;have i:aQ b (av b t<|.b []):=aQ.B H;refine .inl (a,t,f,[],O,O,i.N u,aD,_,O,?_);have w:=r.F i;have m:∀(o:cP) c y,av b t (.b []) c=U (.b y)->av (av b t<|.b []) D o c=U (.b y):=λo c y e=>by
   rw[a_<|fL e (i _ _ d) (by intro z;cases z)];exact e
  by_cases h:f=[]
  ·subst h
   refine cZ<|sQ M P (g,_,O,w,i _ _ d,O,?_);rw[di R,kj]
   simpa using i.J s
  ·rw[aB O,show(!aG (f=[]))=ae by simp[h]]
   refine dI (_,O,gG (ys:=g.map af.c) (by rw[aA];exact dN ω) M P (i _ _ d) (g++[a],_,O,w.A0 L,aD,by rw[cv];rfl,?_));rw[di R,kj,show [f].filter (λq=>!aG (q=[]))=[f] by simp[h]];exact aW.J (il (i.J s) λc y e=>m _ c _ e)<|m _ a _<|i.N u
 ·rintro C p b ⟨g,v,rfl,r,d,rfl,s⟩
  rw[aA,G,iI] at s;exact k g b r d s
def AO:cQ ["piece","found","point"] ["piece"] (bB xG):=(O,O,O,δ,O,δ,δ)
def Zb(F:bF K "_law_parts" "_law_parts" xG f fd):bD P w K mg base aX 1 f fd ["piece"] xk:=by
 refine F.B AO (λvs H Q E h=>?_) (λa2 A S s H vs Q E hr h=>?_)
 ·obtain⟨a,t,rfl,_⟩:=h;rfl
 ·obtain⟨a,t,rfl,ha,h5,k⟩:=h
  have u:=hr.units;refine(_,aY (cJ (i:=1) AO.a O (ak O)<|eR<|aj (ij az) az)
   (aY (iF iL O (Eu<|ah 0) (cB (i:=2) AO.a O<|aq O)
    (be (cJ (i:=1) AO.a O (ak O) (cA kT (ah 1) (fE ["piece","found","point"] ["part","point"] [Z,U 2] (eG<|ah 1) (λy C b c z=>cB (i:=0) (eI ["part","point"]) O<|ak O) (λy C b c z=>gE)
     (λy C b c z=>cA zN (ah 0)<|ij<|aj (ah 1) az) (hfr:=iQ (bB xG) δ))))))
   (be (cp (fE ["piece","found","point"] ["part"] [Z] (eG<|ah 1) (λy C b c z=>cB (i:=0) (eI ["part"]) O<|ak O) (λy C b c z=>oE<|cV (Ez u) (ah 0) (ij az)<|cN _)
     (λy C b c z=>ah 0) (hfr:=lN δ) (tc:=jF<|dW (Ep ae K) (bz 0)<|ko e_))))),?_)
  refine(cg O,λe T=>(cg O,λl g=>?_));have s1:aQ H (av (av H e<|.b []) l<|.a [.c e]):=(aQ.B T).A0<|(aQ.B T).A2 g;have X:e≠l:=dH (H:=av H e<|.b []) aD g;refine(_,O,a,O,(_,fm.B<|s1 _ _ ha),Mb (K:=K) (a:=a) (xs:=t.map af.d) (λi M p=>∃l r v,M=[U<|.c a,U<|.c l,v]/\aQ H p/\H l=Z/\p l=U (.a<|r.map af.c)/\aW p r (lj<|t.take i))
   (l,[e],Z,O,s1,(aQ.B T).A2 g,aD,.cons (by show av _ _ _ e=_;rw[a_ X];exact aD) .nil) (λi M p _ (_,_,_,_,j,_)=>fm.B<|j _ _ ha) ?_ ?_)
  ·rintro i x M p hx ⟨l,r,v,rfl,j,a0,g,m⟩
   obtain⟨q,eq,rfl⟩:=xM hx;have hi:i<t.length:=(cE.mp eq).1;have n:=m.B;have hn:r.length<=32:=by
    rw[n,BI,eF];exact vk ω
   have hm:∀f∈lj (t.take i),f.length<=100:=λf hf=>by
    have:=OU _ f hf;rw[eF] at this;omega
   refine(_,O,_,O,l,O,(_,bx.B g),λD R=>fc<|NT g m ω hm R λbs H3 d o G=>?_);have a1:=G.B;rw[aA] at a1;refine(l,D,_,_,O,O,d _ _ g,o,by rw[aA,aA];exact dN ω,λl2 I=>?_);have L:H l2=Z:=(j.F d).A2 I;refine(l2,r++bs,_,O,(j.F d).A0 L,L,by rw[aD,cv],?_);rw[di eq,GR];exact(aQ.B I).J<|(d.J m).N G
  ·rintro M p ⟨l,r,v,rfl,j,a0,g,m⟩
   rw[aA,iI] at m;have n:=m.B;refine(_,O,l,O,(_,bx.B g),λD R=>fc<|aaa g m (by rw[n,BI];have:=vk h5;omega) R λbs H3 d o G=>?_);rw[aa7] at G;exact k D bs H3 (j.F d) (j.A2 R) o G
def Yt{p:ac}{n:List V}{Q:aL}(L:p l=U (.a<|n.map af.c))(E:aW p n A)(hz:n.length<=1000)(G:p D=Z)(k:∀(a:List V) d,aQ p d->d D=U (.a<|a.map af.c)->a.length=n.length->(∀(i:Nat) c,a[i]?=U c->∃b f,n[i]?=U b/\A[i]?=U f/\d c=U (.b [.d f.length,.c b]))->Q (.c D) d):fg (im K l) (eA 0) ja (ko<|cT (oD (wC K)<|cT (bz 0) e_)<|cT (bz 0) e_) [Z] p D Q:=by
 have M:=E.B;refine jX (xs:=n.map af.c) (λj s q d=>∃(a:List V)(v:Option af),s=[v]/\aQ p d/\d D=U (.a q)/\q=a.map af.c/\a.length=j/\∀(i:Nat) c,a[i]?=U c->∃b f,n[i]?=U b/\A[i]?=U f/\d c=U (.b [.d f.length,.c b])) ?_ ?_ ?_ ?_
 ·exact([],Z,O,aQ.B G,aD,O,O,λi c e=>by simp at e)
 ·rintro j s q d ⟨a,v,rfl,r,g,rfl,H,u⟩
  exact bx.B<|r _ _ L
 ·rintro j s q d x P H R ⟨a,v,rfl,r,g,rfl,h,u⟩
  obtain⟨b,I,rfl⟩:=fY P;obtain⟨f,S,T⟩:=E.F I;refine jU ?_;refine(_,O,b,_,O,.inr<|fm.B<|r.N T,_,O,cg O,λt C=>?_);rw[show(f.map af.d).length=f.length from aA _];have w:aQ d (av d t<|.b [.d f.length,.c b]):=aQ.B C;have m:∀(o:cP) c y,av d t (.b [.d f.length,.c b]) c=U (.b y)->av (av d t<|.b [.d f.length,.c b]) D o c=U (.b y):=λo c y e=>by
   rw[a_<|fL e (w _ _ g) (by intro z;cases z)];exact e
  refine gG (ys:=a.map af.c) (by rw[aA];exact dN ω) H R (w _ _ g) (a++[t],_,O,(r.F w).A0 G,aD,by rw[cv];rfl,by rw[dz,h];rfl,λi c e=>?_)
  by_cases X:i<a.length
  ·rw[yP X] at e
   obtain⟨b',f',e1,e2,e3⟩:=u i c e;exact(b',f',e1,e2,m _ c _<|w _ _ e3)
  ·rw[yO ω] at e
   have h0:i-a.length=0:=by
    rcases agr (i-a.length) with z|z
    ·exact z
    ·rw[nC (by simp only[dP,nB];omega)] at e;cases e
   rw[h0] at e;obtain rfl:t=c:=by simpa using e
   have:i=j:=ω
   subst this;exact(b,f,I,S,m _ t _ aD)
 ·rintro s q d ⟨a,v,rfl,r,g,rfl,h,u⟩
  rw[aA] at h;exact k a d r g h u
def rn(H:ac)(c:V):V:=match H c with
 |some (.b [_,.c b])=>b
 |_=>0
def Xl{f:ac}{cs:List V}{Q:aL}(p:f l=U (.a<|cs.map af.c))(q:∀c∈cs,∃n b,f c=U (.b [.d n,.c b]))(u:cs.length<=1000)(m:f D=Z)(k:∀d,aQ f d->d D=U (.a<|cs.map λc=>af.c<|rn f c)->Q (.c D) d):fg (im K l) (eA 0) ja (dW (uJ K) (bz 0)<|dK<|.d 1) [Z] f D Q:=by
 refine jX (xs:=cs.map af.c) (λw i h d=>∃v,i=[v]/\aQ f d/\d D=U (.a h)/\h=(cs.take w).map λc=>af.c<|rn f c) ?_ ?_ ?_ ?_
 ·exact(Z,O,aQ.B m,aD,O)
 ·rintro w i h d ⟨v,rfl,g,a,rfl⟩
  exact bx.B<|g _ _ p
 ·rintro w i h d x r s t ⟨v,rfl,g,a,rfl⟩
  obtain⟨c,o,rfl⟩:=fY r;obtain⟨n,b,e⟩:=q c<|dy o;refine jU ?_;refine(_,O,c,_,_,_,O,O,fm.B<|g _ _ e,kW (j:=1) O,gG (by rw[aA];exact dN ω) s t a (_,O,g.A0 m,aD,?_));rw[di o,cv];have:rn f c=b:=by unfold rn;rw[e]
  rw[<-this];rfl
 ·rintro i h d ⟨v,rfl,g,a,rfl⟩
  rw[aA,iI] at a;exact k d g a
def xt:cQ ["web","found","piece","part","ranked"] ["web"] (bB Gf):=(O,O,O,δ,O,δ,δ)
def Za(F:bF K "_law_pieces" "_law_pieces" Gf f fd)(d1:eC mg)(Fp:bF K "_law_parts" "_law_parts" xG fp a0)(bp:eT K a0 ["piece"] [])(mp:mg "_law_parts"=U (.ref fp)):bD P w K mg base aX 2 f fd ["web"] (ve K):=by
 have Gp:bD P w K mg base aX 1 fp a0 ["piece"] xk:=Zb Fp;refine F.B xt (λvs H Q E h=>?_) (λc4 A b3 s H vs Q E hr h=>?_)
 ·obtain⟨l,as,g,rfl,_⟩:=h;rfl
 ·obtain⟨l,as,g,rfl,hl,ht,h5,c5,b4,k⟩:=h
  have hu:=jb hr;have a4:=hr.units;refine(_,aY (cJ (i:=1) xt.a O (ak O) ml)
   (aY (iF iL O (eG<|ah 0) (cB (i:=2) xt.a O<|ak O)
    (be (iF iL O (eG<|kr Gp hr O mp Fp.a bp .nil ce<|aj (ah 2) az) (cB (i:=3) xt.a O<|ak O)
    <|be<|oG hu (ah 1) (ah 3) gd O)))
   (aY (cJ (i:=4) xt.a O (ak O) (eH (Wm a4) O d1.d vp (aj
    (fE ["web","found","piece","part","ranked"] ["piece"] [Z] (eG<|ik (MC O) O d1.b mz<|aj (ah 1) az) (λcl C n o ex=>cB (i:=0) (eI ["piece"]) O<|ak O) (λcl C n o ex=>gE)
     (λcl C n o ex=>ij<|aj (eH gW O d1.a fZ<|aj (ah 0) az)<|aj (ah 0) az) (hfr:=lN δ) (te:=ko<|cT (oD (wC K)<|cT (bz 0) e_)<|cT (bz 0) e_)) az)))
   (be (cp (fE ["web","found","piece","part","ranked"] ["one"] [Z] (eG<|ah 4) (λcl C n o ex=>cB (i:=0) (eI ["one"]) O<|ak O) (λcl C n o ex=>gE)
     (λcl C n o ex=>dG gF (ah 0) aV (λ_ _=>O)) (hfr:=lN δ) (te:=dW (uJ K) (bz 0)<|dK<|.d 1)))))),?_)
  intro d hd;have b5:=ht.B;refine(_,O,l,O,(_,(aQ.B hd).W hl),mm (K:=K) (a:=l) (xs:=as.map af.c) (λi L H2=>∃v v' u,L=[U<|.c l,U<|.c d,v,v',u]/\aQ H H2/\H2 d=U (.c<|iU<|(g.take i).flatMap cy))
   (Z,Z,Z,O,aQ.B hd,aD) (λi L H2 _ (_,_,_,_,sm,_)=>sm.W hl) ?_ ?_)
  ·rintro i x L H2 hx ⟨v,v',u,rfl,sm,t⟩
   obtain⟨a,ea,rfl⟩:=fY hx;obtain⟨ps,a1,b6⟩:=ht.F ea;have S:=h5 ps<|dy a1;have hi:i<g.length:=(cE.mp a1).1;refine(_,O,a,ps,O,sm.N b6,S,λD T X r c6 hD a5=>(D,O,(_,bx.B hD),?_));have b7:=a5.B;have b8:D≠d:=fL hD (r _ _ t) (by intro z;cases z);refine mm (K:=K) (a:=D) (xs:=T.map af.c) (λj L H4=>∃v',L=[U<|.c l,U<|.c d,U<|.c a,v',u]/\aQ H H4/\H4 D=U (.a<|T.map af.c)/\aW H4 T (cy ps)/\H4 d=U (.c<|iU<|(g.take i).flatMap cy++(cy ps).take j))
    (_,O,sm.F r,hD,a5,by rw[vY,lG];exact r _ _ t) (λj L H4 _ (_,_,_,q,_)=>bx.B q) ?_ ?_
   ·rintro j x L H4 hx ⟨v',rfl,a2,a6,G,I⟩
    obtain⟨c,ec,rfl⟩:=fY hx;obtain⟨f,ef,hf⟩:=G.F ec;have a7:(iU<|(g.take i).flatMap cy++(cy ps).take j).length<bG:=by
     refine li<|dE (Bw _) ?_;rw[dz];have h1:=GG (g.take i) (λq hq=>h5 q<|wa hq);have h2:=vr ps;have h3:=vk S;rw[eF] at h1 ⊢;omega
    refine(_,O,_,O,d,_,O,xf.t (k:=f.map bd) I (by rw[bY];exact hf) a7,(_,O,a2.A0 hd,?_,?_,?_))
    ·rw[a_ b8];exact a6
    ·exact kD G I (by intro xs z;cases z)
    ·rw[aD,Br,ut,<-di ef]
   ·rintro L H4 ⟨v',rfl,a2,a6,G,I⟩
    refine(_,_,_,O,a2,?_);rw[aA,b7,iI] at I;rw[Oz a1];exact I
  ·rintro L H2 ⟨v,v',u,rfl,sm,t⟩
   rw[aA,b5,iI] at t;refine(_,O,d,_,O,t,λbs hb l2 b9=>?_);have tb:=Os hb;have c7:=tb.B;have c8:(bh<|g.flatMap cy).length<=620:=by
    have h1:=sw<|g.flatMap cy;have h2:=GG g h5;omega
   have s2:aQ H2 (av H2 l2<|.a<|bs.map af.c):=aQ.B b9;refine(l2,O,(_,bx.B aD),λD hD=>fc<|Yt (K:=K) aD (s2.J tb) ω hD λT X r c0 c9 hc=>?_);have a8:=r.J<|s2.J tb;refine(D,T,(bh<|g.flatMap cy).map λf=>((f.length:Int)::f),O,bx.B c0,?_,(by rw[aA];exact b4),λR qs hp hs hR=>?_)
   ·refine MW (by rw[aA];omega) λi c y e1 e2=>?_
    obtain⟨b,f,g1,M,g3⟩:=hc i c e1;rw[cm,M] at e2;obtain rfl:=ca e2;exact(_,b,f,O,g3,qM a8 i b f g1 M)
   ·have s4:aQ X (av X R<|.a<|qs.map λq=>af.c q.2):=aQ.B hR
    have hq:∀q∈qs,∃b f,q.1=((f:List Int).length:Int)::f/\X q.2=U (.b [.d f.length,.c b])/\cG X b f:=λq hq=>by
     obtain⟨m,em⟩:=jO.mp<|hp.mem_iff.mp hq;rw[lI,cm] at em;cases e2:T[m]? with
     |none=>rw[e2] at em;cases h:(bh<|g.flatMap cy)[m]?<;>rw[h] at em<;>cases em
     |some c=>
      obtain⟨b,f,g1,M,g3⟩:=hc m c e2;rw[M,e2] at em;obtain rfl:(adc (((f.length:Int)::f)) c)=q:=ca em;exact(b,f,O,g3,qM a8 m b f g1 M)
    have d0:qs.length<=620:=by rw[hp.length_eq,ur,aA];omega
    refine(_,O,R,O,(_,bx.B aD),λD2 a9=>fc (Xl (K:=K) (cs:=qs.map (·.2)) (by rw[aD,bY];rfl) (λc c1=>?_) (by rw[aA];omega) a9 λH5 b0 c2=>?_))
    ·obtain⟨q,a3,rfl⟩:=bq.mp c1
     obtain⟨b,f,_,M,_⟩:=hq q a3;exact(_,b,s4 _ _ M)
    ·have b1:aQ H H5:=((sm.F s2).F r).F<|s4.F b0
     have c3:∀q∈qs,∀b f,X q.2=U (.b [.d (f:List Int).length,.c b])->rn (av X R<|.a<|qs.map λq=>af.c q.2) q.2=b:=λq _ b f e=>by
      unfold rn;rw[s4 _ _ e]
     refine k D2 H5 (qs.map λq=>(adc q.1.tail (rn (av X R<|.a<|qs.map λq=>af.c q.2) q.2))) (b1,(((sm.F s2).F r).F s4).A2 a9,?_,λq a3=>?_,?_,?_)
     ·rw[c2,bY,bY];rfl
     ·obtain⟨q0,h0,rfl⟩:=bq.mp a3
      obtain⟨b,f,g1,M,g3⟩:=hq q0 h0;show cG H5 (rn _ q0.2) q0.1.tail;rw[c3 q0 h0 b f M,g1];exact b0.N<|s4.N g3
     ·rw[bY]
      have h1:=hp.map (λq:List Int×V=>q.1.tail);have e:((((bh<|g.flatMap cy).map λf=>((f.length:Int)::f)).zip T).map λq:List Int×V=>q.1.tail)=bh (g.flatMap cy):=by
       rw[show(λq:List Int×V=>q.1.tail)=(λl:List Int=>l.tail) ∘ yB from O,<-bY,yL (by rw[aA];omega),bY];exact wb _
      rw[e] at h1;exact h1
     ·rw[jN]
      refine hs.imp_of_mem λ{p q} h1 h2 h3=>?_;obtain⟨_,f,g1,_⟩:=hq p h1;obtain⟨_,f',b2,_⟩:=hq q h2;rw[g1,b2] at h3;rw[g1,b2];exact h3
end
abbrev Gg:bV:=de 62
abbrev A_:bV:=de 63
def mW:List al:=(["","0","01 12 02","012 013 023 123","01 02 03","012 023 034 014","0123","01 23 45","012 34"]:List al)++(["012 123 234 034 014","01 12 23 03 13","012 013 014","0 1 2 3"]:List al)++(["01 12 02 34 45 35","023 234 1"]:List al)
++(["014 015 023 025 034 123 124 135 245 345","012 013 024 034 125 135 245 345"]:List al)++(["01234","0123 0124 0134 0234 1234"]:List al)++(["013 123 234 024 014 145 125 025 056 016 126 267 027 037 345 356 367"]:List al)
def pW(n:Nat):List al:=CH (mW.getD n "") " "
def rt(x:al):List Int:=x.cps.toList.map λ(c:Nat)=>((c:Int)-48)
def my(n:Nat):Ξ:=((pW n).filter λ(x:al)=>!aG (x="")).map rt
def ZY:∀n,n<20->(mW.getD n "").length+2<=1000/\(pW n).length<=20/\∀x∈pW n,x.cps.size<=5/\∀c∈x.cps.toList,48<=c/\c<=57:=δ
def Xp:∀c,48<=c->c<=57->HJ ⟨#[c]⟩=U ((c:Int)-48):=by
 intro c a b;have:∀c,c<58->48<=c->HJ ⟨#[c]⟩=U ((c:Int)-48):=δ
 exact this c ω a
section
variable{P:aU}{w:aO}{K:aH}{mg:al->Option aa}{base:aI}
inductive FF(vs:List af)(H:ac)(Q:aL)(E':bK):Prop
 |a:∀n:Nat,(vs=[.d n])->(n<20)->(∀D as H',aQ H H'->H D=Z->H' D=U (.a<|as.map af.c)->aW H' as (my n)->Q (.c D) H')->FF vs H Q E'
def tm:cQ ["number","some","web","word"] ["number"] (bB Gg):=(O,O,O,δ,O,δ,δ)
def Xo{f:ac}{x:al}{Q:aL}(u:x.cps.size<=5)(m:∀c∈x.cps.toList,48<=c/\c<=57)(l:f D=Z)(k:∀a,aQ f a->a D=U (.a<|(rt x).map af.d)->Q (.c D) a):fg (Af x) (eA 0) ja (oD (λo H Q=>∃x n,o=[.f x]/\HJ x=U n/\x.length<=640/\Q (.d n) H)<|cT (bz 0) e_) [Z] f D Q:=by
 refine Wg (λj h g a=>∃v,h=[v]/\aQ f a/\a D=U (.a g)/\g=((rt x).take j).map af.d) ?_ ?_ ?_
 ·exact(Z,O,aQ.B l,aD,O)
 ·rintro j h g a c p q r ⟨v,rfl,i,b,rfl⟩
  have d:x.cps.toList[j]?=U c:=by simpa using p
  obtain⟨s,t⟩:=m c<|dy d;refine jU ?_;refine(_,O,⟨#[c]⟩,_,O,Xp c s t,by show 1<=640;decide,gG (dN ω) q r b (_,O,i.A0 l,aD,?_));have e:(rt x)[j]?=U ((c:Int)-48):=by unfold rt;rw[cm,d];rfl
  rw[di e,cv];rfl
 ·rintro h g a ⟨v,rfl,i,b,rfl⟩
  rw[gb (by unfold rt;simp)] at b;exact k a i b
def Zh(F:bF K "_law_known" "_law_known" Gg f fd)(b2:eC mg):bD P w K mg base aX 1 f fd ["number"] FF:=by
 refine F.B tm (λvs H Q E h=>?_) (λb0 A a0 s H vs Q E hr h=>?_)
 ·obtain⟨n,rfl,_⟩:=h;rfl
 ·obtain⟨n,rfl,hn,k⟩:=h
  refine(_,aY (cJ (i:=1) tm.a O (ak O)<|eR<|aj dF<|aj dF<|aj dF<|aj dF<|aj dF<|aj dF<|aj dF<|aj dF<|aj dF az)
   (aY (cJ (i:=1) tm.a O (ak O)<|cA kT (ah 1)<|eR<|aj dF<|aj dF<|aj dF<|aj dF<|aj dF<|aj dF az)
   (aY (cJ (i:=1) tm.a O (ak O)<|cA kT (ah 1)<|eR<|aj dF<|aj dF az)
   (aY (cJ (i:=1) tm.a O (ak O)<|cA kT (ah 1)<|eR<|aj dF<|aj dF az)
   (aY (eW<|oO rR CR Ip wI (ah 1)<|aj dF az)
   (aY (cJ (i:=2) tm.a O (ak O)<|eR az)
   (aY (iF iL O (eG<|oO PySem.F.plainAttrs_str It PySem.F.type_str_split Vb (dG jr (ah 1) (cA oP (ah 0) aV) (λ_ _=>O))<|aj dF az) (cB (i:=3) tm.a O<|ak O)
    (be (dh (cV qO (ah 3) dF<|cN _)
     (be (eW (oO rR CR Ip wI (ah 2) (aj (ik MA O b2.g OJ (aj
      (fE ["number","some","web","word"] ["sign"] [Z] (UB<|ah 3) (λcl C j l c=>cB (i:=0) (eI ["sign"]) O<|ak O) (λcl C j l c=>gE)
       (λcl C j l c=>ik Wx O b2.h aap<|aj (ah 0) az) (hfr:=lN δ)) az)) az)))) dq)))
  <|be<|cp<|ah 2)))))),?_)
  have b1:mW.length=20:=O;have a1:lP (mW.map af.f) ((n:Int)%20)=U (.f<|mW.getD n ""):=by
   rw[show(n:Int)%20=(n:Int) from ω];refine kW ?_;have e:mW[n]?=U mW[n]:=cw ω;rw[cm,l_,e];rfl
  obtain⟨g1,g2,g3⟩:=ZY n hn;refine(cg O,λl1 h1=>?_);have s1:=aQ.B (H:=H) (o:=.a [.f "",.f "0",.f "01 12 02",.f "012 013 023 123",.f "01 02 03",.f "012 023 034 014",.f "0123",.f "01 23 45",.f "012 34"]) h1;refine(_,O,cg O,λm1 M=>(l1,m1,_,_,O,O,aQ.B M _ _ aD,aD,cg O,λl3 h3=>?_));have s3:=(s1.F<|aQ.B M).F<|aQ.B (o:=.a<|(mW.take 15).map af.f) h3;refine(_,O,cg O,λm3 R=>(l3,m3,_,_,O,O,aQ.B R _ _ aD,aD,cg O,λl4 h4=>?_));have s4:=(s3.F<|aQ.B R).F<|aQ.B (o:=.a<|(mW.take 17).map af.f) h4;refine(_,O,cg O,λm4 r=>(l4,m4,_,_,O,O,aQ.B r _ _ aD,aD,cg O,λm h5=>?_));have s5:=(s4.F<|aQ.B r).F<|aQ.B (o:=.a<|(mW.take 19).map af.f) h5;have a2:H m=Z:=(s4.F<|aQ.B r).A2 h5;refine(_,O,.inl (O,_,bx.B aD),m,_,_,O,O,aD,li (by simp),cg O,λd u=>?_);generalize S:av (av _ m _) m _=T at u;have e6:T m=U (.a<|mW.map af.f):=by rw[<-S,aD];rfl
  have s6:aQ H T:=by
   rw[<-S];exact s5.A0 a2
  have G:H d=Z:=s6.A2 u;have s7:aQ H (av T d<|.a []):=s6.A0 G;have e7:av T d (.a []) m=U (.a<|mW.map af.f):=aQ.B u _ _ e6;refine(_,O,_,O,_,_,O,O,(by show(0:Int)<20;decide),m,_,_,_,O,O,bx.B e7,a1,O,_,_,O,O,ξ,dN ω,dN (show(pW n).length<=100000 from ω),λD hD=>(D,O,(_,bx.B aD),?_));have X:d≠D:=dH (H:=av T d<|.a []) aD hD;have a3:H D=Z:=s7.A2 hD;refine mm (K:=K) (a:=D) (xs:=(pW n).map af.f) (λi σ g=>∃p v,σ=[U<|.d n,U<|.c m,U<|.c d,v]/\aQ H g/\g D=U (.a<|(pW n).map af.f)/\g d=U (.a<|p.map af.c)/\aW g p ((((pW n).take i).filter λ(x:al)=>!aG (x="")).map rt))
   ([],Z,O,s7.A0 a3,aD,by rw[a_ X];exact aD,.nil) (λi σ g _ (_,_,_,_,q,_)=>bx.B q) ?_ ?_
  ·rintro i x σ g hx ⟨p,v,rfl,sm,I,b,L⟩
   rw[cm] at hx;cases c:(pW n)[i]? with
   |none=>rw[c] at hx;cases hx
   |some y=>
    rw[c] at hx;obtain rfl:=ca hx;have hi:i<(pW n).length:=(cE.mp c).1;obtain⟨y5,yc⟩:=g3 y<|dy c;refine(_,O,O,_,O,?_)
    by_cases hy:y=""
    ·subst hy
     refine cZ (p,_,O,sm,I,b,?_);rw[di c,kj,cv]
     simpa using L
    ·rw[show(!aG (af.f y=af.f ""))=ae from by simp[hy]]
     refine dI (_,O,.inl (O,_,bx.B b),_,O,y,O,λD2 a4=>fc<|Xo y5 yc a4 λH3 a5 a6=>(D2,_,O,.inl (bx.B a6,λt a7=>?_)));have s8:aQ g (av H3 t<|.b<|(rt y).map af.d):=a5.F<|aQ.B a7;have a8:=L.B;have a9:p.length<=20:=by
      rw[a8,aA];exact dE (qw _ _) (by rw[eF];omega)
     refine(d,_,_,O,O,s8 _ _ b,li (by rw[aA];omega),(p++[t],_,O,(sm.F s8).A0 G,?_,by rw[aD,cv];rfl,?_))
     ·rw[a_ X.symm];exact s8 _ _ I
     ·rw[di c,kj,cv,show [y].filter (λ(x:al)=>!aG (x=""))=[y] by simp[hy]]
      exact kD (aW.J (s8.J L) aD) (s8 _ _ b) (by intro xs z;cases z)
  ·rintro σ g ⟨p,v,rfl,sm,I,b,L⟩
   rw[aA,iI] at L;exact(_,O,k d p g sm G b L)
def gK(a b:Int)(c:List Int):List Int:=c.map λx=>a+b*x
inductive FA(vs:List af)(H:ac)(Q:aL)(E':bK):Prop
 |a:∀p l as pss,(vs=[.c p,.c l])->(fR H p)->(H l=U (.a<|as.map af.c))->(aW H as pss)->(pss.length<=20)->((∀ps∈pss,ps.length<=10))->(∀D bs qss first gap H',gi p H H'->fR H' p->H D=Z->H' D=U (.a<|bs.map af.c)->aW H' bs qss->0<=first->first<12->1<=gap->gap<=3->qss.Perm (pss.map<|gK first gap)->Q (.c D) H')->FA vs H Q E'
def xr:cQ ["box","web","gap","first","found","piece"] ["box","web"] (bB A_):=(O,O,O,δ,O,δ,δ)
def XU{b c:Int}{Q:aL}(p:cG h a g)(w:g.length<=10)(y:1<=c/\c<=3)(o:h D=Z)(k:∀f,aQ h f->f D=U (.a<|(gK b c g).map af.d)->Q (.c D) f):fg (sZ K a) (eA 0) ja (dW (jq λi j=>.d<|i+j) (bz 1)<|dW (mj vc λi j=>.d<|i*j) (bz 2)<|bz 0) [Z,U<|.d b,U<|.d c] h D Q:=by
 refine Wf (xs:=g.map af.d) (λj n l f=>∃v,n=[v,U<|.d b,U<|.d c]/\aQ h f/\f D=U (.a l)/\l=((gK b c g).take j).map af.d) ?_ ?_ ?_ ?_
 ·exact(Z,O,aQ.B o,aD,O)
 ·rintro j n l f ⟨v,rfl,m,d,rfl⟩
  exact fm.B<|m.N p
 ·rintro j n l f x r s t ⟨v,rfl,m,d,rfl⟩
  obtain⟨q,u,rfl⟩:=xM r;refine jU ?_;refine(_,O,_,O,_,O,_,_,O,O,.inl (ω,ω),_,_,O,O,gG (by rw[aA];exact dN ω) s t d (_,O,m.A0 o,aD,?_));have e:(gK b c g)[j]?=U (b+c*q):=by unfold gK;rw[cm,u];rfl
  rw[di e,cv];rfl
 ·rintro n l f ⟨v,rfl,m,d,rfl⟩
  rw[gb (by unfold gK;simp)] at d;exact k f m d
def YT(F:bF K "_law_named" "_law_named" A_ f fd)(c5:eC mg)(Ft:bF K "_law_take" "_law_take" AV ft I)(bt:eT K I ["box","most"] [])(mt:mg "_law_take"=U (.ref ft)):bD P w K mg base aX 2 f fd ["box","web"] FA:=by
 have Gt:bD P w K mg base aX 1 ft I ["box","most"] ti:=NY Ft;refine F.B xr (λvs H Q E h=>?_) (λb9 A a4 s H vs Q E hr h=>?_)
 ·obtain⟨p,l,as,L,rfl,_⟩:=h;rfl
 ·obtain⟨p,l,as,L,rfl,hb,hl,ht,c0,a5,k⟩:=h
  refine(_,aY (cJ (i:=2) xr.a O (aq O)<|cA lM aV<|kr Gt hr O mt Ft.a bt .nil ce<|aj (ah 0)<|aj aV az)
   (aY (cJ (i:=3) xr.a O (aq O)<|kr Gt hr O mt Ft.a bt .nil ce<|aj (ah 0)<|aj aV az)
   (aY (cJ (i:=4) xr.a O (ak O)<|eR az)
   (aY (iF iL O (eG<|ah 1) (cB (i:=5) xr.a O<|ak O)
    (be (eW (oO rR aet PySem.F.type_list_insert Ve (ah 4)
     (aj (kr Gt hr O mt Ft.a bt .nil ce<|aj (ah 0)<|aj (cA lM (eH gW O c5.a fZ<|aj (ah 4) az) aV) az)
     (aj (ik MA O c5.g OJ (aj
      (fE ["box","web","gap","first","found","piece"] ["point","first","gap"] [Z,U 3,U 2] (Eu<|ah 5) (λcl C n o ex=>cB (i:=0) (eI ["point","first","gap"]) O<|ak O) (λcl C n o ex=>gE)
       (λcl C n o ex=>cA lM (ah 1)<|cA qP (ah 2)<|ah 0) (hfr:=iQ (bB A_) δ)) az)) az))))))
  <|be<|cp<|ah 4))),?_)
  refine(_,O,p,3,O,hb,ξ,ξ,λq H1 a1 a2 a6 a7=>(_,_,O,O,?_));refine(_,O,p,12,O,a7,ξ,ξ,λu H2 c1 c2 a8 T=>(cg O,λD hD=>?_));have d:=a6.F a8;have g:H D=Z:=d.A2 hb T hD;have X:l≠p:=hb.F hl;have a9:=ht.B;refine(_,O,l,O,(_,bx.B<|(d.N g) _ _ X hl),mm (K:=K) (a:=l) (xs:=as.map af.c) (λi σ y=>∃M b v,σ=[U<|.c p,U<|.c l,U<|.d<|1+q,U<|.d u,U<|.c D,v]/\gi p H y/\fR y p/\y D=U (.a<|M.map af.c)/\aW y M b/\b.Perm ((L.take i).map<|gK u<|1+q))
   ([],[],Z,O,d.N g,T.W hD,aD,.nil,List.Perm.nil) (λi σ y _ (_,_,_,_,sb,_)=>bx.B<|sb _ _ X hl) ?_ ?_)
  ·rintro i x σ y hx ⟨M,b,v,rfl,j,e,c,hq,hp⟩
   obtain⟨a,ea,rfl⟩:=fY hx;obtain⟨R,S,b0⟩:=ht.F ea;have hi:i<L.length:=(cE.mp S).1;have c3:=hq.B;have c4:b.length=i:=by rw[hp.length_eq,aA,eF];omega
   have a0:D≠p:=e.F c;refine(_,O,.inl (O,_,bx.B c),_,O,_,O,D,_,O,.inl<|bx.B c,_,_,O,O,p,_,O,e,by rw[aA];omega,by rw[aA];omega,λr H4 r0 b1 m b2=>?_);rw[aA] at b1;have G:cG H4 a R:=(j.F m).W hb b0;refine(_,O,a,O,(_,fm.B G),λD2 b3=>fc<|XU G (a5 R<|dy S) (ω,ω) b3 λH5 b4 b5=>(D2,_,O,.inl (bx.B b5,λt b6=>?_)));have s6:aQ H4 (av H5 t<|.b<|(gK u (1+q) R).map af.d):=b4.F<|aQ.B b6;have b7:=m _ _ a0 c;have a3:=s6 _ _ b7;have b8:=b2.B s6;refine(D,_,r,_,O,O,a3,r0,by rw[aA];omega,li (by rw[aA];omega),(M.take r.toNat++t::M.drop r.toNat,b.take r.toNat++gK u (1+q) R::b.drop r.toNat,_,O,((j.F m).F<|gi.J s6).N g,b8.N a0,?_,?_,?_))
   ·rw[aD,cv,df,Dq,Jc]
   ·have tq:=s6.J<|m.B e hq
    exact kD (aW.N (tq.W _)<|.cons aD<|tq.A0 _) a3 (by intro xs z;cases z)
   ·rw[di S,cv]
    have h1:(b.take r.toNat++gK u (1+q) R::b.drop r.toNat).Perm (gK u (1+q) R::b):=by
     have:=ag3 (a:=gK u (1+q) R) (l₁:=b.take r.toNat) (l₂:=b.drop r.toNat)
     rwa [I_] at this
    exact h1.trans<|(List.perm_append_singleton _ _).symm.trans<|List.Perm.append_right _ hp
  ·rintro σ y ⟨M,b,v,rfl,j,e,c,hq,hp⟩
   rw[aA,a9,iI] at hp;exact(_,O,k D M b u (1+q) y j e g c hq c1 c2 ω ω hp)
end
def aax(a:Ξ):Prop:=a.Nodup/\∀b∈a,b≠[]/\b.length<=4/\iJ b=ae/\∀x∈b,0<=x/\x<=5
def GP(b:Ξ):Prop:=(∃n,n<20/\b=my n)\/(b.length<=5/\aax b)
def BF(d:Ξ):Prop:=∃b a c,GP b/\0<=a/\a<12/\1<=c/\c<=3/\d.Perm (b.map<|gK a c)
def ZX:∀n,n<20->(my n).length<=20/\∀a∈my n,a≠[]/\a.length<=5:=δ
def O':∀a b:List Int,co a b=ae->co b a=ao
 |[],[],h=>O
 |[],_::_,h=>O
 |_::_,[],h=>by rw[Ph] at h;exact aZ h eP
 |x::c,y::d,h=>by
  rw[ib] at h ⊢
  by_cases e:x=y
  ·rw[aB e] at h;rw[aB e.symm];exact O' c d h
  ·rw[au e] at h;rw[au (λz=>e z.symm)]
   have:=iE h;exact cf ω
def Pa:∀a b:List Int,co a b=ao->co b a=ao->a=b
 |[],[],_,_=>O
 |[],_::_,h,_=>by rw[xS] at h;exact aZ h ξ
 |_::_,[],_,h=>by rw[xS] at h;exact aZ h ξ
 |x::d,y::f,h,c=>by
  rw[ib] at h c
  by_cases e:x=y
  ·rw[aB e] at h;rw[aB e.symm] at c
   rw[e,Pa d f h c]
  ·rw[au e] at h;rw[au (λz=>e z.symm)] at c
   have:=mM h;have:=mM c;omega
def O_:∀a b c:List Int,co b a=ao->co c b=ao->co c a=ao
 |[],b,c,_,_=>by cases c with
  |nil=>rfl
  |cons _ _=>rfl
 |_::_,[],c,h,_=>by rw[xS] at h;exact aZ h ξ
 |_::_,_::_,[],_,h=>by rw[xS] at h;exact aZ h ξ
 |x::g,y::i,z::j,h,d=>by
  rw[ib] at h d ⊢
  by_cases e:y=x
  ·rw[aB e] at h
   by_cases f:z=y
   ·rw[aB f] at d;rw[aB<|f.trans e];exact O_ g i j h d
   ·rw[au f] at d;rw[au ω]
    have:=mM d;exact cf ω
  ·rw[au e] at h
   have k:=mM h
   by_cases f:z=y
   ·rw[au ω]
    exact cf ω
   ·rw[au f] at d
    have l:=mM d;rw[au ω];exact cf ω
def mD(p:List Int):List Int:=(p.length:Int)::p
def tF(a b:List Int):Bool:=!co (mD b) (mD a)
def tE:tF a b=ae↔co (mD b) (mD a)=ao:=by unfold tF;simp
def cW(a:Ξ):Ξ:=(bh<|a.flatMap cy).mergeSort tF
def BO(a:Ξ):(cW a).Perm (bh<|a.flatMap cy):=List.mergeSort_perm _ _
def G_(d:Ξ):(cW d).Pairwise (λa b=>tF a b=ae):=by
 refine List.pairwise_mergeSort (λa b c e f=>?_) (λa b=>?_) _
 ·rw[tE] at e f ⊢;exact O_ _ _ _ e f
 ·rw[RI,tE,tE]
  cases h:co (mD b) (mD a) with
  |false=>exact .inl O
  |true=>exact .inr<|O' _ _ h
def qc{x:List Int}:x∈cW a↔x∈a.flatMap cy:=by rw[(BO a).mem_iff,sv]
def tD(a:Ξ):(cW a).Nodup:=(BO a).nodup_iff.mpr<|DR _
def vu(a:Ξ):(cW a).length=(bh<|a.flatMap cy).length:=(BO a).length_eq
def aa6{l m:Ξ}(e:l.Perm m)(f:l.Pairwise (λa b=>tF a b=ae))(g:m.Pairwise (λa b=>tF a b=ae)):l=m:=by
 refine ahp (λa b _ _ c d=>?_) f g e;rw[tE] at c d;have:=Pa _ _ d c;unfold mD at this;exact(List.cons.inj this).2
def abd{c l:Ξ}(d:l.Perm (bh<|c.flatMap cy))(e:l.Pairwise (λa b=>co ((b.length:Int)::b) ((a.length:Int)::a)=ao)):l=cW c:=
 aa6 (d.trans (BO c).symm) (e.imp λh=>tE.mpr h)<|G_ c
def BN:∀(n:Nat)(p q:List Int),p.length=n->(q∈lj p↔q.Sublist p)
 |0,p,q,h=>by
  obtain rfl:=Dw h;show q∈[[]]↔_;simp
 |n+1,p,q,h=>by
  obtain⟨r,x,rfl⟩:∃r x,p=r++[x]:=by
   rcases List.eq_nil_or_concat p with e|⟨r,x,e⟩
   ·rw[e] at h;cases h
   ·exact(r,x,by rw[e,List.concat_eq_append])
  have a:r.length=n:=by simpa using h
  rw[GR,gB,BN n r q a,bq,List.sublist_append_iff];constructor
  ·rintro(d|⟨y,f,rfl⟩)
   ·exact(q,[],by simp,d,ag4 _)
   ·exact(y,[x],O,(BN n r y a).mp f,Jo _)
  ·rintro⟨b,i,rfl,c,g⟩
   cases g with
   |cons _ h=>
    obtain rfl:=ag0.mp h;exact .inl (by simpa using c)
   |cons_cons _ h=>
    obtain rfl:=ag0.mp h;exact .inr (b,(BN n r b a).mpr c,O)
def nu{p q:List Int}:q∈cy p↔q≠[]/\q.Sublist p:=by
 obtain⟨t,e,b⟩:=GS p;have a:=BN p.length p q O;rw[e] at a;unfold cy;rw[e];show q∈t↔_;constructor
 ·intro h
  exact(b q h,a.mp<|d_ _ h)
 ·rintro⟨c,d⟩
  rcases ci.mp (a.mpr d) with h|h
  ·exact aZ h c
  ·exact h
def BJ:∀p:List Int,iJ p=ae↔p.Pairwise (·<·)
 |[]=>by simp[iJ]
 |[g]=>by simp[iJ]
 |g::b::r=>by
  have f:=BJ<|b::r;rw[show iJ (g::b::r)=(aG (g<b)&&iJ (b::r)) from O,iN,ii,f,Do (a:=g)];constructor
  ·rintro⟨d,c⟩
   refine(λx e=>?_,c);rcases ci.mp e with rfl|e
   ·exact d
   ·have:=(Do.mp c).1 x e
    omega
  ·rintro⟨d,c⟩
   exact(d b dC,c)
def nt:ll p=ae↔p≠[]/\p.length<=5/\(∀x∈p,0<=x/\x<=99)/\p.Pairwise (·<·):=by
 unfold ll;simp only[iN,ii,kN,BJ];constructor
 ·rintro⟨⟨⟨a,b⟩,c⟩,d⟩
  exact(λz=>by rw[z] at a;simp at a,b,c,d)
 ·rintro⟨a,b,c,d⟩
  refine(((?_,b),c),d);cases p with
  |nil=>exact aZ O a
  |cons _ _=>simp
def BK{p q:List Int}(h:ll p=ae)(a:q∈cy p):ll q=ae:=by
 rw[nt] at h ⊢;rw[nu] at a;exact(a.1,dE a.2.length_le h.2.1,λx b=>h.2.2.1 x<|a.2.subset b,h.2.2.2.sublist a.2)
def abb{a:Ξ}(c:a.Nodup)(d:∀p∈a,ll p=ae):Pb a a.length:=by
 intro i p m e;refine(λf=>?_,d p<|dy e);obtain⟨j,g⟩:=jO.mp f;obtain⟨h,b⟩:=cE.mp g;rw[eF] at h;obtain⟨k,l⟩:=cE.mp e;have:=ul.mp c j i ω k ω;rw[List.getElem_take] at b;exact this<|b.trans l.symm
def aa3{a:Ξ}(b:a.length<=20)(c:a.Nodup)(d:∀p∈a,ll p=ae)(h:(bh<|a.flatMap cy).length<=200):gj a=ae:=by
 rw[aa5 a b<|abb c d,bZ h]
def qb(h:gj a=ae):a.length<=20/\(∀p∈a,ll p=ae)/\(∀p∈a,p.length<=5)/\(bh<|a.flatMap cy).length<=200:=by
 unfold gj at h;simp only[iN,ii,kN] at h;obtain⟨⟨⟨d,e⟩,g⟩,f⟩:=h;have c:∀p∈a,ll p=ae:=λp b=>by rw[<-BL];exact e p b
 exact(d,c,λp b=>(nt.mp<|c p b).2.1,f)
def aa2(b:Ξ):Prop:=b.Nodup/\b.length<=17/\(∀a∈b,a≠[]/\a.length<=5/\iJ a=ae/\∀x∈a,0<=x/\x<=7)/\(b.flatMap cy).length<=200
def Z':∀n,n<20->(my n).Nodup/\(my n).length<=17/\(∀a∈my n,a≠[]/\a.length<=5/\iJ a=ae/\∀x∈a,0<=x/\x<=7)/\((my n).flatMap cy).length<=200:=δ
def OA{m:Nat}:∀{b:Ξ},(∀a∈b,(cy a).length<=m)->(b.flatMap cy).length<=m*b.length
 |[],_=>by simp
 |p::r,h=>by
  have d:=h p dC;have e:=OA (b:=r) λq c=>h q<|d_ _ c;rw[ot,dz,dP,agn];omega
def OH(h:GP b):aa2 b:=by
 rcases h with ⟨n,f,rfl⟩|⟨l,c⟩
 ·exact Z' n f
 ·refine(c.1,ω,λa d=>?_,?_)
  ·obtain⟨g,e,i,j⟩:=c.2 a d
   exact(g,ω,i,λx k=>by have:=j x k;omega)
  ·have:=OA (m:=15) (b:=b) λa d=>by
    rw[vr];have e:=(c.2 a d).2.1;have:2 ^ a.length<=2 ^ 4:=Rn ξ e;omega
   omega
def XW{a b:Int}(c:1<=b)(h:gK a b p=gK a b q):p=q:=by
 unfold gK at h;refine(uq (f:=λx=>a+b*x) (λx y e=>?_)).mp h;have:b*x=b*y:=ω
 exact Int.eq_of_mul_eq_mul_left ω this
def XV{g f:Int}(m:0<=g)(n:g<12)(o:1<=f)(j:f<=3){p:List Int}(h:p≠[]/\p.length<=5/\iJ p=ae/\∀x∈p,0<=x/\x<=7):ll (gK g f p)=ae:=by
 obtain⟨a,b,c,d⟩:=h;rw[nt];unfold gK;refine(λz=>a<|ag8.mp z,by rw[aA];exact b,λy k=>?_,?_)
 ·obtain⟨x,l,rfl⟩:=bq.mp k
  have:=d x l;have i:f=1\/f=2\/f=3:=ω
  rcases i with rfl|rfl|rfl<;>omega
 ·rw[BJ] at c
  rw[jN];refine c.imp λ{x y} e=>?_;have:f*x<f*y:=Int.mul_lt_mul_of_pos_left e ω;omega
def aac(h:BF q):gj q=ae/\q.Nodup/\q.length<=17:=by
 obtain⟨b,a,d,k,l,m,g,f,c⟩:=h;obtain⟨i,n,o,s⟩:=OH k;have t:q.length<=17:=by rw[c.length_eq,aA];exact n
 have j:q.Nodup:=by
  rw[c.nodup_iff];unfold bP at i ⊢;rw[jN];exact i.imp λ{x y} e z=>e<|XW g z
 refine(aa3 ω j (λp u=>?_) ?_,j,t)
 ·obtain⟨r,v,rfl⟩:=bq.mp<|c.mem_iff.mp u
  exact XV l m g f<|o r v
 ·refine dE (sw _) ?_
  rw[(c.flatMap_right cy).length_eq];have:∀b:Ξ,((b.map<|gK a d).flatMap cy).length=(b.flatMap cy).length:=by
   intro b
   induction b with
   |nil=>rfl
   |cons p r w=>
    rw[df,ot,ot,dz,dz,w,vr,vr];unfold gK;rw[aA]
  rw[this];exact s
def cq(q:List Int):Ξ:=if q.length=1 then [] else(dk q.length).map λk=>q.take k++q.drop (k+1)
def nR(q:List Int):(cq q).length<=q.length:=by
 unfold cq;split
 ·exact dZ _
 ·simp
def vt{p q:List Int}:p∈cq q↔q.length≠1/\∃k,k<q.length/\p=q.take k++q.drop (k+1):=by
 unfold cq;split
 next h=>simp[h]
 next h=>
  rw[bq];constructor
  ·rintro⟨k,a,rfl⟩
   exact(h,k,h_.mp a,O)
  ·rintro⟨_,k,a,rfl⟩
   exact(k,h_.mpr a,O)
def GU:∀(o p:List Int),o.Pairwise (·<·)->p.Pairwise (·<·)->(∀x∈p,x∈o)->p.Sublist o
 |[],p,_,_,h=>by
  cases p with
  |nil=>exact akg
  |cons a r=>exact aZ (h a dC) (by simp)
 |b::o,p,k,j,h=>by
  obtain⟨g,c⟩:=Do.mp k;cases p with
  |nil=>exact ag4 _
  |cons a r=>
   obtain⟨d,i⟩:=Do.mp j
   by_cases e:a=b
   ·subst e
    refine(GU o r c i λx f=>?_).cons_cons a;rcases ci.mp (h x<|d_ _ f) with rfl|q
    ·have:=d x f;omega
    ·exact q
   ·have l:a∈o:=by
     rcases ci.mp (h a dC) with q|q
     ·exact aZ q e
     ·exact q
    have m:=g a l;refine(GU o (a::r) c j λx f=>?_).cons b;rcases ci.mp (h x f) with q|q
    ·exfalso
     rcases ci.mp f with z|z
     ·omega
     ·have:=d x z;omega
    ·exact q
def GV{p q:List Int}{k:Nat}(b:k<q.length)(h:p=q.take k++q.drop (k+1)):p.Sublist q/\p.length<q.length:=by
 subst h;refine(?_,?_)
 ·have a:(q.take k++q.drop (k+1)).Sublist (q.take k++q.drop k):=(Jo _).append (by
   rw[show q.drop (k+1)=(q.drop k).drop 1 by rw[List.drop_drop]];exact List.drop_sublist _ _)
  rwa [I_] at a
 ·rw[dz,eF,mK]
  omega
def Z_:∀n,n<20->(bh<|(my n).flatMap cy).length<=56:=δ
def NB:Ξ:=(cy [0,1,2,3,4,5]).filter λq=>aG<|q.length<=4
def Xn:NB.length=56:=δ
def aal(h:GP b):(bh<|b.flatMap cy).length<=56:=by
 rcases h with ⟨n,c,rfl⟩|⟨j,d⟩
 ·exact Z_ n c
 ·rw[<-Xn]
  refine(DR _).length_le_of_subset λx a=>?_;rw[sv,ki] at a;obtain⟨p,e,a⟩:=a;obtain⟨_,k,f,g⟩:=d.2 p e;rw[nu] at a;have l:=a.2.length_le;unfold NB;rw[nA,nu];refine((a.1,a.2.trans<|GU _ _ ξ ((BJ p).mp f) λy i=>?_),bZ ω);have:=g y i;have:y=0\/y=1\/y=2\/y=3\/y=4\/y=5:=ω
  rcases this with rfl|rfl|rfl|rfl|rfl|rfl<;>decide
def aad(h:BF q):(bh<|q.flatMap cy).length<=56:=by
 obtain⟨b,c,f,i,_,_,_,_,j⟩:=h;refine dE ?_<|aal i;have e:((bh<|b.flatMap cy).map<|gK c f).length=(bh<|b.flatMap cy).length:=aA _;rw[<-e];refine(DR _).length_le_of_subset λx d=>?_;rw[sv,ki] at d;obtain⟨p,k,d⟩:=d;obtain⟨r,l,rfl⟩:=bq.mp<|j.mem_iff.mp k;rw[nu] at d;obtain⟨g,a⟩:=d;unfold gK at a;obtain⟨y,m,rfl⟩:=List.sublist_map_iff.mp a;refine bq.mpr (y,?_,O);rw[sv,ki];exact(r,l,nu.mpr (λz=>g (by rw[z];rfl),m))
def Ai(a:Ξ):Prop:=gj a=ae/\(cW a).length<64
abbrev xD:bV:=de 22
abbrev AX:bV:=de 23
def NU:∀{a:List (List Int×V)},(∀q∈a,cG H q.2 q.1)->aW H (a.map (·.2)) (a.map (·.1))
 |[],_=>.nil
 |q::r,h=>.cons (h q dC) (NU λx b=>h x<|d_ _ b)
def Nk(t:OO H b a D c):∃f,aQ H b/\H D=Z/\b D=U (.a<|f.map af.c)/\aW b f (cW a):=by
 obtain⟨g,h,d,i,j,k⟩:=t;have e:c.map (·.1)=cW a:=abd j<|jN.mpr k;refine(c.map (·.2),g,h,by rw[d,bY];rfl,?_);rw[<-e];exact NU i
section
variable{P:aU}{w:aO}{K:aH}{mg:al->Option aa}{base:aI}
inductive xj(K:aH)(vs:List af)(H:ac)(Q:aL)(E':bK):Prop
 |a:∀l as pss,(vs=[.c l])->(bx K H l<|as.map af.c)->(aW H as pss)->(Ai pss)->(∀D H2 bs,aQ H H2->H D=Z->H2 D=U (.a<|bs.map af.c)->aW H2 bs (cW pss)->Q (.c D) H2)->xj K vs H Q E'
def NE:cQ ["web"] ["web"] (bB AX):=(O,O,O,δ,O,δ,δ)
def NH:cQ ["web"] ["web"] (bB xD):=(O,O,O,δ,O,δ,δ)
inductive FC(K:aH)(vs:List af)(H:ac)(Q:aL)(E':bK):Prop
 |a:∀l as pss,(vs=[.c l])->(bx K H l<|as.map af.c)->(aW H as pss)->(Ai pss)->(∀H2,aQ H H2->Q .g H2)->FC K vs H Q E'
def Y_(F:bF K "must_be_web" "must_be_web" xD f g)(m:bF K "is_web" "is_web" Be c a)(n:eT K a ["web"] [])(o:mg "is_web"=U (.ref c))(p:bD P w K mg base aX 6 c a ["web"] (AG K)):bD P w K mg base aX 7 f g ["web"] (FC K):=by
 refine F.B NH (λq H Q E h=>?_) (λr A d s H q Q E t h=>?_)
 ·obtain⟨l,i,b,rfl,_⟩:=h;rfl
 ·obtain⟨l,i,b,rfl,u,v,j,k⟩:=h
  refine(_,be<|dh (mR<|oF<|kr p t O o m.a n .nil ce<|aj (ah 0) az) lL dq,?_);refine(_,O,l,i,b,O,u,v,(λ_=>by rw[<-vu];exact j.2),λx e=>(_,O,?_));rw[j.1];exact cZ<|k x e
def YM{f e g:V}(F:bF K "pieces" "pieces" AX f r)(y:bF K "must_be_web" "must_be_web" xD e b)(z:eT K b ["web"] [])(C:mg "must_be_web"=U (.ref e))(G:bD P w K mg base aX 7 e b ["web"] (FC K))(I:bF K "all_parts" "all_parts" xI g c)(L:eT K c ["some"] [])(M:mg "all_parts"=U (.ref g))(R:bD P w K mg base aX 5 g c ["some"] (ve K)):bD P w K mg base aX 8 f r ["web"] (xj K):=by
 refine F.B NE (λS H Q E h=>?_) (λT A i s H S Q E u h=>?_)
 ·obtain⟨l,j,d,rfl,_⟩:=h;rfl
 ·obtain⟨l,j,d,rfl,v,x,m,k⟩:=h
  have n:eJ 5 _:=u.F ξ;refine(_,aY (eW<|kr G u O C y.a z .nil ce<|aj (ah 0) az)
  <|be<|cp<|kr R n O M I.a L .nil ce<|aj (ah 0) az,?_)
  obtain⟨o,_,X,_⟩:=qb m.1;refine(_,O,l,j,d,O,v,x,m,λH1 a=>?_);refine(_,O,l,j,d,O,a.W v,a.J x,X,o,(by rw[<-vu];exact m.2),λD H2 qs t=>?_);obtain⟨bs,p,hD,q,hb⟩:=Nk t;exact k D H2 bs (a.F p) (a.A2 hD) q hb
end
abbrev xz:bV:=de 13
def GI(a:List af)(i:Nat)(h:i<=a.length):iR a Z (U (i:Int))=a.take i:=by
 unfold iR;rw[BP,xR,Rq h,ahi,IW]
def Bz(a:List af)(i:Nat)(h:i<=a.length):iR a (U (i:Int)) Z=a.drop i:=by
 unfold iR;rw[BP,xR,Rq h];exact gb (by rw[mK];exact bc _)
abbrev An:bb:=dW zJ (zo zI (bz 1) zr<|zp<|bz 0)<|zo zI (bz 1) (zp<|dW (jq λi j=>.d<|i+j) (bz 0)<|dK<|.d 1) zr
section
variable{P:aU}{w:aO}{K:aH}{mg:al->Option aa}{base:aI}
def XS{Q:aL}(u:cG g a b)(G:b.length<=5)(w:g D=Z)(k:∀(c:ac)(d:List V),aQ g c->c D=U (.a<|d.map af.c)->aW c d ((dk b.length).map λk=>b.take k++b.drop (k+1))->Q (.c D) c):fg (mV 0 b.length) (eA 0) ja An [Z,U<|.c a] g D Q:=by
 refine wS (λj s p c=>∃(v:Option af)(d:List V),s=[v,U<|.c a]/\aQ g c/\c D=U (.a p)/\p=d.map af.c/\aW c d (((dk b.length).map λk=>b.take k++b.drop (k+1)).take j)) ?_ ?_ ?_
 ·exact(Z,[],O,aQ.B w,aD,O,.nil)
 ·rintro j s p c x y ⟨v,d,rfl,h,f,rfl,q⟩
  have e:((dk b.length).map λk=>b.take k++b.drop (k+1))[j]?=U (b.take j++b.drop (j+1)):=by rw[cm,yN x];rfl
  refine jU ?_;refine(_,O,_,O,_,O,a,_,O,h.N u,λA H i l=>(_,O,_,O,_,_,O,O,_,O,a,_,O,i _ _<|h.N u,λC I m n=>?_));rw[show(0:Int)+((j:Nat):Int)=((j:Nat):Int) from ω,GI _ _ (by rw[aA];omega),<-Dq] at l;rw[show(0:Int)+((j:Nat):Int)+1=((j+1:Nat):Int) from ω,Bz _ _ (by rw[aA];omega),<-Jc] at n;refine(A,C,_,_,O,O,m _ _ l,n,dN (by simp;omega),λE K t o=>?_);rw[<-cv] at o;have r:=(i.F m).F t;refine gG (dN ω) x y (r _ _ f) (_,d++[E],O,(h.F r).A0 w,aD,by rw[cv];rfl,?_);rw[di e];exact kD (aW.J (r.J q) o) (r _ _ f) (by intro L z;cases z)
 ·rintro s p c ⟨v,d,rfl,h,f,rfl,q⟩
  rw[gb (by simp)] at q;exact k c d h f q
inductive o_(vs:List af)(H:ac)(Q:aL)(E':bK):Prop
 |b:∀a ps,(vs=[.c a])->(cG H a ps)->(ps.length<=5)->(∀D H2(bs:List V),aQ H H2->H D=Z->H2 D=U (.a<|bs.map af.c)->aW H2 bs (cq ps)->Q (.c D) H2)->o_ vs H Q E'
def Xw:cQ ["piece"] ["piece"] (bB xz):=(O,O,O,δ,O,δ,δ)
def NZ{n:cr}(F:bF K "rims_of" "rims_of" xz f n)(I:eC mg):bD P w K mg base aX 1 f n ["piece"] o_:=by
 refine F.B Xw (λq H Q E h=>?_) (λr A j s H q Q E G h=>?_)
 ·obtain⟨a,e,rfl,_⟩:=h;rfl
 ·obtain⟨a,e,rfl,l,t,k⟩:=h
  refine(_,aY (dh (cV jT (eH gW O I.a fZ<|aj (ah 0) az) aV<|cN _) (be<|cp<|eR az) dq)
   (be (cp (fE ["piece"] ["k","piece"] [Z,U 0] (qK O I.c<|aj (eH gW O I.a fZ<|aj (ah 0) az) az) (λo C b c p=>cB (i:=0) (eI ["k","piece"]) O<|ak O) (λo C b c p=>gE)
    (λo C b c p=>cA zN (oM zx (ah 1) oJ<|oH<|ah 0)<|oM zx (ah 1) (oH<|cA lM (ah 0) aV) oJ) (hfr:=iQ (bB xz) δ) (te:=An)))),?_)
  refine(_,O,a,_,O,.inr<|fm.B l,O,_,O,?_);rw[aA]
  by_cases g:e.length=1
  ·rw[show aG (af.d (e.length:Int)=af.d 1)=ae from bZ (by rw[g];rfl)]
   refine dI (cg O,λD d=>k D _ [] (aQ.B d) d aD ?_);unfold cq;rw[aB g];exact .nil
  ·rw[show aG (af.d (e.length:Int)=af.d 1)=ao from cf λL=>g (by injection L with L;omega)]
   refine cZ (_,O,a,_,O,.inr<|fm.B l,_,O,by rw[aA];omega,by rw[aA];omega,λD d=>?_);rw[aA];refine fc<|XS l t d λu v x m y=>k D u v x d m ?_;unfold cq;rw[au g];exact y
end
section
variable{X:aK}
def Wv(R:X.b=ae):io X (.type "list") (λD H Q=>∃a d,D=[.c a]/\bX H a (.c d)/\
  ∀(j:List V),dA (λ(p:List aN×af) b=>H b=U (.b<|p.1.map dM)) d j->∀l,H l=Z->Q (.c l) (av H l<|.a<|j.map af.c)):=by
 intro E s σ H D us Q I r h;obtain⟨a,d,rfl,v,q⟩:=h;obtain⟨u,rfl,S⟩:=gU r;cases S;obtain⟨z,y,f,g,o,k,G,T,h2,h3,K,h5⟩:=(show db X.prog X.w H s.heap a (.c d) from v.F I.b);have L:k.size=d.length:=by
  have:=gD aF K;rw[aA,<-hZ g] at this
  simpa using this
 refine ad3 (Pk (ep:=G) (es:=k) y) (I.a.hd R) (o,T,h2,h3) (by rw[L];exact z) λh' tk c c' kk e it=>?_;obtain⟨n1,n2⟩:=it;have pb:dA (λ(p:List aN×af) b=>H b=U (.b<|p.1.map dM)) d (f.map (·.2.1)):=by
  have:∀{l:List (List aN×af)}{m:List (List aN×V×aa)},js H l m->dA (λ(p:List aN×af) b=>H b=U (.b<|p.1.map dM)) l (m.map (·.2.1)):=by
   intro l m q
   induction q with
   |nil=>exact .nil
   |cons v t w=>exact .cons v.2.1 w
  exact this g
 have ea:c.toList=(f.map (·.2.1)).map Y:=by
  apply Dv;intro i;have M:f.length=c.size:=by rw[n1,L];exact(hZ g).symm
  by_cases x:i<c.size
  ·obtain⟨e',A,C⟩:=n2 i c[i] (by simp[x])
   have n:k.toList[i]?=U e':=by simpa using A
   rw[K,cm] at n;have P:f[i]?=U f[i]:=by simp[M,x]
   rw[P] at n;simp only[nz,pF] at n;simp only[cm,P,nz,km,yV x];rw[C,<-n]
   rfl
  ·have A:c.toList.length<=i:=by simp;omega
   have C:((f.map (·.2.1)).map Y).length<=i:=by simp[M];omega
   rw[nC A,nC C]
 have vv:bW ((f.map (·.2.1)).map af.c) c.toList:=by
  rw[ea];generalize f.map (·.2.1)=j
  induction j with
  |nil=>exact .nil
  |cons b j w=>exact .cons O w
 refine(.c s⁻¹,_,I.F kk (bc _) (show db X.prog X.w _ h' _ (.a ((f.map (·.2.1)).map af.c)) from(?_,c.toList,c',vv,by simpa using e)),O,q _ pb _<|I.b.B<|bc _);simp only[aA];rw[<-hZ g];exact z
def LM:∀{l:List (List aN×af)}{m:List (List aN×V×aa)}{i:Nat}{a:List aN×af},js H l m->l[i]?=U a->∃w,m[i]?=U w/\a.1=w.1/\cb a.2 w.2.2
 |_,_,0,_,.cons h _,e=>by cases e;exact(_,O,h.1,h.2.2)
 |_,_,i+1,_,.cons _ t,e=>LM (i:=i) t (by simpa using e)
end
section
variable{X:aK}
def uY(d:V)(o:aR)(a:List (List aN×af)):jt:=(λi H=>i<a.length/\H d=U (.e o<|.c a),λi H v e=>e=H/\∃c b,a[i]?=U c/\v=.c b/\H b=U (.b<|c.1.map dM),λi H=>i=a.length/\H d=U (.e o<|.c a))
def EF:∀{l:List (List aN×af)}{m:List (List aN×V×aa)}{i:Nat}{a:List aN×af},js H l m->l[i]?=U a->∃w,m[i]?=U w/\H w.2.1=U (.b<|a.1.map dM)
 |_,_,0,_,.cons h _,e=>by cases e;exact(_,O,h.2.1)
 |_,_,i+1,_,.cons _ t,e=>EF (i:=i) t (by simpa using e)
def Tz{K:aH}(d p:V){o:aR}{a:List (List aN×af)}(hx:o.ExactDict)(f:o.data=.dict g u)(r:g.size=a.length):pS P w K tg (uY d o a) [p] p (λi h=>h.IsKeyIter p d i g.size u) where
 f:=by simp
 a:=λi h j b l=>by
  have e:b=p:=by simpa using l
  subst e;obtain⟨o,e,c,dd⟩:=j;exact(o,e,λv z=>by rw[dd] at z;cases z)
 c:=λi h x j k=>by
  obtain⟨o,e,c⟩:=j;exact(o,k p (by simp) o e,c)
 d:=by
  intro X D G L hc i n s σ H E I y j M;subst D G L;obtain⟨R,S,f2,T,f4,f5⟩:=y p (by simp);obtain⟨C,hH⟩:=M;obtain⟨g0,z,hs,ys,a0,o',a1,a2,h1,h2,h3,h4,h5⟩:=(show db X.prog X.w H s.heap d (.e o<|.c a) from I.b d _ hH);obtain rfl:o=o':=ca<|g0.symm.trans h1;have q:=f.symm.trans h3;injection q with q hep
  subst q;have hm:iW s.heap d g u:=(o,g0,hx,f);have m:i<g.size:=by rw[r];exact C
  refine Pm j hm m λx t sb=>?_;have I1:aw X n σ H {s with heap:=x}:=I.A5 (t':=s.toks) (λb o l e=>(sb.2 b l).trans e) R S T f4 f5;obtain⟨oi,e1,e2,e3⟩:=id t;have ek:a[i]?=U a[i]:=cw C;obtain⟨w',ew,l⟩:=EF a0 ek;have g3:g.toList[i]?=U g[i]:=by simp[m]
  rw[h4,cm,ew] at g3;simp only[nz,pF] at g3;have gk:g[i].key=.ref w'.2.1:=by rw[<-g3];rfl
  exact(_,O,wN (s:={s with heap:=x}) e1 e2 e3 ξ (.c w'.2.1,H,I1,by rw[gk];rfl,(O,_,_,ek,O,l),t,λb l=>(y b l).1))
 done:=by
  intro X D G L hc i n s σ H E I y j M;subst D G L;obtain⟨R,S,f2,T,f4,f5⟩:=y p (by simp);obtain⟨C,hH⟩:=M;have hm:iW s.heap d g u:=(o,(show db X.prog X.w H s.heap d (.e o<|.c a) from I.b d _ hH).1,hx,f);have m:i=g.size:=by rw[r];exact C
  subst m;exact done (I.a.hd hc) j hm λx eb=>(O,I.A5 (t':=s.toks) (λb o l e=>eb b o l e) R S T f4 f5)
 e:=λA i s Q E j h=>ac1 j h
def VI(f:bb):kw:=λg H R=>f g H λx e=>∃d a,x=.c d/\bX e d (.c a)/\∀o c,c d=U (.e o<|.c a)->(∀b,b≠d->c b=e b)->R (uY d o a) c
def zL(hl:bA X l S):kX X Q l (VI S):=by
 intro c s y H R I h;refine bI (hl c s y H _ I h) λv f (x,m,A,r1,q1)=>?_;obtain⟨d,a,e,g,q⟩:=q1;subst e;cases r1;have T:∀(o:aR)(i:ac),aw X c y i f->i d=U (.e o<|.c a)->(∀b,b≠d->i b=m b)->am (aE X.prog X.w) X.A (qi<|.ref d) (ET X c y Q R) X.a f:=by
  intro o i r n p;obtain⟨g0,z,C,D,j,o',t,E,k,u,w,G,h5⟩:=(show db X.prog X.w i f.heap d (.e o<|.c a) from r.b d _ n);obtain rfl:o=o':=ca<|g0.symm.trans k;have K:t.size=a.length:=by
   have:=gD aF G;rw[aA,<-hZ j] at this
   simpa using this
  have hm:iW f.heap d t E:=(o,k,u,w);refine Pl C hm ?_;have L:i f⁻¹=Z:=r.b.B<|bc _;refine(f⁻¹,[f⁻¹],_,_,_,O,r.W (t':=f.toks) λb o e=>bJ _ e,Tz d _ u w K,(_,dv _ O,O,O),λb M=>?_,q o i n p);have e:b=f⁻¹:=by simpa using M
  subst e;exact r.A0 (bc _) L
 rcases g with g|⟨o,g⟩
 ·obtain⟨z,C,D,j,o,t,E,k,u,w,G,h5⟩:=(show db X.prog X.w m f.heap d (.c a) from A.b d _ g)
  have P:js (av m d<|.e o<|.c a) a D:=js.B j λb zs e=>by rw[a_ (λzz=>by rw[zz,g] at e;cases e)];exact e
  exact T o (av m d<|.e o<|.c a) (wQ (ob:=.e o<|.c a) (t':=f.toks) A (by rw[g];exact vB) (CQ _ _) (o,k) (k,z,C,D,P,o,t,E,k,u,w,G,h5)) aD λb M=>a_ M
 ·exact T o m A g λ_ _=>O
def Md{a:List (List aN×af)}{g:gY}{s:fe}{D:kz}(f:Nat->aM->ac->Prop)(u:f 0 c H)(v:∀i c H,i<=a.length->f i c H->H d=U (.e o<|.c a))(w:∀i n b c H,a[i]?=U n->H b=U (.b<|n.1.map dM)->f i c H->g (.c b) c H λh r=>s {D with a:=f<|i+1,d:=f<|i+1,c:=D.a} h r)(z:∀c H,f a.length c H->D.a c H):∃I:Nat->Nat->aM->ac->Prop,(∃m,I 0 m c H)/\∀i m c H,I i m c H->
   ((uY d o a).b i H/\D.a c H)\/((uY d o a).a i H/\∃K:aM->ac->Prop,(∀j k,K j k->∃t,t<m/\I (i+1) t j k)/\∀x k,(uY d o a).c i H x k->g x c k λh r=>s {D with a:=K,d:=K,c:=D.a} h r):=by
 refine(λi m c H=>m=a.length-i/\i<=a.length/\f i c H,(a.length,by simp,dZ _,u),?_);rintro i m c H ⟨rfl,A,p⟩;have q:=v i c H A p
 by_cases l:i<a.length
 ·refine .inr ((l,q),f<|i+1,λj k C=>(a.length-(i+1),ω,O,l,C),λx k y=>?_)
  obtain⟨e,n,b,E,rfl,G⟩:=y;subst e;exact w i n b c _ E G p
 ·have:i=a.length:=ω
  subst this;exact .inl ((O,q),z c H p)
end
def bX.B(r:bX H a u)(s:aQ H b):bX b a u:=by
 rcases r with r|⟨o,r⟩
 ·exact .inl<|s _ _ r
 ·exact .inr (o,s _ _ r)
section
set_option maxHeartbeats 3200000
section
open PySem.SetTable
def Ke{g:Type}(b:Nat->Nat):∀(c k:Nat)(a:List g)(d:Array g),a.length=c->∃l,l.Perm a/\(Qa b c k a d).toList=d.toList++l
 |0,k,a,d,h=>([],by rw[Dw h],by simp[Qa])
 |c+1,k,a,d,h=>by
  have f:b k%a.length<a.length:=Di _ ω;unfold Qa;rw[cw f];dsimp only;obtain⟨l,i,e⟩:=Ke b c (k+1) (a.eraseIdx<|b k%a.length) (d.push a[b k%a.length]) (by rw[List.length_eraseIdx,aB f];omega);refine(a[b k%a.length]::l,?_,?_)
  ·refine(List.Perm.cons _ i).trans ?_
   rw[List.eraseIdx_eq_take_drop_succ];refine(ag3 (l₁:=a.take<|b k%a.length)).symm.trans ?_;rw[<-Jm f,I_]
  ·rw[e,Jy,ut]
   rfl
def SD{c:Type}(a:Nat->Nat)(b:Array c):(pickOrder a b).toList.Perm b.toList:=by
 obtain⟨l,d,e⟩:=Ke a b.size 0 b.toList #[] (by simp);unfold pickOrder;rw[e]
 simpa using d
section
variable{prog:aU}{w:aO}{K:Type}[DecidableEq K]{knd:kc prog w K}{A:bg}{E:Ω}{s:ai}
def Sn{t:gz}{n:List (List K)}(X:fw knd s.heap S o l p t n D)(q:A.units<cH){k:List K}(u:dT knd s.heap k b){Q:Option Nat->ai->Prop}(h:∀r:Option Nat,r.isSome=aG (k∈n)->Q r s):am (aE prog w) A (B' S (.ref b)<|cD knd k) Q E s:=by
 have T:=X.d;have f:=jQ T;unfold B' setFindIn;refine ag<|lR X.a X.c f ?_;dsimp only;have v:byScan (.ref b) l=ao:=O;rw[v];simp only[dc,cM];obtain⟨C,d,x,y⟩:=zh T<|cD knd k;refine ag ?_;unfold PS;refine JW X q u d x y (λg r z=>?_) (λe=>?_) 100000 0 Z ?_ (dZ _) O (λm i c j=>aZ j<|yE _)
 ·exact aC<|h r (by rw[z O,bZ g])
 ·exact aC<|h Z (by rw[cf e];rfl)
 ·have:t.mask<=255:=by rcases X.l with ⟨a,_⟩|⟨a,_⟩|⟨a,_⟩|⟨a,_⟩|⟨a,_⟩|⟨a,_⟩<;>omega
  unfold lw at d;omega
def So{Q:Bool->ai->Prop}(h:Q (w.params.followText "set-order") s):am (aE prog w) A setsByText Q E s:=by
 unfold setsByText;exact ag<|PM<|aC h
def JT{t:gz}{e:List (List K)}(X:fw knd s.heap S o a d t e g){Q:Array (Int×aa)->ai->Prop}(h:∀r:Array (Int×aa),r.toList.Perm a.toList->Q r s):am (aE prog w) A (setWalk S) Q E s:=by
 have b:=jQ X.d;unfold setWalk;refine ag<|lR X.a X.c b ?_;dsimp only;refine ag<|So ?_;cases f:w.params.followText "set-order" with
 |true=>
  simp only[dQ];exact ag<|PM<|aC<|h _<|SD _ a
 |false=>
  have c:t.led=ae/\t.plain=ae:=X.m.resolve_left (by rw[f];simp);simp only[dc,cM];show am _ _ (ite ((!t.plain&&aG (a.size>1))=ae) _ _) _ _ _;rw[c.2];simp only[oz,sf,dc,cM];show am _ _ ((ite ((!t.led&&aG (a.size>1))=ae) _ _) >>= _) _ _ _;rw[c.1];simp only[oz,sf,dc,cM];exact ag<|aC<|aC<|h a<|wl _
def JZ{t:gz}(X:fw knd s.heap S o b a t c d){Q:Nat->ai->Prop}(h:Q a s):am (aE prog w) A (PT S) Q E s:=by
 unfold PT;exact ag<|lR X.a X.c (jQ X.d)<|aC h
def uD{t:gz}(X:fw knd s.heap S o b c t a d){Q:Nat->ai->Prop}(h:Q a.length s):am (aE prog w) A (uf S) Q E s:=by
 unfold uf Cd;refine ag<|ag<|lR X.a X.c (jQ X.d)<|aC<|aC ?_;rw[X.j];exact h
def SM(a:s.TypeIs (.ref S) "set"){Q:Bool->ai->Prop}(h:Q ae s):am (aE prog w) A (Rb<|.ref S) Q E s:=by
 unfold Rb orM;refine ag<|tL a sub_set_self ?_;exact aC h
end
end
end
section
set_option maxHeartbeats 3200000
section
open PySem.SetTable
def SA:∀n,n<60->5<=n->(n_ (n*2)<=bG)/\(n_ (n*2)-1=15\/n_ (n*2)-1=31\/n_ (n*2)-1=63\/n_ (n*2)-1=127):=δ
section
variable{prog:aU}{w:aO}{K:Type}[DecidableEq K]{knd:kc prog w K}{A:bg}{E:Ω}{s:ai}
def Sl{i:Nat}{t:gz}(X:fw knd s.heap S o b i t ([]:List (List K)) H)(k:t.mask=7){n:Nat}(l:n<60){Q:Unit->ai->Prop}(h:∀d m e f p,fw knd d S m e f p ([]:List (List K)) H->gA S s.heap d->Q () {s with heap:=d}):am (aE prog w) A (setRoomFor S n) Q E s:=by
 have T:=X.d;have g:=jQ T;have r:b.size=0:=X.j;have j:t.place.size=0:=by rw[T.a,jD];exact r
 have u:t.fill=0:=by unfold Ia;rw[T.b,j];rfl
 unfold setRoomFor;refine ag<|lR X.a X.c g ?_;dsimp only;unfold SetTable.roomFor;rw[u,j,k,rY]
 by_cases q:n*5 ≥ 7*3
 ·rw[aB q]
  dsimp only;obtain⟨v,x⟩:=SA n l ω;have c:∀a,n_ (n*2)-1=a->jR a->a%2=1->((a=7/\b.size<=4)\/(a=31/\b.size<=18)\/(a=127/\b.size<=76)\/(a=15/\b.size<=8)\/(a=63/\b.size<=37)\/(a=255/\b.size<=152))->
    am (aE prog w) A (yb S<|n*2) Q E s:=λa y C D G=>
   JX X.a X.g X.c T X.j X.n X.p X.f X.i y v C D ω ω G X.m h
  rcases x with z|z|z|z
  ·exact c 15 z Ta O ω
  ·exact c 31 z DY O ω
  ·exact c 63 z Kq O ω
  ·exact c 127 z DZ O ω
 ·rw[au q]
  exact aC<|h s.heap o b i t X<|CQ ..
end
end
end
section
set_option maxHeartbeats 3200000
section
open PySem.SetTable
section
variable{prog:aU}{w:aO}{K:Type}[DecidableEq K]{knd:kc prog w K}{A:bg}{E:Ω}{s:ai}
def Sr{id:String}{t:gz}(X:fw knd s.heap S o T ep t ([]:List (List K)) b7)(hm:t.mask=7)(f:s.heap.get? d=U G)(a7:G.cls=.type "dict")(l:G.data=.dict c a6)(a8:(d==kH)=ao)(H:d≠S)(hu:A.units<cH)(hv:∀k v n,knd.is k v=ae->qk n v=bH ae){a:List (List K)}{I:Nat->V}(hn:a.length=c.size)(hz:c.size<=59)(hB:∀i,i<c.size->I i∈b7)(a9:∀(i:Nat) e x,c[i]?=U e->a[i]?=U x->e.key=.ref (I i)/\e.hash=cD knd x)(hT:∀(j:Nat) x,a[j]?=U x->dT knd s.heap x (I j)){Q:Unit->ai->Prop}(h:∀g,(∃o T ep t,fw knd g S o T ep t (bh a) b7)->gA S s.heap g->Q () {s with heap:=g}):am (aE prog w) A (C_ id S<|.ref d) Q E s:=by
 have L:s.TypeIs (.ref d) "dict":=(G,f,a7);unfold C_ Rb orM;refine ag<|ag<|tL L F.sub_dict_set ?_;refine tL L F.sub_dict_frozenset ?_;simp only[dc,cM];refine ag<|rH L ?_;rw[aB ξ];refine ag<|nU ?_;unfold afq;refine ag<|aC ?_;rw[au (by rw[a8];exact eP)];refine ag<|tN f l ?_;refine ag<|pq f l ?_;refine ag<|Sl X hm ω λh1 o1 b0 b1 t1 X1 a0=>?_;have a1:h1.get? d=U G:=by rw[a0.2 d H];exact f
 refine ag<|pq (s:={s with heap:=h1}) a1 l ?_;refine ag ?_;rw[ais];simp only[air,IW,Rt,Nat.div_one];refine tM _
  (λm _ s'=>∃g i,s'={s with heap:=g}/\m=ag2 i (c.size-i)/\i<=c.size/\(∃o T ep t,fw knd g S o T ep t (bh<|a.take i) b7)/\gA S s.heap g)
  _ ?_ ?_ _ _ (h1,0,O,by simp,dZ _,(o1,b0,b1,t1,by simpa[bh] using X1),a0)
 ·rintro x m b s' ⟨g,i,rfl,R,hi,⟨o',b5,b6,t',X'⟩,p⟩
  have y:i<c.size:=by
   rcases oh i c.size with h|h
   ·exact h
   ·rw[Nat.sub_eq_zero_of_le h] at R;simp at R
  obtain⟨rfl,M⟩:x=i/\m=ag2 (i+1) (c.size-(i+1)):=by
   have e:c.size-i=(c.size-(i+1))+1:=ω
   rw[e,List.range'_succ] at R;injection R with h1 h2
   exact(h1,h2)
  have b2:g.get? d=U G:=by rw[p.2 d H];exact f
  refine ag<|pq (s:={s with heap:=g}) b2 l ?_;rw[yV y];have hx:a[x]?=U a[x]:=cw ω;obtain⟨q1,q2⟩:=a9 x c[x] _ (by simp[y]) hx;show am _ _ (qj [c[x].key] (Ce S c[x].key c[x].hash) >>= _) _ _ _;rw[q1,q2];have a2:=sw<|a.take x;rw[eF] at a2;refine ag<|fz<|J_ X' hu hv (qD (hT x _ hx) X.a X.c p) (hB x y) ω λr u a3 z C a4 X2 b3=>?_;have D:gA S s.heap u:=p.trans b3;have a5:u.get? d=U G:=by rw[D.2 d H];exact f
  refine ag<|tN (s:={s with heap:=u}) a5 l ?_;rw[au (by simp)];have P:a.take (x+1)=a.take x++[a[x]]:=by rw[r_,hx];rfl
  have X3:fw knd u S a3 z C a4 (bh<|a.take<|x+1) b7:=by
   rw[P,qE]
   by_cases q:a[x]∈bh (a.take x)
   ·rw[aB q] at X2 ⊢;exact X2
   ·rw[au q] at X2 ⊢;exact X2
  exact aC (u,x+1,O,M,y,(a3,z,C,a4,X3),D)
 ·rintro b s' ⟨g,i,rfl,R,hi,hX,p⟩
  have b4:i=c.size:=by
   have e:=gD aF R;simp at e;omega
  subst b4;rw[gb ω] at hX;exact aC<|h g hX p
end
end
end
section
open PySem.SetTable
section
variable{prog:aU}{w:aO}{K:Type}[DecidableEq K]{knd:kc prog w K}{A:bg}{E:Ω}{s:ai}
def Td{B:List V}{vals:List (List K)}{adr:Nat->V}{Q:Ω}(u:s.heap.get? d=U H)(L:H.cls=.type "dict")(M:H.data=.dict g I)(P:(d==kH)=ao)(hu:A.units+64<cH)(hv:∀k v n,knd.is k v=ae->qk n v=bH ae)(hz:g.size<=59)(hn:vals.length=g.size)(hB:∀i,i<g.size->adr i∈B)(S:∀(i:Nat) e x,g[i]?=U e->vals[i]?=U x->e.key=.ref (adr i)/\e.hash=cD knd x)(hT:∀(j:Nat) x,vals[j]?=U x->dT knd s.heap x (adr j))(h:∀l G,(∃o T X t,fw knd l s⁻¹ o T X t (bh vals) B)->(∀b o,b<s⁻¹->s.heap.get? b=U o->l.get? b=U o)->Q (.ref s⁻¹) {s with heap:=l,toks:=G}):am (aE prog w) A (gv (.type "set") [.ref d]) Q E s:=by
 obtain⟨c,tl,a6⟩:=iz.mro;have a0:=iz.made;have a7:=iz.sub;refine pu<|ye ?_;show am _ _ (HN (.type "set") _) _ _ _;refine aC (Iw _ δ,jj Iv ?_);rw[IC (Hs "set" [.ref d] []) O];have h1:=iz.notType;have h2:=iz.canCreate;have a8:=QG<|.ref d
 repeat(any_goals(first|assumption|wp_step))
 refine ka (DM (.ref d) (E:=E) (Q₁:=λy m=>∃a:Bool,(w.params.followText "set-order"=ae\/a=ae)/\y=.ref s⁻¹/\m={s with heap:=s.heap.push {cls:=.type "set",dict:=Z,data:=.set #[] 0<|.fresh 0 0 a}}) (_,by cases w.params.followText "set-order" <;> simp,O,O)) λr m hr=>?_;cases r with
 |error e=>exact hr
 |ok fl=>
  cases fl with
  |ret y=>
   obtain⟨a,C,rfl,rfl⟩:=hr;have hS:(s.heap.push {cls:=.type "set",dict:=Z,data:=.set #[] 0<|.fresh 0 0 a}).get? s⁻¹=U {cls:=.type "set",dict:=Z,data:=.set #[] 0<|.fresh 0 0 a}:=dv _ O;have a1:rN {s with heap:=s.heap.push {cls:=.type "set",dict:=Z,data:=.set #[] 0<|.fresh 0 0 a}} (.ref s⁻¹) "set":=(_,hS,O);have a9:=iz.init.lookup;have b0:=iz.init.bind<|.ref s⁻¹
   repeat(any_goals(first|assumption|wp_step))
   refine ka (Cx (R:=vG (λr p=>r=.none/\∃l G,p={s with heap:=l,toks:=G}/\
     (∃o T X t,fw knd l s⁻¹ o T X t (bh vals) B)/\
     (∀b o,b<s⁻¹->s.heap.get? b=U o->l.get? b=U o)) E) iz.init.plain QN<|Qs a1 ?_) λD p f=>?_
   ·have a2:d<s⁻¹:=bT u
    have X0:fw knd (s.heap.push {cls:=.type "set",dict:=Z,data:=.set #[] 0<|.fresh 0 0 a}) s⁻¹ {cls:=.type "set",dict:=Z,data:=.set #[] 0<|.fresh 0 0 a} #[] 0 (.fresh 0 0 a) ([]:List (List K)) B:=
     (hS,(O,O,O),O,(by simpa using DK 0 0 a),O,lD,λe he=>by simp at he,λk hk=>by simp at hk,.inl (O,dZ _),(λe he=>by simp at he),C.imp id λz=>(z,O))
    unfold Builtin.«set.__init__» Qc;generalize a3:C_=PI
    wp_walk
    subst a3;refine Sr (s:={s with heap:=s.heap.push {cls:=.type "set",dict:=Z,data:=.set #[] 0<|.fresh 0 0 a}}) X0 O (bJ _ u) L M P (ck a2) (by show A.units+1+1<cH;omega) hv hn hz hB S
     (λj x hx=>ze (hT j x hx) λo e=>bJ _ e) λl hX sb=>?_
    show am _ _ (ret bj) _ _ _;refine aC (O,l,s.toks,O,hX,λb o hb e=>?_);rw[sb.2 b<|ck hb];exact bJ _ e
   ·cases D with
    |error e=>exact f
    |ok q=>
     cases q with
     |ret r=>
      obtain⟨rfl,l,G,rfl,a4,a5⟩:=f
      repeat(any_goals(first|assumption|wp_step))
      exact h _ _ a4 a5
     |_=>exact f.elim
  |_=>exact hr.elim
end
end
section
open PySem.SetTable
def SV:Qn table "set.__ne__"=U Builtin.«frozenset.__ne__»:=
 entryFor_alias (id':="frozenset.__ne__") (by kernel_rfl) O δ (by kernel_rfl)
section
variable{prog:aU}{w:aO}{A:bg}{E:Ω}{s:ai}
def Kh{n m:Nat}(a:s.TypeIs (.ref b) "set")(f:s.TypeIs (.ref c) "set")(p:A.units+64<cH)(i:∀(d:bg)(Q:Nat->ai->Prop)(g:Ω),Q n s->am (aE prog w) d (uf b) Q g s)(j:∀(d:bg)(Q:Nat->ai->Prop)(g:Ω),Q m s->am (aE prog w) d (uf c) Q g s)(k:n=m->∀(l:String)(d:bg)(Q:Bool->ai->Prop)(g:Ω),d.units<cH->Q r s->am (aE prog w) d (Ra l b c) Q g s){Q:Ω}(h:Q (.bool<|!(aG (n=m)&&r)) s):am (aE prog w) A (gu .NotEq (.ref b)<|.ref c) Q E s:=by
 show am _ _ (PZ .NotEq (.ref b)<|.ref c) _ _ _;refine wpAny_richCompare_same_room (op:=.NotEq) a f aer (lT aer a SV ?_<|PySem.F.args_set_ne_2 _ _) ω;unfold Builtin.«frozenset.__ne__»
 wp_delta
 refine ag<|show am (aE prog w) A.in1 (bH (adc (Y b) (Y c))) _ _ _ from aC ?_;dsimp only;refine ag<|SM f ?_;simp only[oz,dc,cM];unfold afq;refine ag<|aC<|ag<|aC ?_;refine ag<|i _ _ _ ?_;refine ag<|j _ _ _ ?_
 by_cases e:n=m
 ·subst e
  rw[bZ O,Bool.true_and] at h;simp only[bne_self_eq_false,dc,cM];refine ag ?_;unfold andM;refine ag<|ag<|tL a PySem.F.sub_set_frozenset ?_;refine aC ?_;simp only[dc,cM];refine k O _ _ _ _ (by show A.units+1<cH;omega) ?_;exact aC (_,O,(λe=>nomatch e),h)
 ·rw[cf e,sf] at h
  have o:(n != m)=ae:=by simpa using e
  simp only[o,dQ];exact ag<|aC<|aC (_,O,(λe=>nomatch e),h)
end
end
section
open PySem.SetTable
section
variable{prog:aU}{w:aO}{K:Type}[DecidableEq K]{knd:kc prog w K}
def sx(knd:kc prog w K)(h:aI)(S:V)(c:List (List K))(f:List (List K×V)):Prop:=
 ∃o a d t,h.get? S=U o/\o.ExactSet/\o.data=.set a d t/\gQ t (a.map (·.1))/\a.size=c.length/\c.Nodup/\
  (∀e∈a.toList,∃k b,k∈c/\(adc k b)∈f/\e=(adc (cD knd k) (Y b)))/\(∀k∈c,∃b,(adc k b)∈f/\(adc (cD knd k) (Y b))∈a.toList)/\
  ((t.mask=7/\a.size<=4)\/(t.mask=31/\a.size<=18)\/(t.mask=127/\a.size<=76)\/(t.mask=15/\a.size<=8)\/(t.mask=63/\a.size<=37)\/(t.mask=255/\a.size<=152))/\
  (w.params.followText "set-order"=ae\/(t.led=ae/\t.plain=ae))
def sx.J{h a:aI}(x:sx knd h S b f)(k:∀o,h.get? S=U o->a.get? S=U o):sx knd a S b f:=
 let ⟨o,c,d,t,e,r⟩:=x;(o,c,d,t,k o e,r)
def sx.F{y:List (List K×V)}(x:∃o c i t,fw knd h S o c i t l (y.map (·.2)))(q:∀p∈y,dT knd h p.1 p.2):sx knd h S l y:=by
 obtain⟨o,c,i,t,X⟩:=x;have a:∀e∈c.toList,∀k b,e=(adc (cD knd k) (Y b))->dT knd h k b->(adc k b)∈y:=λe d k b r s=>by
  obtain⟨u,j,m⟩:=X.p e d;rw[r] at m;obtain rfl:b=u:=by simpa using m
  obtain⟨p,n,rfl⟩:=bq.mp j;obtain rfl:=s.inj<|q p n;exact n
 refine(o,c,i,t,X.a,X.g,X.c,X.d,X.j,X.n,λe d=>?_,λk v=>?_,X.l,X.m)
 ·obtain⟨k,b,f,g,w⟩:=X.f e d
  exact(k,b,f,a e d k b g w,g)
 ·obtain⟨b,f,g⟩:=X.i k v
  exact(b,a _ f k b O g,f)
def sx.ts(x:sx knd h S l C)(m:∀p∈C,dT knd h p.1 p.2):∃o d f t,fw knd h S o d f t l (C.map (·.2)):=by
 obtain⟨o,d,f,t,q,r,s,u,v,w,n,y,z,g⟩:=x;refine(o,d,f,t,q,r,s,u,v,w,λe i=>?_,λk A=>?_,z,λe i=>?_,g)
 ·obtain⟨k,b,c,a,j⟩:=n e i
  exact(k,b,c,j,m _ a)
 ·obtain⟨b,c,a⟩:=y k A
  exact(b,a,m _ c)
 ·obtain⟨k,b,c,a,j⟩:=n e i
  exact(b,bq.mpr (_,a,O),by rw[j])
end
end
def mn(P:aU)(w:aO)(D:V)(a:Ξ)(b:List (List Int×V)):cP:=.i λh=>sx (dR P w) h D a b
def qV(H:ac)(a:List (List Int×V)):Prop:=∀p∈a,cG H p.2 p.1
def qV.N(h:qV H c)(e:aQ H a):qV a c:=λp b=>e.N<|h p b
def qV.J(h:aW H c b):qV H (b.zip c):=by
 induction h with
 |nil=>intro p a;simp at a
 |cons q t d=>
  intro p a;rw[IY] at a;rcases ci.mp a with rfl|a
  ·exact q
  ·exact d p a
section
variable{X:aK}
def qV.F{s:ai}(h:qV H g)(I:aw X a b H s):∀p∈g,dT (dR X.prog X.w) s.heap p.1 p.2:=λp c=>by
 obtain⟨d,e,f,_⟩:=I.J<|fm.B (K:=X.K)<|h p c;exact LO f<|oU e
def KR(x:sx (dR P w) h D a f):db P w H h D (mn P w D a f):=
 (x,(let ⟨o,_,_,_,b,_⟩:=x;(o,b)),λb d y c=>y.J λo e=>c o e)
def Ej{s:ai}(I:aw X a c H s)(e:H D=U (mn X.prog X.w D b d)):sx (dR X.prog X.w) s.heap D b d:=
 (show db X.prog X.w H s.heap D (mn X.prog X.w D b d) from I.b D _ e).1
def Wp(C:X.b=ae)(E:X.A.units+64<cH):io X (.type "set") (λy H Q=>∃(l:V)(d:List V)(c:Ξ),y=[.c l]/\bx X.K H l (d.map af.c)/\aW H d c/\c.length<=59/\
  ∀D,H D=Z->Q (.c D) (av H D<|mn X.prog X.w D (bh c)<|c.zip d)):=by
 intro z s S H y us Q I r h;obtain⟨l,d,c,rfl,G,n,hz,q⟩:=h;obtain⟨u,rfl,K⟩:=gU r;cases K;obtain⟨L,M,P,_⟩:=I.B G;obtain rfl:=mQ M;have t:=n.B;have g:=(qV.J n).F I;have k:(c.zip d).map (·.2)=d:=by rw[Jb ω]
 refine Kr (B:=d) (knd:=dR X.prog X.w) (vals:=c) (adr:=λi=>d.getD i 0) (I.a.hd C) P.isList E EG (by rw[cz,aA];omega) (by rw[cz,aA];omega) (λi w=>by rw[cz,aA] at w;rw[l_,cw w];exact lE w)
  (λi v e=>?_) (λj x e=>?_) λh' tk T A=>?_
 ·have m:(d.map Y)[i]?=U v:=by simpa using e
  rw[cm] at m;cases f:d[i]? with
  |none=>rw[f] at m;simp at m
  |some a=>
   rw[f] at m;rw[<-ca m,l_,f]
   rfl
 ·have R:j<d.length:=by rw[t];exact(cE.mp e).1
  have f:d[j]?=U d[j]:=cw R;rw[l_,f];refine g (adc x (d[j]))<|dy (i:=j) ?_;rw[wc];exact(e,f)
 ·refine(.c s⁻¹,_,I.F (o:=mn X.prog X.w s⁻¹ (bh c)<|c.zip d) (λb u e=>A b u (bT e) e) (bc _)<|KR<|sx.F (by rw[k];exact T) λp n=>?_,O,q _<|I.b.B<|bc _)
  exact ze (g p n) λo e=>A _ o (bT e) e
end
def VM(a:List Int):cD (fH P w) (a.map bd)=cD (dR P w) a:=by
 unfold cD;rw[bY]
 rfl
section
variable{X:aK}
def MB(hu:X.A.units+64<cH):io X (.type "set") (λP H Q=>∃(a:V)(f:List (List aN×af))(c:Ξ),P=[.c a]/\bX H a (.c f)/\f.map (·.1)=c.map (·.map bd)/\c.length<=59/\
  ∀a0,qV H a0->∀D,H D=Z->Q (.c D) (av H D<|mn X.prog X.w D (bh c) a0)):=by
 intro R s σ H P us Q I r h;obtain⟨a,f,c,rfl,k,n,hz,q⟩:=h;obtain⟨u,rfl,ru⟩:=gU r;cases ru;obtain⟨z,y,d,g,o,S,ep,h1,h2,h3,h4,h5⟩:=(show db X.prog X.w H s.heap a (.c f) from k.F I.b);have C:f.length=d.length:=hZ g;have E:f.length=c.length:=by simpa using gD aF n
 have hl:S.size=d.length:=by
  have:=gD aF h4;rw[aA] at this
  simpa using this
 have G:aW H (d.map (·.2.1)) c:=by
  have:∀{l:List (List aN×af)}{m:List (List aN×V×aa)}{c:Ξ},js H l m->l.map (·.1)=c.map (·.map bd)->aW H (m.map (·.2.1)) c:=by
   intro l m c q
   induction q generalizing c with
   |nil=>intro e;cases c with
    |nil=>exact .nil
    |cons p ps=>simp at e
   |cons k t K=>intro e;cases c with
    |nil=>simp at e
    |cons p ps=>
     simp only[df,ahm] at e;refine .cons ?_<|K e.2;have:=k.2.1;rw[e.1,bY] at this;exact this
  exact this g n
 have yk:d.map (·.1)=c.map (·.map bd):=by
  rw[<-n];have:∀{l:List (List aN×af)}{m:List (List aN×V×aa)},js H l m->m.map (·.1)=l.map (·.1):=by
   intro l m q
   induction q with
   |nil=>rfl
   |cons k t K=>rw[df,df,K,k.1]
  exact this g
 have v:=qV.J G;have w:=v.F I;have A:(c.zip (d.map (·.2.1))).map (·.2)=d.map (·.2.1):=by rw[Jb (by rw[aA];omega)]
 refine Td (B:=d.map (·.2.1)) (knd:=dR X.prog X.w) (vals:=c) (adr:=λi=>(d.map (·.2.1)).getD i 0) h1 h2.1 h3 y hu EG ω ω (λi hi=>by rw[l_,cw (by rw[aA];omega)];exact lE _)
  (λi e x e1 e2=>?_) (λj x e=>?_) λh' tk T kk=>?_
 ·have hi:i<d.length:=by rw[<-hl];exact(qB.mp e1).1
  have L:S.toList[i]?=U e:=by simpa using e1
  have M:d[i]?=U d[i]:=cw hi;rw[h4,cm,M] at L;simp only[nz,pF] at L;have g5:=gD (·[i]?) yk;simp only[cm,M,e2,nz,pF] at g5;rw[<-L,l_,cm,M];refine(O,?_);show cD (fH X.prog X.w) d[i].1=_;rw[g5,VM]
 ·have hj:j<(d.map (·.2.1)).length:=by rw[aA,<-C,E];exact(cE.mp e).1
  have ea:(d.map (·.2.1))[j]?=U (d.map (·.2.1))[j]:=cw hj;rw[l_,ea];refine w (adc x ((d.map (·.2.1))[j]))<|dy (i:=j) ?_;rw[wc];exact(e,ea)
 ·refine(.c s⁻¹,_,I.F (o:=mn X.prog X.w s⁻¹ (bh c) (c.zip (d.map (·.2.1)))) (λb u e=>kk b u (bT e) e) (bc _)<|KR<|sx.F (by rw[A];exact T) λp n=>?_,O,q _ v _<|I.b.B<|bc _)
  exact ze (w p n) λo e=>kk _ o (bT e) e
end
def SR(a:List Int):∀i,i<=a.length->rX (λi=>a.getD i 0) i=bh (a.take i):=by
 intro i
 induction i with
 |zero=>intro _;simp[rX,bh]
 |succ i c=>
  intro f;have b:a[i]?=U a[i]:=cw ω;have d:a.take (i+1)=a.take i++[a[i]]:=by rw[r_,b];rfl
  rw[af7,c ω,d,qE];have e:a.getD i 0=a[i]:=by rw[l_,b];rfl
  rw[e];unfold af2
  by_cases q:a[i]∈bh (a.take i)
  ·rw[aB q];simp[q]
  ·rw[au q];simp[q]
def DX{b:Type}[DecidableEq b](l:List b)(x:b):x∈bh l↔x∈l:=by
 suffices ∀(n:Nat),x∈bh (l.take n)↔x∈l.take n by simpa using this l.length
 intro n
 induction n with
 |zero=>simp[bh]
 |succ n a=>
  rw[r_];cases e:l[n]? with
  |none=>simpa[e] using a
  |some y=>
   show x∈bh (l.take n++[y])↔x∈l.take n++[y];rw[qE]
   by_cases q:y∈bh (l.take n)
   ·rw[aB q,gB,fu,a]
    exact(.inl,λz=>z.elim id λz=>by
     subst z;exact a.mp q)
   ·rw[au q,gB,gB,a]
def Kp{d:Type}[DecidableEq d](l:List d):(bh l).Nodup:=by
 suffices ∀(n:Nat),(bh<|l.take n).Nodup by simpa using this l.length
 intro n
 induction n with
 |zero=>simp[bh]
 |succ n c=>
  rw[r_];cases e:l[n]? with
  |none=>simpa[e] using c
  |some y=>
   show(bh<|l.take n++[y]).Nodup;rw[qE]
   by_cases q:y∈bh (l.take n)
   ·rw[aB q];exact c
   ·rw[au q,mI]
    refine(c,by simp,λa f b g=>?_);rw[fu.mp g];exact λz=>q<|z▸f
section
open PySem.SetTable
section
variable{prog:aU}{w:aO}{A:bg}{E:Ω}{s:ai}
def JU{k q:V}(t:∀(d:bg)(Q:Array (Int×aa)->ai->Prop)(f:Ω),Q es1 s->am (aE prog w) d (Cd k) Q f s)(u:∀(d:bg)(Q:Array (Int×aa)->ai->Prop)(f:Ω),Q es2 s->am (aE prog w) d (Cd q) Q f s)(v:∀e∈es1.toList++es2.toList,∃b,(b=ao->∃a,e.2=.ref a)/\∀(d:bg)(Q:Bool->ai->Prop)(f:Ω),Q b s->am (aE prog w) d (IA e.2) Q f s)(hw:∀(d:bg)(Q:Array (Int×aa)->ai->Prop)(f:Ω),(∀r:Array (Int×aa),r.toList.Perm es1.toList->Q r s)->(∃e∈es1.toList++es2.toList,∃a,e.2=.ref a)->am (aE prog w) d (setWalk k) Q f s){Q:List (Int×aa)->ai->Prop}(h:∀l:List (Int×aa),l.Perm es1.toList->Q l s):am (aE prog w) A (Q_ k q) Q E s:=by
 unfold Q_;refine ag<|t _ _ _ ?_;refine ag<|u _ _ _ ?_;refine ag<|ic (tM _ (λc b g=>b=(adc Z (()))/\g=s/\∀e∈c,e∈es1.toList++es2.toList) (λb g=>g=s/\(b=(adc Z (()))\/∃l,b=(adc (U l) (()))/\l.Perm es1.toList)) ?_ ?_ _ _ (O,O,λe m=>m)) ?_ λ_ _ e=>e
 ·rintro⟨y,x⟩ c b g ⟨rfl,rfl,n⟩
  obtain⟨b,z,j⟩:=v (adc y x)<|n _ dC;dsimp only;cases b with
  |true=>
   refine ag<|j _ _ _ ?_;simp only[oz,dc,cM];exact aC (O,O,λe m=>n e<|d_ _ m)
  |false=>
   have i:∃a,x=.ref a:=z O;refine ag<|j _ _ _ ?_;simp only[Jv,dQ];unfold aj2;refine ag<|ag<|hw _ _ _ (λr p=>?_) (_,n _ dC,i);exact aC<|aC (O,.inr (_,O,p))
 ·rintro b g ⟨rfl,rfl,_⟩
  exact(O,.inl O)
 ·rintro⟨o,⟨⟩⟩ g ⟨rfl,j⟩
  rcases j with e|⟨l,e,C⟩
  ·cases e
   exact aC<|h _<|wl _
  ·cases e
   exact aC<|h _ C
def Ka{es1:Array (Int×aa)}{n m G:Nat}{g:Int×aa->Bool}(P:n=m)(H:∀(i:bg)(Q:Nat->ai->Prop)(d:Ω),Q n s->am (aE prog w) i (uf u) Q d s)(I:∀(i:bg)(Q:Nat->ai->Prop)(d:Ω),Q m s->am (aE prog w) i (uf v) Q d s)(k:∀(i:bg)(Q:Nat->ai->Prop)(d:Ω),Q G s->am (aE prog w) i (PT u) Q d s)(hw:∀(i:bg)(Q:List (Int×aa)->ai->Prop)(d:Ω),(∀l:List (Int×aa),l.Perm es1.toList->Q l s)->am (aE prog w) i (Q_ u v) Q d s)(K:∀e∈es1.toList,∀(Q:Option Nat->ai->Prop)(d:Ω),(∀r:Option Nat,r.isSome=g e->Q r s)->am (aE prog w) A (B' v e.2 e.1) Q d s){Q:Bool->ai->Prop}(h:Q (es1.toList.all g) s):am (aE prog w) A (Ra D u v) Q E s:=by
 unfold Ra;refine ag<|H _ _ _ ?_;refine ag<|I _ _ _ ?_;rw[au ω];refine ag<|k _ _ _ ?_;refine ag<|hw _ _ _ λl y=>?_;have q:l.all g=es1.toList.all g:=by
  rw[qA,kN,kN];exact(λa x z=>a x<|y.mem_iff.mpr z,λa x z=>a x<|y.mem_iff.mp z)
 rw[<-q] at h;refine ag<|ic (tM _ (λc b p=>b=(adc Z (()))/\p=s/\(∀e∈c,e∈es1.toList)/\l.all g=c.all g) (λb p=>p=s/\((b=(adc Z (()))/\l.all g=ae)\/(b=(adc (U ao) (()))/\l.all g=ao))) ?_ ?_ _ _ (O,O,λe k=>y.mem_iff.mp k,O)) ?_ λ_ _ e=>e
 ·rintro⟨L,x⟩ c b p ⟨rfl,rfl,C,f⟩
  dsimp only;refine ag<|fz<|K (adc L x) (C _ dC) _ _ λr t=>?_;cases r with
  |none=>
   simp only[agh,dQ];refine aC (O,.inr (O,?_));rw[f,wj,<-t];rfl
  |some j=>
   simp only[agg,dc,cM];unfold aj3;refine ag<|ag<|k _ _ _ ?_;simp only[bne_self_eq_false,dc,cM];refine aC<|aC (O,O,λe k=>C e<|d_ _ k,?_);rw[f,wj,<-t];rfl
 ·rintro b p ⟨rfl,rfl,_,f⟩
  exact(O,.inl (O,f))
 ·rintro⟨o,⟨⟩⟩ p ⟨rfl,M⟩
  rcases M with ⟨e,f⟩|⟨e,f⟩
  ·cases e
   rw[f] at h;exact aC h
  ·cases e
   rw[f] at h;exact aC h
def wz{t:gz}(c:s.heap.get? S=U o)(d:o.data=.set a b t)(e:t.fits a.size=ae){Q:Array (Int×aa)->ai->Prop}(h:Q a s):am (aE prog w) A (Cd S) Q E s:=by
 unfold Cd;exact ag<|lR c d e<|aC h
def JV{t:gz}(c:s.heap.get? S=U o)(d:o.data=.set a b t)(e:t.fits a.size=ae){Q:Nat->ai->Prop}(h:Q a.size s):am (aE prog w) A (uf S) Q E s:=by
 unfold uf;exact ag<|wz c d e<|aC h
variable{K:Type}[DecidableEq K]{knd:kc prog w K}
def SH{B1 B2:List V}(j:fw knd s.heap S1 o1 f M t1 d B1)(p:fw knd s.heap S2 o2 v P t2 c B2)(hu:A.units+64<cH){Q:Ω}(h:Q (.bool<|!(aG (d.length=c.length)&&aG (∀k∈d,k∈c))) s):am (aE prog w) A (gu .NotEq (.ref S1)<|.ref S2) Q E s:=by
 have f1:=jQ j.d;have f2:=jQ p.d;refine Kh (n:=d.length) (m:=c.length) (r:=aG<|∀k∈d,k∈c) (o1,j.a,j.g.1) (o2,p.a,p.g.1) hu (λA' Q' E' C=>uD j C) (λA' Q' E' C=>uD p C) (λhn id A' Q' E' R C=>?_) h;have D:∀e∈f.toList,∃k b,k∈d/\e=(adc (cD knd k) (Y b))/\dT knd s.heap k b:=j.f
 classical
 let S:Int×aa->Bool:=λe=>if ∃k b,k∈d/\k∈c/\e=(adc (cD knd k) (Y b))/\dT knd s.heap k b then ae else ao
 have u:∀{k q:List K}{b:V},dT knd s.heap k b->dT knd s.heap q b->k=q:=λa b=>aem a b;refine Ka (es1:=f) (g:=S) hn (λX H I t=>uD j t) (λX H I t=>uD p t) (λX H I t=>JZ j t)
  (λX H I t=>JU (es1:=f) (es2:=v) (λ_ _ _ l=>wz j.a j.c f1 l) (λ_ _ _ l=>wz p.a p.c f2 l) (λe G=>?_) (λ_ _ _ l _=>JT j l) t) (λe G H I t=>?_) ?_
 ·have:∃k b,e=(adc (cD knd k) (Y b))/\dT knd s.heap k b:=by
   rcases gB.mp G with z|z
   ·obtain⟨k,b,_,a1,a2⟩:=j.f e z;exact(k,b,a1,a2)
   ·obtain⟨k,b,_,a1,a2⟩:=p.f e z;exact(k,b,a1,a2)
  obtain⟨k,b,rfl,o,a0,n,ho,hc,_⟩:=this;refine(ao,λ_=>(b,O),λA3 Q3 E3 l=>?_);unfold IA;dsimp only;refine ag<|xX (T:="tuple") (o,ho,hc) QH.lookup ?_;exact aC l
 ·obtain⟨k,b,y,rfl,i⟩:=D e G
  refine Sn p R i λr hr=>t r ?_;rw[hr];show aG (k∈c)=S _
  by_cases z:k∈c
  ·rw[bZ z]
   exact(aB (k,b,y,z,O,i)).symm
  ·rw[cf z]
   refine(au ?_).symm;rintro⟨q,L,_,x,e2,l⟩;obtain⟨_,e3⟩:=agd e2;cases e3;rw[u i l] at z;exact z x
 ·have e:f.toList.all S=aG (∀k∈d,k∈c):=by
   rw[qA,kN,ii];constructor
   ·intro a k y
    obtain⟨b,hb,i⟩:=j.i k y;have:=a _ hb
    by_cases z:∃q L,q∈d/\q∈c/\(adc (cD knd k) (Y b))=(adc (cD knd q) (Y L))/\dT knd s.heap q L
    ·obtain⟨q,L,_,x,e2,l⟩:=z
     obtain⟨_,e3⟩:=agd e2;cases e3;rw[u i l];exact x
    ·exact aZ ((au z).symm.trans this) (by simp)
   ·intro a e G
    obtain⟨k,b,y,rfl,i⟩:=D e G;exact aB (k,b,y,a k y,O,i)
  rw[e];exact C
end
end
section
open PySem
def D'(h:aI)(a t:V)(i:Int):Prop:=∃o,h.get? a=U o/\o.cls=.type "reversed"/\o.data=.fields #[.ref t,dY i]
section
variable{prog:aU}{w:aO}{A:bg}{E:Ω}{s:ai}
def D'.typeIs{a t:V}{i:Int}(x:D' s.heap a t i):s.TypeIs (.ref a) "reversed":=let ⟨o,b,c,_⟩:=x;(o,b,c)
def D'.B{h b:aI}{i:Int}(x:D' h a l i)(e:∀o,h.get? a=U o->b.get? a=U o):D' b a l i:=let ⟨o,c,r⟩:=x;(o,e _ c,r)
end
end
def VC{o:Int}{n:Nat}(h:CO (λi v=>∃t,v=.int (o+(i:Nat)*1) t) c n):bW (((dk n).map λk=>o+(k:Nat)).map af.d) c.toList:=by
 have:∀(g:List aa)(d:List Int),g.length=d.length->(∀(i:Nat) a n,g[i]?=U a->d[i]?=U n->∃t,a=.int n t)->bW (d.map af.d) g:=by
  intro g
  induction g with
  |nil=>intro d h _;cases d with
   |nil=>exact .nil
   |cons _ _=>simp at h
  |cons a g p=>
   intro d h f;cases d with
   |nil=>simp at h
   |cons n d=>
    obtain⟨t,e⟩:=f 0 a n O O;exact .cons (t,e)<|p d (by simpa using h) λi b m j l=>f (i+1) b m (by simpa using j) (by simpa using l)
 refine this c.toList _ (by simp[h.1]) λi a n j l=>?_;obtain⟨t,e⟩:=h.2 i a (by simpa using j);have q:i<c.size:=by
  have:=(cE.mp j).1
  simpa using this
 rw[cm,yN (by rw[<-h.1];exact q)] at l;refine(t,?_);rw[e,<-ca l];simp
section
variable{X:aK}{pins:Ψ}{σ:aM}{H:ac}{s:ai}
def Ly:fy X (gu .IsNot) (λx y H Q=>∃a b:Bool,x=.e a/\y=.e b/\Q (.e<|a != b) H):=by
 intro pins s σ H x y v u Q I c d h;obtain⟨a,b,rfl,rfl,q⟩:=h;cases c;cases d;exact isnot_bool<|fF I q O
end
section
open PySem.SetTable
def Km:aa->Int
 |.int n _=>n
 |_=>0
def lK(b:aU)(w:aO)(h:aI)(S:V)(c:List Int):Prop:=
 ∃o a d t,h.get? S=U o/\o.ExactSet/\o.data=.set a d t/\gQ t (a.map (·.1))/\ElemsOf (dR b w) a.toList/\(a.toList.map λe=>Km e.2).Perm c/\c.Nodup/\
  ((t.mask=7/\a.size<=4)\/(t.mask=31/\a.size<=18)\/(t.mask=127/\a.size<=60))/\(w.params.followText "set-order"=ae\/(t.led=ae/\t.plain=ae))
def lK.B{h b:aI}(x:lK a w h S c)(k:∀o,h.get? S=U o->b.get? S=U o):lK a w b S c:=
 let ⟨o,d,e,t,f,r⟩:=x;(o,d,e,t,k o f,r)
def SE{l:List Nat}{n:Nat}(c:l.Nodup)(g:l.length=n)(d:∀q∈l,q<n):l.Perm (dk n):=by
 refine(Ja c Dp).mpr λq=>(λh=>h_.mpr<|d q h,λh=>?_);apply oy;intro z;have a:(q::l).Nodup:=iB.mpr (z,c);have b:(q::l) ⊆ dk n:=λx f=>by
  rcases ci.mp f with e|e
  ·rw[e];exact h
  ·exact h_.mpr<|d x e
 have:=a.length_le_of_subset b;rw[dP,lZ] at this;omega
def SQ{t:gz}(T:gQ t f)(h:Int):∃a,¬jE t (bU t.mask h a)/\(∀m,m<a->jE t (bU t.mask h m))/\t.freeSlot h=U (adc (bU t.mask h a) ao):=by
 obtain⟨a,b,c,d⟩:=zh T h;refine(a,c,d,?_);unfold SetTable.freeSlot;have g:t.probeStart h=cF t.mask h 0:=O;rw[g];rcases DN T (hashAt:=λ_=>h+1) b c d (dZ _) with ⟨e,_⟩|⟨j,i,_,_,_,e,_⟩
 ·rw[e];rfl
 ·omega
def SB{t:gz}{es:Array (Int×aa)}{want m2:Nat}(hw:n_ want-1=m2)(n:jR m2)(o:m2%2=1)(r:es.size<=m2):∃b c,Ch t es want=(adc b (adc c ao))/\c.mask=m2/\c.led=t.led/\c.plain=t.plain/\gQ c (b.map (·.1)):=by
 obtain⟨f,a,s,u,v,w,h,x,g,y⟩:=Kl n o t.finger (t.movedTo m2) t.led t.plain (es.map (·.1)) (by rw[jD];exact r);have z:t.relaid (es.map (·.1)) want=U (adc f a):=by
  unfold aeb;rw[hw];exact s
 rw[jD] at h g;obtain⟨d,A,C,H,D⟩:=DW (es:=es) g;have k:a.filterMap (es[·]?)=d.toArray:=by
  apply ah8.mp;rw[ah9,A]
 have I:d.length=es.size:=by rw[C,i_,h]
 have j:(d.toArray.map (·.1))=a.map λq=>((es.map (·.1))[q]?).getD 0:=by
  apply RO;intro i;rw[sg,sg,Jf];cases q:a[i]? with
  |none=>
   have:a.toList.length<=i:=by rw[i_];exact aif.mp q
   rw[nC ω]
   rfl
  |some p=>
   have e:=D i p (by rw[km];exact q);have l:=g p (by rw[<-km] at q;exact dy q);rw[e,kP es p l];simp[l]
 have m:gQ f (d.toArray.map (·.1)):=by rw[j];exact y
 refine(d.toArray,f,?_,u,v,w,m);unfold Ch;rw[z];dsimp only;have E:coversAll a es.size=ae:=by
  unfold coversAll;rw[List.isPerm_iff];exact SE x (by rw[i_];exact h) g
 have G:f.fits (a.filterMap (es[·]?)).size=ae:=by rw[k];exact jQ m
 rw[E,G,k]
 rfl
section
variable{prog:aU}{w:aO}{A:bg}{E:Ω}{s:ai}
def Ko{e:Int×aa}(h:ElemsOf (dR prog w) l)(a:e∈l):∃n t,e=(adc ((dR prog w).hash n) (.int n t)):=by
 obtain⟨⟨k,b,c⟩,_⟩:=h e a;obtain⟨t,d⟩:=HX b;exact(k,t,Prod.ext c d)
def Sx(X:lK prog w s.heap S v)(hn:v.length<60){n:Int}{k:ga}{Q:Bool->ai->Prop}(h:∀(r:Bool) h',lK prog w h' S (if n∈v then v else v++[n])->gA S s.heap h'->Q r {s with heap:=h'}):am (aE prog w) A (Ce S (.int n k)<|(dR prog w).hash n) Q E s:=by
 obtain⟨o,g,ep,t,ho,a0,hd,T,C,hp,nd,mk,wk⟩:=id X;have hf:=jQ T;have G:(dR prog w).is n (.int n k)=ae:=Qj _ _ _ _;have b2:g.size=v.length:=by have:=hp.length_eq;simpa using this
 have hb:g.size<Hy:=by unfold Hy;omega
 unfold Ce PU;refine fz<|ag<|lR ho hd hf ?_;dsimp only;rw[byScan_of (knd:=dR prog w) O hb C];simp only[↓reduceIte];unfold setAddByScan;refine ag ?_;refine ag<|nU ?_;refine ag<|wpAny_setScan_of G ho hd hf C ?_;cases hr:List.findIdx? (λe=>(dR prog w).is n e.2) g.toList with
 |some j=>
  dsimp only;obtain⟨hj,a7,_⟩:=List.findIdx?_eq_some_iff_getElem.mp hr;have a8:n∈v:=by
   refine hp.mem_iff.mp<|bq.mpr (g.toList[j],lE hj,?_);obtain⟨t',e⟩:=HX a7;rw[e];rfl
  refine aC<|aC ?_;have e:s={s with heap:=s.heap}:=by cases s;rfl
  have:=h ao s.heap (by rw[aB a8];exact X)<|CQ _ _;exact this
 |none=>
  dsimp only;have l:n∉v:=λz=>by
   obtain⟨e,he,e2⟩:=bq.mp<|hp.mem_iff.mpr z;obtain⟨m,t',e3⟩:=Ko C he;have:=List.findIdx?_eq_none_iff.mp hr e he;subst e3;obtain rfl:m=n:=e2;rw[Qj] at this;exact Bool.noConfusion this
  obtain⟨ne,he,hm,ef⟩:=SQ T<|(dR prog w).hash n;have P:(g.map (·.1)).size+1<=t.mask:=by
   rw[jD];rcases mk with ⟨a,b⟩|⟨a,b⟩|⟨a,b⟩<;>omega
  obtain⟨p1,p2,p3⟩:=Kc T he hm P;rw[jD] at p1;obtain⟨d,p,i⟩:∃d p,t.put (bU t.mask ((dR prog w).hash n) ne)=(adc d p):=(_,_,O);have a9:d.led=t.led:=by
   have e1:d=(t.put<|bU t.mask ((dR prog w).hash n) ne).1:=by rw[i]
   rw[e1];rfl
  have b0:d.plain=t.plain:=by
   have e1:d=(t.put<|bU t.mask ((dR prog w).hash n) ne).1:=by rw[i]
   rw[e1];rfl
  rw[i] at p1 p2 p3;dsimp only at p1 p2 p3;have H:(eY g p (adc ((dR prog w).hash n) (aJ n k))).size=g.size+1:=wA _ _ _ p1;have a1:(eY g p (adc ((dR prog w).hash n) (aJ n k))).map (·.1)=eY (g.map (·.1)) p ((dR prog w).hash n):=Kn (·.1) g p _ p1;have T1:gQ d ((eY g p (adc ((dR prog w).hash n) (aJ n k))).map (·.1)):=by rw[a1];exact p3
  have f1:=jQ T1;have eL:layNew t g ((dR prog w).hash n) (.int n k)=(adc (eY g p (adc ((dR prog w).hash n) (aJ n k))) (adc d (adc ao ao))):=by
   unfold layNew;rw[ef];dsimp only;rw[i];dsimp only;unfold SetTable.orStandIn;rw[f1]
   rfl
  have f:=layNew_perm t g ((dR prog w).hash n)<|.int n k;rw[eL] at f;rw[eL];dsimp only at f ⊢;rw[Jy] at f;have I:ElemsOf (dR prog w) (eY g p (adc ((dR prog w).hash n) (aJ n k))).toList:=(C.push G O).perm f;have a2:((eY g p (adc ((dR prog w).hash n) (aJ n k))).toList.map λe=>Km e.2).Perm (v++[n]):=by
   refine(f.map _).trans ?_;rw[cv];exact hp.append_right _
  have a3:(v++[n]).Nodup:=by
   rw[mI];refine(nd,by simp,λx hx y hy=>?_);rw[fu.mp hy];exact λz=>l<|z▸hx
  have a4:w.params.followText "set-order"=ae\/(d.led=ae/\d.plain=ae):=by rw[a9,b0];exact wk
  have a5:(eY g p (adc ((dR prog w).hash n) (aJ n k))).size<Hy:=by rw[H];unfold Hy;omega
  generalize eY g p (adc ((dR prog w).hash n) (aJ n k))=c at *;refine ag<|aC ?_;have K:am (aE prog w) A (PR S c d >>= λ_=>if(!ao&&d.tooFull)=ae then(do
      (match (Ch d c<|pB c.size).2.2 with|true=>rule "set.scan.the-table-gave-way" |false=>bH ())
      PR S (Ch d c<|pB c.size).1 (Ch d c<|pB c.size).2.1
      bH (U ae))
     else bH (U ae)) (λa s'=>am (aE prog w) A (match a with|some R=>bH R|none=>PU S (.int n k) ((dR prog w).hash n) 99999) Q E s') E s:=by
   refine ag<|Hn ho hd ?_<|adn a5;have hg:=zd (es':=c) (t':=d) ho hd;have L:=jl s.heap S<|Ii c d;have fl:d.fill=g.size+1:=by
    unfold Ia;rw[T1.b,T1.a,jD,H]
    rfl
   have tf:d.tooFull=aG ((g.size+1)*5 ≥ t.mask*3):=by unfold aea;rw[fl,p2]
   by_cases q:(g.size+1)*5 ≥ t.mask*3
   ·rw[tf,bZ q]
    simp only[Jv,Jx,dQ];obtain⟨D,g1,g2,g3,g4,g5⟩:∃D,n_ (pB c.size)-1=D/\jR D/\D%2=1/\c.size<=D/\((D=31/\c.size<=18)\/(D=127/\c.size<=60)):=by
     rcases mk with ⟨a,b⟩|⟨a,b⟩|⟨a,b⟩
     ·exact(31,by rw[show c.size=5 from ω];decide +kernel,DY,O,ω,.inl (O,ω))
     ·exact(127,by rw[show c.size=19 from ω];decide +kernel,DZ,O,ω,.inr (O,ω))
     ·omega
    obtain⟨a6,t3,r1,r2,r3,r4,r5⟩:=SB (t:=d) (es:=c) (want:=pB c.size) (m2:=D) g1 g2 g3 g4;have u:=relayAll_perm d c<|pB c.size;rw[r1] at u ⊢;dsimp only at u ⊢;have M:a6.size=c.size:=by rw[<-i_,u.length_eq,i_]
    refine ag<|aC ?_;refine ag<|Hn hg O ?_<|adn (by rw[M];exact a5);refine aC<|aC<|h ae _ ?_<|L.trans<|jl _ S _;rw[au l];exact(_,a6,ep+1+1,t3,zd hg O,a0,O,r5,I.perm u,(u.map _).trans a2,a3,.inr (by rw[r2,M];exact g5),by rw[r3,r4];exact a4)
   ·rw[tf,cf q]
    simp only[pJ,dc,cM];have b1:(d.mask=7/\c.size<=4)\/(d.mask=31/\c.size<=18)\/(d.mask=127/\c.size<=60):=by
     rcases mk with ⟨a,b⟩|⟨a,b⟩|⟨a,b⟩
     ·left;omega
     ·right;left;omega
     ·right;right;omega
    refine aC<|aC<|h ae _ ?_ L;rw[au l];exact(_,c,ep+1,d,hg,a0,O,T1,I,a2,a3,b1,a4)
  cases b3:d.plain with
  |true=>
   simp only[dQ];refine ag ?_;rw[hashByValue_scannable 8 O];refine aC ?_;simp only[plainKind,dQ];exact K
  |false=>
   simp only[dc,cM];refine ag<|aC ?_;simp only[dQ];exact K
end
end
section
open PySem.SetTable
section
variable{prog:aU}{w:aO}{A:bg}{R:tW->ai->Prop}{I:V}{fp wr:List V}{G:Array vR->Array vR->Prop}{n:Nat}{P:Nat->aa->Prop}{St:Nat->ai->Prop}
def Sw(a1:WalksS prog w A.in1 I fp wr G n P St)(S:V)(m:S∉fp)(a:Nat->Int)(p:∀i v,P i v->∃t,v=.int (a i) t)(l:n<=60):∀(k i:Nat)(s:ai),n-i=k->i<=n->St i s->lK prog w s.heap S (rX a i)->
   (∀c,Moved (S::wr) G s c->lK prog w c.heap S (rX a n)->R (.ok<|.ret .none) c)->
   iK (aE prog w) A (.builtin "set.update.loop" ([.ref S,.ref I],[])) R s:=by
 have u:S∉wr:=λh=>m<|a1.sub _ h;have f:∀b∈wr,b∈S::wr:=λb l=>d_ _ l;intro k
 induction k with
 |zero=>
  intro i s hk hi g L M;have Q:i=n:=ω
  subst Q;refine jj IU ?_;rw[kK yA _];show am _ A.in1 (jh (.ref I) >>= _) _ _ s;refine ag<|a1.done s _ _ g λc y=>?_;show am _ A.in1 (ret bj) _ _ c;exact aC<|M c (y.mono f)<|L.B λo e=>y.heap S o u e
 |succ k ih=>
  intro i s hk hi g L M;have C:i<n:=ω
  refine jj IU ?_;rw[kK yA _];show am _ A.in1 (jh (.ref I) >>= _) _ _ s;refine ag<|a1.item i s _ _ C g λv c hP D y=>?_;obtain⟨t,rfl⟩:=p i v hP;have T:lK prog w c.heap S (rX a i):=L.B λo e=>y.heap S o u e;show am _ A.in1 (qj [aJ (a i) t] (Cf S<|.int (a i) t) >>= _) _ _ c;refine ag<|fz ?_;unfold Cf;refine fz ?_;refine ag<|(dR prog w).pyHash (k:=a i) (Qj _ _ _ _) ?_;have j:(rX a i).length<60:=by have:=firstMet_length_le a i;omega
  refine Sx (s:={c with toks:=c.toks+1}) T j λr h' d E=>?_;have X:lK prog w h' S (rX a<|i+1):=by
   rw[af7];unfold af2
   by_cases q:a i∈rX a i
   ·rw[aB q] at d;rw[aB<|uu.mpr (_,q,by simp)];exact d
   ·rw[au q] at d;rw[au λz=>by obtain⟨x,hx,e⟩:=uu.mp z;exact q<|yU e▸hx];exact d
  refine aC (lp yA _,ih (i+1) _ ω C (a1.frame _ c _ _ D (lY _) λb l o e=>?_) X λa0 H K=>?_)
  ·rw[E.2 b (λh:b=S=>m (by rw[<-h];exact l))];exact e
  ·refine M a0 (aek a1.gtrans ((y.mono f).then_heap (lY _) λb o l e=>?_) H) K
   rw[E.2 b (λh:b=S=>l (by rw[h];exact dC))];exact e
end
section
variable{prog:aU}{w:aO}{A:bg}{E:Ω}{s:ai}
def Tc{Q:Ω}(hh:A.handled=Z)(hl:s.heap.IsList l a)(hi:fU a.toList ns)(P:a.size<=60)(h:∀(g:aI)(S:Nat),lK prog w g s⁻¹ (bh ns)->
   (∀b o,b<s⁻¹->s.heap.get? b=U o->g.get? b=U o)->Q (.ref s⁻¹) {s with heap:=g,toks:=S}):
  am (aE prog w) A (gv (.type "set") [.ref l]) Q E s:=by
 obtain⟨c,tl,b2⟩:=iz.mro;have X:=iz.made;have b3:=iz.sub;have a0:rX (λi=>ns.getD i 0) a.size=bh ns:=by
  have hn:a.size=ns.length:=by rw[<-i_];exact hi.length
  rw[hn,SR ns _<|bc _,agx]
 refine pu<|ye ?_;show am _ _ (HN (.type "set") _) _ _ _;refine aC (Iw _ δ,jj Iv ?_);rw[IC (Hs "set" [.ref l] []) O];have h1:=iz.notType;have h2:=iz.canCreate;have b7:=QG<|.ref l
 repeat(any_goals(first|assumption|wp_step))
 refine ka (DM (.ref l) (E:=E) (Q₁:=λx m=>∃d:Bool,(w.params.followText "set-order"=ae\/d=ae)/\x=.ref s⁻¹/\m={s with heap:=s.heap.push {cls:=.type "set",dict:=Z,data:=.set #[] 0<|.fresh 0 0 d}}) (_,by cases w.params.followText "set-order" <;> simp,O,O)) λr m hr=>?_;cases r with
 |error e=>exact hr
 |ok fl=>
  cases fl with
  |ret x=>
   obtain⟨d,y,rfl,rfl⟩:=hr;have hS:(s.heap.push {cls:=.type "set",dict:=Z,data:=.set #[] 0<|.fresh 0 0 d}).get? s⁻¹=U {cls:=.type "set",dict:=Z,data:=.set #[] 0<|.fresh 0 0 d}:=dv _ O;have a1:rN {s with heap:=s.heap.push {cls:=.type "set",dict:=Z,data:=.set #[] 0<|.fresh 0 0 d}} (.ref s⁻¹) "set":=(_,hS,O);have b8:=iz.init.lookup;have b9:=iz.init.bind<|.ref s⁻¹
   repeat(any_goals(first|assumption|wp_step))
   refine ka (Cx (R:=vG (λr n=>r=.none/\∃g S,n={s with heap:=g,toks:=S}/\
     lK prog w g s⁻¹ (bh ns)/\
     (∀b o,b<s⁻¹->s.heap.get? b=U o->g.get? b=U o)) E) iz.init.plain QN<|Qs a1 ?_) λC n f=>?_
   ·obtain⟨ol,D,G,nl,H⟩:=hl
    obtain⟨b4,q,a2,j⟩:=ol;simp only at G H;subst G;subst H;have p:(s.heap.push {cls:=.type "set",dict:=Z,data:=.set #[] 0<|.fresh 0 0 d}).get? l=U {cls:=.type "list",dict:=q,data:=.seq a nl,slots:=j}:=bJ _ D;have b5:=aep;have b6:=aeq;have c0:(ay "list" == ay "dict")=ao:=ξ
    have a3:(s.heap.push {cls:=.type "set",dict:=Z,data:=.set #[] 0<|.fresh 0 0 d}).IsList l a:=(_,p,O,nl,O);unfold Builtin.«set.__init__» Qc C_;generalize a4:qi=PI
    wp_walk
    subst a4;refine xY a3 ?_;refine ag<|PE ?_;have I:l<s⁻¹:=bT D;have a5:A.in1.in1.in1.handled=Z:=by simp[hh]
    have K:l≠(s.heap.push {cls:=.type "set",dict:=Z,data:=.set #[] 0<|.fresh 0 0 d}).objs.size:=by
     rw[mF];exact ck<|jM I
    have a6:s⁻¹∉[(s.heap.push {cls:=.type "set",dict:=Z,data:=.set #[] 0<|.fresh 0 0 d}).objs.size,l]:=by
     rw[mF];simp only[ci,fu,on,nE,not_or];exact(ck<|yF _,iM I)
    have L:∀(i:Nat)(v:aa),a[i]?=U v->∃t,v=.int ((λi=>ns.getD i 0) i) t:=λi v hv=>
     agc hi i v (by rw[km];exact hv)
    refine Sw ((vL a5 _ l K a).toS) s⁻¹
     a6 (λi=>ns.getD i 0) L P (a.size-0) 0 _ ω (dZ _)
     ((_,dv _ O,O,O),(_,bJ _ p,O,nl,O)) ?hS0 ?hR
    case hS0=>
     have M:∀oI,((s.heap.push {cls:=.type "set",dict:=Z,data:=.set #[] 0<|.fresh 0 0 d}).push oI).get? s⁻¹
      =U {cls:=.type "set",dict:=Z,data:=.set #[] 0<|.fresh 0 0 d}:=λoI=>bJ _ hS
     exact(_,#[],0,.fresh 0 0 d,M _,(O,O,O),O,(by simpa using DK 0 0 d),λe he=>by simp at he,wl _,lD,.inl (O,dZ _),y.imp id λz=>(z,O))
    case hR=>
     intro s' T k;obtain⟨g,g',d',a7,a8⟩:=s';have eg:g'=s.gens:=T.gens;have ed:d'=s.drawn:=T.drawn;have eo:a8=s.os:=T.os;subst eg;subst ed;subst eo;show am _ _ _ _ _ _;refine aC ?_;show am _ _ (ret bj) _ _ _;rw[a0] at k;refine aC (O,g,a7,O,k,λb o P e=>?_);have a9:b≠s⁻¹:=ck P;have b0:b≠(s.heap.push {cls:=.type "set",dict:=Z,data:=.set #[] 0<|.fresh 0 0 d}).objs.size:=by
      rw[mF];exact ck<|jM P
     exact T.heap b o (by simp only[ci,fu,on,nE,not_or];exact(a9,b0))<|bJ _<|bJ _ e
   ·cases C with
    |error e=>exact f
    |ok u=>
     cases u with
     |ret r=>
      obtain⟨rfl,g,S,rfl,k,b1⟩:=f
      repeat(any_goals(first|assumption|wp_step))
      exact h _ _ k b1
     |_=>exact f.elim
  |_=>exact hr.elim
end
end
def wY(P:aU)(w:aO)(D:V)(a:List Int):cP:=.i λh=>lK P w h D a
section
variable{X:aK}
def Uh(x:lK P w h D a):db P w H h D (wY P w D a):=
 (x,(let ⟨o,_,_,_,b,_⟩:=x;(o,b)),λb d y c=>y.B λo e=>c o e)
def Wr(i:X.b=ae):io X (.type "set") (λd H Q=>∃(l:V)(a:List Int),d=[.c l]/\bx X.K H l (a.map af.d)/\a.length<=60/\
  ∀D,H D=Z->Q (.c D) (av H D<|wY X.prog X.w D<|bh a)):=by
 intro f s t H d v Q I r h;obtain⟨l,a,rfl,j,w,q⟩:=h;obtain⟨u,rfl,k⟩:=gU r;cases k;obtain⟨c,g,m,_⟩:=I.B j;have n:=oU g;have x:c.length=a.length:=by simpa using (hZ g).symm
 refine Tc (ns:=a) (I.a.hd i) m.isList (by simpa using n) (by rw[cz];omega) λy z T p=>?_;exact(.c s⁻¹,_,I.F (o:=wY X.prog X.w s⁻¹<|bh a) (λb u e=>p b u (bT e) e) (bc _)<|Uh T,O,q _<|I.b.B<|bc _)
end
section
open PySem.SetTable
section
variable{prog:aU}{w:aO}{A:bg}{E:Ω}{s:ai}{S:V}
def Tb{n:Nat}{R:List aa->ai->Prop}(K:QB prog w T r d n P u)(C:A.handled=Z)(m:u s.heap)(D:n<=bG)(h:∀(i:aI)(j:Nat)(a:Array aa),s⁻¹<=i.objs.size->(∀b o,s.heap.get? b=U o->i.get? b=U o)->CO P a n->R a.toList {s with heap:=i,toks:=j}):am (aE prog w) A (collect<|.ref r) R E s:=by
 obtain⟨G,H⟩:=K.there _ m;unfold collect;refine ag<|PE<|jj entry_proto_collect' ?_;rw[kK PySem.F.plain_proto_collect _];show am _ A.in1 (do again (.builtin "list.__iadd__" ([<-HG [],.ref r],[]))) _ _ s;refine ag<|mE<|aC (lp ae3 _,jj entry_list_iadd' ?_);rw[kK ae3 _];show am _ A.in1 (CZ (.ref s⁻¹) (.ref r)<|.ref s⁻¹) _ _ _;have p:∀(i:aI)(j:Nat)(a:Array aa)(c:Nat),(∀b o,s.heap.get? b=U o->i.get? b=U o)->i.get? s⁻¹=U {cls:=.type "list",dict:=Z,data:=.seq a c,slots:=#[]}->CO P a n->
   am (aE prog w) A (do match (<-load s⁻¹).data with
    |.seq I _=>bH I.toList
    |_=>unsupported "internal:collect") R E {s with heap:=i,toks:=j}:=λi j a c l k g=>ag<|wpAny_load k<|aC<|h i j a (qv<|bT k) l g
 refine ic (kdl_extend (A:=A) (s:={s with heap:=s.heap.push {cls:=.type "list",data:=.seq ([]:List aa).toArray}})
  (R:=λq t=>∃i j a c,q=Except.ok (gO<|.ref s⁻¹)/\t={s with heap:=i,toks:=j}/\(∀b o,s.heap.get? b=U o->i.get? b=U o)/\i.get? s⁻¹=U {cls:=.type "list",dict:=Z,data:=.seq a c,slots:=#[]}/\CO P a n)
  K C (K.keep _ _ m λb _ o e=>bJ _ e) s⁻¹ (iM G) (iM H) (.ref s⁻¹) 0 (dv _ O)
  (λi j a c l k g=>(i,j,a,c,O,O,λb o e=>l b o (ck<|bT e)<|bJ _ e,k,g)) D) (λf t x=>?_) λe t x=>?_
 ·cases f with
  |done f=>
   obtain⟨i,j,a,c,e,rfl,l,k,g⟩:=x;cases e;exact p i j a c l k g
  |again v=>
   refine(x.1,ka x.2 λq z y=>?_);obtain⟨i,j,a,c,rfl,rfl,l,k,g⟩:=y;exact p i j a c l k g
 ·obtain⟨_,_,_,_,L,_⟩:=x
  cases L
end
end
section
variable{X:aK}
def UR{j:List aa}(v:fU b c)(o:pM (c.map λn=>[n]) b j):∃r:List Int,bW (r.map af.d) j/\r.Perm c/\r.Pairwise (·<=·):=by
 obtain⟨a,w,o,y⟩:=o;have x:b.length=c.length:=v.length;have f:∀p∈a,∃n t,p.1=[n]/\p.2=aJ n t:=λp s=>by
  obtain⟨i,e⟩:=jO.mp<|w.mem_iff.mp s;rw[lI,cm] at e;cases d:c[i]? with
  |none=>rw[d] at e;simp at e
  |some n=>
   obtain⟨t,g⟩:=v.get i n d;rw[d,g] at e;simp only[nz,Dh,pF] at e;subst e;exact(n,t,O,O)
 have z:∀a:List (List Int×aa),(∀p∈a,∃n t,p.1=[n]/\p.2=aJ n t)->bW ((a.map λp=>p.1.headD 0).map af.d) (a.map (·.2)):=by
  intro a
  induction a with
  |nil=>intro _;exact .nil
  |cons p a A=>
   intro h;obtain⟨n,t,d,g⟩:=h p dC;refine .cons ?_<|A λq C=>h q<|d_ _ C;show cb (af.d<|p.1.headD 0) p.2;rw[d,g];exact(t,O)
 refine(a.map λp=>p.1.headD 0,by rw[o];exact z a f,?_,?_)
 ·have k:=w.map (λp:List Int×aa=>p.1.headD 0)
  have e:((c.map λn=>[n]).zip b).map (λp:List Int×aa=>p.1.headD 0)=c:=by
   rw[show(λp:List Int×aa=>p.1.headD 0)=(λl:List Int=>l.headD 0) ∘ yB from O,<-bY,yL (by rw[aA];lia),bY];exact wb c
  rw[e] at k;exact k
 ·rw[jN]
  refine y.imp_of_mem λ{p q} k D u=>?_;obtain⟨n,t,d,_⟩:=f p k;obtain⟨m,E,g,_⟩:=f q D;rw[d,g,ib] at u;rw[d,g];show n<=m
  by_cases e:m=n
  ·lia
  ·rw[au e] at u
   have:=mM u
   lia
end
section
open PySem.SetTable
section
variable{prog:aU}{w:aO}{A:bg}{E:Ω}{s:ai}
def Su{n:Nat}{Q:Ω}(K:QB prog w T r d n P u)(z:A.handled=Z)(q:u s.heap)(G:n<64)(l:∀a:Array aa,CO P a n->fU a.toList ns)(h:∀(D:V)(f:aI)(p e:Nat)(j:List aa)(c:Array aa),s⁻¹<=D->(∀b o,s.heap.get? b=U o->f.get? b=U o)->f.get? D=U (bE "list" c e)->fU j ns->pM (ns.map λn=>[n]) j c.toList->Q (.ref D) {s with heap:=f,toks:=p}):am (aE prog w) A (gv (.builtin "sorted") [.ref r]) Q E s:=by
 refine QV IN II IQ (args_sorted1 _) ?_;unfold Builtin.«sorted»;refine ag (m:=HL "sorted" 1 1 _)<|aC ?_;refine ag<|Tb (A:=A.in1) K z q (by rw[jx];omega) λf p a t v g=>?_;have l:=l a g;have x:a.toList.length=n:=by rw[i_];exact g.1
 refine ag<|tK ?_ (by rw[x,jx];omega);have i:(f.push<|bE "list" a.toList.toArray 0).get? f.objs.size=U (bE "list" a.toList.toArray 0):=dv _ O;refine ag<|fz<|lT IG (_,i,O) IR (JO (s:={s with heap:=f.push<|bE "list" a.toList.toArray 0,toks:=p}) (good:=λ_=>True) i (DJ l) (λ_ _=>trivial) (by rw[x,jx];omega) ω λc k=>(_,O,?_))<|args_list_sort _;obtain⟨e,C⟩:=sortedHeap_at (out:=c) i;refine aC (_,O,h f.objs.size _ p e a.toList c t (λb o e=>?_) C l k);have y:b<f.objs.size:=bT<|v b o e;rw[sortedHeap_old (ck y) (by rw[uh];exact jM y)];exact bJ _<|v b o e
end
end
section
variable{X:aK}
abbrev Mp(a:List (Int×af)):cP:=.g<|a.map λp=>(adc (bd p.1) p.2)
def VB{b:List (Int×af)}:∀{m:List (aN×aa)}{a:List aa},kY (b.map λp=>(adc ((bd p.1:aN)) p.2)) m->a.length=m.length->(∀(i:Nat) v,a[i]?=U v->∃k x,m[i]?=U (adc k x)/\(fH X.prog X.w).is k v=ae)->fU a (b.map (·.1)):=by
 induction b with
 |nil=>
  intro m a q c _;cases q;cases a with
  |nil=>exact .nil
  |cons _ _=>simp at c
 |cons p b j=>
  intro m a q c d;cases q with
  |@cons _ r _ s f t=>
   cases a with
   |nil=>simp at c
   |cons v a=>
    obtain⟨k,x,g,l⟩:=d 0 v O;simp only[List.getElem?_cons_zero,pF] at g;have n:(bd p.1:aN)=k:=by rw[g] at f;exact f.1
    subst n;obtain⟨h,o⟩:∃h,v=aJ p.1 h:=Vy l;subst o;exact .cons _ _ (j t (by simpa using c) λi v e=>by simpa using d (i+1) v (by simpa using e))
def Wo(A:X.b=ae):io X (.builtin "sorted") (λm H Q=>∃a c,m=[.c a]/\H a=U (Mp c)/\c.length<64/\∀(D:V)(g:List Int),g.Perm (c.map (·.1))->g.Pairwise (·<=·)->H D=Z->Q (.c D) (av H D<|.a<|g.map af.d)):=by
 intro n s σ H m us Q I r h;obtain⟨a,c,rfl,C,hz,q⟩:=h;obtain⟨u,rfl,E⟩:=gU r;cases E;obtain⟨z,y,p,d,j⟩:=Mi I.b C;obtain⟨t,j⟩:=j.dictAt;have hl:c.length=p.length:=by simpa using d.F
 refine Su (ns:=c.map (·.1)) (PySem.W.kdl_dict (knd:=fH X.prog X.w) (kvs:=p) (ep:=t) y) (I.a.hd A) j ω (λG w=>VB (X:=X) d (by simpa using w.1) λi v e=>w.2 i v (by simpa using e)) λD h' tk e K k f L M P R=>?_;obtain⟨l,S,x,T⟩:=UR P R;have hk:l.length=c.length:=by simpa using x.length_eq
 refine(.c D,_,I.F (o:=.a<|l.map af.d) (λb u e=>L b u e) f<|show db X.prog X.w _ _ _ (.a<|l.map af.d) from(by rw[aA,jx];omega,k.toList,e,S,by simpa using M),O,q _ _ x T<|I.b.B f)
end
section
open PySem.SetTable
end
section
variable{X:aK}
def UU(i:X.A.units+64<cH):fy X (gu .NotEq) (λx y H Q=>∃c d a b e f,x=.c c/\y=.c d/\H c=U (mn X.prog X.w c a e)/\H d=U (mn X.prog X.w d b f)/\qV H e/\qV H f/\
  Q (.e<|!(aG (a.length=b.length)&&aG (∀k∈a,k∈b))) H):=by
 intro g s D H x y v u Q I j l h;obtain⟨c,d,a,b,e,f,rfl,rfl,m,n,o,p,q⟩:=h;cases j;cases l;obtain⟨E,r,t,G,w⟩:=(Ej I m).ts<|o.F I;obtain⟨K,z,A,L,C⟩:=(Ej I n).ts<|p.F I;exact SH w C i (.e _,H,I,O,q)
end
def VY(f:Array aa->Array aa)(o:aR):(o.mapFields f).dict=o.dict:=by unfold rP;split<;>rfl
def mT(h:aI)(x:V)(C:aa)(T:Option V):Prop:=
 ∃b c,h.get? x=U b/\b.cls=C/\b.dict=Z/\b.data=.fields c/\1<c.size/\((T=Z/\c[1]?=U .none)\/∃a d e,T=U a/\c[1]?=U (.ref a)/\a≠x/\h.get? a=U d/\d.data=.fields e/\e[3]?=U .none)
def uU(c:List V)(x:V)(T:Option V)(h a:aI):Prop:=
 (∀b o,h.get? b=U o->b≠x->T≠U b->b∉c->a.get? b=U o)/\(∀b o,h.get? b=U o->b∈c->∃d,a.get? b=U {o with slots:=d})/\h.objs.size<=a.objs.size
section
variable{M:tY}{A:bg}{E:Ω}{s:ai}
def zi{k:dD}{d:List dD}{j:aa}{Q:Unit->ai->Prop}(K:A.frames=U (k::d))(hl:s.heap.FunFrames C (k::d))(hf:k.frame=U L)(he:s.heap.get? x=U D)(P:D.dict=Z)(R:D.data=.fields I)(r:1<I.size)(h:∀S T',s⁻¹<=T'->mT S x D.cls (U T')->uU ((k::d).filterMap (·.frame)) x Z s.heap S->Q () {s with heap:=S}):am M A (do let a <-frameOf k;let t <-entryPlaceOf L l;let b <-afg j a .none (dY L) .none t;rI (.ref x) 1 b) (λ_ s'=>am M A (B_ (.ref x) Z) Q E s') E s:=by
 have u:x∉(k::d).filterMap (·.frame):=λhm=>by
  obtain⟨_,o,H,T⟩:=hl.mem hm;rw[he] at H;injection H with H;subst H;exact T I R
 refine ag<|wpAny_frameOf_fun K hl hf λc g=>?_;refine ag<|wpAny_entryPlaceOf λt G=>?_;unfold afg newFields;refine ag<|mE ?_<|G.sizeOk5 _ _ _ _ _;have m:c.get? x=U D:=(g.2.1 x u).trans he;have n:=bJ (h:=c) {cls:=.type "traceback",dict:=Z,data:=.fields ([j,.ref L,.none,dY L,.none]++(if t.isEmpty then jA 6 bj else t)).toArray} m;refine qg n R r ?_;have w:c.objs.size≠x:=iM<|bT m;have i:=rQ R (·.setIfInBounds 1<|Y c.objs.size);have p:=pC (rP (·.setIfInBounds 1<|Y c.objs.size)) n<|CN i;have q:=(lB (c.push {cls:=.type "traceback",dict:=Z,data:=.fields ([j,.ref L,.none,dY L,.none]++(if t.isEmpty then jA 6 bj else t)).toArray})
  (rP (·.setIfInBounds 1<|Y c.objs.size))<|dB w).trans<|dv c O
 unfold B_;refine ag<|gm p i (x:=.ref c.objs.size) (by simp[r]) ?_;rw[aB (show(Y c.objs.size != bj)=ae from by simp)];have a3:c.objs.size=s⁻¹:=g.1;refine qg q O (by simp only[cz,dz,dP,nB]<;>omega)<|h _ c.objs.size ω ?_ ?_
 ·refine(_,_,?_,QF _ _,(VY _ _).trans P,i,by simpa using r,.inr (c.objs.size,_,_,O,by simp[r],w,pC _ q<|CN<|rQ O _,rQ O _,?_))
  ·rw[lB _ _ w];exact p
  ·first|(simp;done)|(rcases G with rfl|⟨_,_,_,_,_,_,_,rfl⟩<;>simp)
 ·have v:∀b o,b≠x->c.get? b=U o->
    (((c.push {cls:=.type "traceback",dict:=Z,data:=.fields ([j,.ref L,.none,dY L,.none]++(if t.isEmpty then jA 6 bj else t)).toArray}).update x (rP (·.setIfInBounds 1<|Y c.objs.size))).update c.objs.size
     (rP (·.setIfInBounds 3<|(Z:Option V).elim bj λf=>dY f))).get? b=U o:=λb o X z=>by
   have a0:c.objs.size≠b:=iM<|bT z;rw[lB _ _ a0,lB _ _<|dB X];exact bJ _ z
  refine(λb o z a1 _ y=>v b o a1<|(g.2.1 b y).trans z,λb o z y=>?_,?_)
  ·obtain⟨sl,a2⟩:=g.2.2 b o z
   exact(sl,v b _ (λe=>u<|e▸y) a2)
  ·rw[lA,lA,mF]
   show s⁻¹<=c.objs.size+1;omega
def To{n:aI}{i:dD}{f:List dD}{Q:Unit->ai->Prop}(p:A.frames=U (i::f))(G:s.heap.FunFrames n (i::f))(H:i.frame=U L)(m:mT s.heap x C T)(h:∀r z,s⁻¹<=z->mT r x C (U z)->uU ((i::f).filterMap (·.frame)) x T s.heap r->Q () {s with heap:=r}):am M A (HH i<|.ref x) Q E s:=by
 obtain⟨oe,S,m,rfl,t,D,u,v⟩:=m;unfold HH Hz;simp only[H];rcases v with ⟨rfl,v⟩|⟨a,oT,ts,rfl,v,I,K,l,X⟩
 ·refine ag<|ag<|gm m D v ?_
  rw[au ξ];exact zi p G H m t D u h
 ·refine ag<|ag<|gm m D v ?_
  rw[aB (show(Y a != bj)=ae from by simp)];refine ag<|gm K l X ?_;rw[au (show ¬((bj==dY L)=ae) from by simp[dY])];refine ag<|qg K l (qB.mp X).1 ?_;have d:∀b,b≠a->(s.heap.update a (rP (·.setIfInBounds 3 bj))).get? b=s.heap.get? b:=λb g=>lB _ _<|dB g;have c:∀b o,s.heap.get? b=U o->(∀S,o.data≠.fields S)->b≠a:=λb o g j q=>by
   rw[q,K] at g;injection g with g;subst g;exact j ts l
  refine zi p (G.of_keeps λb o g j=>(o,(d b<|c b o g j).trans g,O)) H ((d x<|dB I).trans m) t D u λr z w hx hk=>h r z (by rw[lA] at w;exact w) hx ?_;obtain⟨k1,k2,k3⟩:=hk;refine(λb o g P R k=>k1 b o ((d b λe=>R (by rw[e])).trans g) P (by simp) k,λb o g k=>?_,by rw[lA] at k3;exact k3);obtain⟨_,o',y,j⟩:=G.mem k;rw[g] at y;cases y;exact k2 b o ((d b<|c b o g j).trans g) k
end
def da(P:aU)(w:aO):kZ:=λb H s E e c=>∃(x C:V)(T:Option V)(d:ac),e=.ref x/\c.os=s.os/\qt c.gens/\mU (iP b) [] H d s.heap c.heap/\fP P w d c.heap/\
 d x=Z/\s.heap.get? x=Z/\(∀a,T=U a->d a=Z/\s.heap.get? a=Z)/\mT c.heap x (.ref C) T/\E e (U C) d
def LX{i:List V}(f:fP P w H h)(k:uU i x T h g)(j:H x=Z)(l:∀a,T=U a->H a=Z)(m:∀b∈i,H b=Z):fP P w H g:=by
 intro b u e;refine(f b u e).B (λc v n q=>k.1 c v q ?_ ?_ ?_) (λ_ q=>q) λ_ _ q=>q
 all_goals
  have d:H c≠Z:=by
   rcases n with z|z
   ·rw[z,e];simp
   ·rw[z];simp
 ·exact λz=>d<|z▸j
 ·exact λz=>d<|l c z
 ·exact λz=>d<|m c z
def qG{K:aH}{j:aI}{s:ai}{t:ac}(I:aw (iG (da P w) P w K L j a2 g d f p A c s H E) r σ t l)(u:mT l.heap x (.ref C) T)(v:t x=Z)(y:s.heap.get? x=Z)(hT:∀a,T=U a->t a=Z/\s.heap.get? a=Z)(hE:E (.ref x) (U C) t):(iG (da P w) P w K L j a2 g d f p A c s H E).a (.ref x) l:=by
 show am (aE P w) (A.deeper<|iY g d s⁻¹ f p) (HH (iY g d s⁻¹ f p)<|.ref x) _ _ l;refine To I.a.j I.B2 O u λh' T' D M Q=>?_;have R:=I.B9;have S:s⁻¹<=l⁻¹:=I.sz;have X:∀b o,s.heap.get? b=U o->b≠x/\T≠U b/\b≠s⁻¹:=λb o e=>by
  have h:=bT e;exact(λz=>(by rw[z,y] at e;cases e),λz=>(by rw[(hT b z).2] at e;cases e),ck h)
 have up:∀b o i,s.heap.get? b=U o->l.heap.get? b=U i->b∉iP c->h'.get? b=U i:=λb o i e m h=>by
  obtain⟨n1,n2,n3⟩:=X b o e;refine Q.1 b i m n1 n2 λhm=>?_;have a0:b∈s⁻¹::iP c:=hm;rcases ci.mp a0 with z|z
  ·exact n3 z
  ·exact h z
 have G:∀b i,l.heap.get? b=U i->b∈iP c->∃sl,h'.get? b=U {i with slots:=sl}:=λb i m h=>Q.2.1 b i m<|show b∈s⁻¹::iP c from d_ _ h;have k:∀b:V,b∉(iG (da P w) P w K L j a2 g d f p A c s H E).e:=λb z=>aZ (show b∈([]:List V) from z) (by simp);refine(x,C,U T',t,O,I.k,I.e,(λb o q n h u=>?_,λb o q n h u=>?_,λb o q n u=>I.base.c b o q n<|k b,λb o q u=>?_,I.base.i,I.base.f,I.base.e),LX I.b Q v (λa e=>(hT a e).1) R,v,y,λa e=>?_,M,hE)
 ·exact up b o o q (I.base.a b o q n h<|k b) h
 ·obtain⟨sl,e⟩:=I.base.g b o q n h<|k b
  obtain⟨a1,m⟩:=G b _ e h;exact(a1,m)
 ·obtain⟨i,e⟩:=I.base.d b o q<|k b
  by_cases h:b∈iP c
  ·obtain⟨sl,m⟩:=G b i e h
   exact(_,m)
  ·exact(i,up b o i q e h)
 ·cases e
  refine(I.b.B D,?_);cases q:s.heap.get? T' with
  |none=>rfl
  |some o=>exact aZ (bT q)<|Nat.not_lt.mpr<|dE S D
def ge{K:aH}{s:ai}:uW (da P w) (iG (da P w) P w K p g a0 h c f r A d s H E) E:=by
 rintro j u X v e y I ⟨x,C,T,D,rfl,G,k,L,l,m,n,t,M,Q⟩;have R:aw (iG (da P w) P w K p g a0 h c f r A d s H E) j u D y:=I.A6 (ch:=[]) G L l k (λb z=>aZ z (by simp));have i:∀b,v.heap.get? b=Z->s.heap.get? b=Z:=λb S=>by
  cases q:s.heap.get? b with
  |none=>rfl
  |some o=>
   obtain⟨o',e⟩:=I.base.d b o q (λz=>aZ (show b∈([]:List V) from z) (by simp));rw[S] at e;cases e
 exact qG R M m (i x n) (λa e=>((t a e).1,i a (t a e).2)) Q
def bD.F{K:aH}{a:aI}{k:Nat}{i:List al}{j:ia}(F:bD P w K d a aX k f g i j):bD P w K d a (da P w) k f g i j:=
 (F.b,λA b s H c l m Q E n o p q t=>ka (F.a A b s H c l m Q E n o p q t) λr v h=>by
  cases r with
  |error e=>exact h.elim
  |ok u=>cases u<;>exact h)
def bF.F{P:aU}{w:aO}{K:aH}{o:al->Option aa}{d:aI}{x b:al}{M i:List al}{k:Nat}{j:ia}(F:bF K x b h f p)(S:cQ M i (bB h))(l:∀e H Q E,j e H Q E->e.length=i.length)(g:∀(c:aa)(A:bg)(a:List dD)(s:ai)(H:ac)(e:List af)(Q:aL)(E:bK),eJ k (A.deeper<|iY b (bB h) s⁻¹ f c)->j e H Q E->
   ∃t,g_ (iG (da P w) P w K o d M b (bB h) f c A a s H E) (gf h) t/\t {a:=λ_ q=>Q .g q,b:=Q} (kq M e) H):bD P w K o d (da P w) (k+1) f p i j:=by
 obtain⟨z,C,D,r,G,I,c,L,u,rfl,v,m⟩:=F.b;exact EH v m S l λA a s H e Q E y n=>g c A a s H e Q E y n
def U'(x:db P w H h a o):∃c,h.get? a=U c:=by
 cases o with
 |a d=>obtain⟨_,_,_,_,e⟩:=x;exact(_,e)
 |b d=>obtain⟨_,_,_,o,e,_⟩:=x;exact(_,e)
 |g b=>obtain⟨_,_,_,_,o,_,_,e,_⟩:=x;exact(_,e)
 |c b=>obtain⟨_,_,_,_,o,_,_,e,_⟩:=x;exact(_,e)
 |l S n=>obtain⟨o,_,_,_,e,_⟩:=x;exact(_,e)
 |k C i g=>obtain⟨_,_,_,e,_⟩:=x;exact(_,e)
 |h y=>exact x
 |m g=>obtain⟨_,⟨_,_,_,e,_⟩,_⟩:=x;exact(_,e)
 |met f y=>exact(_,x)
 |j j k=>obtain⟨_,_,_,e⟩:=x;exact(_,e)
 |e c u=>exact(_,x.1)
 |d l=>exact(_,x)
 |i m=>exact x.2.1
def EI{K:aH}(X:K.In h)(q:jK K C d b=ae):∃i a5 x y z j A f D g E r s t u v,∃I:al->Option aa,I "__init__"=Z/\(∀T,d.contains (.type T)=ae->i.contains (.type T)=ae)/\∀k:aI,K.In k->k.get? C=U (Cu x y C a5 z i j A f D g E r s t u v b)/\k.Ns a5 I/\OwnTail k d i:=by
 unfold jK at q;split at q
 ·rename_i E R L S
  split at q
  ·rename_i C' i r s t u n v M P
   simp only[iN,beq_iff_eq,Jw] at q;obtain⟨⟨⟨⟨⟨rfl,rfl⟩,c⟩,Q⟩,a⟩,m⟩:=q;obtain⟨x,z,a0,w,y,hd,A,f,D,g,a1⟩:=R;dsimp only at M c a m;subst M c;have G:L=#[r,s,t,u,U (.builtin n),v]:=by
    obtain⟨l⟩:=L;simp only at P;rw[P]
   subst G;refine(i,w,x,y,z,hd,A,f,D,g,E,r,s,t,u,v,h.nsMap w,PySem.W.nsMap_none_of_in X a m,λT hT=>(adw X Q).hasType hT,λk H=>(H _ _ S,?_,adw H Q));have hN:h.Ns w (h.nsMap w):=.of_isNs<|PySem.W.isNs_of_in X a;unfold PySem.W.nsOkIn at a;split at a
   ·rename_i c1 d1 a2 a3 a4 p
    exact hN.at' λo e=>by
     rw[X _ _ p] at e;rw[<-e];exact H _ _ p
   ·cases a
  ·cases q
 ·cases q
abbrev kU:List aa:=[.type "ValueError",.type "Exception",.type "BaseException",.type "object"]
section
variable{X:aK}
def TM(a:bK)(C:V):fe:=λ_ _ H=>∀x,H x=Z->a (.ref x) (U C) H
def sI{j:Nat}{EX:bK}(hc:X.b=ae)(hg:iH X x)(k:X.mg x=U (.ref C))(q:jK X.K C kU "ValueError.__new__"=ae)(K:∀(a:Ψ)(l:aM)(H:ac)(s:ai)(x:V),aw X a l H s->mT s.heap x (.ref C) Z->H x=Z->X.d.heap.get? x=Z->EX (.ref x) (U C) H->X.a (.ref x) s)(L:X.e=[]:=by rfl)(hd:(x==("__debug__":al))=ao:=by decide)(g:(lU b<|eM [rS (.str d) j E] X.env).any (·.1)=ao:=by rfl):ky X (.Raise (U<|.Call (.Name x np) [.Constant (.str d) j E] [] b) Z G) (TM EX C):=by
 intro a s l H D I h;obtain⟨R,a0,S,qn,T,i,sn,n,ab,p,dd,k0,k1,k2,k3,k5,mN,M,P,Q⟩:=EI I.A2 q;refine wpAny_Raise_call_subU (C:=C) (nm:=S) (q:=qn) (N:=a0) (bs:=T) (bm:=R) (hdct:=i) (sn:=sn) (sub:=n) (ab:=ab) (col:=p) (dd:=dd) (k0:=k0) (k1:=k1) (k2:=k2) (k3:=k3) (k5:=k5) Iu Iu.hasB Iu (P _ Iu.hasBase) (I.a.hd hc) g M ?_;refine bI (oN (v:=.c C) hg k O hd a s l H (λv y=>v=.c C/\y=H) I (O,O)) λf r (v,y,I1,r1,e1,e2)=>?_;subst e1 e2;cases r1;refine(O,?_);have hA:=(aj dF az:je X [rS (.str d) j E] _) b a r l y (λvs m=>vs=[.f d]/\m=y) I1 (O,O);refine QU<|bI hA λus c (vs,m,A,r2,e3,e4)=>?_;subst e3 e4;obtain⟨c1,c2,c3⟩:=Q c.heap A.A2;refine(O,?_,c1,c2,c3,λh' e k=>?_)
 ·rw[<-r2.B];show 1<=bG;decide
 obtain⟨t,ht,_,_⟩:=k.there;have I3:aw X a l m {c with heap:=h'}:=A.W (t':=c.toks) k.keeps;have he:m e=Z:=by
  cases z:m e with
  |none=>rfl
  |some u=>
   obtain⟨o,w⟩:=U'<|A.b e u z;rw[k.new] at w;cases w
 refine K a l m _ e I3 (_,_,ht,O,O,O,(by show 1<6;decide),.inl (O,O)) he ?_<|h e he;cases z:X.d.heap.get? e with
 |none=>rfl
 |some o=>
  obtain⟨o',w⟩:=A.base.d e o z (by rw[L];simp);rw[k.new] at w;cases w
end
section
variable{M:tY}{A:bg}{E:Ω}{s:ai}
def Tl{g:dD}{outer:List dD}{Q:Unit->ai->Prop}(m:A.frames=U (g::outer))(D:s.heap.FunFrames base (g::outer))(G:g.frame=U L)(l:mT s.heap x C T)(h:∀n y,s⁻¹<=y->mT n x C (U y)->uU ((g::outer).filterMap (·.frame)) x T s.heap n->Q () {s with heap:=n}):am M A (Hz (.ref x) g) (λ_ p=>am M A (B_ (.ref x) Z) Q E p) E s:=by
 obtain⟨oe,R,l,rfl,r,z,t,u⟩:=l;unfold Hz;simp only[G];rcases u with ⟨rfl,u⟩|⟨a,oT,ts,rfl,u,H,I,k,S⟩
 ·refine ag<|gm l z u ?_
  rw[au ξ];exact zi m D G l r z t h
 ·refine ag<|gm l z u ?_
  rw[aB (show(Y a != bj)=ae from by simp)];refine ag<|gm I k S ?_;rw[au (show ¬((bj==dY L)=ae) from by simp[dY])];refine ag<|qg I k (qB.mp S).1 ?_;have d:∀b,b≠a->(s.heap.update a (rP (·.setIfInBounds 3 bj))).get? b=s.heap.get? b:=λb f=>lB _ _<|dB f;have c:∀b o,s.heap.get? b=U o->(∀R,o.data≠.fields R)->b≠a:=λb o f i q=>by
   rw[q,I] at f;injection f with f;subst f;exact i ts k
  refine zi m (D.of_keeps λb o f i=>(o,(d b<|c b o f i).trans f,O)) G ((d x<|dB H).trans l) r z t λn y v hx hk=>h n y (by rw[lA] at v;exact v) hx ?_;obtain⟨k1,k2,X⟩:=hk;refine(λb o f K P j=>k1 b o ((d b λe=>P (by rw[e])).trans f) K (by simp) j,λb o f j=>?_,by rw[lA] at X;exact X);obtain⟨_,o',w,i⟩:=D.mem j;rw[f] at w;cases w;exact k2 b o ((d b<|c b o f i).trans f) j
def Tp{Q:Unit->ai->Prop}(g:mT s.heap x C (U T))(h:∀j,mT j x C (U T)->uU [] x (U T) s.heap j->Q () {s with heap:=j}):am M A (B_ (.ref x) Z) Q E s:=by
 obtain⟨q,r,g,rfl,k,n,l,i⟩:=g;rcases i with ⟨z,_⟩|⟨a,w,y,z,i,d,p,c,t⟩
 ·cases z
 cases z;unfold B_;refine ag<|gm g n i ?_;rw[aB (show(Y T != bj)=ae from by simp)];have f:=(qB.mp t).1;refine qg p c f<|h _ ?_ ?_
 ·refine(q,r,?_,O,k,n,l,.inr (T,_,_,O,i,d,pC _ p<|CN<|rQ c _,rQ c _,?_))
  ·rw[lB _ _ d];exact g
  ·simp[f]
 ·refine(λb o u v m _=>?_,λb o _ z=>aZ z (by simp),by rw[lA];exact bc _)
  rw[lB _ _ (λe=>m (by rw[e]))];exact u
def Tn{T q a0 X K k sn p ab r dd k0 k1 k2 k3 k5 b}{s q' N' u c i v l w m x y z D G H a}{h:aI}{g:Array vR}{d:Drawn}{t:Nat}{L:OsState}{e:V}{Q:Bool->ai->Prop}(hC:h.get? C=U (Cu T q C a0 X K k sn p ab r dd k0 k1 k2 k3 k5 b))(R:h.get? S=U (Cu s q' S N' u c i v l w m x y z D G H a))(he:h.get? e=U P)(n:P.cls=.ref C)(j:c.contains (.type "BaseException")=ae)(o:(Y C::K).contains (.ref S)=ae)(hq:Q ae (h,g,d,t,L)):am M A (excMatches (.ref e)<|.ref S) Q E (h,g,d,t,L):=by
 have I:(Y S::c).contains (.type "BaseException")=ae:=by rw[List.contains_cons,j,Bool.or_true]
 have f:=tc_notTuple;unfold excMatches
 repeat(first|(with_reducible refine ac4 he ?_;rw[n])|with_reducible refine ac4 R ?_|(with_reducible refine ac6 R ?_;rw[I])|(with_reducible refine ac6 hC ?_;rw[o])|wp_step)
 exact hq
end
section
variable{X:aK}{pins:Ψ}{σ:List (Option af)}{H H':ac}{s:ai}{h':aI}
structure q_(X:aK)(pins:Ψ)(x:V):Prop where
 b:X.d.heap.get? x=Z
 lo:x≠X.env.locals
 a:∀y c,X.env.cells.lookup y=U c->c≠x
 d:∀p∈X.f++pins,p.1≠x
def aw.C4(I:aw X pins σ H s)(b:X.e=[])(h:s.heap.get? x=Z):q_ X pins x:=by
 refine(?_,λe=>?_,λy c e z=>?_,λp d z=>?_)
 ·cases q:X.d.heap.get? x with
  |none=>rfl
  |some o=>
   obtain⟨f,e⟩:=I.base.d x o q (by rw[b];simp);rw[h] at e;cases e
 ·obtain⟨m,⟨o,_,_,a,_⟩,_⟩:=I.d
  rw[<-e,h] at a;cases a
 ·obtain⟨v,o,a,_⟩:=I.g y c e
  rw[z,h] at a;cases a
 ·have:=(I.f p d).1
  rw[z,h] at this;cases this
def aw.D0{ch:List V}(I:aw X pins σ H s)(f:∀b∈ch,q_ X pins b)(g:∀b o,b≠X.env.locals->b∉X.B->b∉ch->s.heap.get? b=U o->H b=Z->h'.get? b=U o)(A:∀b o,b≠X.env.locals->b∈X.B->b∉ch->s.heap.get? b=U o->H b=Z->∃sl,h'.get? b=U {o with slots:=sl})(a:∀b o,b∉ch->s.heap.get? b=U o->H b=Z->H' b=Z)(D:∀b o,b∉ch->s.heap.get? b=U o->∃K,h'.get? b=U K)(L:∀b C,H b=U (.b C)->H' b=U (.b C))(M:∀b o u,H b=U (.e o u)->H' b=U (.e o u))(P:∀b T,H b=U (.d T)->∃Q,H' b=U (.d<|T++Q))(ns:∀m,s.heap.Ns X.env.locals m->h'.Ns X.env.locals m)(a0:fP X.prog X.w H' h'):aw X pins σ H' {s with heap:=h'}:=by
 have R:∀b o,X.d.heap.get? b=U o->b≠X.env.locals:=λb o e=>ck<|fB (bT e) I.a.d;have w:∀b o,X.d.heap.get? b=U o->b∉ch:=λb o e E=>by
  rw[(f b E).b] at e;cases e
 have h:∀x c,X.env.cells.lookup x=U c->∀v,s.heap.IsCell c v->h'.IsCell c v:=λx c e v (o,G,hd)=>by
  have j:c∉ch:=λz=>(f c z).a x c e O
  by_cases hc:c∈X.B
  ·obtain⟨sl,q⟩:=A c o (I.A9 x c e) hc j G<|I.j x c e
   exact(_,q,hd)
  ·exact(o,g c o (I.A9 x c e) hc j G<|I.j x c e,hd)
 refine(I.a,I.k,I.e,(λb o e n E t=>?_,λb o e n E t=>?_,λb o e n t=>?_,λb o e t=>?_,λb C e=>L b C<|I.base.i b C e,λb o C e=>M b o C<|I.base.f b o C e,λb T e=>?_),?_,λx c e=>?_,?_,λx c e=>?_,λp hp=>?_,a0,I.l)
 ·exact g b o (R b o e) E (w b o e) (I.base.a b o e n E t)<|I.base.c b o e n t
 ·obtain⟨sl,y⟩:=I.base.g b o e n E t
  obtain⟨a1,S⟩:=A b _ (R b o e) E (w b o e) y<|I.base.c b o e n t;exact(a1,S)
 ·obtain⟨K,y⟩:=I.base.d b o e t
  exact a b K (w b o e) y<|I.base.c b o e n t
 ·obtain⟨K,y⟩:=I.base.d b o e t
  exact D b K (w b o e) y
 ·obtain⟨m1,y⟩:=I.base.e b T e
  obtain⟨m2,S⟩:=P b _ y;exact(m1++m2,by rw[S,aii])
 ·obtain⟨m,hn,hl⟩:=I.d
  refine(m,ns m hn,λi x v y S e3=>?_);obtain⟨u,r,l⟩:=hl i x v y S e3;refine(u,r,?_);rcases l with l|⟨k,c,e,z⟩
  ·exact .inl l
  ·exact .inr (k,c,e,h x c e _ z)
 ·obtain⟨v,z⟩:=I.g x c e
  exact(v,h x c e v z)
 ·obtain⟨m,⟨o,_,_,G,_⟩,_⟩:=I.d
  exact a _ o (λz=>(f _ z).lo O) G I.h
 ·obtain⟨v,o,G,hd⟩:=I.g x c e
  exact a c o (λz=>(f c z).a x c e O) G<|I.j x c e
 ·obtain⟨e,n,ne,nf,d⟩:=I.f p hp
  have j:p.1∉ch:=λz=>(f p.1 z).d p hp O;exact(g p.1 p.2 ne nf j e n,a p.1 p.2 j e n,ne,nf,d)
def aw.C5{h:List V}(I:aw X pins σ H s)(k:uU h x T s.heap h')(f:∀b∈h,b∈iP X.c)(j:q_ X pins x)(l:H x=Z)(i:∀a,T=U a->q_ X pins a/\H a=Z):aw X pins σ H {s with heap:=h'}:=by
 have g:∀b o,b∉(x::T.toList)->s.heap.get? b=U o->∃g,h'.get? b=U {o with slots:=g}:=λb o c e=>by
  by_cases d:b∈h
  ·exact k.2.1 b o e d
  ·exact(o.slots,k.1 b o e (λz=>c (by simp[z])) (λz=>c (by simp[z])) d)
 refine I.D0 (ch:=x::T.toList) (λb d=>?_) (λb o p d c e _=>?_) (λb o _ _ c e _=>g b o c e) (λ_ _ _ _ n=>n) (λb o c e=>?_) (λ_ _ e=>e) (λ_ _ _ e=>e) (λb w e=>(#[],by rw[e];simp)) (λm q=>?_)<|LX I.b k l (λa e=>(i a e).2) λb d=>I.B9 b<|f b d
 ·rcases ci.mp d with z|z
  ·rw[z];exact j
  ·exact(i b (by simpa using z)).1
 ·exact k.1 b o e (λz=>c (by simp[z])) (λz=>c (by simp[z])) λz=>(ci.mp<|I.A8 b<|f b z).elim p d
 ·obtain⟨z,e⟩:=g b o c e
  exact(_,e)
 ·obtain⟨o,t,u,v,r⟩:=q
  obtain⟨z,e⟩:=g _ o (λz=>by
   rcases ci.mp z with z|z
   ·exact j.lo z.symm
   ·exact(i _ (by simpa using z)).1.lo O) v
  exact(_,t,u,e,r)
abbrev sN(x C:V):cP:=.i λh=>∃o,ym h x o C Z
def aw.D8(I:aw X pins σ H s)(t:H x=Z)(w:q_ X pins x)(e:mT s.heap x (.ref C) T):aw X pins σ (av H x<|sN x C) s:=by
 obtain⟨d,K,l,g,h,i,_⟩:=e;have j:ady d=ae:=by unfold ady;rw[i]
 have k:match d.dict,(Z:Option aR) with|some p,U o=>s.heap.get? p=U o|none,Z=>True|_,_=>False:=by rw[h];trivial
 have a:∀b u,H b=U u->b≠x:=λb u e z=>by rw[z,t] at e;cases e
 refine I.D0 (h':=s.heap) (ch:=[x]) (λb f=>?_) (λb o _ _ _ e _=>e) (λb o _ _ _ e _=>(o.slots,e)) (λb o g _ n=>?_) (λb o _ e=>(o,e)) (λb y e=>?_) (λb o u e=>?_) (λb L e=>(#[],?_)) (λm A=>A) (λb u e=>?_)
 ·obtain rfl:b=x:=by simpa using f
  exact w
 ·rw[a_ (λz=>g (by simp[z]))];exact n
 ·rw[a_<|a b _ e];exact e
 ·rw[a_<|a b _ e];exact e
 ·rw[a_<|a b _ e,e];simp
 ·by_cases f:b=x
  ·subst f
   rw[aD] at e;cases e;refine((d,l,g,j,k),(d,l),λM P (o,D,E,G,r) q=>(o,q o D,E,G,?_));cases z:o.dict with
   |none=>trivial
   |some p=>rw[z] at r;exact r.elim
  ·rw[a_ f] at e
   refine(I.b b u e).B (λc v _ q=>q) (λc q=>?_) λc y q=>?_
   ·rw[a_<|a c _ q];exact q
   ·rw[a_<|a c _ q];exact q
end
section
variable{X:aK}{pins pins':Ψ}{σ:List (Option af)}{H H':ac}{s:ai}{h':aI}{EB:bK}
def WC(X:aK)(pins:Ψ)(EB:bK):Ω:=λe s=>∃(x C:V)(T:Option V)(σ:aM)(H:ac),e=.ref x/\aw X pins σ H s/\mT s.heap x (.ref C) T/\H x=Z/\q_ X pins x/\(∀a,T=U a->q_ X pins a/\H a=Z)/\EB (.ref x) (U C) H
abbrev uV(X:aK)(pins:Ψ)(EB:bK):aK:={X with f:=X.f++pins,a:=WC X pins EB}
abbrev wV(X:aK)(pins:Ψ)(x:V):aK:={X with A:=X.A.mark<|U<|.ref x,b:=ao,f:=X.f++pins,a:=λ_ _=>False}
def aw.E5(I:aw X pins σ H s):aw (uV X pins EB) [] σ H s:=
 ((I.a.e,I.a.a,I.a.f,I.a.l,I.a.d,I.a.n,I.a.has,I.a.k,I.a.hd,I.a.j,I.a.q,I.a.r,I.a.bs,I.a.i,I.a.h,I.a.p,I.a.g,I.a.m),I.k,I.e,I.base,I.d,I.g,I.h,I.j,
  λp a=>I.f p (by simpa using a),I.b,I.l)
def aw.B1(I:aw (uV X pins EB) pins' σ H s):aw X pins σ H s:=
 ((I.a.e,I.a.a,I.a.f,I.a.l,I.a.d,I.a.n,I.a.has,I.a.k,I.a.hd,I.a.j,I.a.q,I.a.r,I.a.bs,I.a.i,I.a.h,I.a.p,I.a.g,I.a.m),I.k,I.e,I.base,I.d,I.g,I.h,I.j,
  λp a=>I.f p<|uo _ a,I.b,I.l)
def aw.C6(I:aw X pins σ H s):aw (wV X pins x) [] σ H s:=
 ((I.a.e,I.a.a,I.a.f,I.a.l,I.a.d,I.a.n,I.a.has,I.a.k,(λz=>nomatch z),I.a.j,I.a.q,I.a.r,I.a.bs,I.a.i,I.a.h,I.a.p,I.a.g,I.a.m),I.k,I.e,I.base,I.d,I.g,I.h,I.j,
  λp a=>I.f p (by simpa using a),I.b,I.l)
def aw.E2(I:aw (wV X pins x) pins' σ H s)(a:X.b=ae->X.A.handled=Z):aw X pins σ H s:=
 ((I.a.e,I.a.a,I.a.f,I.a.l,I.a.d,I.a.n,I.a.has,I.a.k,a,I.a.j,I.a.q,I.a.r,I.a.bs,I.a.i,I.a.h,I.a.p,I.a.g,I.a.m),I.k,I.e,I.base,I.d,I.g,I.h,I.j,
  λp b=>I.f p<|uo _ b,I.b,I.l)
def qX.B(h:qX (uV X pins EB) [] D f b):qX X pins D f b:=by
 cases f with
 |next=>obtain⟨a,H',I,q⟩:=h;exact(a,H',I.B1,q)
 |brk=>obtain⟨a,H',I,q⟩:=h;exact(a,H',I.B1,q)
 |cont=>obtain⟨a,H',I,q⟩:=h;exact(a,H',I.B1,q)
 |ret u=>obtain⟨v,a,H',I,r,q⟩:=h;exact(v,a,H',I.B1,r,q)
def Lw(c:X.e=[]):uW (da X.prog X.w) (uV X pins EB) EB:=by
 rintro pins' σ j k e l I ⟨x,C,T,H',rfl,m,d,n,f,g,h,i,o,p⟩;have q:aw (uV X pins EB) pins' σ H' l:=I.A6 (ch:=[]) m n f d (λb z=>aZ z (by simp));have r:aw X pins σ j k:=I.B1;exact(x,C,T,σ,H',O,q.B1,o,g,r.C4 c h,λa e=>(r.C4 c (i a e).2,(i a e).1),p)
def aw.E1{i:Nat}{n:al}{m:al->Option aa}{u:Option aa}(I:aw X pins σ H s)(D:X.N.Nodup)(w:X.N[i]?=U n)(E:∀(i:Nat)(x:al)(v:af),X.N[i]?=U x->σ[i]?=U (U v)->wW X.env.scope x->∃u,cb v u/\M' X.env s.heap m x u)(G:h'.Ns X.env.locals λy=>if y=n then u else m y)(a:gA X.env.locals s.heap h'):aw X pins (σ.set i Z) H {s with heap:=h'}:=by
 have g:i<σ.length:=by rw[I.l];exact(cE.mp w).1
 refine(I.a,I.k,I.e,(λb o e n r h=>?_,λb o e n r h=>?_,I.base.c,λb o e h=>?_,I.base.i,I.base.f,I.base.e),(_,G,λj y K f l L=>?_),λy c e=>?_,I.h,I.j,λp M=>?_,λb P e=>?_,by simpa using I.l)
 ·exact(a.2 b<|ck<|fB (bT e) I.a.d).trans<|I.base.a b o e n r h
 ·obtain⟨Q,f⟩:=I.base.g b o e n r h
  exact(Q,(a.2 b<|ck<|fB (bT e) I.a.d).trans f)
 ·obtain⟨R,f⟩:=I.base.d b o e h
  exact(R,(a.2 b<|ck<|fB (bT e) I.a.d).trans f)
 ·by_cases t:j=i
  ·subst t
   rw[Jg g] at l;cases l
  ·rw[Rx<|dB t] at l
   obtain⟨S,T,q⟩:=E j y K f l L;refine(S,T,?_);rcases q with ⟨k,e⟩|⟨k,c,e,z⟩
   ·refine .inl (k,?_)
    have:y≠n:=λe=>t<|EC D f<|e▸w;simp[this,e]
   ·exact .inr (k,c,e,z.sameBut a<|I.A9 y c e)
 ·obtain⟨A,z⟩:=I.g y c e
  exact(A,z.sameBut a<|I.A9 y c e)
 ·obtain⟨e,n,C,nf,d⟩:=I.f p M
  exact((a.2 p.1 C).trans e,n,C,nf,d)
 ·refine(I.b b P e).B (λc A hc q=>(a.2 c ?_).trans q) (λ_ q=>q) λ_ _ q=>q
  rintro rfl;rcases hc with z|z
  ·rw[<-z,I.h] at e;cases e
  ·rw[I.h] at z;cases z
def qW(K:aH)(C S:V):Prop:=∀h:aI,K.In h->∃w q P x v d y i z j A D E G H I b k L M l e c m f n g o p r s t u a,
 h.get? C=U (Cu w q C P x v d y i z j A D E G H I b)/\h.get? S=U (Cu k L S M l e c m f n g o p r s t u a)/\
 e.contains (.type "BaseException")=ae/\(Y C::v).contains (.ref S)=ae
def Nc(K:aH)(n d:Nat)(S:V)(f:fe)(D:kz):bK:=λe c H'=>∃x C,e=.ref x/\c=U C/\qW K C S/\∀a:aM,a.length=n->
 f {a:=λb g=>D.a (b.set d Z) g,b:=λ_ _=>False} (a.set d<|U<|.c x) (av H' x<|sN x C)
def TF(K:aH)(n a:Nat)(S:V)(t:bK->fe)(b:fe):fe:=λD σ H=>t (Nc K n a S b D) D σ H
def Uu{n:al}{ie:Nat}{body d:List bV}{l:bV}{t:bK->fe}(a2:X.e=[])(hN:X.N.Nodup)(g:X.N[ie]?=U n)(c:X.env.scope.names.lookup n=U .local)(i:X.c=X.env::X.outer)(a3:X.env.frame=U X.env.locals)(a4:iH X Q)(a5:X.mg Q=U (.ref S))(hb:∀pins EB,g_ (uV X pins EB) body (t EB))(hH:∀pins x,g_ (wV X pins x) (l::d) tH)(hd:(Q==("__debug__":al))=ao:=by decide):ky X (.Try body [.ExceptHandler (U<|.Name Q np) (U n) (l::d) o] [] [] a1) (TF X.K X.N.length ie S t tH):=by
 intro pins s σ H D I h;refine wpAny_Try_except<|ic (hb pins _ [] s σ H D I.E5 h) (λf r q=>?_) (λe r q=>?_)
 ·have y:qX X pins D f r:=q.B
  cases f with
  |next=>exact BY y
  |brk=>exact y
  |cont=>exact y
  |ret u=>exact y
 obtain⟨x,C,T,j,R,rfl,w,hx,p,ox,hT,x',C',e1,e2,a6,k⟩:=q;cases e1;cases e2;have c1:=i;refine Tl (base:=X.base) (outer:=X.outer) (L:=X.env.locals) (by rw[<-i];exact w.a.j) (by rw[<-i];exact w.B2) a3 hx λh2 T2 A E a7=>?_;have I2:aw X pins j R {r with heap:=h2}:=w.C5 a7 (λb z=>by rw[i];exact z) ox p hT;have a8:r.heap.get? T2=Z:=aen A;have a9:q_ X pins T2:=w.C4 a2 a8;have b0:R T2=Z:=w.b.B A;refine wpAny_handleBy_cons (codeAny_handlers_test ?_) (by intro q;cases q);refine uO (X:=wV X pins x) (I2.C6 (x:=x)) a4 a5 ?_ hd;obtain⟨nm,q,d8,bs,bm,c2,sn,c3,ab,c5,dd,k0,k1,k2,k3,k5,b1,c6,y,N',c7,c8,b2,c9,b3,d0,c4,d1,d2,d3,d4,d5,d6,a0,hC,hS,b4,G⟩:=a6 h2 I2.A2;obtain⟨oe,vs,b5,b6,_⟩:=id E;refine Tn hC hS b5 b6 b4 G ?_;show iK _ _ _ _ _;refine codeAny_handlers_suite_as ?_;refine Tp E λh4 b7 b8=>?_;have I4:aw X pins j R {r with heap:=h4}:=I2.C5 (h':=h4) b8 (λb z=>aZ z (by simp)) ox p (λa e=>by cases e;exact(a9,b0));have I5:aw X pins j (av R x<|sN x C) {r with heap:=h4}:=I4.D8 p ox b7;refine zv (X:=wV X pins x) (I5.C6 (x:=x)) hN g (.inl c) (v:=.c x) O (λs6 I6=>?_)<|.inr c;refine ic (hH pins x [] s6 _ _ _ I6<|k j w.l) (λf s7 q7=>?_) λ_ _ z=>z.elim;cases f with
 |brk=>obtain⟨_,_,_,z⟩:=q7;exact z.elim
 |cont=>obtain⟨_,_,_,z⟩:=q7;exact z.elim
 |ret u=>obtain⟨_,_,_,_,_,z⟩:=q7;exact z.elim
 |next=>
  obtain⟨K,H7,I7,d7⟩:=q7;have M:aw X pins K H7 s7:=I7.E2 I.a.hd;show am _ _ (do bindName X.env n .none;adf X.env n o) _ _ s7;refine ag<|wpAny_bindName<|zv M hN g (.inl c) (v:=.g) O (λs8 I8=>?_)<|.inr c;obtain⟨m,hn,hl⟩:=id I8.d;have P:ie<K.length:=by rw[M.l];exact(cE.mp g).1
  obtain⟨u,_,lk⟩:=hl ie n .g g (by rw[Jg P])<|.inl c;have kn:X.env.kindOf n=U .local:=c;have hm:m n=U u:=by
   rcases lk with ⟨_,e⟩|⟨z,_⟩
   ·exact e
   ·rw[kn] at z;rcases z with z|z<;>cases z
  unfold adf;refine BW<|wpAny_unbindName_local kn hn hm (by rw[I.a.a];rfl) λh9 u9 b9 c0=>?_;have I9:=I8.E1 hN g hl b9 c0;rw[List.set_set] at I9;exact(_,H7,I9,d7)
end
def VS{K:aH}(c:(vO K C).isSome=ae)(d:nY K (.ref C) b=U (U a))(e:HQ K a "__get__"=U (U g))(f:HP K a=U ae):ad4 K C Z b=U (.bind g a):=by
 obtain⟨h,c⟩:=uk.mp c;unfold ad4;rw[c,Dh,d,Dh];simp[e,f]
structure qU(K:aH)(D:V):Prop where
 c:nY K (.ref D) "__getattribute__"=U (U<|.builtin "BaseException.__getattribute__")
 e:nY K (.ref D) "__getattr__"=U Z
 a:(vO K D).isSome=ae
 g:nY K (.ref D) "__class__"=U (U<|.builtin "object.__class__")
 b:HQ K (.builtin "object.__class__") "__get__"=U (U<|.builtin "getset_descriptor.__get__")
 tk:HP K (.builtin "object.__class__")=U ae
 d:tS K D (.type "object")=U ae
 f:tS K D (.type "BaseException")=U ae
section
variable{prog:aU}{w:aO}{A:bg}{E:Ω}{s:ai}{K:aH}{x D:V}{ox:aR}
def Tj{a:aa}{Q:Unit->ai->Prop}(c:qU K D)(X:K.In s.heap)(I:ym s.heap x ox D Z)(i:Q () s):am M A (CA "BaseException.__getattribute__" ([.ref x,a],[])) Q E s:=by
 obtain⟨j,g,d,t,k⟩:=s;have e:builtinKind "BaseException.__getattribute__"=U .slot:=δ
 have b:splitId "BaseException.__getattribute__"=U (adc ("BaseException") ("__getattribute__")):=δ
 have l:=F.args_bexc_ga (.ref x) a;have f:=I.type (M:=M);have h:=PySem.W.looks_mroIn (M:=M) X c.f;simp only[CA,e,b];refine ag ?_;unfold isInstance;refine ag<|f.at<|h.at ?_
 repeat(first|assumption|wp_step)
def Th{a:ga}{Q:t_->ai->Prop}(c:qU K D)(X:K.In s.heap)(I:ym s.heap x ox D Z)(b:Q (.done<|.ret<|.ref D) s):am (aE prog w) A (Builtin.«object.__getattribute__» ([.ref x,.str "__class__" a],[])) Q E s:=by
 obtain⟨e,g,d,t,f⟩:=s;have h:=VS c.a c.g c.b c.tk;have i:=I.type (M:=aE prog w);have j:=PySem.W.looks_find (M:=aE prog w) X I h;unfold Builtin.«object.__getattribute__»
 repeat(first|with_reducible refine ag<|i.at ?_|with_reducible refine ag<|j.at ?_|wp_step)
 exact PySem.W.class_get (s:=(e,g,d,t,f)) X I c.d<|aC b
def Ti{Q:Option aa->ai->Prop}(c:qU K D)(X:K.In s.heap)(I:ym s.heap x ox D Z)(h:Q (U<|.ref D) {s with toks:=s.toks+1}):am (aE prog w) A (HK (.ref x) "__class__") Q E s:=by
 obtain⟨b,g,d,t,e⟩:=s;have i:=I.type (M:=aE prog w);have j:=adz (M:=aE prog w) X c.c;have k:=adz (M:=aE prog w) X c.e;have f:=F.excAttr_ValueError;have l:=f.ga.bind<|.ref x;have a:(cR "BaseException.__getattribute__" == cR "object.__getattribute__")=ao:=δ
 unfold HK getAttrBy? getAttrBy;refine ag<|wpAny_mkText<|ag<|pv<|fz<|ag<|i.at<|ag<|j.at ?_;dsimp only;rw[au (by rw[a,pJ];decide)];unfold getAttrByItsOwn hookBefore;rw[aB<|show onTheHeap (.ref D)=ae from O];refine ag<|k.at ?_;refine ag<|pv<|fz ?_;unfold callGetattribute boundAndCalled;rw[sf,au eP,l];refine ag<|aC ?_;refine pu<|Cx f.ga.plain F.entry_bexc_ga<|Tj (s:=(b,g,d,t+1,e)) c X I<|Th (s:=(b,g,d,t+1,e)) c X I ?_;exact PySem.W.handed_on O<|aC h
end
def Vq{K:aH}{j:aR}(c:qU K D):PySem.W.KitX K (.ref x) (.ref D) (λh=>ym h x j D Z) where
 ty:=λ_ _ _ I=>I.type
 it:=λ_ _ X _=>by
  obtain⟨b,a⟩:=uk.mp c.a;unfold vO at a;split at a
  ·rename_i l m d f g
   intro r s t u k q;unfold isType loadHead;exact ag<|wpAny_loadPart (k _ _<|X _ _ g)<|aC q
  ·cases a
 ne:=λh o v p n w X i=>by
  obtain⟨b,a⟩:=uk.mp c.a;refine Bool.eq_false_iff.mpr λq=>?_;have e:D=o:=Value.ref.inj<|beq_iff_eq.mp q;subst e;unfold vO at a;split at a
  ·rename_i l m d f g
   have z:=(X _ _ g).symm.trans i;cases z
  ·cases a
 ca:=λX I k=>Ti c X I k
section
variable{X:aK}
def ME{d:aa}(i:∀u,cb c u->u=d)(j:qU X.K C)(e:lq X.K (.ref C) d=U b):io X (.builtin "isinstance") (λf H Q=>∃x,f=[.c x,c]/\H x=U (sN x C)/\Q (.e b) H):=by
 intro g s m H f n Q I r h;obtain⟨x,rfl,k,q⟩:=h;obtain⟨u,t,rfl,l,a⟩:=Eb r;obtain rfl:=i _ a;cases(show u=Y x from l);obtain⟨⟨o,p⟩,_⟩:=(show db X.prog X.w H s.heap x (sN x C) from I.b x _ k);exact PySem.W.kia_one (Vq j) I.A2 p e (λz=>nomatch z) λv=>(.e b,H,I.N _,O,q)
end
structure pT(k:Nat)(A:bg):Prop where
 a:A.depth+3*k+5<Cj
 un:A.units+16*k+200<cH
def eJ.W{k:Nat}(r:eJ k A)(v:Option aa):pT k (A.mark v):=(r.a,r.un)
def pT.F{k:Nat}(r:pT (k+1) A)(a:dD):pT k (A.deeper a):=
 (by have:=r.a;show A.depth+1+3*k+5<_;omega,by have:=r.un;show A.units+3+16*k+200<_;omega)
def pT.B{k:Nat}(r:pT k A):A.depth<Cj:=by have:=r.a;omega
def pT.units{k:Nat}(r:pT k A):A.units+64<cH:=by have:=r.un;omega
structure xb(P:aU)(w:aO)(K:aH)(mg:al->Option aa)(base:aI)(k:Nat)(f:V)(fd:cr)(ps:List al)(sp:ia):Prop where
 b:∀vs H Q E,sp vs H Q E->vs.length=ps.length
 a:∀(A:bg)(outer:List dD)(s:ai)(H:ac)(args:Args)(us:List aa)(vs:List af)(Q:aL)(E:bK),pT k A->pU P w K mg base A outer s H->vU s fd args (ps.zip us)->bW vs us->sp vs H Q E->
  iK (aE P w) A (.call (.ref f) args) (Nd aX outer P w H s Q E) s
abbrev wR(P:aU)(w:aO)(K:aH)(e:al->Option aa)(c:aI)(h:List al)(d:al)(a:eO)(f:V)(g:aa)(A:bg)(b:List dD)(s:ai)(H:ac)(E:bK):aK:=
 {iG aX P w K e c h d a f g A b s H E with b:=ao,a:=λ_ _=>False}
def VA{K:aH}{j:al->Option aa}{n g:List al}{s k:ai}{i:List af}(S:cQ n g a)(e:pU P w K j d o b s H)(m:i.length=g.length)(r:bW i l)(x:InCallC s s⁻¹ (rJ (iY c a s⁻¹ f h).kindOf (g.zip l) λ_=>Z) (ir (s⁻¹+1) a.names []) (rK (iY c a s⁻¹ f h).kindOf (g.zip l) λ_=>Z) k):aw (wR P w K j d n c a f h o b s H E) [] (kq n i) H k:=by
 have I:aw (iG aX P w K j d n c a f h {o with handled:=Z} b s H E) [] (kq n i) H k:=LS (A:={o with handled:=Z}) S O (e.d,e.a,e.bs,e.f,e.e,e.g,e.c,e.h) m r x;exact((I.a.e,I.a.a,I.a.f,I.a.l,I.a.d,I.a.n,I.a.has,I.a.k,(λz=>nomatch z),Rc e.d,I.a.q,I.a.r,I.a.bs,I.a.i,I.a.h,I.a.p,I.a.g,I.a.m),I.k,I.e,I.base,I.d,I.g,I.h,I.j,I.f,I.b,I.l)
def VR{P:aU}{w:aO}{K:aH}{X:al->Option aa}{h:aI}{k:Nat}{m d:al}{i:qr}{body:List bV}{a:eO}{dV kV G pm g ct oc:aa}{an od:Option V}{a0:Array (Option aa)}{sp:ia}(lk:K.lookup f=U (oc,od,.func<|qo m d i body a dV kV G pm an g ct,a0))(a1:CE K g d=ae)(S:cQ a5 ps a)(L:∀j H Q E,sp j H Q E->j.length=ps.length)(z:∀(A:bg)(c:List dD)(s:ai)(H:ac)(j:List af)(Q:aL)(E:bK),pT k (A.deeper<|iY d a s⁻¹ f g)->sp j H Q E->
   ∃t,g_ (wR P w K X h a5 d a f g A c s H E) body t/\t {a:=λ_ p=>Q .g p,b:=Q} (kq a5 j) H):
  xb P w K X h (k+1) f (qo m d i body a dV kV G pm an g ct) ps sp:=by
 refine(L,λA c s H a3 us j Q E hr M hb r R=>?_);have hl:=L _ _ _ _ R;have KX:K.In s.heap:=M.a.a.keeps λb o e=>(M.bs b o e).1;have a2:s.heap.NoLimit:=M.a.c.keeps λb o e=>(M.bs b o e).1;have C:∀y∈ps.zip us,a.names.lookup y.1=U .local\/(a.names.lookup y.1=U .cell/\((ir (s⁻¹+1) a.names []).lookup y.1).isSome=ae):=λ(n,v) hy=>by
  rcases S.d n (vZ hy).1 with q|q
  ·exact .inl q
  ·exact .inr (q,yi _ _ _<|.inl q)
 refine adq hr.B (KX _ _ lk) O S.e S.f O (ad5 KX a1)<|hb _ _ _ _ ?_;refine ac3 S.b C λa4 he s1 x=>?_;subst he;refine(a2.keeps x.toInCall.keep,codeAny_func ?_);obtain⟨t,ht,hq⟩:=z A c s H j Q E (hr.F _) R;have I:aw (wR P w K X h a5 d a f g A c s H E) [] (kq a5 j) H s1:=VA S M hl r x;refine ic (ht [] s1 (kq a5 j) H _ I hq) (λfl s' D=>?_) λe s' D=>D.elim;have T:∀{l:aM}{p:ac}{v:af}{u:aa},aw (wR P w K X h a5 d a f g A c s H E) [] l p s'->cb v u->Q v p->rf c P w H s Q u s':=
  λ{l p v u} a6 rv q=>(v,p,a6.k,a6.e,a6.base,a6.b,rv,q)
 cases fl with
 |ret u=>
  obtain⟨v,l,p,a6,rv,q⟩:=D;exact T a6 rv q
 |next=>
  obtain⟨l,p,a6,q⟩:=D;exact T (v:=af.g) (u:=bj) a6 O q
 |brk=>
  obtain⟨_,_,_,q⟩:=D;exact dm q
 |cont=>
  obtain⟨_,_,_,q⟩:=D;exact dm q
def bF.W{P:aU}{w:aO}{K:aH}{o:al->Option aa}{d:aI}{x b:al}{M i:List al}{k:Nat}{j:ia}(F:bF K x b h f p)(S:cQ M i (bB h))(l:∀e H Q E,j e H Q E->e.length=i.length)(g:∀(c:aa)(A:bg)(a:List dD)(s:ai)(H:ac)(e:List af)(Q:aL)(E:bK),pT k (A.deeper<|iY b (bB h) s⁻¹ f c)->j e H Q E->
   ∃t,g_ (wR P w K o d M b (bB h) f c A a s H E) (gf h) t/\t {a:=λ_ q=>Q .g q,b:=Q} (kq M e) H):xb P w K o d (k+1) f p i j:=by
 obtain⟨z,C,D,r,G,I,c,L,u,rfl,v,m⟩:=F.b;exact VR v m S l λA a s H e Q E y n=>g c A a s H e Q E y n
section
variable{X:aK}{k:Nat}{f:V}{fd:cr}{ps:List al}{sp:ia}{dvs:List af}{ds:List aa}{E:bK}{x:al}{p pos:bR}{e:bf}{es:List bf}{t:ff}
def UO(F:xb X.prog X.w X.K X.mg X.base k f fd ps sp)(n:pT k X.A)(o:iH X x)(v:X.mg x=U (.ref f))(w:vN X.K (.ref f)=ae)(y:eT X.K fd ps ds)(z:bW dvs ds)(A:je X (e::es) t)(g:(x==("__debug__":al))=ao:=by decide)(C:eM (e::es) X.env=(adc ao (dO e X.env))::eM es X.env:=by rfl)(i:(lU pos<|eM es X.env).any (·.1)=ao:=by rfl):bA X (.Call (.Name x p) (e::es) [] pos) (qI sp dvs E t):=by
 intro a s D H Q I h;refine tO<|uO I o v ?_ g;refine ad6 (h₀:=X.base) I.a.e.a w (bI (A pos a s D H _ I h) λb j (l,G,d,r,q)=>(d.A2,?_)) C i;have m:bW (l++dvs) (b++ds):=r.F z;have K:(b++ds).length=ps.length:=by rw[<-m.B];exact F.b _ _ _ _ q
 refine pu<|ka (F.a X.A X.c j G (b,[]) (b++ds) (l++dvs) Q E n d.B3 (y j b d.A2 K) m q) λr M c=>?_;cases r with
 |error e=>exact c.elim
 |ok L=>
  cases L with
  |ret u=>exact d.C9 c
  |next=>exact dm c
  |brk=>exact dm c
  |cont=>exact dm c
end
section
variable{X:aK}
abbrev Uo:af->List af->ac->aL->Prop:=λx b H Q=>∃(l:V)(a:List af)(y:af),x=.c l/\b=[y]/\H l=U (.a a)/\a.all lO=ae/\lO y=ae/\Q (.d<|a.countP λz=>kt z y) H
abbrev Un:af->List af->ac->aL->Prop:=λx b H Q=>∃(l:V)(a:List af)(y:af)(j:Nat),x=.c l/\b=[y]/\H l=U (.a a)/\a.all lO=ae/\lO y=ae/\j<1000/\((a[j]?).map λz=>kt z y)=U ae/\(∀m,m<j->((a[m]?).map λz=>kt z y)=U ao)/\Q (.d j) H
def Wd(h:bW a b)(f:a.all lO=ae):b.countP (ku x)=a.countP λy=>kt y x:=by
 induction h with
 |nil=>rfl
 |cons r t c=>
  rw[wj,iN] at f;rw[ahk,ahk,zW r f.1,c f.2]
def MP(h:bW a b)(f:a.all lO=ae):∀m:Nat,(b[m]?).map (ku x)=(a[m]?).map λy=>kt y x:=by
 induction h with
 |nil=>intro m;simp
 |cons r t c=>
  rw[wj,iN] at f;intro m;cases m with
  |zero=>simp[zW r f.1]
  |succ m=>simpa using c f.2 m
def Vh:sX X "list.count" Uo:=by
 intro b s t H x w v A Q I g i h;obtain⟨l,d,y,rfl,rfl,j,f,k,q⟩:=h;cases g;obtain⟨u,rfl,m⟩:=i.N;obtain⟨z,a,c,r,C,e⟩:=I.A4 j;refine nW aew (_,e,O) F.entry_list_count (F.args_list_count_2 _ _) (SeqAt.list_countAt l a.toArray c Z #[] u<|ku y) (e,λn o=>?_,?_)
 ·exact wJ m k r f n (by simpa using o)
 ·have p:a.toArray.toList.countP (ku y)=d.countP λz=>kt z y:=Wd r f
  exact(.d<|d.countP λz=>kt z y,H,I.N _,(_,by rw[<-p]),q)
def Vf:sX X "list.index" Un:=by
 intro o s L H x M v P Q I w A h;obtain⟨l,R,y,j,rfl,rfl,C,g,D,S,p,t,q⟩:=h;cases w;obtain⟨u,rfl,E⟩:=A.N;obtain⟨z,a,c,r,T,e⟩:=I.A4 C;have i:=(MP (x:=y) r g j).trans p;have b:j<a.toArray.size:=by
  rcases oh j a.length with q|q
  ·simpa using q
  ·rw[nC q] at i;cases i
 have d:∀(m:Nat)(f:m<a.toArray.size),(a[m]?).map (ku y)=U (ku y a.toArray[m]):=λm f=>by
  rw[cw (by simpa using f)];rfl
 have k:(j:Int)<2 ^ 63-1:=by
  have p:(j:Int)<1000:=ω
  have t:(1000:Int)<2 ^ 63-1:=ξ
  omega
 refine nW aeu (_,e,O) F.entry_list_index (F.args_list_index_2 _ _) (SeqAt.list_indexAt l a.toArray c Z #[] u (ku y) j b k ?_ ?_) (e,λG K=>?_,?_)
 ·exact ca<|(d j b).symm.trans i
 ·intro m f n
  exact ca<|(d m f).symm.trans<|(MP (x:=y) r g m).trans<|t m n
 ·exact wJ E D r g G (by simpa using K)
 ·exact(.d j,H,I.N _,(_,O),q)
end
def Ua{K:aH}(E:jK K C kU "ValueError.__new__"=ae)(G:jK K S kU "ValueError.__new__"=ae)(m:tS K C (.ref S)=U ae):qW K C S:=by
 intro h X;obtain⟨H,a4,I,L,M,d,P,l,Q,n,R,T,k1,k2,k3,k5,mN,_,a0,e⟩:=EI X E;obtain⟨o,N',p,q,r,c,s,f,t,i,u,v,w,x,y,A,a1,_,j,k⟩:=EI X G;refine(I,L,a4,M,H,d,P,l,Q,n,R,T,k1,k2,k3,k5,_,p,q,N',r,o,c,s,f,t,i,u,v,w,x,y,A,_,(e h X).1,(k h X).1,j _ ξ,?_);have g:=(e h X).1;unfold tS at m;obtain⟨cd,a,b⟩:=Option.bind_eq_some_iff.mp m;unfold vO at a;split at a
 ·rename_i c' d' a2 a3 ho
  cases a;have z:=(X _ _ ho).symm.trans g;injection z with z
  have D:=gD Obj.data z;injection D with D
  subst D;split at b
  ·cases b
  ·exact ca b
 ·cases a
def Wk{K:aH}{n:String}(q:jK K C a n=ae):(vO K C).isSome=ae:=by
 unfold jK at q;unfold vO;split at q
 ·rename_i b;rw[b];rfl
 ·cases q
def u_(H:ac)(c:V)(a:al):Prop:=∃b d t,H c=U (.e b<|.h 0)/\b.data=.fields d/\d[1]?=U (.str a t)
def gX(H:ac)(P:V)(a:bR)(b:al):Prop:=
 H P=U (.d #[])\/∃c,H P=U (.d #[dY a.line,dY a.col,.ref c])/\u_ H c b
def iS(H a:ac):Prop:=∀b o,(∀c,o≠cP.d c)->H b=U o->a b=U o
def iS.A0(H:ac):iS H H:=λ_ _ _ h=>h
def iS.N{H d e:ac}(a:iS H d)(b:iS d e):iS H e:=λc o n h=>b c o n<|a c o n h
def aQ.A4(a:aQ H b):iS H b:=λc o _ h=>a c o h
def u_.B(x:u_ H c q)(a:iS H b):u_ b c q:=
 let ⟨d,f,t,e,r⟩:=x;(d,f,t,a _ _ (λ_ z=>nomatch z) e,r)
def gX.B(x:gX H P b q)(a:aQ H d):gX d P b q:=by
 rcases x with e|⟨c,e,k⟩
 ·exact .inl<|a _ _ e
 ·exact .inr (c,a _ _ e,k.B a.A4)
def gX.J(x:gX H P b q)(a:iS H d)(k:∀f,H P=U (.d f)->d P=U (.d f)):gX d P b q:=by
 rcases x with e|⟨c,e,g⟩
 ·exact .inl<|k _ e
 ·exact .inr (c,k _ e,g.B a)
def uX(H:ac)(f:V)(a:al)(b:qr)(body:bf)(e:eO)(y:al)(g:V):Prop:=
 ∃h d c,H f=U (.e (HR "<lambda>" a b body e [(adc y g)] h d c)<|.h 0)/\u_ H d a
def uX.B{body:bf}{i:V}(x:uX H f b c body h y i)(a:iS H g):uX g f b c body h y i:=
 let ⟨j,l,d,e,k⟩:=x;(j,l,d,a _ _ (λ_ z=>nomatch z) e,k.B a)
section
variable{X:aK}{pins:Ψ}{σ:aM}{H:ac}{s:ai}
def aw.E6(I:aw X pins σ H s)(x:u_ H c q):s.heap.CodeRec (.ref c) q:=by
 obtain⟨a,b,t,e,d,f⟩:=x;exact(c,a,b,t,O,(I.b _ _ e).1,d,f)
def wK(X:aK)(A:bg)(s:ai)(H:ac)(f:V)(a:al)(b:eO)(p y:al)(c d:V):aK where
 prog:=X.prog
 w:=X.w
 K:=X.K
 mg:=X.mg
 base:=X.base
 A:=A.deeper<|CD a b s⁻¹ f (.ref d) [(adc y c)]
 N:=[p,y]
 d:=s
 h:=H
 env:=CD a b s⁻¹ f (.ref d) [(adc y c)]
 outer:=X.c
 c:=CD a b s⁻¹ f (.ref d) [(adc y c)]::X.c
 e:=[]
 b:=X.b
 g:=λ_=>ao
 f:=[]
 a:=λ_ _=>False
structure EU(p y:al)(sc:eO):Prop where
 a:sc.kind=.function
 e:sc.isCoroutine=ao
 f:sc.isGenerator=ao
 c:sc.names.lookup p=U .local
 d:sc.names.lookup y=U .free
 b:∀x∈sc.names,x.2≠.cell
 g:∀x,sc.names.lookup x=U .free->x=y
def LK{K:qr}{body:bf}{iy:Nat}{u:aa}(I:aw X pins σ H s)(D:pU X.prog X.w X.K X.mg X.base A X.c s H)(hA:A.handled=X.A.handled)(hd:A.depth<Cj)(L:uX H f d K body C y l)(S:EU p y C)(hc:X.env.cells.lookup y=U l)(hN:X.N[iy]?=U y)(a3:σ[iy]?=U (U vy))(hv:X.env.kindOf y=U .cell\/X.env.kindOf y=U .free)(hb:∀pm w P,yf (yh "<lambda>" d K body C [(adc y l)] pm (.ref w) P) ([u],[])=bH [(adc p u)])(hu:cb va u)(R:∀w,bA (wK X A s H f d C p y l w) body te)(h:te [U va,U vy] H Q):iK (aE X.prog X.w) A (.call (.ref f) ([u],[])) (λr s'=>∃v,r=.ok (.ret v)/\rf X.c X.prog X.w H s Q v s') s:=by
 obtain⟨pm,w,P,ef,ec⟩:=L;have hf:=(I.b _ _ ef).1;have a4:=I.E6 ec;obtain⟨m,hm,hl⟩:=I.d;obtain⟨uy,ry,ly⟩:=hl iy y vy hN a3<|hv.elim (λz=>.inr<|.inl z) λz=>.inr<|.inr z;have T:s.heap.IsCell l (U uy):=by
  rcases ly with ⟨k,_⟩|⟨_,c,e1,e2⟩
  ·rcases hv with z|z<;>(rw[k] at z;cases z)
  ·rw[hc] at e1;cases e1;exact e2
 have a0:H l=Z:=I.j y l hc;refine PySem.W.kla_callFunE hd hf O S.e S.f O a4 ?_;rw[hb pm w P];refine aC<|wpAny_newFunctionEnv S.b (λx n=>by rw[fu.mp n];exact S.c) (λt a5 a6=>?_) S.a;have j:∀b o,s.heap.get? b=U o->t.get? b=U o:=λb o e=>a6.extBut b o (ck<|bT e)<|bJ _ e;refine(I.D5.keeps j,?_);show iK _ _ (.expr body<|CD d C s⁻¹ f (.ref w) [(adc y l)]) _ _;have E:∀x c,(CD d C s⁻¹ f (.ref w) [(adc y l)]).cells.lookup x=U c->x=y/\c=l:=λx c e=>by
  have e':([(adc y l)]:List (al×V)).lookup x=U c:=e;rw[kM] at e';cases n:x==y with
  |true=>rw[n] at e';cases e';exact(yU n,O)
  |false=>rw[n] at e';cases e'
 have a2:([(adc y l)]:List (al×V)).lookup y=U l:=by rw[kM,beq_self_eq_true]
 have g:t.IsCell l (U uy):=by
  obtain⟨o,e1,e2⟩:=T;exact(o,j _ _ e1,e2)
 have a7:aw (wK X A s H f d C p y l w) [] [U va,U vy] H {s with heap:=t,toks:=s.toks+[(adc p u)].length}:=by
  have a1:∀b:V,b∉(wK X A s H f d C p y l w).e:=λb z=>aZ (show b∈([]:List V) from z) (by simp);refine((D.a,S.a,O,O,bc _,λa b c G M=>?_,λx n=>?_,λx c h _=>(by cases h),λhc=>?_,Rc D.d,.inr (O,O),λb z=>aZ z<|a1 b,D.bs,D.f,λb _ _=>a1 b,λb z=>aZ z<|a1 b,D.e,D.g),
   O,D.h,mU.B j,(_,a5,λi x v G M h3=>?_),λx c h=>?_,D.c.B<|bc _,λx c h=>?_,λp hp=>aZ (show p∈([]:Ψ) from hp) (by simp),D.c.J j,O)
  ·exact(E _ _ G).1.trans (E _ _ M).1.symm
  ·rcases n with n|n
   ·exact aZ O<|S.b _<|nV<|show C.names.lookup x=U .cell from n
   ·obtain rfl:=S.g x n
    exact(l,a2)
  ·exact hA.trans<|I.a.hd hc
  ·match i,G,M with
   |0,G,M=>
    obtain rfl:=ca G;obtain rfl:=ca<|ca M;exact(u,hu,.inl (S.c,by simp))
   |1,G,M=>
    obtain rfl:=ca G;obtain rfl:=ca<|ca M;exact(uy,ry,.inr (.inr S.d,l,a2,g))
   |i+2,G,M=>exact nomatch (show(Z:Option al)=U x from G)
  ·obtain⟨rfl,rfl⟩:=E _ _ h
   exact(_,g)
  ·obtain⟨rfl,rfl⟩:=E _ _ h
   exact a0
 refine PySem.W.kla_codeExpr<|ic (R w [] _ _ H Q a7 h) (λv s' hs=>?_) λ_ _ z=>dm z;obtain⟨v',H',J',rv,q⟩:=hs;exact(v,O,v',H',J'.k,J'.e,J'.base,J'.b,rv,q)
end
def oZ(c:al->Option aa)(a:aI):Prop:=∃b o,c "__builtins__"=U (.ref b)/\b≠tQ/\b≠ji/\a.get? b=U o/\o.cls=.type "module"/\o.dict=U tQ/\o.data=.plain
def TR(P:V)(a:al)(c:qr)(body:bf)(h:eO)(d:bR)(y:al)(i:V):bb:=λ_ H Q=>gX H P d a/\∀f e,iS H e->(∀b g,b≠P->H b=U (.d g)->e b=U (.d g))->gX e P d a->uX e f a c body h y i->Q (.c f) e
section
variable{X:aK}{pins:Ψ}{σ:aM}{H:ac}{s:ai}
def Vp{P i:V}{x fo:aR}{tk:Nat}{f:Array aa}(I:aw X pins σ H s)(j:H P=U (.d w))(M:Io P s.heap c)(k:s⁻¹<=i)(l:i<c.objs.size)(m:c.get? i=U x)(p:c.get? P=U (CB<|w++f))(q:fo.isFreed=ao):aw X pins σ (av (av (av H P<|.d<|w++f) i<|.e x<|.h 0) c.objs.size<|.e fo<|.h 0) {s with heap:=c.push fo,toks:=tk}:=by
 have y:∀b o,b≠P->s.heap.get? b=U o->(c.push fo).get? b=U o:=λb o n e=>bJ _<|M b o n e;have Q:P<s⁻¹:=I.b.F j;have r:∀{b o},s.heap.get? b=U o->b≠i/\b≠c.objs.size:=λe=>(ck<|fB (bT e) k,ck<|rZ (fB (bT e) k) l);have a:∀{b o},H b=U o->b≠i/\b≠c.objs.size:=λe=>(ck<|fB (I.b.F e) k,ck<|rZ (fB (I.b.F e) k) l);have C:∀{b},H b=Z->b≠P:=λn z=>by rw[z,j] at n;cases n
 have g:∀{b},b≠P->b≠i->b≠c.objs.size->(av (av (av H P<|.d<|w++f) i<|.e x<|.h 0) c.objs.size<|.e fo<|.h 0) b=H b:=λR S T=>by rw[a_ T,a_ S,a_ R]
 have a0:i≠c.objs.size:=ck l;have D:P≠i:=(a j).1;have E:P≠c.objs.size:=(a j).2;refine I.A6 (ch:=[]) O (λb o e n _ _=>y b o (C n) e,λb o e n _ _=>(o.slots,y b o (C n) e),λb o e n _=>?_,λb o e _=>?_,λb xs e=>?_,λb o u e=>?_,λb qs e=>?_) (λb u e=>?_) I.e (λb z=>nomatch z)
 ·rw[g (C n) (r e).1 (r e).2];exact n
 ·by_cases t:b=P
  ·subst t;exact(_,bJ _ p)
  ·exact(o,y b o t e)
 ·rw[g (λz=>by rw[z,j] at e;cases e) (a e).1 (a e).2];exact e
 ·rw[g (λz=>by rw[z,j] at e;cases e) (a e).1 (a e).2];exact e
 ·by_cases t:b=P
  ·subst t
   rw[j] at e;cases e;exact(f,by rw[a_ E,a_ D,aD])
  ·exact(#[],by rw[g t (a e).1 (a e).2,e];simp)
 ·by_cases K:b=c.objs.size
  ·subst K
   rw[aD] at e;cases e;exact(dv _ q,fo,dv _ q)
  ·rw[a_ K] at e
   by_cases L:b=i
   ·subst L
    rw[aD] at e;cases e;exact(bJ _ m,x,bJ _ m)
   ·rw[a_ L] at e
    by_cases G:b=P
    ·subst G
     rw[aD] at e;cases e;exact bJ _ p
    ·rw[a_ G] at e
     refine(I.b b u e).B (λd v A h=>y d v ?_ h) (λd h=>?_) λd xs h=>?_
     ·rcases A with rfl|A
      ·exact G
      ·exact λz=>by rw[z,j] at A;cases A
     ·rw[g (λz=>by rw[z,j] at h;cases h) (a h).1 (a h).2];exact h
     ·rw[g (λz=>by rw[z,j] at h;cases h) (a h).1 (a h).2];exact h
def Lu{body:bf}{pos:bR}(hC:CF X.base c P)(i:X.env.code=.ref c)(M:oZ X.mg X.base)(w:Cz p X.env=bH [(adc y r)])(x:Qo args X.env=(adc ([]) ([])):=by rfl):bA X (.Lambda args body p pos) (TR P (X.env.qual++"<lambda>") args body p pos y r):=by
 intro pins s σ H Q I (ht,h);refine PySem.W.kla_eval x ?_;have A:s.heap.Ns ji X.mg:=I.a.e.b.keeps I.bk;have C:=hC.keeps I.bk;obtain⟨bm,ob,b1,b2,b3,b4,b5,b6,b7⟩:=M;have hB:∀{u},H P=U (.d u)->s.heap.BuiltinsAt X.mg P:=λ{u} g=>(bm,ob,b1,b2,b3,(λz=>by have e:=(I.bs _ _ b4).2;rw[z,g] at e;cases e),I.bk _ _ b4,b5,b6,b7);have j:∀{u},H P=U (.d u)->s.heap.get? P=U (CB u):=λg=>I.b _ _ g;have R:∀{u},H P=U (.d u)->ji≠P:=λ{u} g z=>by
  obtain⟨o,es,ep,e,d,_⟩:=I.a.e.b;have e':=(I.bs _ _ e).2;rw[z,g] at e';cases e'
 rcases ht with g|⟨a,g,D⟩
 ·refine PySem.W.kla_makeFunction w I.a.f A i C (j g) trivial O (R g) (hB g) λa f m L hx k q E S=>?_
  obtain⟨a4,T,vs,t,e2,a0,hd,hv⟩:=E;cases e2;have a1:P≠a:=ck<|fB (I.b.F g) k;have a2:P≠m.objs.size:=ck<|rZ (fB (I.b.F g) k) q;have a3:a≠m.objs.size:=ck q;have a5:=Vp (tk:=L) (fo:=HR "<lambda>" (X.env.qual++"<lambda>") args body p [(adc y r)] ((X.mg "__name__").getD .none) a f) I g hx k q a0 S O;have v:∀b o,b≠P->H b=U o->(av (av (av H P<|.d<|#[]++#[dY pos.line,dY pos.col,.ref a]) a<|.e T<|.h 0) m.objs.size<|.e (HR "<lambda>" (X.env.qual++"<lambda>") args body p [(adc y r)] ((X.mg "__name__").getD .none) a f)<|.h 0) b=U o:=λb o n e=>by
   have l:=I.b.F e;rw[a_<|ck<|rZ (fB l k) q,a_<|ck<|fB l k,a_ n];exact e
  have G:u_ (av (av (av H P<|.d<|#[]++#[dY pos.line,dY pos.col,.ref a]) a<|.e T<|.h 0) m.objs.size<|.e (HR "<lambda>" (X.env.qual++"<lambda>") args body p [(adc y r)] ((X.mg "__name__").getD .none) a f)<|.h 0) a (X.env.qual++"<lambda>"):=(T,vs,t,by rw[a_ a3,aD],hd,hv);refine(.c m.objs.size,_,a5,O,h _ _ (λb o n e=>v b o (λz=>by rw[z,g] at e;cases e;exact n _ O) e) (λb ps n e=>v b _ n e) (.inr (a,by rw[a_ a2,a_ a1,aD];simp,G)) (_,a,f,aD,G))
 ·have hf:codeAmong pos (#[dY pos.line,dY pos.col,.ref a]:Array aa).toList=U (.ref a):=by simp[codeAmong,dY]
  refine PySem.W.kla_makeFunctionHit w I.a.f A i C (j g) trivial hf (hB g) λf m L hk K=>?_;have a5:aw X pins σ (av H m.objs.size<|.e {cls:=.type "function",data:=.func<|yh "<lambda>" (X.env.qual++"<lambda>") args body p [(adc y r)] ((X.mg "__name__").getD .none) (.ref a) f}<|.h 0) {s with heap:=m.push {cls:=.type "function",data:=.func<|yh "<lambda>" (X.env.qual++"<lambda>") args body p [(adc y r)] ((X.mg "__name__").getD .none) (.ref a) f},toks:=L}:=
   I.F (λb o e=>bJ _<|hk b o e) K (dv _ O,_,dv _ O)
  have hn:H m.objs.size=Z:=I.b.B K;have v:=aQ.B (o:=cP.e {cls:=.type "function",data:=.func<|yh "<lambda>" (X.env.qual++"<lambda>") args body p [(adc y r)] ((X.mg "__name__").getD .none) (.ref a) f}<|.h 0) hn;exact(.c m.objs.size,_,a5,O,h _ _ v.A4 (λb ps _ e=>v b _ e) (gX.B (.inr (a,g,D)) v) (_,a,f,aD,D.B v.A4))
end
def Vo{K:aH}{k:Nat}{x:al}{c:ai}{vs:List aa}(KX:K.In c.heap)(S:c.heap.Ns ji E)(g:c.heap.Ns tQ mb)(a9:∀x:al,x≠"__name__"->mb x=ig x)(a1:c.heap.NoLimit)(hg:c.gens=#[])(b0:∃bm G,E "__builtins__"=U (.ref bm)/\bm≠tQ/\c.heap.get? bm=U G/\G.cls=.type "module"/\G.dict=U tQ/\G.data=.plain)(hT:ad7 f c.heap)(b7:Qv K=ae)(ha:c.heap.get? a=U {cls:=.type "list",data:=.seq vs.toArray})(hi:fU vs ns)(hl:ns.length<=bG)(hr:eJ k vJ)(F:∀t:aI,K.In t->t.Ns ji E->oZ E t->CG f t->bD P w K E t CX k fa fd [x] sp)(T:∀(s:ai)(u:aa),vU s fd ([u],[]) [(adc x u)])(b8:∀H:ac,bx K H a (ns.map af.d)->(∀q∈f,H q.2=U (.d #[]))->sp [.c a] H (λv _=>v=.e ae) λ_ _ _=>False)(b9:∀H e y,CX [] H c (λ_ _ _=>False) e y->False):iK (aE P w) vJ (.call (.ref fa) ([.ref a],[])) (λr y=>r=.ok (.ret<|.bool ae)/\OldK c.heap y.heap/\y.os=c.os/\qt y.gens) c:=by
 have rv:=Kt hi;have a2:=hi.length;have j:∀{b},b∈f.map (·.2)->c.heap.get? b=U (CB #[]):=λg=>by
  obtain⟨q,I,rfl⟩:=bq.mp g;exact(hT q I).2
 have aT:a∉f.map (·.2):=λz=>by
  have e:=j z;rw[ha] at e;cases e
 have KT:∀{b},b∈f.map (·.2)->K.lookup b=Z:=λ{b} g=>by
  cases e:K.lookup b with
  |none=>rfl
  |some o=>
   have A:=KX b o e;rw[j g] at A;have h2:=kN.mp b7 (adc b o)<|PySem.W.mem_of_lookupK e;obtain rfl:=ca A;exact aZ (show ao=ae from h2) eP
 have L:∀H:ac,(∀b,b∉f.map (·.2)->H b=Z\/∃o xs,H b=U (.e o<|.a xs))->(∀b,b∈f.map (·.2)->H b=U (.d #[]))->bx K H a (ns.map af.d)->fP P w H c.heap->(∀b,H b≠Z->b=a\/b∈f.map (·.2))->(H a≠Z->K.lookup a=Z)->
   iK (aE P w) vJ (.call (.ref fa) ([.ref a],[])) (λr y=>r=.ok (.ret<|.bool ae)/\OldK c.heap y.heap/\y.os=c.os/\qt y.gens) c:=by
  intro H hO a3 hS a4 hA hK;have i:∀{b:V}{o:aR},c.heap.get? b=U o->H b=Z->(nM c.heap H).get? b=U o:=λe n=>VL e n;have X:∀{b:V}{o:aR},c.heap.get? b=U o->(∀xs n,o.data≠.seq xs n)->o≠CB #[]->H b=Z:=λ{b o} e d d2=>by
   cases q:H b with
   |none=>rfl
   |some u=>
    rcases hA b (by rw[q];simp) with e'|e'
    ·subst e'
     rw[ha] at e;cases e;exact aZ O<|d _ _
    ·rw[j e'] at e;cases e
     exact aZ O d2
  have C:∀{b:V}{m:al->Option aa},c.heap.Ns b m->(nM c.heap H).Ns b m:=λ{b m} (o,es,ep,e,d,r)=>(o,es,ep,i e (X e (λ_ _ z=>by rw[d] at z;cases z) λz=>by rw[z] at d;cases d),d,r);have a5:K.In (nM c.heap H):=λb o e=>i (KX b o e) (by
   cases q:H b with
   |none=>rfl
   |some u=>
    rcases hA b (by rw[q];simp) with e'|e'
    ·subst e'
     rw[hK (by rw[q];simp)] at e;cases e
    ·rw[KT e'] at e;cases e)
  have hM:Ae K E (nM c.heap H):=(a5,C S,(mb,C g,a9),let ⟨mc,h1,h2⟩:=a1;(mc,C h1,h2));have e0:pU P w K E (nM c.heap H) vJ [] c H:=(O,hM,λb o e=>U_ e,yG<|VK _ _,trivial,λb g=>aZ (show b∈([]:List V) from g) (by simp),a4,.of_eq hg);obtain⟨bm,G,b1,b2,b3,b4,b5,b6⟩:=b0;have c0:bm≠ji:=λq=>by
   obtain⟨o,es,ep,e,hd,_⟩:=S;rw[q,e] at b3;cases b3;rw[hd] at b6;cases b6
  have c1:oZ E (nM c.heap H):=(bm,G,b1,b2,c0,i b3 (X b3 (λ_ _ z=>by rw[b6] at z;cases z) λz=>by rw[z] at b6;cases b6),b4,b5,b6);have c2:CG f (nM c.heap H):=.of λq I=>by
   obtain⟨o,c3,a6,tf,a0,tg,c4,a7,tt,A,r1,r2,r⟩:=(hT q I).1;exact(o,c3,a6,tf,a0,tg,c4,a7,tt,i A (X A (λ_ _ z=>by rw[r2] at z;cases z) λz=>by rw[z] at r1;cases r1),r1,r2,r)
  refine ka ((F _ a5 (C S) c1 c2).a vJ [] c H ([.ref a],[]) [.ref a] [.c a] _ _ hr e0 (T c<|.ref a) (.cons O .nil)<|b8 H hS λq I=>a3 _<|Ru I) λr y h=>?_;cases r with
  |error e=>exact(b9 H e y h).elim
  |ok fl=>
   cases fl with
   |next=>exact dm h
   |brk=>exact dm h
   |cont=>exact dm h
   |ret u=>
    obtain⟨v,H',os,a8,un,M,r',q⟩:=h;have q':v=.e ae:=q;subst q';obtain rfl:u=dS ae:=r';have Q:∀b o,b∉f.map (·.2)->c.heap.get? b=U o->y.heap.get? b=U o:=λb o g e=>by
     cases q:H b with
     |none=>exact un.a b o e q (by intro z;exact aZ (show b∈([]:List V) from z) (by simp)) (by simp)
     |some u=>
      rcases hO b g with z|⟨G,xs,z⟩
      ·rw[q] at z;cases z
      ·have z2:=un.f b G _ z
       obtain⟨A,_⟩:=a4 b _ z;obtain⟨e2,_⟩:=M b _ z2;rw[e] at A;cases A;exact e2
    have R:∀b,b∈f.map (·.2)->∃l,y.heap.get? b=U (CB l):=λb g=>by
     obtain⟨l,e⟩:=un.e b _<|a3 b g;exact(#[]++l,M b _ e)
    refine(O,(λb o e=>?_,λb o e=>?_),os,a8)
    ·by_cases g:b∈f.map (·.2)
     ·obtain⟨l,e2⟩:=R b g
      have A:=j g;rw[e] at A;cases A;obtain⟨q,I,rfl⟩:=bq.mp g;exact .inr<|.inl (((hT q I).1.tab (hT q I).2).isCodeTable,O,#[],l,O,by simpa using e2)
     ·exact .inl<|Q b o g e
    ·by_cases g:b∈f.map (·.2)
     ·obtain⟨l,e2⟩:=R b g
      exact(_,e2)
     ·exact(o,Q b o g e)
 cases hk:K.lookup a with
 |some o=>
  have e:=KX a o hk;rw[ha] at e;cases e;refine L (λb=>if b∈f.map (·.2) then U (.d #[]) else Z) (λb g=>.inl<|au g) (λb g=>aB g) (.inr (_,vs.toArray,_,hk,O,O,O,by rw[cz,a2];exact hl,by simpa using rv)) (λb u z=>?_) (λb z=>?_) λz=>aZ (au aT) z
  ·by_cases g:b∈f.map (·.2)
   ·have D:=(aB g).symm.trans z
    cases D;exact j g
   ·have D:=(au g).symm.trans z
    cases D
  ·by_cases g:b∈f.map (·.2)
   ·exact .inr g
   ·exact aZ (au g) z
 |none=>
  refine L (λb=>if b∈f.map (·.2) then U (.d #[]) else if b=a then U (.e {cls:=.type "list",data:=.seq vs.toArray}<|.a<|ns.map af.d) else Z) (λb g=>?_) (λb g=>aB g) (.inl<|.inr ({cls:=.type "list",data:=.seq vs.toArray},(au aT).trans<|aB O)) (λb u z=>?_) (λb z=>?_) λ_=>hk
  ·by_cases p:b=a
   ·exact .inr (_,_,(au g).trans<|aB p)
   ·exact .inl<|(au g).trans<|au p
  ·by_cases g:b∈f.map (·.2)
   ·have D:=(aB g).symm.trans z
    cases D;exact j g
   ·by_cases p:b=a
    ·have D:=((au g).trans<|aB p).symm.trans z
     cases D;subst p;exact(ha,by rw[aA];exact hl,vs,_,rv,ha)
    ·have D:=((au g).trans<|au p).symm.trans z
     cases D
  ·by_cases g:b∈f.map (·.2)
   ·exact .inr g
   ·by_cases p:b=a
    ·exact .inl p
    ·exact aZ ((au g).trans<|au p) z
def Tq{l:yj}{n k:Nat}{i:List al}{XP:(al->Option aa)->aI->Prop}{X:aO->aI->Prop}{d:DefRec}{K:Ih->aH}{CX:kZ}{sp:aO->ia}{x:al}{tabs:List (V×V)}{xs:List al}(hn:l.most=U n)(D:n<=bG)(E:d.params.defaults=[])(hr:eJ k vJ)(hY:∀(w:aO)(h:aI),X w h->(K w.params).In h)(I:∀p,Qv (K p)=ae)(hx:∀p,xs.map (nX<|K p)=tabs.map U)(r:∀x∈xs,((Rf q).find? (λe=>e.name==x)).isSome=ae)(F:∀(w:aO)(j:al->Option aa)(A:V)(h:aI),(K w.params).In h->h.Ns ji j->j d.name=U (.ref A)->
   ∃L:cr,(∀(s:ai)(u:aa),vU s L ([u],[]) [(adc x u)])/\
    ∀b:aI,(K w.params).In b->b.Ns ji j->oZ j b->CG tabs b->bD l.prog w (K w.params) j b CX k A L [x] (sp w))
  (M:∀(w:aO)(H:ac)(a:V)(C:List Int),C.length<=n->bx (K w.params) H a (C.map af.d)->(∀q∈tabs,H q.2=U (.d #[]))->sp w [.c a] H (λv _=>v=.e ae) λ_ _ _=>False)
  (P:∀(H:ac)(s:ai)(e:aa)(Q:ai),CX [] H s (λ_ _ _=>False) e Q->False) :
  QA q i XP X l.row.toRowW d [] (λf vs=>gv f vs):=by
 refine acx hn E λw a0 c j mb A o pm cd a1 a vs C G a3 ho hd a2 R z m g hg=>?_;have S:=hY w _ a3;obtain⟨L,hb,hF⟩:=F w j A _ S G.T.g R;have hT:ad7 tabs c.heap:=λt ht=>by
  have h1:U t∈xs.map (nX<|K w.params):=by rw[hx];exact Ru ht
  obtain⟨y,hy,e⟩:=bq.mp h1;obtain⟨dr,T⟩:=uk.mp<|r y hy;exact PySem.W.tab_of G.T S T e
 exact Vo S G.T.g G.T.b G.T.builtins G.T.nolimit hg G.T.bmain hT (I _) z m (dE g D) hr hF hb (λH hS hH=>M w H a C g hS hH) λH e Q=>P H c e Q
def mf(a:List Int):Ξ:=a.mapIdx λi n=>[n,(i:Int)]
def Sa(a:List Int):(mf a).length=a.length:=by unfold mf;rw[List.length_mapIdx]
def DG(a:List Int)(i:Nat):(mf a)[i]?=(a[i]?).map λn=>[n,(i:Int)]:=by unfold mf;rw[List.getElem?_mapIdx]
section
variable{prog:aU}{w:aO}{A:bg}{E:Ω}{s:ai}{good:aI->Prop}{us vs:List aa}{ns:List Int}
noncomputable def nG(vs:List aa)(p:cK):Int:=(lof vs ((dk vs.length).map λi:Nat=>[(i:Int)]) p.2).headD 0
def JH(f:vs.Nodup){p:cK}{i:Nat}(h:vs[i]?=U p.2):nG vs p=i:=by
 unfold nG;have g:=(cE.mp h).1;rw[pL (us:=vs) (ls:=(dk vs.length).map λi:Nat=>[(i:Int)]) (l:=[(i:Int)]) (λa b u n m c j k d=>by
  have e:a=b:=(wd (cE.mp c).1 f).mp<|c.trans j.symm;subst e;rw[k] at d;exact ca d) h (by rw[cm,yN g];rfl)]
 rfl
def Sb(a6:oC prog w A good us (ns.map λn=>[n]))(K:us.length=vs.length)(a4:vs.length<64)(nd:vs.Nodup)(hg:good s.heap){G:Unit×dL->jy t_}(h:∀a,pM (mf ns) vs ((aS a).map (·.2)).toList->(aS a).size=vs.length->vW a=Z->am (aE prog w) A (G (adc agf a)) P E s):am (aE prog w) A (if vs.toArray.size<2 then(bH IP >>= λf=>(if vs.toArray.size<2 then bH () else ug).run (uj f (us.toArray.zip vs.toArray) #[] 7 Z) >>= G)
   else(Rh us.toArray >>= λf=>(if vs.toArray.size<2 then bH () else ug).run (uj f (us.toArray.zip vs.toArray) #[] 7 Z) >>= G)) P E s:=by
 have d:(us.toArray.zip vs.toArray).size=vs.length:=by rw[aib,cz,cz];omega
 have M:ns.length=vs.length:=by have:=a6.a;rw[aA] at this;omega
 by_cases o:vs.toArray.size<2
 ·rw[aB o]
  refine ag<|aC ?_;rw[aB o];rw[acy];refine ag<|aC ?_
  try dsimp only
  rw[cz] at o;exact h (uj IP (us.toArray.zip vs.toArray) #[] 7 Z) (JN (by rw[Sa];exact M) K o) d O
 ·rw[au o,au o]
  rw[cz] at o;obtain⟨Q,k1,k2⟩:=a6.c ω;refine ag<|k1 s _ E hg ?_;have r:(us.toArray.zip vs.toArray).toList=us.zip vs:=by simp
  have z0:kQ (nG vs) (us.toArray.zip vs.toArray) 0:=λi j t _ v=>by
   have z:∀k,k<vs.length->R (nG vs) (us.toArray.zip vs.toArray) k=k:=λk hk=>by
    have e:(us.toArray.zip vs.toArray)[k]?=U (adc (us[k]'ω) (vs[k])):=by
     rw[<-km,r,lI,cw ω,cw hk];rfl
    rw[nF e];exact JH nd<|cw hk
   rw[z i ω,z j ω];omega
  have R:lC (aE prog w) A E s ug (λ_ a=>(aS a).Perm (us.toArray.zip vs.toArray)/\vW a=Z/\Srt (nH us<|ns.map λn=>[n]) (aS a) 0 vs.length/\mO (nH us<|ns.map λn=>[n]) (nG vs) (aS a) 0 vs.length) (uj Q (us.toArray.zip vs.toArray) #[] 7 Z):=by
   refine JC (κ:=Q) (a₀:=us.toArray.zip vs.toArray) (ρ:=nH us<|ns.map λn=>[n]) (τ:=nG vs) ⟨λx y hx hy Q' E' S=>?_⟩ (aij _,O,O) O (by rw[d];omega) (by rw[d];omega) z0 λa b sr ss=>(b.a,b.b,by rw[<-d];exact sr,by rw[<-d];exact ss);obtain⟨i,g,_⟩:=sj K hx;obtain⟨j,m,_⟩:=sj K hy;have l:i<(ns.map λn=>[n]).length:=by rw[<-a6.a];exact(cE.mp g).1
   have v:j<(ns.map λn=>[n]).length:=by rw[<-a6.a];exact(cE.mp m).1
   have f1:(ns.map λn=>[n])[i]?=U (ns.map λn=>[n])[i]:=cw l;have f2:(ns.map λn=>[n])[j]?=U (ns.map λn=>[n])[j]:=cw v;refine k2 i j _ _ _ _ g m f1 f2 s Q' E' hg ?_;unfold nH at S;rw[pL a6.b g f1,pL a6.b m f2,yZ (lE l)<|lE v] at S;exact S
  refine ag<|ic R ?_ λ_ _ e=>e
  ·rintro⟨⟨⟩,a⟩ s' ⟨rfl,C,hf,hs,T⟩
   try dsimp only
   refine h a ?_ (by rw[C.size_eq];exact d) hf;have X:(aS a).toList.Perm (us.zip vs):=by
    have:=RK.mp C
    rwa [r] at this
   have a5:(aS a).size=vs.length:=by rw[C.size_eq];exact d
   have D:∀p∈us.zip vs,∃(i:Nat)(n:Int),us[i]?=U p.1/\vs[i]?=U p.2/\ns[i]?=U n:=λp C=>by
    obtain⟨i,g,m⟩:=sj K (p:=p) (by rw[r];exact C);have l:i<ns.length:=by have:=(cE.mp m).1;omega
    exact(i,ns[i],g,m,cw l)
   have c:∀{u:aa}{i:Nat}{n:Int},us[i]?=U u->ns[i]?=U n->lof us (ns.map λn=>[n]) u=[n]:=λg m=>pL a6.b g (by rw[cm,m];rfl);refine((aS a).toList.map λp=>(adc ([(lof us (ns.map λn=>[n]) p.1).headD 0,nG vs p]) p.2),?_,by rw[RJ,bY];rfl,?_)
   ·have e:(us.zip vs).map (λp:cK=>(adc ([(lof us (ns.map λn=>[n]) p.1).headD 0,nG vs p]) p.2))=(mf ns).zip vs:=by
     apply Dv;intro i;rw[cm,lI,lI,DG]
     by_cases l:i<vs.length
     ·rw[cw (show i<us.length from ω),cw (show i<ns.length from ω),cw l]
      show U (adc ([(lof us (ns.map λn=>[n]) us[i]).headD 0,nG vs (adc (us[i]) (vs[i]))]) (vs[i]))=U (adc ([ns[i],(i:Int)]) (vs[i]));rw[c (cw (show i<us.length from ω))<|cw (show i<ns.length from ω),JH nd<|cw l]
      rfl
     ·rw[nC (show us.length<=i from ω),nC (show ns.length<=i from ω)];rfl
    rw[<-e];exact X.map _
   ·rw[jN,ul]
    intro i j l v t;rw[i_] at l v;have q:=hs i j (dZ _) (qv t) ω;have L:=T i j (dZ _) t ω;have a1:(aS a)[i]?=U (aS a)[i]:=kP (aS a) i l;have a2:(aS a)[j]?=U (aS a)[j]:=kP (aS a) j v;rw[nF a1,nF a2] at q;rw[nF a1,nF a2,nF a1,nF a2] at L;simp only[aid];generalize a0:(aS a)[i]=pi at *;generalize a3:(aS a)[j]=pj at *;obtain⟨i',H,g,m,e3⟩:=D pi<|X.mem_iff.mp (by rw[<-a0];simp);obtain⟨j',I,g1,g2,g3⟩:=D pj<|X.mem_iff.mp (by rw[<-a3];simp);unfold nH at q L;rw[c g e3,c g1 g3] at q L;rw[c g e3,c g1 g3];have m1:[H]∈ns.map λn=>[n]:=bq.mpr (H,dy e3,O);have m2:[I]∈ns.map λn=>[n]:=bq.mpr (I,dy g3,O);have r1:=yZ m2 m1;show co [I,nG vs pj] [H,nG vs pi]=ao;rw[ib];have r2:co [I] [H]=ao:=by rw[<-r1];exact cf ω
    rw[ib] at r2
    by_cases e:I=H
    ·subst e
     rw[aB O,ib];have:=L O;split
     ·exact wy _
     ·exact cf ω
    ·rw[au e] at r2 ⊢
     exact r2
end
section
variable{X:aK}{pins:Ψ}{σ:aM}{H:ac}{s:ai}
def Ud{y:List V}{k:List Int}{Q:Ω}(hu:X.A.units+64<cH)(nd:y.Nodup)(I:aw X pins σ H s)(hl:bx X.K H l (y.map af.c))(c9:k.length=y.length)(d0:y.length<64)(b2:∀A,aw X pins σ H A->∀(j:Nat) a n,y[j]?=U a->k[j]?=U n->iK (aE X.prog X.w) X.A.in1.in1 (.call (.ref f) ([.ref a],[])) (λr x=>∃v,r=.ok (.ret v)/\rf X.c X.prog X.w H A (λv H'=>v=.d n/\H'=H) v x) A)(h:∀D(qs:List (List Int×V)) A,aw X pins σ (av H D<|.a<|qs.map λq=>af.c q.2) A->H D=Z->qs.Perm ((mf k).zip y)->qs.Pairwise (λa b=>co b.1 a.1=ao)->Q (.ref D) A):am (aE X.prog X.w) X.A (gv (.builtin "sorted") [.ref l] [(adc (iu "key") (.ref f))]) Q X.a s:=by
 obtain⟨d1,r1,p1,hz⟩:=I.B hl;have a3:=r1.B;obtain rfl:=mQ r1;rw[aA] at a3 hz;have E:(y.map Y).length<=bG:=by rw[aA];exact hz
 generalize L:y.map Y=g at p1 E;have b3:g.length=y.length:=by rw[<-L,aA]
 refine af9 IN II IQ (ksk_s1 _ _) ?_;unfold Builtin.«sorted»;refine ag (m:=HL "sorted" 1 1 _)<|aC ?_;refine ag<|Ri p1.isList ?_ E;refine ag<|tK ?_ E;have T:((s.heap.push<|bE "list" #[] 0).update s⁻¹ (b_ (·++g.toArray))).objs.size=s⁻¹+1:=by
  rw[lA,uh]
 have C:(((s.heap.push<|bE "list" #[] 0).update s⁻¹ (b_ (·++g.toArray))).push<|bE "list" g.toArray 0).get? (s⁻¹+1)=U (bE "list" g.toArray 0):=by
  rw[<-T];exact dv _ O
 have R:∀b o,s.heap.get? b=U o->(((s.heap.push<|bE "list" #[] 0).update s⁻¹ (b_ (·++g.toArray))).push<|bE "list" g.toArray 0).get? b=U o:=λb o q=>by
  have a0:b<s⁻¹:=bT q;rw[tZ _ _ _ (by rw[T];exact ck<|jM a0),yu _ _ _ _<|ck a0,tZ _ _ _<|ck a0];exact q
 show am _ _ _ _ _ {s with heap:=((s.heap.push<|bE "list" #[] 0).update s⁻¹ (b_ (·++g.toArray))).push<|bE "list" g.toArray 0};rw[T];generalize hA:((s.heap.push<|bE "list" #[] 0).update s⁻¹ (b_ (·++g.toArray))).push (bE "list" g.toArray 0)=d at C R ⊢;have I1:aw X pins σ H {s with heap:=d}:=I.W (t':=s.toks) R;have G:fQ X pins H (s⁻¹+1):=I.A0 (lY _)<|I.b.B<|lY _;generalize hD:s⁻¹+1=D at C G ⊢;have c7:D<d.objs.size:=bT C;refine ag<|fz<|afz IG (_,C,O) IR ?body<|ksk_l1 _ _
 case body=>
  show am (aE X.prog X.w) X.A.in1.in1 (Builtin.«list.sort» ([.ref D],[(adc (iu "key") (.ref f))])) _ _ _;rw[ksk_t1];unfold ksk_tree;refine ag<|Df C O ?_;refine ag<|ui C O ?_ (by rw[cz];exact E)<|dZ _;obtain⟨e1,a4⟩:∃e1,(d.update D<|b_ λ_=>(#[]:Array aa)).get? D=U (bE "list" #[] e1):=(_,rW C λ_=>#[]);refine ag<|Db a4 O ?_;refine ag<|BX ?_ (by show g.length<=_;exact E);refine ag<|tK ?_<|dZ _;refine fz ?_;have I2:aw X pins σ H {s with heap:=d.update D<|b_ λ_=>(#[]:Array aa)}:=
   aw.A1 (s:={s with heap:=d}) (t':=s.toks) (ch:=[D]) I1 (oV G) λb o M q=>by rw[yu _ _ _ _ (λz=>M (by simp[z]))];exact q
  have I3:aw X pins σ H {s with heap:=((d.update D<|b_ λ_=>(#[]:Array aa)).push<|bE "tuple" g.toArray 0)}:=I2.W (t':=s.toks) λb u q=>bJ _ q;have P:fQ X pins H ((d.update D<|b_ λ_=>(#[]:Array aa)).push<|bE "tuple" g.toArray 0).objs.size:=I3.A0 (bc _)<|I3.b.B<|bc _;have a5:((d.update D<|b_ λ_=>(#[]:Array aa)).push<|bE "tuple" g.toArray 0).objs.size≠D:=by
   rw[uh,lA];omega
  have I4:aw X pins σ H {s with heap:=(((d.update D<|b_ λ_=>(#[]:Array aa)).push<|bE "tuple" g.toArray 0).push<|bE "list" #[] 0)}:=I3.W (t':=s.toks) λb u q=>bJ _ q;have b4:(((d.update D<|b_ λ_=>(#[]:Array aa)).push<|bE "tuple" g.toArray 0).push<|bE "list" #[] 0).get? ((d.update D<|b_ λ_=>(#[]:Array aa)).push<|bE "tuple" g.toArray 0).objs.size=U (bE "list" #[] 0):=dv _ O;have b5:(((d.update D<|b_ λ_=>(#[]:Array aa)).push<|bE "tuple" g.toArray 0).push<|bE "list" #[] 0).get? D=U (bE "list" #[] e1):=bJ _<|bJ _ a4;show am (aE X.prog X.w) X.A.in1.in1 (IM D (.ref f) ao g.toArray e1<|.ref ((d.update D<|b_ λ_=>(#[]:Array aa)).push<|bE "tuple" g.toArray 0).objs.size) _ _ {s with heap:=((d.update D<|b_ λ_=>(#[]:Array aa)).push<|bE "tuple" g.toArray 0).push<|bE "list" #[] 0};generalize ((d.update D<|b_ λ_=>(#[]:Array aa)).push<|bE "tuple" g.toArray 0).objs.size=S at *;generalize ((d.update D<|b_ λ_=>(#[]:Array aa)).push<|bE "tuple" g.toArray 0).push (bE "list" #[] 0)=d2 at *;unfold IM;refine ag<|nU ?_
  first
   |rw[ahe]
   |(rw[<-Array.forIn_toList];simp only[List.toList_toArray])
  refine ag (ksk_fold (λi A=>∃K e,aw X pins σ H A/\A.heap.get? S=U (bE "list" K e)/\A.heap.get? D=U (bE "list" #[] e1)/\bW ((k.take i).map af.d) K.toList) g 0 _
   (#[],0,I4,b4,b5,.nil) ?step ?done)
  case step=>
   rintro j v A hv ⟨K,e,Ik,nk,na,w⟩;simp only[rY] at w ⊢;have b6:j<y.length:=by rw[<-b3];exact(cE.mp hv).1
   have ea:y[j]?=U y[j]:=cw b6;have en:k[j]?=U (k[j]'ω):=cw ω;have ev:v=.ref y[j]:=by
    rw[<-L,cm,ea] at hv;exact(ca hv).symm
   subst ev;refine ag<|pv<|pu<|ka (b2 A Ik j _ _ ea en) λr x hq=>?_;obtain⟨u,rfl,v,H',os,a6,un,b7,ru,rfl,rfl⟩:=hq;obtain⟨t,rfl⟩:=ru;have I5:aw X pins σ H' x:=Ik.A6 os un b7 a6 (λb z=>nomatch z);have b8:=un.a D _ na G.1 (qR Ik G) (by simp);have a7:=un.a S _ nk P.1 (qR Ik P) (by simp)
   try dsimp only
   have d3:K.size=j:=by
    have:=w.B;rw[aA,eF] at this;have h2:K.toList.length=K.size:=i_;omega
   obtain⟨c2,b9⟩:∃c2,(x.heap.update S (b_ (·.push<|.int (k[j]'ω) t))).get? S=U (bE "list" (K.push<|.int (k[j]'ω) t) c2):=(_,rW a7 (·.push<|.int (k[j]'ω) t));have s1:=jl x.heap S (b_ (·.push<|.int (k[j]'ω) t));have I6:aw X pins σ H' {x with heap:=x.heap.update S (b_ (·.push<|.int (k[j]'ω) t))}:=
    I5.A1 (t':=x.toks) (ch:=[S]) (oV P) λb o M q=>(s1.2 b (λz=>M (by simp[z]))).trans q
   refine ag<|ui a7 O ?_ ω<|dE (yG<|DD ..) ω;refine aC (O,K.push<|.int (k[j]'ω) t,c2,I6,b9,(s1.2 D a5.symm).trans b8,?_);rw[r_,en,Option.toList_some,cv,Jy];exact w.F<|.cons (t,O) .nil
  case done=>
   rintro A ⟨K,e,Ik,nk,na,w⟩;simp only[rY] at w
   try dsimp only
   refine ag<|Df nk O ?_;unfold ksk_end
   try dsimp only
   simp only[dc,cM];rw[gb ω] at w;have a8:=w.B;rw[aA] at a8;generalize c0:K.toList=us at w a8;obtain rfl:K=us.toArray:=by rw[<-c0,aia]
   have hi:fU us k:=oU w;have c1:g.Nodup:=by
    rw[<-L];exact aki Y (λa b(z:a≠b) e=>z (by cases e;rfl)) nd
   refine Sb (us:=us) (vs:=g) (ns:=k) (good:=λ_=>True) (DJ hi) ω ω c1 trivial λd4 ho c3 hf=>?_;refine JI (ls:=mf k) (vs:=g) nk na a5 (by rw[cz];omega) ho c3 E hf λh' a1 c kk c4 d5 a9 c8=>(_,O,?_);refine aC (_,O,?_);obtain⟨ps,b0,b1,hs⟩:=a9;subst L;have I7:aw X pins σ H {A with heap:=h'}:=Ik.A1 (t':=A.toks) (ch:=[S,D]) (λb M=>by
     simp only[ci,on,nE] at M;rcases M with rfl|rfl
     ·exact P
     ·exact G) λb o M q=>kk b o (λz=>M (by simp[z])) (λz=>M (by simp[z])) q
   have c5:∀p∈ps,p.2=Y (jc p.2):=λp a2=>by
    obtain⟨a,_,ea⟩:=bq.mp (vZ (b0.mem_iff.mp a2:(adc p.1 p.2)∈_)).2;rw[<-ea];rfl
   have pm:(ps.map λp=>(adc p.1 (jc p.2))).Perm ((mf k).zip y):=by
    have h1:=b0.map (λp:List Int×aa=>(adc p.1 (jc p.2)));have e:((mf k).zip<|y.map Y).map (λp:List Int×aa=>(adc p.1 (jc p.2)))=(mf k).zip y:=by
     rw[agu,bY];exact(gC λp _=>O).trans<|wb _
    rw[e] at h1;exact h1
   have ex:a1.toList=((ps.map λp=>(adc p.1 (jc p.2))).map λq=>Y q.2):=by
    rw[b1,bY];exact gC λp a2=>c5 p a2
   have vv:bW ((ps.map λp=>(adc p.1 (jc p.2))).map λq=>af.c q.2) a1.toList:=by
    rw[ex];exact zH (λq:List Int×V=>q.2) _
   obtain⟨f0,f1,f2,f3,f4,f5⟩:=G;have c6:X.d⁻¹<=D:=by rw[<-hD];exact dE I.sz<|lY _
   have I8:aw X pins σ (av H D<|.a<|(ps.map λp=>(adc p.1 (jc p.2))).map λq=>af.c q.2) {A with heap:=h'}:=by
    refine I7.C1 f0 c6 f1 f4 f5 (?_,a1.toList,c,vv,?_)
    ·rw[aA,pm.length_eq,ur];omega
    ·simpa using c4
   refine h D _ _ I8 f0 pm ?_;rw[jN];exact hs
end
def TJ(K:aH)(P:V)(f:bR)(d:al)(p:Nat)(r:bb)(s:ff):bb:=λk H Q=>s k H λt g=>∃(l:V)(e:List V)(h:List Int)(m:af),t=[.c l]/\bx K g l (e.map af.c)/\e.Nodup/\h.length=e.length/\e.length<64/\k[p]?=U (U m)/\gX g P f d/\
 (∀c,iS g c->∀(j:Nat) a n,e[j]?=U a->h[j]?=U n->r [U<|.c a,U m] c λv u=>v=.d n/\u=c)/\
 ∀D c(i:List (List Int×V)),iS g c->(∀b o,b≠P->g b=U (.d o)->c b=U (.d o))->gX c P f d->c D=Z->i.Perm ((mf h).zip e)->i.Pairwise (λa b=>co b.1 a.1=ao)->Q (.c D) (av c D<|.a<|i.map λq=>af.c q.2)
section
variable{X:aK}{a:bf}{ta:ff}{p p2 pos kpos lpos:bR}{P c cc:V}{args:qr}{body:bf}{sc:eO}{x y:al}{iy k:Nat}{te:bb}
def UF(hr:eJ (k+2) X.A)(hg:iH X "sorted")(hm:X.mg "sorted"=Z)(hv:ig "sorted"=U (.builtin "sorted"))(hC:CF X.base c P)(m:X.env.code=.ref c)(K:oZ X.mg X.base)(M:Cz sc X.env=bH [(adc y cc)])(r:X.env.cells.lookup y=U cc)(hk:X.env.kindOf y=U .cell)(hN:X.N[iy]?=U y)(S:EU x y sc)(hb:∀d cl R t w u,yf (yh "<lambda>" d args body sc cl R (.ref t) w) ([u],[])=bH [(adc x u)])(A:∀s H f d t,bA (wK X X.A.in1.in1 s H f d sc x y cc t) body te)(ha:je X [a] ta)(he:eM [a] X.env=[(adc ao (dO a X.env))]:=by rfl)(C:Qo args X.env=(adc ([]) ([])):=by rfl):bA X (.Call (.Name "sorted" p) [a] [(U "key",.Lambda args body sc lpos,kpos)] pos) (TJ X.K P lpos (X.env.qual++"<lambda>") iy te ta):=by
 intro i s σ H Q I h;refine tO<|oQ I hg hm hv ?_;refine IT ?_ (by rw[he];rfl) (by rw[he];rfl) O O;refine bI (ha pos i s σ H _ I h) λus s1 (vs,T,I1,r1,q1)=>?_;obtain⟨l,as,ns,vy,rfl,hl,nd,a0,a5,a6,ht,a7,q⟩:=q1;obtain⟨u,rfl,ru⟩:=gU r1;cases ru;refine IL<|bI (Lu (P:=P) (args:=args) (body:=body) (pos:=lpos) hC m K M C i s1 σ T (λv g=>∃f,v=.c f/\iS T g/\(∀b ps,b≠P->T b=U (.d ps)->g b=U (.d ps))/\gX g P lpos (X.env.qual++"<lambda>")/\uX g f (X.env.qual++"<lambda>") args body sc y cc) I1 (ht,λf g a1 a2 a3 a4=>(f,O,a1,a2,a3,a4))) λu2 s2 a8=>?_;obtain⟨v2,g,I2,r2,f,rfl,E,a9,tb,L⟩:=a8;cases r2;refine IK ?_;show am (aE X.prog X.w) X.A (gv (.builtin "sorted") [.ref l] [(adc (iu "key") (.ref f))]) _ _ s2;have b0:bx X.K g l (as.map af.c):=by
  rcases hl with (z|⟨o,z⟩)|z
  ·exact .inl<|.inl<|E _ _ (λ_ e=>nomatch e) z
  ·exact .inl<|.inr (o,E _ _ (λ_ e=>nomatch e) z)
  ·exact .inr z
 refine Ud hr.units nd I2 b0 a0 a5 (λs' G j a n ea en=>?_) λD qs s' G hD hp hs=>(.c D,_,G,O,q D g qs E a9 tb hD hp hs);exact LK (va:=.c a) (vy:=vy) (iy:=iy) G G.B3.B.B O (eJ.B<|eJ.B hr).N L S r hN a6 (.inl hk) (λR t w=>hb _ _ R t w _) O (λt=>A s' g f _ t)<|a7 g E j a n ea en
end
def Ha:mroOf (.type "dict")=bH [.type "dict",.type "object"]:=by rw[mroOf_type];kernel_rfl
def acd:Ht (.type "dict") "__new__"=bH (U<|.builtin "dict.__new__"):=by rw[adg,adu];kernel_rfl
def qe:TypeCalled "dict" "dict.__new__" "dict.__init__":=
 (δ,δ,(_,_,Ha),madeBy_type Ha acd δ,δ,by rw[Qh];kernel_rfl,PySem.F.slot_dict_init)
def ab9(a:aa):checkTypeCall "dict" ([a],[])=bH ():=by kernel_rfl
def acb(a:aa):CA "dict.__new__" ([.type "dict",a],[])=bH ():=by kernel_rfl
def ace:Qn table "dict.__new__"=U Builtin.«dict.__new__»:=adp (by kernel_rfl)
def Pr:plainId "dict.__new__"=ae:=δ
def aca:isSubtype (.type "dict") (.type "dict")=bH ae:=by rw[Qh];kernel_rfl
section
variable{prog:aU}{w:aO}{A:bg}{E:Ω}{s:ai}
def acf(a:aa){Q₁:Ω}(h:Q₁ (.ref s⁻¹) {s with heap:=s.heap.push {cls:=.type "dict",data:=.dict #[]}}):iK (aE prog w) A (.call (.builtin "dict.__new__") ([.type "dict",a],[])) (vG Q₁ E) s:=by
 refine ye<|show am _ A.in1 (do CA "dict.__new__" ([.type "dict",a],[]);again (.builtin "dict.__new__" ([.type "dict",a],[]))) _ _ s from ag (qh (acb a)<|aC (lp Pr _,jj ace ?_));rw[kK Pr _];unfold Builtin.«dict.__new__»;have b:=aca;have c:=Ha;obtain⟨e,g,d,f,i⟩:=s;dsimp only;refine ag<|qh (a:=ae) O ?_;simp only[oz,dc,cM];refine ag<|qh b ?_;simp only[oz,dc,cM];refine ag<|qh c ?_;rw[au ξ];refine ag<|mE ?_;exact aC h
def aiq{k:String}{Q:Array lX->ai->Prop}(m:s.heap.get? d=U o)(n:o.data=.dict c l)(p:∀e∈c.toList,∃b,e.key=.ref b/\s.TypeIs (.ref b) "tuple")(q:∀e∈c.toList,(c.filter (·.hash==e.hash)).size<=1)(h:Q c s):am (aE prog w) A (afw k d) Q E s:=by
 unfold afw;refine ag<|pq m n ?_;refine ag ?_;show am _ _ (uA c _ _) _ _ s;rw[<-RN];refine tM _ (λa r g=>g=s/\∀e∈a,e∈c.toList) _ ?_ ?_ _ _ (O,λ_ z=>z)
 ·rintro e a r g ⟨rfl,f⟩
  have j:=f e dC;obtain⟨b,t,v⟩:=p e j;have x:∀e∈a,e∈c.toList:=λu i=>f u<|d_ _ i;have y:=q e j;unfold aj9;rw[t];refine ag ?_;dsimp only;refine ag<|xX v QH.lookup<|aC ?_;rw[aB ξ,au ω];exact aC (O,x)
 ·rintro r g ⟨rfl,_⟩
  exact aC h
end
section
variable{X:aK}
def KY{s:ai}{c:List Int}(I:aw X a d H s)(e:bx X.K H l (c.map af.d)):∃b,Reads s.heap (.ref l) (.list<|c.map iw) b:=by
 obtain⟨f,r,p,_⟩:=I.B e;obtain⟨o,g,h,n,i⟩:=p.isList;exact(_,.list g h i<|(ad1<|oU r).reads s.heap)
def KP(a:List Int):tV (.list<|a.map iw)=ae:=by
 simp[tV,Ig,ad2,CM,ad0]
def L_(a:List Int):(H_ .int).has (.list<|a.map iw)=ae:=by simp[yo]
end
mutual
inductive pV(K:aH)(H:ac):af->vP->Prop where
 |f (b:Bool):pV K H (.e b) (.bool b)
 |e (i:Int):pV K H (.d i) (.int i)
 |a (z:al):pV K H (.f z) (.str z)
 |c {l:V} {xs:List af} {ds:List vP} (h:bx K H l xs) (t:xd K H xs ds):pV K H (.c l) (.list ds)
inductive xd(K:aH)(H:ac):List af->List vP->Prop where
 |c:xd K H [] []
 |a {x:af} {d:vP} {xs:List af} {ds:List vP} (h:pV K H x d) (t:xd K H xs ds):xd K H (x::xs) (d::ds)
end
section
variable{X:aK}{pins:Ψ}{σ:aM}{H:ac}{s:ai}
mutual
def pV.B(I:aw X pins σ H s):∀{x:af}{d:vP}{u:aa},pV X.K H x d->cb x u->∃ads,Reads s.heap u d ads
 |_,_,_,.f b,r=>by cases r;exact(_,.bool b)
 |_,_,_,.e i,r=>by obtain⟨t,rfl⟩:=r;exact(_,.int i t)
 |_,_,_,.a z,r=>by obtain⟨t,rfl⟩:=r;exact(_,.str z t)
 |_,_,_,.c h t,r=>by
  cases r;obtain⟨its,rv,p,_⟩:=I.B h;obtain⟨o,ho,hc,n,hd⟩:=p.isList;obtain⟨ads,q⟩:=xd.B I t rv;exact(_,.list ho hc hd (by simpa using q))
def xd.B(I:aw X pins σ H s):∀{xs:List af}{ds:List vP}{us:List aa},xd X.K H xs ds->bW xs us->∃ads,ReadsAll s.heap us ds ads
 |_,_,_,.c,.nil=>(_,.nil)
 |_,_,_,.a h t,.cons r rs=>by
  obtain⟨a,q⟩:=pV.B I h r;obtain⟨b,q'⟩:=xd.B I t rs;exact(_,.cons q q')
end
end
inductive Er(neg:Bool)(K:aH)(x:af)(y:af)(H:ac)(Q:aL):Prop
 |a:∀d e,(pV K H x d)->(pV K H y e)->(tV d=ae)->(tV e=ae)->(SeqAt.noMix d e=ae)->(Q (.e<|if neg then !rM d e else rM d e) H)->Er neg K x y H Q
section
variable{X:aK}
def UY(b:X.A.units+64<cH):fy X (gu .Eq) (Er ao X.K):=by
 intro a s o H x y v u Q I c f h;obtain⟨d,e,g,i,j,k,l,q⟩:=h;obtain⟨p,m⟩:=g.B I c;obtain⟨r,n⟩:=i.B I f;exact eq_dataH_same m n j k b l (.e _,H,I,O,q)
def EA(b:X.A.units+64<cH):fy X (gu .NotEq) (Er ae X.K):=by
 intro a s o H x y v u Q I c f h;obtain⟨d,e,g,i,j,k,l,q⟩:=h;obtain⟨p,m⟩:=g.B I c;obtain⟨r,n⟩:=i.B I f;exact IJ m n j k b l (.e _,H,I,O,q)
end
def bO(P:aU)(w:aO)(K:aH)(b:al->Option aa)(a:aI)(e:kZ)(x:al)(c:List al)(k:Nat)(g:ia):Prop:=
 ∃(f:V)(d:cr),vN K (.ref f)=ae/\eT K d c []/\b x=U (.ref f)/\bD P w K b a e k f d c g
section
variable{X:aK}{CX:kZ}{k n:Nat}{ps:List al}{sp:ia}{E:bK}{x:al}{p pos:bR}{e:bf}{es:List bf}{t:ff}
def bN(C:bO X.prog X.w X.K X.mg X.base CX x ps k sp)(d:eJ n X.A)(g:iH X x)(h:uW CX X E)(i:je X (e::es) t)(a:k<=n:=by decide)(b:(x==("__debug__":al))=ao:=by decide)
  (j:eM (e::es) X.env=(adc ao (dO e X.env))::eM es X.env:=by rfl) (c:(lU pos<|eM es X.env).any (·.1)=ao:=by rfl):bA X (.Call (.Name x p) (e::es) [] pos) (qI sp [] E t):=by
 obtain⟨f,q,l,m,o,r⟩:=C;exact kr r (d.F a) g o l m .nil h i b j c
end
section
variable{P:aU}{w:aO}{K:aH}{mg:al->Option aa}{base:aI}{CX:kZ}{k:Nat}{f:V}{fd:cr}{x:al}{st:bV}{ps:List al}{sp sq:ia}
def bD.B(F:bD P w K mg base CX k f fd ps sp)(G:bD P w K mg base CX k f fd ps sq):bD P w K mg base CX k f fd ps (λb H Q E=>sp b H Q E\/sq b H Q E):=
 (λb H Q E h=>h.elim (F.b b H Q E)<|G.b b H Q E,λA a s H c d b Q E e g i j h=>h.elim (F.a A a s H c d b Q E e g i j)<|G.a A a s H c d b Q E e g i j)
def dt(F:bF K x x st f fd)(b:eT K fd ps [])(m:mg x=U (.ref f))(G:bD P w K mg base CX k f fd ps sp):bO P w K mg base CX x ps k sp:=(f,fd,F.a,b,m,G)
def uT(F:bF K x x st f fd)(b:eT K fd ps [])(m:mg x=U (.ref f))(G:bD P w K mg base aX k f fd ps sp)(c:bD P w K mg base (da P w) k f fd ps sq):bO P w K mg base (da P w) x ps k (λa H Q E=>sp a H Q E\/sq a H Q E):=(f,fd,F.a,b,m,G.F.B c)
structure cU(K:aH)(x:al)(st:bV)(f:V):Prop where
 b:∃fd,bF K x x st f fd
 a:CC K ji x=U (U<|.ref f)
def VZ{g:aa}{h i:Option V}{d:Array (Option aa)}{j e m b n:aa}(a:CC K ji x=U (U<|.ref f))(l:K.lookup f=U (g,h,.func<|qo x x (uR st) (gf st) (bB st) .none j e m i b n,d))(c:CE K b x=ae)(k:vN K (.ref f)=ae):cU K x st f:=((_,VO l c k),a)
structure fM(K:aH)(x:al)(v:Option aa):Prop where
 e:CC K ji x=U v
abbrev xg(x:al)(st:bV)(c:List aa)(r:List (al×aa)):Prop:=∀(d a e:aa)(f:Option V)(b g:aa),yf (qo x x (uR st) (gf st) (bB st) .none d a e f b g) (c,[])=bH r
variable{h:aI}(X:K.In h)(G:h.Ns ji mg)
include X G
theorem fM.m(n:fM K x (U v)):mg x=U v:=vM X G n.e
theorem fM.n(n:fM K x Z):mg x=Z:=PySem.W.mg_none_of X G n.e
theorem cU.m(D:cU K x st f):mg x=U (.ref f):=vM X G D.a
theorem cU.B(D:cU K x st f)(p:al)(b:∀a,xg x st [a] [(adc p a)]:=by exact λ_ _ _ _ _ _ _=>rfl):∃fd,bF K x x st f fd/\eT K fd [p] []/\mg x=U (.ref f):=by
 obtain⟨⟨fd,e⟩,a⟩:=D;refine(fd,e,e.J λ_ _ _ _ _ _ c d=>?_,vM X G a)
 match c,d with
 |[a],_=>exact b a _ _ _ _ _ _
theorem cU.F(D:cU K x st f)(p q:al)(c:∀a b,xg x st [a,b] [(adc p a),(adc q b)]:=by exact λ_ _ _ _ _ _ _ _=>rfl):∃fd,bF K x x st f fd/\eT K fd [p,q] []/\mg x=U (.ref f):=by
 obtain⟨⟨fd,g⟩,a⟩:=D;refine(fd,g,g.J λ_ _ _ _ _ _ d e=>?_,vM X G a)
 match d,e with
 |[a,b],_=>exact c a b _ _ _ _ _ _
theorem cU.N(D:cU K x st f)(p q r:al)(d:∀a b c,xg x st [a,b,c] [(adc p a),(adc q b),(adc r c)]:=by exact λ_ _ _ _ _ _ _ _ _=>rfl):∃fd,bF K x x st f fd/\eT K fd [p,q,r] []/\mg x=U (.ref f):=by
 obtain⟨⟨fd,h⟩,a⟩:=D;refine(fd,h,h.J λ_ _ _ _ _ _ e g=>?_,vM X G a)
 match e,g with
 |[a,b,c],_=>exact d a b c _ _ _ _ _ _
theorem cU.J(D:cU K x st f)(p q r s:al)(e:∀a b c d,xg x st [a,b,c,d] [(adc p a),(adc q b),(adc r c),(adc s d)]:=by exact λ_ _ _ _ _ _ _ _ _ _=>rfl):∃fd,bF K x x st f fd/\eT K fd [p,q,r,s] []/\mg x=U (.ref f):=by
 obtain⟨⟨fd,i⟩,a⟩:=D;refine(fd,i,i.J λ_ _ _ _ _ _ g h=>?_,vM X G a)
 match g,h with
 |[a,b,c,d],_=>exact e a b c d _ _ _ _ _ _
theorem cU.W(D:cU K x st f)(p q r s u:al)(g:∀a b c d e,xg x st [a,b,c,d,e] [(adc p a),(adc q b),(adc r c),(adc s d),(adc u e)]:=by exact λ_ _ _ _ _ _ _ _ _ _ _=>rfl):∃fd,bF K x x st f fd/\eT K fd [p,q,r,s,u] []/\mg x=U (.ref f):=by
 obtain⟨⟨fd,j⟩,a⟩:=D;refine(fd,j,j.J λ_ _ _ _ _ _ h i=>?_,vM X G a)
 match h,i with
 |[a,b,c,d,e],_=>exact g a b c d e _ _ _ _ _ _
omit X G
theorem Tk(a:nY K (.ref C) "__getattribute__"=U (U<|.builtin "BaseException.__getattribute__"))(b:nY K (.ref C) "__getattr__"=U Z)(q:jK K C kU "ValueError.__new__"=ae)(c:nY K (.ref C) "__class__"=U (U<|.builtin "object.__class__"))(d:HQ K (.builtin "object.__class__") "__get__"=U (U<|.builtin "getset_descriptor.__get__"))(e:HP K (.builtin "object.__class__")=U ae)(f:tS K C (.type "object")=U ae)(g:tS K C (.type "BaseException")=U ae):qU K C:=
 (a,b,Wk q,c,d,e,f,g)
end
abbrev xF:bV:=de 65
abbrev Bm:bV:=de 35
abbrev Bk:bV:=de 34
def By{k:List aN}(e:bX H a (.c c))(d:H b=U (.b<|k.map dM)):hJ H a (.c b) (fJ c k):=.inr (c,k,b,e,O,d,O)
abbrev hV:=List<|List Int×Int
def iT(a:hV):List (List aN×af):=a.map λc=>(adc ((c.1.map bd:List aN)) (af.d c.2))
def fn(a:hV)(p:List Int):Option Int:=(a.find? λc=>aG<|c.1=p).map (·.2)
def ι{p q:List Int}(h:(p.map bd:List aN)=q.map bd):p=q:=by
 induction p generalizing q with
 |nil=>cases q with
  |nil=>rfl
  |cons=>simp at h
 |cons x p a=>cases q with
  |nil=>simp at h
  |cons y q=>simp only[df,ahm,Sum.inl.injEq] at h;rw[h.1,a h.2]
def Ag(a:hV)(p:List Int):fJ (iT a) (p.map bd)=(fn a p).map af.d:=by
 unfold fJ iT fn
 induction a with
 |nil=>rfl
 |cons c a b=>
  rw[df,lF,lF]
  by_cases e:c.1=p
  ·rw[bZ (by rw[e]),bZ e];rfl
  ·rw[cf (λz=>e<|ι z),cf e];exact b
def E_{a:hV}{p:List Int}(h:p∈a.map (·.1)):∃n,fn a p=U n:=by
 obtain⟨c,b,rfl⟩:=bq.mp h;unfold fn;cases e:a.find? λd=>aG<|d.1=c.1 with
 |none=>exact aZ (RA.mp e c b) (by simp)
 |some d=>exact(d.2,O)
def ZT(a:hV):(iT a).map (·.1)=(a.map (·.1)).map (·.map bd):=by unfold iT;rw[bY,bY];rfl
def pf(a:hV)(p:List Int):Prop:=∀r∈cq p,(fn a r).getD 0<=(fn a p).getD 0
instance (a:hV) (p:List Int):Decidable (pf a p):=by unfold pf;infer_instance
def nh(a:Ξ)(b:hV):Prop:=(b.map (·.1)).Perm a/\∀p∈a,pf b p
abbrev Nw:bb:=dW (jq λi j=>.e<|aG<|i<=j) (pN (bz 1)<|bz 0)<|pN (bz 1)<|bz 2
abbrev Bp(K:aH):List af->ac->aL->Prop:=wC K
abbrev Nt(K:aH):eB:=jF<|dW (jq λi j=>.e<|aG<|j<i) (oD (Bp K)<|cT (bz 1) e_)<|dK<|.d 1
section
variable{P:aU}{w:aO}{K:aH}{mg:al->Option aa}{base:aI}
def XR{i:ac}{Q:aL}(s:cG i a b)(I:b.length<=5)(y:i D=Z)(k:∀(c:ac)(f:List V),aQ i c->c D=U (.a<|f.map af.c)->aW c f (cq b)->Q (.c D) c):fg (mV 0 b.length) (eA 0) (Nt K) An [Z,U<|.c a] i D Q:=by
 refine wS (λj t q c=>∃(v:Option af)(f:List V),t=[v,U<|.c a]/\aQ i c/\c D=U (.a q)/\q=f.map af.c/\aW c f ((cq b).take j)) ?_ ?_ ?_
 ·exact(Z,[],O,aQ.B y,aD,O,by rw[vY];exact .nil)
 ·rintro j t q c u A ⟨v,f,rfl,g,d,rfl,h⟩
  refine(_,O,a,_,O,.inr<|fm.B<|g.N s,_,_,O,O,_,O,?_);rw[aA]
  by_cases C:b.length=1
  ·have w:cq b=[]:=by unfold cq;rw[aB C]
   rw[cf ω];refine cZ<|sQ u A (_,f,O,g,d,O,?_);rw[w] at h ⊢;rw[List.take_nil] at h ⊢;exact h
  ·have w:cq b=(dk b.length).map λk=>b.take k++b.drop (k+1):=by unfold cq;rw[au C]
   rw[bZ ω];refine dI ?_;have e:(cq b)[j]?=U (b.take j++b.drop (j+1)):=by rw[w,cm,yN u];rfl
   refine(_,O,_,O,_,O,a,_,O,g.N s,λE L l m=>(_,O,_,O,_,_,O,O,_,O,a,_,O,l _ _<|g.N s,λG M n o=>?_));rw[show(0:Int)+((j:Nat):Int)=((j:Nat):Int) from ω,GI _ _ (by rw[aA];omega),<-Dq] at m;rw[show(0:Int)+((j:Nat):Int)+1=((j+1:Nat):Int) from ω,Bz _ _ (by rw[aA];omega),<-Jc] at o;refine(E,G,_,_,O,O,n _ _ m,o,dN (by simp;omega),λH P x p=>?_);rw[<-cv] at p;have r:=(l.F n).F x;refine gG (dN ω) u A (r _ _ d) (_,f++[H],O,(g.F r).A0 y,aD,by rw[cv];rfl,?_);rw[di e];exact kD (aW.J (r.J h) p) (r _ _ d) (by intro R z;cases z)
 ·rintro t q c ⟨v,f,rfl,g,d,rfl,h⟩
  rw[gb<|nR b] at h;exact k c f g d h
def XB:cQ ["piece"] ["piece"] (bB xF):=(O,O,O,δ,O,δ,δ)
def Ob(F:bF K "_law_rims" "_law_rims" xF f g)(z:eC mg):bD P w K mg base aX 1 f g ["piece"] o_:=by
 refine F.B XB (λo H Q E h=>?_) (λp A d s H o Q E y h=>?_)
 ·obtain⟨a,q,rfl,_⟩:=h;rfl
 ·obtain⟨a,q,rfl,j,r,k⟩:=h
  refine(_,be (cp (fE ["piece"] ["k","piece"] [Z,U 0] (qK O z.c<|aj (eH gW O z.a fZ<|aj (ah 0) az) az) (λl C b c m=>cB (i:=0) (eI ["k","piece"]) O<|ak O)
    (λl C b c m=>oE<|cV sK (eH gW O z.a fZ<|aj (ah 1) az) aV<|cN _)
    (λl C b c m=>cA zN (oM zx (ah 1) oJ<|oH<|ah 0)<|oM zx (ah 1) (oH<|cA lM (ah 0) aV) oJ) (hfr:=iQ (bB xF) δ) (tc:=Nt K) (te:=An))),?_)
  refine(_,O,a,_,O,.inr<|fm.B j,_,O,by rw[aA];omega,by rw[aA];omega,λD n=>?_);rw[aA];exact fc<|XR j r n λt u v e x=>k D t u v n e x
def aaw{s:List V}{n:Int}{i:hV}{Q:aL}(G:bx K h L (s.map af.c))(y:aW h s l)(hz:l.length<=5)(z:bX h d (.c<|iT i))(H:cG h a p)(I:fn i p=U n)(M:∀r∈l,∃m,fn i r=U m)(A:h D=Z)(k:∀(c:ac),aQ h c->c D=U (.a<|(l.map λr=>aG<|(fn i r).getD 0<=n).map af.e)->Q (.c D) c):fg (im K L) (eA 0) ja Nw [Z,U<|.c d,U<|.c a] h D Q:=by
 have P:=y.B;refine jX (xs:=s.map af.c) (λj t q c=>∃(v:Option af),t=[v,U<|.c d,U<|.c a]/\aQ h c/\c D=U (.a q)/\q=((l.map λr=>aG<|(fn i r).getD 0<=n).take j).map af.e) ?_ ?_ ?_ ?_
 ·exact(Z,O,aQ.B A,aD,O)
 ·rintro j t q c ⟨v,rfl,g,f,rfl⟩
  exact g.W G
 ·rintro j t q c x R S T ⟨v,rfl,g,f,rfl⟩
  obtain⟨o,X,rfl⟩:=fY R;obtain⟨r,C,u⟩:=y.F X;obtain⟨m,E⟩:=M r<|dy C;have w:(s.map af.c).length<=bG:=by rw[aA];exact dN ω
  have e:(l.map λr=>aG<|(fn i r).getD 0<=n)[j]?=U (aG<|m<=n):=by rw[cm,C];show U (aG<|(fn i r).getD 0<=n)=_;rw[E];rfl
  have g1:hJ c d (.c o) (U<|.d m):=by
   have:=By (k:=r.map bd) (b:=o) (z.B g) (by rw[bY];exact g.N u)
   rwa [Ag,E] at this
  have g2:hJ c d (.c a) (U<|.d n):=by
   have:=By (k:=p.map bd) (b:=a) (z.B g) (by rw[bY];exact g.N H)
   rwa [Ag,I] at this
  refine jU (_,O,_,O,d,_,O,g1,_,O,_,O,d,_,O,g2,_,_,O,O,?_);exact gG w S T f (_,O,g.A0 A,aD,by rw[di e,cv];rfl)
 ·rintro t q c ⟨v,rfl,g,f,rfl⟩
  rw[gb (by rw[aA,aA];omega)] at f;exact k c g f
inductive xq(vs:List af)(H:ac)(Q:aL)(E':bK):Prop
 |b:∀a d p n cs,(vs=[.c a,.c d])->(cG H a p)->(p.length<=5)->(bX H d<|.c<|iT cs)->(fn cs p=U n)->((∀r∈cq p,∃m,fn cs r=U m))->(∀H',aQ H H'->Q (.e<|aG<|pf cs p) H')->xq vs H Q E'
def XM:cQ ["piece","worths"] ["piece","worths"] (bB Bm):=(O,O,O,δ,O,δ,δ)
def ZC(F:bF K "is_above_rims" "is_above_rims" Bm f y)(a1:eC mg)(X:bO P w K mg base aX "rims_of" ["piece"] 1 o_):bD P w K mg base aX 2 f y ["piece","worths"] xq:=by
 refine F.B XM (λvs H Q E h=>?_) (λa0 A m s H vs Q E j h=>?_)
 ·obtain⟨a,d,p,n,o,rfl,_⟩:=h;rfl
 ·obtain⟨a,d,p,n,o,rfl,G,I,hd,M,q,k⟩:=h
  have R:=jb j;refine(_,be (cp (eH (wU O) O a1.all xO (aj (fE ["piece","worths"] ["rim","worths","piece"] [Z,U 1,U 0] (eG<|bN X j O ce<|aj (ah 0) az) (λS C c g T=>cB (i:=0) (eI ["rim","worths","piece"]) O<|ak O) (λS C c g T=>gE)
   (λS C c g T=>wG uN (jS R (ah 1) (ah 0) (λ_ _=>O)) (jS R (ah 1) (ah 2) (λ_ _=>O))<|cN _) (hfr:=iQ (bB Bm) δ) (te:=Nw)) az))),?_)
  refine(_,O,a,p,O,G,I,λL H2 bs t hL l u=>(L,O,(_,bx.B l),λD hD=>fc<|aaw (bx.B l) u (dE (nR p) I) (hd.B t) (t.N G) M q hD λH3 v x=>(D,_,O,bx.B x,?_)));have e:((cq p).map λr=>aG<|(fn o r).getD 0<=n).all id=aG (pf o p):=by
   rw[qA,kN,ii];unfold pf;rw[M];constructor
   ·intro z r j;exact iE<|z _<|bq.mpr (r,j,O)
   ·intro z b u
    obtain⟨r,j,rfl⟩:=bq.mp u;exact bZ<|z r j
  rw[e];exact k H3<|t.F v
def aat{l:List V}{Q:aL}(C:bx K f L (l.map af.c))(u:aW f l c)(hz:c.length<=64)(E:bX f d (.c<|iT g))(G:∀p∈c,p.length<=5)(w:∀p∈c,∃n,fn g p=U n)(H:∀p∈c,∀r∈cq p,r∈c)(y:f D=Z)(k:∀(b:ac),aQ f b->b D=U (.a<|(c.map λp=>aG<|pf g p).map af.e)->Q (.c D) b):fg (im K L) (eA 0) ja (qI xq [] oY<|cT (bz 0)<|cT (bz 1) e_) [Z,U<|.c d] f D Q:=by
 have I:=u.B;refine jX (xs:=l.map af.c) (λj m i b=>∃(v:Option af),m=[v,U<|.c d]/\aQ f b/\b D=U (.a i)/\i=((c.map λp=>aG<|pf g p).take j).map af.e) ?_ ?_ ?_ ?_
 ·exact(Z,O,aQ.B y,aD,O)
 ·rintro j m i b ⟨v,rfl,h,a,rfl⟩
  exact h.W C
 ·rintro j m i b x M P R ⟨v,rfl,h,a,rfl⟩
  obtain⟨o,S,rfl⟩:=fY M;obtain⟨p,z,T⟩:=u.F S;have q:=dy z;obtain⟨n,X⟩:=w p q;have s:(l.map af.c).length<=bG:=by rw[aA];exact dN ω
  have e:(c.map λp=>aG<|pf g p)[j]?=U (aG<|pf g p):=by rw[cm,z];rfl
  refine jU (_,O,_,O,o,d,p,n,g,O,h.N T,G p q,E.B h,X,λr t=>w r<|H p q r t,λH4 A=>?_);exact gG s P R (A _ _ a) (_,O,(h.F A).A0 y,aD,by rw[di e,cv];rfl)
 ·rintro m i b ⟨v,rfl,h,a,rfl⟩
  rw[gb (by rw[aA,aA];omega)] at a;exact k b h a
def Yo{g:Type}[DecidableEq g]{l m:List g}(e:l.Nodup)(i:m.Nodup):l.Perm m↔(bh l).length=(bh m).length/\∀x∈bh l,x∈bh m:=by
 have c:(bh l).Perm l:=(Ja (Kp l) e).mpr λx=>DX l x;have d:(bh m).Perm m:=(Ja (Kp m) i).mpr λx=>DX m x;constructor
 ·intro h
  exact(by rw[c.length_eq,d.length_eq,h.length_eq],λx a=>d.mem_iff.mpr<|h.mem_iff.mp<|c.mem_iff.mp a)
 ·rintro⟨j,k⟩
  rw[c.length_eq,d.length_eq] at j;have b:∀x∈l,x∈m:=λx a=>d.mem_iff.mp<|k x<|c.mem_iff.mpr a;refine(Ja e i).mpr λx=>(b x,λa=>?_);apply oy;intro z;have:=(iB.mpr (z,e)).length_le_of_subset (l₂:=m) (λy f=>by
   rcases ci.mp f with rfl|f
   ·exact a
   ·exact b y f)
  rw[dP] at this;omega
inductive AH(K:aH)(vs:List af)(H:ac)(Q:aL)(E':bK):Prop
 |a:∀l d as kn cs,(vs=[.c l,.c d])->(bx K H l<|as.map af.c)->(aW H as kn)->(kn.Nodup)->(kn.length<=56)->((∀p∈kn,p.length<=5))->((∀p∈kn,∀r∈cq p,r∈kn))->(bX H d<|.c<|iT cs)->((cs.map (·.1)).Nodup)->(cs.length<=57)->(∀b H',(b=ae↔nh kn cs)->aQ H H'->Q (.e b) H')->AH K vs H Q E'
def XK:cQ ["every","worths"] ["every","worths"] (bB Bk):=(O,O,O,δ,O,δ,δ)
def Zz(F:bF K "are_worths" "are_worths" Bk f fd)(a3:eC mg)(Ca:bO P w K mg base aX "is_above_rims" ["piece","worths"] 2 xq):bD P w K mg base aX 3 f fd ["every","worths"] (AH K):=by
 refine F.B XK (λvs H Q E h=>?_) (λa0 A I s H vs Q E u h=>?_)
 ·obtain⟨l,d,x,a,g,rfl,_⟩:=h;rfl
 ·obtain⟨l,d,x,a,g,rfl,L,M,nk,a1,h5,R,hd,nc,a2,k⟩:=h
  have hu:=jb u;refine(_,aY (dh (cV (UU u.units) (ik (MB u.units) O a3.e xN<|aj (ah 1) az) (ik (Wp O u.units) O a3.e xN<|aj (ah 0) az)<|cN _) (be<|cp gd) dq)
   (be (cp (eH (wU O) O a3.all xO (aj (fE ["every","worths"] ["piece","worths"] [Z,U 1] (eG<|ah 0) (λcl C q r ex=>cB (i:=0) (eI ["piece","worths"]) O<|ak O) (λcl C q r ex=>gE)
    (λcl C q r ex=>bN Ca u O ce<|aj (ah 0)<|aj (ah 1) az) (hfr:=iQ (bB Bk) δ) (te:=qI xq [] oY<|cT (bz 0)<|cT (bz 1) e_)) az)))),?_)
  have hp:=Yo nc nk;refine(_,O,d,iT g,g.map (·.1),O,hd,ZT g,by rw[aA];omega,λB1 b1 D1 t=>(_,O,l,x,a,O,(aQ.B t).W L,(aQ.B t).J M,ω,λD2 S=>?_));have y:=aQ.B (o:=mn P w D1 (bh (g.map (·.1))) B1) t;have v:=aQ.B (o:=mn P w D2 (bh a)<|a.zip x) S;refine(D1,D2,_,_,B1,a.zip x,O,O,v _ _ aD,aD,b1.N<|y.F v,(qV.J M).N<|y.F v,_,O,?_)
  by_cases e:(g.map (·.1)).Perm a
  ·have G:=hp.mp e
   rw[bZ G.1,bZ G.2];refine cZ ?_;have j:=y.F v;have hn:∀p∈a,∃n,fn g p=U n:=λp m=>E_<|e.mem_iff.mpr m;refine(_,O,l,O,(_,j.W L),λD hD=>fc<|aat (j.W L) (j.J M) ω (hd.B j) h5 hn R hD λH3 T X=>(D,_,O,bx.B X,k _ H3 ?_<|j.F T));rw[kN];constructor
   ·intro z
    exact(e,λp m=>iE<|z _<|bq.mpr (p,m,O))
   ·rintro⟨_,z⟩ b hb
    obtain⟨p,m,rfl⟩:=bq.mp hb;exact bZ<|z p m
  ·have G:(aG ((bh<|g.map (λc:List Int×Int=>c.1)).length=(bh a).length)&&aG (∀k∈bh (g.map (λc:List Int×Int=>c.1)),k∈bh a))=ao:=by
    cases z:(aG ((bh<|g.map (λc:List Int×Int=>c.1)).length=(bh a).length)&&aG (∀k∈bh (g.map (λc:List Int×Int=>c.1)),k∈bh a)) with
    |false=>rfl
    |true=>
     rw[iN,ii,ii] at z;exact aZ (hp.mpr z) e
   rw[G];refine dI<|k ao _ ((λz=>by cases z),λz=>aZ z.1 e)<|y.F v
end
section
variable{prog:aU}{w:aO}{A:bg}{E:Ω}{s:ai}
def ab5:Ht (.type "list") "keys"=bH Z:=by rw[adg,adu];kernel_rfl
def ab7{k:Nat}{Q:Option aa->ai->Prop}(m:s.heap.get? a=U o)(n:o.cls=.type "list")(b:o.data=.seq l k)(p:o.dict=Z)(t:A.handled=Z)(h:∀j q e,Heap.NewExcOf s.heap j e "AttributeError"->Q Z {s with heap:=j,toks:=q}):am (aE prog w) A (HK (.ref a) "keys") Q E s:=by
 obtain⟨c,u,v,x⟩:=o;simp only at n b p;subst n b p;obtain⟨y,g,d,q,z⟩:=s;have r:∀f,((y,g,d,f,z):ai).TypeIs (.ref a) "list":=λ_=>(_,m,O);have C:=sub_AttributeError;have D:=QJ.lookup;have G:=QJ.bind<|.ref a;have H:=am_list_getattr_none;unfold HK getAttrBy? getAttrBy
 repeat(any_goals(first|assumption|exact r _|((with_reducible show am _ _ (gv (cR "list.__getattribute__") _ _) _ _ _);refine nW QJ (r _) am_entry_list_getattribute (F.args_list_getattribute_2 _ _) (meets_getattribute_miss_list a l k x "keys" _ ab5 ξ (by size_fits)) (m,t,λj f e i=>?_))|wp_step))
 obtain⟨I,K,L⟩:=i.there;show am _ _ (adm _ _ _ _ _ _ _) _ _ _;unfold adm
 repeat(any_goals(first|assumption|wp_step))
 exact h _ _ _ i.of
def Pp:Qn table "dict.update.loop"=U Builtin.«dict.update.loop»:=adp (by kernel_rfl)
def BQ:plainId "dict.update.loop"=ae:=δ
abbrev ab6(D I:V)(i:Int):Code:=.builtin "dict.update.loop" ([.ref D,.ref I,dY i,.none],[])
variable{K:Type}[DecidableEq K]{knd:kc prog w K}
abbrev vx(K:Type):Type:=V×List K×V×aa
def vz(knd:kc prog w K)(h:aI)(x:vx K):Prop:=h.IsTuple x.1 #[.ref x.2.2.1,x.2.2.2]/\dT knd h x.2.1 x.2.2.1
def xT(b:List (List K×V×aa))(c:List (vx K)):List (List K×V×aa):=c.foldl (λa x=>BZ a x.2.1 x.2.2.1 x.2.2.2) b
def Po{h m:aI}{o:aR}(g:vz knd h x)(q:∃o,h.get? D=U o/\o.cls=.type "dict")(r:∃o,h.get? I=U o/\o.cls=.type "list_iterator")(p:∀b o,b≠D->b≠I->h.get? b=U o->m.get? b=U o):vz knd m x:=by
 obtain⟨⟨s,f,i,t⟩,u,v,n,j,k,w⟩:=g;obtain⟨G,y,A⟩:=q;obtain⟨H,C,E⟩:=r;have c:∀{a:V}{l:aR},h.get? a=U l->l.cls=.type "tuple"->a≠D/\a≠I:=λ{a l} d e=>by
  refine(λz=>?_,λz=>?_)
  ·rw[z,y] at d
   rw[<-ca d,A] at e;exact aZ e ξ
  ·rw[z,C] at d
   rw[<-ca d,E] at e;exact aZ e ξ
 exact((s,p _ _ (c f i).1 (c f i).2 f,i,t),u,v,n,p _ _ (c j k).1 (c j k).2 j,k,w)
def Pq{h g:aI}{D I:V}{i:List (List K×V×aa)}(d:h.DictOfH (kG knd) D i)(a:D≠I)(k:∃o,h.get? I=U o/\o.cls=.type "list_iterator")(j:∀b o,b≠I->h.get? b=U o->g.get? b=U o):g.DictOfH (kG knd) D i:=by
 obtain⟨o,l,m,p,q,r,s,c,t⟩:=d;obtain⟨E,u,v⟩:=k;refine(o,l,m,j _ _ a p,q,r,s,λx w=>?_,t);obtain⟨y,A,n,e,f,C⟩:=c x w;refine(y,A,n,j _ _ (λz=>?_) e,f,C);rw[z,u] at e;rw[<-ca e,v] at f;exact aZ f ξ
def ab4{t:V}{Q:List aa->ai->Prop}(c:s.heap.IsTuple t a)(h:Q a.toList s):am (aE prog w) A (afv<|.ref t) Q E s:=by
 obtain⟨o,b,d,n,e⟩:=c;unfold afv;refine ag<|rH (show s.TypeIs (.ref t) "tuple" from(o,b,d)) ?_;rw[aB ξ];exact ag<|lS b e<|aC h
def ab3(b:List (List K×V×aa))(k:List K)(a:V)(v:aa):(BZ b k a v).length<=b.length+1:=by
 unfold BZ;split
 ·rw[aA];omega
 ·rw[dz];simp
def Pn{D I L:V}{ts:List (vx K)}{R:tW->ai->Prop}(S:A.handled=Z)(hu:A.units+1<cH)(g:D≠I)(p:L≠D)(h:L≠I):∀(k j:Nat)(s:ai)(i:List (List K×V×aa)),ts.length-j=k->j<=ts.length->s.heap.IsListIter I L j->s.heap.IsList L (ts.map λx=>Y x.1).toArray->(∀x∈ts,vz knd s.heap x)->
   s.heap.DictOfH (kG knd) D i->i.length+k<=bG->
   (∀l n,l.DictOfH (kG knd) D (xT i<|ts.drop j)->(∀b o,b≠D->b≠I->s.heap.get? b=U o->l.get? b=U o)->R (.ok<|.ret .none) {s with heap:=l,toks:=n})->
   iK (aE prog w) A (ab6 D I j) R s
 |0,j,s,i,hk,hj,d,T,H,M,hz,X=>by
  have hn:j=ts.length:=ω
  subst hn;have a8:=vL (prog:=prog) (w:=w) (A:=A.in1) S I L h (ts.map λx=>Y x.1).toArray;refine jj Pp ?_;rw[kK BQ _];unfold Builtin.«dict.update.loop»;dsimp only[dY];refine ag<|a8.done s _ _ (by simpa using d,T) λl n q=>?_;dsimp only;unfold akd;refine ag<|qh (a:=()) O ?_;obtain⟨m,r,t,_⟩:=d;refine aC<|X l n ?_ λb o _ c e=>q b o (by simpa using c) e;rw[List.drop_length];exact Pq M g (m,r,t) λb o c e=>q b o (by simpa using c) e
 |k+1,j,s,i,hk,hj,d,T,H,M,hz,X=>by
  have a8:=vL (prog:=prog) (w:=w) (A:=A.in1) S I L h (ts.map λx=>Y x.1).toArray;have f:j<ts.length:=ω
  refine jj Pp ?_;rw[kK BQ _];unfold Builtin.«dict.update.loop»;dsimp only[dY];refine ag<|a8.item j s _ _ (by simpa using f) (d,T) λv u n hv y q=>?_;have a0:v=.ref (ts[j]).1:=by
   have:(ts.map λx=>Y x.1).toArray[j]?=U (Y (ts[j]).1):=by simp[f]
   exact ca<|hv.symm.trans this
  subst a0;have a7:=H ts[j]<|lE f;obtain⟨m,r,t,_⟩:=id d;have z:∃o,s.heap.get? D=U o/\o.cls=.type "dict":=by
   obtain⟨o,es,ep,ho,hc,_⟩:=M;exact(o,ho,hc.1)
  have C:∀b o,b≠D->b≠I->s.heap.get? b=U o->u.get? b=U o:=λb o _ c e=>q b o (by simpa using c) e;have a1:∀x∈ts,vz knd u x:=λx hx=>Po (o:=m) (H x hx) z (m,r,t) C;have a2:u.DictOfH (kG knd) D i:=Pq M g (m,r,t) λb o c e=>q b o (by simpa using c) e;obtain⟨gt,gk⟩:=a1 ts[j]<|lE f;dsimp only;refine ag<|fz<|ag<|vD<|ab4 (s:={s with heap:=u,toks:=n}) gt ?_;dsimp only;refine fz<|PL (knd:=kG knd) (s:={s with heap:=u,toks:=n}) (hsz:=by omega) (x_ hu) gk a2 λP a3 sb=>?_;have E:∀b o,b≠D->b≠I->s.heap.get? b=U o->P.get? b=U o:=λb o c Q e=>by rw[sb.2 b c];exact C b o c Q e
  have G:P.IsListIter I L (j+1):=y.1.at λo e=>by rw[sb.2 I<|dB g];exact e
  have a4:P.IsList L (ts.map λx=>Y x.1).toArray:=y.2.at λo e=>by rw[sb.2 L p];exact e
  refine aC (lp BQ _,?_);refine Pn S hu g p h k (j+1) {s with heap:=P,toks:=_} _ ω ω G a4 (λx hx=>Po (o:=m) (H x hx) z (m,r,t) E) a3 (by have:=ab3 i (ts[j]).2.1 (ts[j]).2.2.1 (ts[j]).2.2.2;omega) λl a5 a6 k3=>X l a5 ?_ λb o c Q e=>k3 b o c Q<|E b o c Q e;rw[Jm f];exact a6
end
section
variable{prog:aU}{w:aO}{A:bg}{E:Ω}{s:ai}{K:Type}[DecidableEq K]{knd:kc prog w K}
def ab8{n:Nat}{ts:List (vx K)}{Q:Ω}(hh:A.handled=Z)(hu:A.units+2<cH)(ho:s.heap.get? L=U o)(S:o.cls=.type "list")(k:o.data=.seq (ts.map λx=>Y x.1).toArray n)(T:o.dict=Z)(hg:∀x∈ts,vz knd s.heap x)(hz:ts.length<=bG)(h:∀g X,g.DictOfH (kG knd) s⁻¹ (xT [] ts)->(∀b o,b<s⁻¹->s.heap.get? b=U o->g.get? b=U o)->Q (.ref s⁻¹) {s with heap:=g,toks:=X}):am (aE prog w) A (gv (.type "dict") [.ref L]) Q E s:=by
 obtain⟨c,tl,a4⟩:=qe.mro;have a0:=qe.made;have a5:=qe.sub;refine pu<|ye ?_;show am _ _ (HN (.type "dict") _) _ _ _;refine aC (Iw _ δ,jj Iv ?_);rw[IC (Hs "dict" [.ref L] []) O];have h1:=qe.notType;have i:=qe.canCreate;have a6:=ab9<|.ref L
 repeat(any_goals(first|assumption|wp_step))
 refine ka (acf (.ref L) (E:=E) (Q₁:=λv l=>v=.ref s⁻¹/\l={s with heap:=s.heap.push {cls:=.type "dict",data:=.dict #[]}}) (O,O)) λr l hr=>?_;cases r with
 |error e=>exact hr
 |ok fl=>
  cases fl with
  |ret v=>
   obtain⟨rfl,rfl⟩:=hr;have hS:(s.heap.push {cls:=.type "dict",data:=.dict #[]}).get? s⁻¹=U {cls:=.type "dict",data:=.dict #[]}:=dv _ O;have y:rN {s with heap:=s.heap.push {cls:=.type "dict",data:=.dict #[]}} (.ref s⁻¹) "dict":=(_,hS,O);have a7:=qe.init.lookup;have a8:=qe.init.bind<|.ref s⁻¹
   repeat(any_goals(first|assumption|wp_step))
   refine ka (Cx (R:=vG (λr p=>r=.none/\∃g X,p={s with heap:=g,toks:=X}/\g.DictOfH (kG knd) s⁻¹ (xT [] ts)/\
     (∀b o,b<s⁻¹->s.heap.get? b=U o->g.get? b=U o)) E) qe.init.plain F.entry_dict_init<|qe.init.check _ _ _ _ _ _ _ _ y (F.args_dict_init_2 _ _) ?_) λz p a=>?_
   ·have C:L<s⁻¹:=bT ho
    have q:(s.heap.push {cls:=.type "dict",data:=.dict #[]}).get? L=U o:=bJ _ ho;have a1:rN {s with heap:=s.heap.push {cls:=.type "dict",data:=.dict #[]}} (.ref L) "list":=(o,q,S);unfold Builtin.«dict.__init__»;refine ag ?_;unfold aj8;refine ag<|PH y ?_;refine ag<|show am _ _ (bH s⁻¹) _ _ _ from aC ?_;refine aC ?_;show am _ _ (afu "dict.__init__" "dict" s⁻¹ [Y L] []) _ _ _;unfold afu aj7;dsimp only;refine ag<|rH a1 ?_;rw[aB ξ];refine ag<|ab7 (s:={s with heap:=s.heap.push {cls:=.type "dict",data:=.dict #[]}}) q S k T hh λi G e2 x2=>?_;rw[aB (by rfl)];refine ag<|nU ?_;have H:i.IsList L (ts.map λx=>Y x.1).toArray:=(o,x2.keeps _ _ q,S,n,k);refine ag<|xY (s:={s with heap:=i,toks:=G}) H ?_;have M:i.get? s⁻¹=U {cls:=.type "dict",data:=.dict #[]}:=x2.keeps _ _ hS;have t:s⁻¹<i.objs.size:=bT M;have d:∀b j,i.get? b=U j->(i.push {cls:=.type "list_iterator",data:=.fields #[.ref L,.int 0 0]}).get? b=U j:=λb j e=>bJ _ e;have f:∀b j,s.heap.get? b=U j->(i.push {cls:=.type "list_iterator",data:=.fields #[.ref L,.int 0 0]}).get? b=U j:=λb j e=>d _ _<|x2.keeps _ _<|bJ _ e;refine aC (lp BQ _,?_);refine Pn (knd:=knd) (ts:=ts) (L:=L) (D:=s⁻¹) (I:=i.objs.size) (by exact hh) (by first|exact hu|(show A.units+1<cLine;omega)) (ck t) (ck C) (ck<|rZ C t) ts.length 0 {s with heap:=i.push {cls:=.type "list_iterator",data:=.fields #[.ref L,.int 0 0]},toks:=G} [] ω (dZ _)
     (_,dv _ O,O,O) (H.at λj e=>d _ _ e) (λx hx=>?_) (_,#[],0,d _ _ M,(O,O,O),O,O,(λx hx=>nomatch hx),lD) (by simpa using hz) λg P dd k3=>(O,g,P,O,dd,λb j hb e=>k3 b j (ck hb) (ck<|rZ hb t)<|f _ _ e)
    obtain⟨⟨o1,e1,c1⟩,o2,it,m,e2,c2⟩:=hg x hx;exact((o1,f _ _ e1,c1),o2,it,m,f _ _ e2,c2)
   ·cases z with
    |error e=>exact a
    |ok u=>
     cases u with
     |ret r=>
      obtain⟨rfl,g,P,rfl,a2,a3⟩:=a
      repeat(any_goals(first|assumption|wp_step))
      exact h _ _ a2 a3
     |_=>exact a.elim
  |_=>exact hr.elim
end
def wP(a:List (List aN×af)):List (List aN×af):=a.foldl (λb c=>eQ b c.1 c.2) []
section
variable{X:aK}
def Mg:∀(c a:List (List aN×af)),(c.foldl (λa b=>eQ a b.1 b.2) a).length<=a.length+c.length
 |[],a=>by simp
 |b::r,a=>by
  rw[pH];have d:=Mg r<|eQ a b.1 b.2;have e:=zS a b.1 b.2;rw[dP];omega
def Wy(S:X.b=ae)(hu:X.A.units+64<cH):io X (.type "dict") (λG H Q=>∃(l:V)(f:List V)(a:List (List aN×af)),G=[.c l]/\bx X.K H l (f.map af.c)/\
  dA (λt(d:List aN×af)=>∃b,H t=U (.b [.c b,d.2])/\H b=U (.b<|d.1.map dM)) f a/\∀D,H D=Z->Q (.c D) (av H D<|.c<|wP a)):=by
 intro L s σ H G us Q I r h;obtain⟨l,f,a,rfl,T,M,q⟩:=h;obtain⟨u,rfl,ru⟩:=gU r;cases ru;obtain⟨i,r1,⟨o,n,e1,c1,d1,s1⟩,hz⟩:=I.B T;obtain rfl:=mQ r1;have hl:=hZ M;have w:∀{f:List V}{a:List (List aN×af)},dA (λt(d:List aN×af)=>∃b,H t=U (.b [.c b,d.2])/\H b=U (.b<|d.1.map dM)) f a->
   ∃g:List (vx aN),g.map (λx=>Y x.1)=f.map Y/\(∀x∈g,vz (fH X.prog X.w) s.heap x)/\∀c(j:List (List aN×V×aa)),js H c j->js H (a.foldl (λc d=>eQ c d.1 d.2) c) (xT j g):=by
  intro f a z
  induction z with
  |nil=>exact([],O,(λx m=>nomatch m),λc j k=>k)
  |@cons t d f a hh t' ih=>
   obtain⟨g,p,y,A⟩:=ih;obtain⟨b,ht,P⟩:=hh;obtain⟨i,ri,pi,_⟩:=I.J<|fm.B (K:=X.K) ht;obtain⟨vs,e2,rv⟩:∃v,i=[.ref b,v]/\cb d.2 v:=by
    cases ri with
    |cons ra rb=>
     cases rb with
     |cons rc rd=>
      cases rd;cases ra;exact(_,O,rc)
   subst e2;refine((adc t (adc d.1 (adc b vs)))::g,by rw[df,df,p],λx m=>?_,λc j k=>?_)
   ·rcases ci.mp m with rfl|m
    ·exact(pi,pP I.b P)
    ·exact y x m
   ·exact A _ _<|k.J d.1 P rv
 obtain⟨g,p,y,A⟩:=w M;have a0:g.length=a.length:=by
  have:=gD aF p;rw[aA,aA] at this;omega
 rw[aA] at hz;refine ab8 (knd:=fH X.prog X.w) (ts:=g) (n:=n) (I.a.hd S) ω e1 c1 (by rw[p];exact s1) d1 y ω λh' tk dd kk=>?_;have C:=A [] [] .nil;have R:H s⁻¹=Z:=I.b.B<|bc _;obtain⟨q',es,ep,E,h2,h3,h4,h6,h5⟩:=dd;refine(.c s⁻¹,_,I.F (o:=.c<|wP a) (λb u e=>kk b u (bT e) e) (bc _) (?_,?_,xT [] g,C.B λb j e=>?_,q',es,ep,E,h2,h3,h4,h5),O,q _ R)
 ·have:=Mg a []
  unfold wP;simp at this;omega
 ·exact beq_eq_false_iff_ne.mpr<|iM I.B4
 ·rw[a_<|dH e R];exact e
end
def ph(a:Ξ):List Int:=(a.filter λp=>aG<|p.length=1).map λp=>p.headD 0
def abc(a:Ξ)(k:Nat):Int:=((a.filter λp=>aG<|p.length=k+1).length:Int)
abbrev bC:Type:=List<|List Int×Int
def bn(a:bC):Ξ:=a.map (·.1)
def cC(a:bC):List (List aN×af):=a.map λc=>(adc ((c.1.map bd:List aN)) (af.d c.2))
def mY(a:bC)(b:List Int)(n:Int):bC:=if b∈bn a then a.map (λc=>if c.1=b then(adc c.1 n) else c) else a++[(adc b n)]
def pd(a:bC):(cC a).length=a.length:=aA _
def Bx(a:bC):(bn a).length=a.length:=aA _
def Gq(b:bC)(a:List Int)(n:Int):eQ (cC b) (a.map bd) (.d n)=cC (mY b a n):=by
 unfold eQ cC mY;have f:((b.map λc=>(adc ((c.1.map bd:List aN)) (af.d c.2))).any λg=>aG<|g.1=a.map bd)=aG (a∈bn b):=by
  rw[ahn]
  by_cases h:a∈bn b
  ·rw[bZ h,uu]
   obtain⟨c,d,e⟩:=bq.mp h;exact(c,d,bZ<|pR.mpr e)
  ·rw[cf h,Jn]
   intro c d;simp only[DB,ii,pR];rintro rfl;exact h<|bq.mpr (c,d,O)
 rw[f]
 by_cases h:a∈bn b
 ·rw[bZ h,aB O,aB h,bY,bY]
  refine gC λc d=>?_;simp only[DB]
  by_cases e:c.1=a
  ·rw[aB e,aB<|pR.mpr e]
  ·rw[au e,au (λz=>e<|pR.mp z)]
 ·rw[cf h,au (by simp),au h,cv]
  rfl
def Yg(a:bC)(b:List Int)(n:Int):bn (mY a b n)=if b∈bn a then bn a else bn a++[b]:=by
 unfold mY
 by_cases h:b∈bn a
 ·rw[aB h,aB h]
  unfold bn;rw[bY];refine gC λc _=>?_;simp only[DB];split<;>rfl
 ·rw[au h,au h]
  unfold bn;rw[cv]
  rfl
def Ye(d:List Int)(n:Int)(h:(bn c).Nodup):(bn<|mY c d n).Nodup:=by
 rw[Yg]
 by_cases e:d∈bn c
 ·rw[aB e];exact h
 ·rw[au e,mI]
  refine(h,by simp,λa g b f z=>?_);rw[fu] at f;subst f;subst z;exact e g
def Yf(a:bC)(b:List Int)(n:Int):(mY a b n).length<=a.length+1:=by
 unfold mY;split
 ·rw[aA];omega
 ·rw[dz];simp
def rh:∀{b:bC},(bn b).Nodup->∀c∈b,fJ (cC b) (c.1.map bd)=U (.d c.2)
 |[],_,c,a=>aZ a (by simp)
 |d::b,h,c,a=>by
  have e:(d.1::bn b).Nodup:=h;rw[iB] at e;unfold fJ cC;rw[df,lF];rcases ci.mp a with rfl|a
  ·rw[bZ O];rfl
  ·have f:¬d.1.map bd=(c.1.map bd:List aN):=λz=>e.1 (by rw[pR.mp z];exact bq.mpr (c,a,O))
   rw[cf f];exact rh e.2 c a
def ε{H:ac}(h:dA (λ(p:List aN×af) b=>H b=U (.b<|p.1.map dM)) (cC a) c):aW H c (bn a):=by
 unfold cC at h;unfold bn
 induction a generalizing c with
 |nil=>cases h;exact .nil
 |cons x l d=>
  rw[df] at h;cases h with
  |cons r t=>
   refine .cons ?_<|d t;show H _=_;rw[r,bY]
   rfl
abbrev pY(c:List Int×Int):Bool:=!aG (af.d c.2=af.d 0)
def GD(a:Ξ)(p:List Int):(fJ (iU a)<|p.map bd).isSome=aG (p∈a):=by
 rw[<-zm,qA,uu,ii];unfold iU;constructor
 ·rintro⟨g,b,e⟩
  obtain⟨q,c,rfl⟩:=bq.mp b;have d:=iE e;have:q=p:=(uq (f:=(bd:Int->aN)) (λx y h=>vC h)).mp d;rw[<-this];exact(sv a q).mp c
 ·intro h
  exact(_,bq.mpr (p,(sv a p).mpr h,O),by simp)
abbrev xy:bV:=de 27
abbrev AW:bV:=de 28
def GM(H:ac)(t:V)(c:List Int×Int):Prop:=∃b,H t=U (.b [.c b,.d c.2])/\cG H b c.1
def iV(H:ac)(a:List V)(b:bC):Prop:=dA (GM H) a b
def iV.F(h:iV H c d)(s:aQ H a):iV a c d:=il h λ_ _ (b,e,f)=>(b,s _ _ e,s.N f)
def iV.B(h:iV H a b):a.length=b.length:=hZ h
def iV.J{e:List V}(h:iV H e f)(g:H d=U a)(i:∀l,a≠.b l):iV (av H d o) e f:=
 il h λt c (b,j,k)=>(b,by rw[a_<|fL j g λz=>i _ z.symm];exact j,by show av H d o b=_;rw[a_<|fL (show H b=U _ from k) g λz=>i _ z.symm];exact k)
def iV.W{t:V}(h:iV H a b)(q:GM H t c):iV H (a++[t]) (b++[c]):=tX h q
def iV.N(h:iV H a c)(q:iV H b d):iV H (a++b) (c++d):=by
 induction h with
 |nil=>exact q
 |cons r t e=>exact .cons r e
def iV.A0:∀{a:List V}{b:bC}{i:Nat}{t:V},iV H a b->a[i]?=U t->∃c,b[i]?=U c/\GM H t c
 |_,_,0,_,.cons h _,e=>by cases e;exact(_,O,h)
 |_,_,i+1,_,.cons _ t,e=>iV.A0 (i:=i) t (by simpa using e)
def du(a:bC)(q:List Int):Int:=((a.find? λc=>aG<|c.1=q).map (·.2)).getD 0
def WW(a:bC)(q:List Int):(fJ (cC a)<|q.map bd).getD (.d 0)=.d (du a q):=by
 unfold fJ du cC
 induction a with
 |nil=>rfl
 |cons c r b=>
  rw[df,lF,lF]
  by_cases e:c.1=q
  ·rw[bZ e,bZ<|pR.mpr e];rfl
  ·rw[cf e,cf (λz=>e<|pR.mp z)];exact b
def BA(a:bC)(t:List Int×Int):bC:=mY a t.1<|du a t.1+t.2
def kB(a:bC):bC:=a.foldl BA []
def mX(a:bC):bC:=(kB a).filter pY
def Ar(a:bC)(t:List Int×Int):kB (a++[t])=BA (kB a) t:=by unfold kB;rw[Ji];rfl
def GC{b:Type}{P:List b->Prop}(d:P [])(e:∀l x,P l->P (l++[x]))(l:List b):P l:=by
 have:∀n,∀l:List b,l.length=n->P l:=by
  intro n
  induction n with
  |zero=>intro l a;rw[Dw a];exact d
  |succ n f=>
   intro l a;have c:l≠[]:=λz=>by rw[z] at a;simp at a
   rw[<-ahj c];exact e _ _<|f _ (by rw[List.length_dropLast];omega)
 exact this _ l O
def Fg(a:bC):(bn<|kB a).Nodup:=GC (P:=λa=>(bn<|kB a).Nodup) lD (λl x h=>by rw[Ar];exact Ye _ _ h) a
def Fh(a:bC):(kB a).length<=a.length:=GC (P:=λa=>(kB a).length<=a.length) (bc _) (λl x h=>by
 rw[Ar,dz];have:=Yf (kB l) x.1<|du (kB l) x.1+x.2;unfold BA;simp;omega) a
def NQ{q:List Int}(v:Int)(h:q∉bn a):mY a q v=a++[(adc q v)]:=by unfold mY;rw[au h]
def kC(k:Nat)(n:Int):Int:=if(k:Int)%2=0 then n else -n
def gh(a:List Int)(n:Int):bC:=(cq a).zipIdx.map λq=>(adc q.1 (kC q.2 n))
def Nz(a:List Int)(n:Int):(gh a n).length=(cq a).length:=by unfold gh;rw[aA,Rw]
abbrev Np:bb:=ko<|cT (bz 1)<|cT (KF (jF<|dW qJ (dW (mj (λ_ j=>0<j) λi j=>.d<|i%j) (bz 0)<|dK<|.d 2)<|dK<|.d 0) (bz 2)<|wB (sE λi=>.d<|-i)<|bz 2) e_
section
variable{P:aU}{w:aO}{K:aH}{mg:al->Option aa}{base:aI}
def Xd{l:ac}{C:List V}{w:Ξ}{n:Int}{Q:aL}(M:l L=U (.a<|C.map af.c))(X:aW l C w)(hz:w.length<=1000)(hD:l D=Z)(k:∀(b:ac)(c:List V),aQ l b->b D=U (.a<|c.map af.c)->iV b c (w.zipIdx.map λq=>(adc q.1 (kC q.2 n)))->Q (.c D) b):fg (uZ K L) (zU K 2<|sM (eA 0)<|sM (eA 1) zV) ja Np [Z,Z,U<|.d n] l D Q:=by
 have P:=X.B;refine sR C.length (λj m g b=>∃(s u:Option af)(c:List V),m=[s,u,U<|.d n]/\aQ l b/\b D=U (.a g)/\g=c.map af.c/\iV b c ((w.zipIdx.map λq=>(adc q.1 (kC q.2 n))).take j)) ?_ ?_ ?_ ?_ ?_
 ·exact(Z,Z,[],O,aQ.B hD,aD,O,.nil)
 ·rintro m g b ⟨s,u,c,rfl,h,d,rfl,A⟩
  exact(_,bx.B<|h _ _ M,by rw[aA])
 ·rintro i m g b R ⟨s,u,c,rfl,h,d,rfl,A⟩
  exact(_,bx.B<|h _ _ M,by rw[aA];exact R)
 ·rintro i m g b x H' R hy ⟨s,u,c,rfl,h,d,rfl,A⟩ ⟨p,y,rfl,S,rfl,T⟩
  have ey:=T _<|bx.B<|h _ _ M;obtain⟨a,ea,rfl⟩:=fY ey;obtain⟨r,er,hr⟩:=X.F ea;have s1:=aQ.B (o:=.b [.d i,.c a]) S;have e:(w.zipIdx.map λq=>(adc q.1 (kC q.2 n)))[i]?=U (adc r (kC i n)):=by rw[cm,ahd,er];simp
  have hn:C.length<=bG:=dN ω;have E:∀(t:V)(v:Int),v=kC i n->av b p (.b [.d i,.c a]) t=Z->re C.length (λj m g b=>∃(s u:Option af)(c:List V),m=[s,u,U<|.d n]/\aQ l b/\b D=U (.a g)/\g=c.map af.c/\iV b c ((w.zipIdx.map λq=>(adc q.1 (kC q.2 n))).take j)) D i [U<|.d i,U<|.c a,U<|.d n] (.c t) (av (av b p<|.b [.d i,.c a]) t<|.b [.c a,.d v]):=by
   intro t v hv f;have H:=s1.F<|aQ.B (o:=.b [.c a,.d v]) f;have G:=H _ _ d;refine gG hn R hy G (_,_,c++[t],O,(h.F H).A0 hD,aD,by rw[cv];rfl,?_);rw[di e];exact iV.J (iV.W (A.F H) (a,by rw[aD,hv],H.N<|h.N hr)) G (by intro xs z;cases z)
  refine(p,_,O,fm.B aD,O,_,_,O,_,_,O,O,Ea ?_);refine(_,O,_,O,_,_,O,O,(by show(0:Int)<2;decide),O,_,O,?_)
  by_cases I:(i:Int)%2=0
  ·rw[bZ<|gD af.d I]
   exact dI (_,O,cg O,λt f=>E t n (by unfold kC;rw[aB I]) f)
  ·rw[cf (λz=>I (by injection z))]
   exact cZ (_,O,_,O,cg O,λt f=>E t (-n) (by unfold kC;rw[au I]) f)
 ·rintro m g b ⟨s,u,c,rfl,h,d,rfl,A⟩
  rw[P,gb (by rw[aA,Rw];exact bc _)] at A;exact k b c h d A
inductive Fx(vs:List af)(H:ac)(Q:aL)(E':bK):Prop
 |b:∀a ps n,(vs=[.c a,.d n])->(cG H a ps)->(ps.length<=5)->(∀D H2(ts:List V),aQ H H2->H D=Z->H2 D=U (.a<|ts.map af.c)->iV H2 ts (gh ps n)->Q (.c D) H2)->Fx vs H Q E'
def Xv:cQ ["piece","often"] ["piece","often"] (bB xy):=(O,O,O,δ,O,δ,δ)
def YH(F:bF K "seam_terms" "seam_terms" xy f r)(a1:eC mg)(t:bF K "rims_of" "rims_of" xz l d)(y:eT K d ["piece"] [])(z:mg "rims_of"=U (.ref l)):bD P w K mg base aX 2 f r ["piece","often"] Fx:=by
 have G:bD P w K mg base aX 1 l d ["piece"] o_:=NZ t a1;refine F.B Xv (λI H Q E h=>?_) (λM A m s H I Q E R h=>?_)
 ·obtain⟨a,o,n,rfl,_⟩:=h;rfl
 ·obtain⟨a,o,n,rfl,S,T,k⟩:=h
  refine(_,be (cp (fE ["piece","often"] ["k","rim","often"] [Z,Z,U 1] (Ev O a1.f GL<|aj (kr G R O z t.a y .nil ce<|aj (ah 0) az) az)
   (λu C b c v=>wF O<|oK (cB (i:=0) (eI ["k","rim","often"]) O<|ak O)<|oK (cB (i:=1) (eI ["k","rim","often"]) O<|ak O) wE)
   (λu C b c v=>gE) (λu C b c v=>ij<|aj (ah 1)<|aj (Ex (cV jT (cA oP (ah 0) aV) aV<|cN _) (ah 2)<|uL uH<|ah 2) az)
   (hfr:=iQ (bB xy) δ) (g:=zU K 2<|sM (eA 0)<|sM (eA 1) zV) (te:=Np))),?_)
  have X:=nR o;exact(_,O,a,o,O,S,T,λL H1 bs e a0 j hb=>(L,O,(_,bx.B j),λD x=>fc<|Xd j hb ω x λH3 ts p q hp=>k D H3 ts (e.F p) (e.A2 x) q hp))
inductive xi(K:aH)(vs:List af)(H:ac)(Q:aL)(E':bK):Prop
 |a:∀l ts cs,(vs=[.c l])->(bx K H l<|ts.map af.c)->(iV H ts cs)->(cs.length<=1000)->(∀D H',aQ H H'->H D=Z->H' D=U (.c<|cC<|mX cs)->Q (.c D) H')->xi K vs H Q E'
def vf:cQ ["terms","sums","piece","weight","told"] ["terms"] (bB AW):=(O,O,O,δ,O,δ,δ)
def YI(F:bF K "sum_of" "sum_of" AW f fd):bD P w K mg base aX 1 f fd ["terms"] (xi K):=by
 refine F.B vf (λvs H Q E h=>?_) (λb2 A a4 s H vs Q E hr h=>?_)
 ·obtain⟨l,ts,R,rfl,_⟩:=h;rfl
 ·obtain⟨l,ts,R,rfl,hl,hp,hz,k⟩:=h
  have hu:=jb hr;have a5:=hp.B;refine(_,aY (cJ (i:=1) vf.a O (ak O) ml)
   (aY (iF iL O (eG<|ah 0) (wF O<|oK (cB (i:=2) vf.a O<|ak O)<|oK (cB (i:=3) vf.a O<|ak O) wE)
   <|be<|oG hu (ah 1) (ah 2) (cA lM (Lv hu (ah 1) (ah 2) aV (O,O,O,O))<|ah 3) O)
   (aY (cJ (i:=4) vf.a O (ak O) ml)
   (aY (iF iL O (zL<|ah 1) (cB (i:=2) vf.a O<|ak O)
   <|be<|dh (cV qO (jS hu (ah 1) (ah 2) (λ_ _=>O)) aV<|cN _) (be<|oG hu (ah 4) (ah 2) (jS hu (ah 1) (ah 2) (λ_ _=>O)) O) dq)
  <|be<|cp<|ah 4))),?_)
  intro d hd;refine(_,O,l,O,(_,(aQ.B hd).W hl),mm (K:=K) (a:=l) (xs:=ts.map af.c) (λi r H2=>∃(S v3:Option af),r=[U<|.c l,U<|.c d,S,v3,Z]/\aQ H H2/\H2 d=U (.c<|cC<|kB<|R.take i))
   (Z,Z,O,aQ.B hd,aD) (λi r H2 _ (_,_,_,I,_)=>I.W hl) ?_ ?_)
  ·rintro i x r H2 hx ⟨S,v3,rfl,I,n⟩
   obtain⟨t,et,rfl⟩:=fY hx;obtain⟨c,ec,b,e1,e2⟩:=hp.A0 et;have a1:H2 b=U (.b<|(c.1.map bd:List aN).map dM):=by rw[bY];exact I.N e2
   have p:(cC<|kB<|R.take i).length<bG:=by
    rw[pd];have:=Fh<|R.take i;rw[eF] at this;exact li ω
   refine(t,_,O,fm.B<|I _ _ e1,O,_,_,O,_,_,O,O,?_);refine(_,O,d,O,.inr (_,.inl n),_,O,_,hJ.t (k:=c.1.map bd) n a1,?_);rw[WW];refine(_,O,_,_,O,O,_,O,_,O,d,_,O,xf.t (k:=c.1.map bd) n a1 p,(_,_,O,I.A0 hd,?_));rw[aD,Gq,di ec,Ar]
   rfl
  ·rintro r H2 ⟨S,v3,rfl,I,n⟩
   rw[aA,a5,iI] at n;intro T hT;have X:H T=Z:=I.A2 hT;have v:d≠T:=dH n hT;have hn:=Fg R;have a6:=Fh R;unfold mX at k;generalize kB R=m at n hn a6 k;refine(_,O,d,cC m,O,.inl (by rw[a_ v];exact n),λo H3 a7 L=>Md (λi r M=>∃(S:Option af),r=[U<|.c l,U<|.c d,S,v3,U<|.c T]/\aQ H M/\M d=U (.e o<|.c<|cC m)/\M T=U (.c<|cC<|(m.take i).filter pY))
    (_,O,λb u e=>by rw[L b<|dH e hd,a_<|dH e X];exact I _ _ e,a7,by rw[L T<|dB v];exact aD) (λi r M _ (_,_,_,h,_)=>h) ?_ ?_)
   ·rintro i kv b r M y hb ⟨S,rfl,C,D,q⟩
    have hi:i<m.length:=by
     have:=(cE.mp y).1;rw[pd] at this;exact this
    have ec:m[i]?=U m[i]:=cw hi;obtain rfl:(adc (((m[i]).1.map bd:List aN)) (af.d (m[i]).2))=kv:=by
     unfold cC at y;rw[cm,ec] at y;exact ca y
    have a2:m[i]∈m:=lE hi;have a3:(m[i]).1∉bn ((m.take i).filter pY):=λz=>by
     obtain⟨c',a8,e'⟩:=bq.mp z;obtain⟨j,hj⟩:=Ry<|(nA.mp a8).1;have a9:j<i:=by
      have:=(cE.mp hj).1;rw[eF] at this;omega
     rw[yM a9] at hj;have h1:(bn m)[j]?=U (m[i]).1:=by unfold bn;rw[cm,hj];exact gD U e'
     have h2:(bn m)[i]?=U (m[i]).1:=by unfold bn;rw[cm,ec];rfl
     have b0:j<(bn m).length:=by rw[Bx];omega
     have:=(wd b0 hn).mp<|h1.trans h2.symm;omega
    have p:(cC<|(m.take i).filter pY).length<bG:=by
     rw[pd];have:=qw pY<|m.take i;rw[eF] at this;exact li ω
    have g:hJ M d (.c b) (U<|.d (m[i]).2):=.inr (cC m,(m[i]).1.map bd,b,.inr (o,D),O,hb,(rh hn _ a2).symm);have b1:T≠d:=dB v;refine(_,O,_,O,d,_,O,g,O,_,O,?_);cases G:pY m[i] with
    |true=>
     have a0:(!aG (af.d (m[i]).2=af.d 0))=ae:=G;rw[a0];refine dI (_,O,_,O,d,_,O,g,_,O,_,O,T,_,O,xf.t (k:=(m[i]).1.map bd) q hb p,(_,O,C.A0 X,by rw[a_ v];exact D,?_));rw[aD,Gq,NQ _ a3,di ec,kj,yR G]
     rfl
    |false=>
     have a0:(!aG (af.d (m[i]).2=af.d 0))=ao:=G;rw[a0];refine cZ (_,O,C,D,?_);rw[di ec,kj,wf (by rw[G];decide),qy,lG];exact q
   ·rintro r M ⟨S,rfl,C,D,q⟩
    rw[pd,iI] at q;exact(_,O,k T M C X q)
end
def ng(c:List Int×Int)(r:bC)(x:List Int):du (c::r) x=if c.1=x then c.2 else du r x:=by
 unfold du;rw[lF]
 by_cases e:c.1=x
 ·rw[bZ e,aB e];rfl
 ·rw[cf e,au e]
def rr:∀{a:bC}{x:List Int},x∉bn a->du a x=0
 |[],_,_=>O
 |c::r,x,h=>by
  rw[ng,au (λz=>h (by unfold bn;rw[df,z];exact dC))];exact rr λz=>h<|d_ _ z
def Ot(q:List Int)(v:Int)(x:List Int):∀a:bC,du (a.map λc=>if c.1=q then(adc c.1 v) else c) x=if x=q/\q∈bn a then v else du a x
 |[]=>by simp[du,bn]
 |c::r=>by
  rw[df,ng,ng,Ot q v x r];have b:(q∈bn (c::r))↔(c.1=q\/q∈bn r):=by
   show q∈c.1::bn r↔_;rw[ci];constructor
   ·rintro(h|h)
    ·exact .inl h.symm
    ·exact .inr h
   ·rintro(h|h)
    ·exact .inl h.symm
    ·exact .inr h
  by_cases e:c.1=q
  ·rw[aB e]
   by_cases f:x=q
   ·subst f
    rw[aB e,aB (O,b.mpr<|.inl e)]
   ·rw[au (λz=>f<|z.symm.trans e),au (λz=>f z.1),au (λz=>f z.1),au (λz=>f<|z.symm.trans e)]
  ·rw[au e]
   by_cases f:c.1=x
   ·rw[aB f,aB f,au (λz=>e<|f.trans z.1)]
   ·rw[au f,au f]
    by_cases g:x=q/\q∈bn r
    ·rw[aB g,aB (g.1,b.mpr<|.inr g.2)]
    ·rw[au g,au (λz=>g (z.1,(b.mp z.2).resolve_left e))]
def Ov(q:List Int)(v:Int)(x:List Int):∀a:bC,du (a++[(adc q v)]) x=if x∈bn a then du a x else if q=x then v else 0
 |[]=>by simp[du,bn];split<;>rfl
 |c::r=>by
  rw[List.cons_append,ng,ng,Ov q v x r]
  by_cases e:c.1=x
  ·rw[aB e,aB e,aB (by show x∈c.1::bn r;rw[e];exact dC)]
  ·rw[au e,au e]
   by_cases h:x∈bn r
   ·rw[aB h,aB<|show x∈bn (c::r) from d_ _ h]
   ·have b:¬x∈bn (c::r):=λz=>by
     rcases ci.mp (show x∈c.1::bn r from z) with z|z
     ·exact e z.symm
     ·exact h z
    rw[au h,au b]
def ς(a:bC)(q:List Int)(v:Int)(x:List Int):du (mY a q v) x=if x=q then v else du a x:=by
 unfold mY
 by_cases h:q∈bn a
 ·rw[aB h,Ot]
  by_cases e:x=q
  ·rw[aB (e,h),aB e]
  ·rw[au (λz=>e z.1),au e]
 ·rw[au h,Ov]
  by_cases e:x=q
  ·subst e
   rw[au h,aB O,aB O]
  ·rw[au e]
   by_cases g:x∈bn a
   ·rw[aB g]
   ·rw[au g,au (λz=>e z.symm),rr g]
def gJ(a:bC)(x:List Int):Int:=(a.map λc=>if c.1=x then c.2 else 0).sum
def WY(a:bC)(t:List Int×Int)(x:List Int):gJ (a++[t]) x=gJ a x+if t.1=x then t.2 else 0:=by
 unfold gJ;rw[cv,agz];simp
def Al(a:bC)(t:List Int×Int)(x:List Int):gJ (t::a) x=(if t.1=x then t.2 else 0)+gJ a x:=by unfold gJ;rw[df,om]
def Nj(a b:bC)(x:List Int):gJ (a++b) x=gJ a x+gJ b x:=by unfold gJ;rw[cv,agz]
def Xj(x:List Int)(a:bC):du (kB a) x=gJ a x:=GC (P:=λa=>du (kB a) x=gJ a x) O (λl t h=>by
 rw[Ar,WY];unfold BA;rw[ς]
 by_cases e:x=t.1
 ·subst e
  rw[aB O,aB O,h]
 ·rw[au e,au (λz=>e z.symm),h];omega) a
def Ou(x:List Int):∀{a:bC},(bn a).Nodup->du (a.filter pY) x=du a x
 |[],_=>O
 |i::r,h=>by
  have b:(i.1::bn r).Nodup:=h;rw[iB] at b;have f:=Ou x b.2;cases d:pY i with
  |true=>rw[yR d,ng,ng,f]
  |false=>
   have g:i.2=0:=by
    have:(!aG (af.d i.2=af.d 0))=ao:=d;have:=iE (by simpa using this:decide (af.d i.2=af.d 0)=true);injection this
   rw[wf (by rw[d];decide),ng,f]
   by_cases e:i.1=x
   ·rw[aB e,g]
    exact rr (by rw[<-e];exact b.1)
   ·rw[au e]
def As(a:bC)(x:List Int):du (mX a) x=gJ a x:=by unfold mX;rw[Ou x<|Fg a,Xj]
def rm(a:bC):(bn<|mX a).Nodup:=(Fg a).sublist<|(ahg (p:=pY) (l:=kB a)).map _
def Nx(a:bC):(mX a).length<=a.length:=dE (qw _ _)<|Fh a
def vo:∀{b:bC},(bn b).Nodup->∀c∈b,du b c.1=c.2
 |[],_,c,h=>aZ h (by simp)
 |d::r,h,c,g=>by
  have f:(d.1::bn r).Nodup:=h;rw[iB] at f;rw[ng];rcases ci.mp g with e|a
  ·rw[e,aB O]
  ·rw[au (λz=>f.1 (by rw[z];exact bq.mpr (c,a,O)))]
   exact vo f.2 c a
def Ny{c:List Int×Int}(h:c∈mX a):c.2≠0/\gJ a c.1=c.2:=by
 refine(λz=>?_,?_)
 ·have:=(nA.mp h).2
  have:(!aG (af.d c.2=af.d 0))=ae:=this;rw[z] at this;exact aZ this ξ
 ·rw[<-As]
  exact vo (rm a) c h
def W_{a:bC}{x:List Int}(h:∀t∈a,t.1≠x):gJ a x=0:=by
 induction a with
 |nil=>rfl
 |cons t r b=>rw[Al,au<|h t dC,b λu c=>h u<|d_ _ c];rfl
def Xa(h:gJ a x≠0):∃t∈a,t.1=x:=by
 refine oy λz=>h<|W_ λt b e=>z (t,b,e)
def XQ{c:List Int}(h:c.Nodup):(cq c).Nodup:=by
 unfold cq;split
 ·exact lD
 ·have d:∀j k,j<k->k<c.length->c.take j++c.drop (j+1)≠c.take k++c.drop (k+1):=by
   intro j k f o e;have g:(c.take j++c.drop (j+1))[j]?=(c.take k++c.drop (k+1))[j]?:=by rw[e]
   rw[yO (by rw[eF];omega),yP (by rw[eF];omega),yM f,List.getElem?_drop,eF,Rq ω] at g;rw[show j+1+(j-j)=j+1 from ω] at g;have:=(wd ω h).mp g;omega
  unfold bP;rw[jN];refine(Dp (n:=c.length)).imp_of_mem λ{a b} l m i e=>?_;rw[h_] at l m;rcases ago i with z|z
  ·exact d a b z m e
  ·exact d b a z l e.symm
def Fl(a:List Int)(n:Int):bn (gh a n)=cq a:=by
 unfold bn gh;rw[bY];exact IZ 0<|cq a
def Xk(a:List Int)(n:Int)(x:List Int):gJ (gh a n) x=n*gJ (gh a 1) x:=by
 unfold gh;generalize (cq a).zipIdx=l
 induction l with
 |nil=>simp[gJ]
 |cons q r b=>
  rw[df,df,Al,Al,b,ah0]
  congr 1
  by_cases e:q.1=x
  ·rw[aB e,aB e]
   unfold kC;split<;>simp
  ·rw[au e,au e];simp
def Ni(f:List Int×Int->bC)(x:List Int):∀a:bC,gJ (a.flatMap f) x=(a.map λc=>gJ (f c) x).sum
 |[]=>O
 |c::r=>by rw[ot,Nj,df,om,Ni f x r]
abbrev F':bV:=de 26
def XX(r:bX H d (.c a))(h:H b=U o)(c:∀k,o≠.c k)(e:∀q k,o≠.e q (.c k)):b≠d:=by
 rintro rfl;rcases r with r|⟨q,r⟩
 ·exact c _<|ca<|h.symm.trans r
 ·exact e _ _<|ca<|h.symm.trans r
def gi.A3{e:List af}(s:gi d H c)(r:bX H d (.c a))(h:H b=U (.a e)):c b=U (.a e):=s _ _ (XX r h (by intro k z;cases z) (by intro q k z;cases z)) h
def gi.A1(s:gi d H a)(r:bX a d u)(h:a l=Z):H l=Z:=by
 cases q:H l with
 |none=>rfl
 |some o=>
  have b:l≠d:=λz=>by
   rw[z] at h;rcases r with r|⟨_,r⟩<;>rw[h] at r<;>cases r
  rw[s _ _ b q] at h;cases h
def gi.A0(e:gi d H c)(h:H a=Z):gi d H (av c a o):=λb u f q=>by rw[a_<|dH q h];exact e b u f q
def OL{i:Nat}(h:(cC a)[i]?=U b):∃c,a[i]?=U c/\b=(adc ((c.1.map bd:List aN)) (af.d c.2)):=by
 unfold cC at h;rw[cm] at h;cases e:a[i]? with
 |none=>rw[e] at h;cases h
 |some c=>rw[e] at h;exact(c,O,(ca h).symm)
def Ak{H:ac}{a:List Int}(h:H b=U (.b<|(a.map bd:List aN).map dM)):cG H b a:=by rw[bY] at h;exact h
def ψ{a:bC}{i:Nat}(f:List Int×Int->bC)(h:a[i]?=U c):(a.take<|i+1).flatMap f=(a.take i).flatMap f++f c:=by rw[di h,Du];simp
def GF{cs:bC}(h:∀c∈cs,c.1.length<=5):(cs.flatMap λc=>gh c.1 c.2).length<=5*cs.length:=by
 induction cs with
 |nil=>simp
 |cons c r a=>
  rw[ot,dz,dP,Nz];have:=a λd b=>h d<|d_ _ b;have:=nR c.1;have:=h c dC;omega
section
variable{P:aU}{w:aO}{K:aH}{mg:al->Option aa}{base:aI}
inductive Fy(vs:List af)(H:ac)(Q:aL)(E':bK):Prop
 |a:∀d cs,(vs=[.c d])->(bX H d<|.c<|cC cs)->((bn cs).Nodup)->(cs.length<=200)->((∀c∈cs,c.1.length<=5))->(∀D H',gi d H H'->bX H' d (.c<|cC cs)->H D=Z->H' D=U (.c<|cC<|mX<|cs.flatMap λc=>gh c.1 c.2)->Q (.c D) H')->Fy vs H Q E'
def FT:cQ ["chain","terms","piece"] ["chain"] (bB F'):=(O,O,O,δ,O,δ,δ)
def YJ(F:bF K "seam_of" "seam_of" F' f fd)(Ft:bF K "seam_terms" "seam_terms" xy ft v)(bt:eT K v ["piece","often"] [])(mt:mg "seam_terms"=U (.ref ft))(Gt:bD P w K mg base aX 2 ft v ["piece","often"] Fx)(Fs:bF K "sum_of" "sum_of" AW fs x)(bs:eT K x ["terms"] [])(ms:mg "sum_of"=U (.ref fs))(Gs:bD P w K mg base aX 1 fs x ["terms"] (xi K)):bD P w K mg base aX 3 f fd ["chain"] Fy:=by
 refine F.B FT (λvs H Q E h=>?_) (λa9 A a0 s H vs Q E hr h=>?_)
 ·obtain⟨d,y,rfl,_⟩:=h;rfl
 ·obtain⟨d,y,rfl,hd,a1,b0,T,k⟩:=h
  have hu:=jb hr;have a2:eJ 1 _:=hr.F ξ;have a3:eJ 2 _:=hr.F ξ;refine(_,aY (cJ (i:=1) FT.a O (ak O)<|eR az)
   (aY (iF iL O (zL<|ah 0) (cB (i:=2) FT.a O<|ak O)
   <|be<|eW<|oO rR aev PySem.F.type_list_extend Vg (ah 1)<|aj (kr Gt a3 O mt Ft.a bt .nil ce<|aj (ah 2)<|aj (jS hu (ah 0) (ah 2) (λ_ _=>O)) az) az)
  <|be<|cp<|kr Gs a2 O ms Fs.a bs .nil ce<|aj (ah 1) az),?_)
  refine(cg O,λL I=>?_);have M:d≠L:=by
   rcases hd with r|⟨_,r⟩
   ·exact dH r I
   ·exact dH r I
  refine(_,O,d,cC y,O,hd.B<|aQ.B I,λo H3 a4 q=>Md (λi X t=>∃(v3:Option af)(G:List V),X=[U<|.c d,U<|.c L,v3]/\gi d H t/\t d=U (.e o<|.c<|cC y)/\t L=U (.a<|G.map af.c)/\iV t G ((y.take i).flatMap λc=>gh c.1 c.2))
   (Z,[],O,λb u hb e=>by rw[q b hb,a_<|dH e I];exact e,a4,by rw[q L<|dB M];exact aD,.nil) (λi X t _ (_,_,_,_,h,_)=>h) ?_ ?_)
  ·rintro i kv b X t a5 hb ⟨v3,G,rfl,p,j,l,m⟩
   obtain⟨c,ec,rfl⟩:=OL a5;have n:=dy ec;have g:hJ t d (.c b) (U<|.d c.2):=.inr (cC y,c.1.map bd,b,.inr (o,j),O,hb,(rh a1 c n).symm);refine(_,O,.inl (O,_,bx.B l),_,O,_,O,_,O,d,_,O,g,b,c.1,c.2,O,Ak hb,T c n,λD5 H5 us a a8 C R=>?_);have b1:=m.B;have a6:=R.B;have S:=GF (cs:=y.take i) λc hc=>T c<|wa hc;rw[eF] at S;rw[Nz] at a6;have:=nR c.1;have:=T c n;refine(L,D5,_,_,O,O,a _ _ l,C,by rw[aA,aA];exact dN ω,(_,G++us,O,(p.F<|gi.J a).A0 I,by rw[a_ M];exact a _ _ j,by rw[aD,cv],?_));rw[ψ _ ec];exact iV.J ((m.F a).N R) (a _ _ l) (by intro xs z;cases z)
  ·rintro X t ⟨v3,G,rfl,p,j,l,m⟩
   rw[pd,iI] at m;have S:=GF T;refine(_,O,L,G,_,O,bx.B l,m,ω,λD H5 a a7 C=>?_);exact k D H5 (p.F<|gi.J a) (.inr (o,a _ _ j)) (p.A1 (.inr (o,j)) a7) C
end
abbrev FQ(a:bC):bC:=mX<|a.flatMap λc=>gh c.1 c.2
def jY(q x:List Int):Int:=gJ (gh q 1) x
def m_(a:bC)(x:List Int):Int:=(a.map λc=>c.2*jY c.1 x).sum
def Xr(a:bC)(x:List Int):du (FQ a) x=m_ a x:=by
 rw[As,Ni];unfold m_
 congr 1
 exact gC λc _=>Xk c.1 c.2 x
def GH(x l:List Int):Int:=if l=x then 1 else 0
def Am(q x:List Int):jY q x=((cq q).zipIdx.map λr=>kC r.2 1*GH x r.1).sum:=by
 unfold jY gJ gh;rw[bY]
 congr 1
 refine gC λr _=>?_;show(if r.1=x then kC r.2 1 else 0)=kC r.2 1*GH x r.1;unfold GH
 by_cases e:r.1=x
 ·rw[aB e,aB e,ahx]
 ·rw[au e,au e,Js]
def aaf(x:List Int):∀f:List Int,f.length<=5->m_ (gh f 1) x=0
 |[],_=>by simp[m_,gh,cq,dk,Dn]
 |[a],_=>by simp[m_,gh,cq]
 |[a,b],_=>by simp[m_,gh,cq,Am,dk,Dn]
 |[a,b,c],_=>by
  simp[m_,gh,cq,Am,dk,Dn,kC];omega
 |[a,b,c,d],_=>by
  simp[m_,gh,cq,Am,dk,Dn,kC];omega
 |[a,b,c,d,e],_=>by
  simp[m_,gh,cq,Am,dk,Dn,kC];omega
 |_::_::_::_::_::_::_,h=>by simp at h
def Fd(h:(bn a).Nodup)(x:List Int):gJ a x=du a x:=by
 induction a with
 |nil=>rfl
 |cons c r d=>
  have b:(c.1::bn r).Nodup:=h;rw[iB] at b;rw[Al,ng,d b.2]
  by_cases e:c.1=x
  ·rw[aB e,aB e,rr (by rw[<-e];exact b.1)];omega
  ·rw[au e,au e];omega
def ain(q:List Int):Int:=1-2*(1-(q.length:Int)%2)
def aip(a:Ξ)(n:Nat):Int:=((dk n).map λk=>abc a k*(1-(k:Int)%2*2)).sum
def OZ{q:List Int}:q∈cW a↔q≠[]/\∃t∈a,q.Sublist t:=by
 rw[qc,ki];constructor
 ·rintro⟨t,c,b⟩
  exact((nu.mp b).1,t,c,(nu.mp b).2)
 ·rintro⟨h,t,c,b⟩
  exact(t,c,nu.mpr (h,b))
abbrev aio(t p:List Int):Bool:=(p.map λx=>aG<|x∈t).all id
section
variable{pss:Ξ}{p:List Int}
def G'(hw:gj pss=ae){q:List Int}(h:q∈cW pss):ll q=ae:=by
 obtain⟨t,a,b⟩:=ki.mp<|qc.mp h;exact BK ((qb hw).2.1 t a) b
end
def nr(a:Ξ)(p:List Int):Bool:=gl p&&!aG (p∈a)&&(cq p).all λr=>aG<|r∈a
def dU(l:Ξ):Prop:=∀i p,l[i]?=U p->nr (l.take i) p=ae
def rE:nr a p=ae↔ll p=ae/\p∉a/\∀r∈cq p,r∈a:=by
 unfold nr;rw[iN,iN,BL,Jw,decide_eq_false_iff_not,kN,and_assoc];exact and_congr_right λ_=>and_congr_right λ_=>(λh r b=>iE<|h r b,λh r b=>bZ<|h r b)
def GX:dU []:=λi p h=>by simp at h
def GW(h:dU l)(a:nr l p=ae):dU (l++[p]):=λi q e=>by
 rcases oh i l.length with c|c
 ·rw[yP c] at e
  rw[List.take_append_of_le_length ω];exact h i q e
 ·have b:i=l.length:=by
   have:=(cE.mp e).1;rw[dz,Dr] at this;omega
  subst b;rw[yO<|bc _,agk] at e;cases e;rw[agy]
  ·exact a
  ·rfl
def tC(h:dU l){p:List Int}(a:p∈l):ll p=ae/\∀r∈cq p,r∈l:=by
 obtain⟨i,e⟩:=jO.mp a;obtain⟨b,_,c⟩:=rE.mp<|h i p e;exact(b,λr d=>wa<|c r d)
def BM(h:dU l):l.Nodup:=by
 refine v_.mpr<|ul.mpr λi j b c a e=>?_;refine(rE.mp<|h j l[j]<|cw c).2.1<|jO.mpr (i,?_);rw[yM a,cw b,e]
abbrev cj:=Nat->Int
structure nv(p:Int):Prop where
 e:2<=p
 c:∀a b,p ∣ a*b->p ∣ a\/p ∣ b
 d:∀w g,¬p ∣ w->∃k:Nat,(k:Int)<p/\p ∣ (k:Int)*w-g
def BV{n:Nat}(p:2<=n)(h:∀a:Fin n,∀b:Fin n,(a.1*b.1)%n=0->a.1=0\/b.1=0)(i:∀w:Fin n,∀g:Fin n,w.1=0\/∃k:Fin n,(k.1*w.1)%n=g.1):nv (n:Int):=by
 have c:∀a:Int,∃x:Fin n,(x.1:Int)=a%n:=λa=>by
  have q:0<=a%(n:Int):=uw _ ω;have r:a%(n:Int)<n:=ux _ ω;exact(((a%(n:Int)).toNat,ω),by simp only;omega)
 refine(ω,λa b j=>?_,λw g l=>?_)
 ·obtain⟨x,d⟩:=c a
  obtain⟨y,f⟩:=c b;have e:(a*b)%(n:Int)=0:=ah3 j;rw[Jt,<-d,<-f] at e;have m:(x.1*y.1)%n=0:=by exact_mod_cast e
  rcases h x y m with z|z
  ·left
   refine Dz ?_;rw[<-d,z];rfl
  ·right
   refine Dz ?_;rw[<-f,z];rfl
 ·obtain⟨x,d⟩:=c w
  obtain⟨y,f⟩:=c g;rcases i x y with z|⟨k,o⟩
  ·refine aZ (Dz ?_) l
   rw[<-d,z];rfl
  ·refine(k.1,by exact_mod_cast k.2,?_)
   refine Dz ?_;have e:((k.1:Int)*w)%n=g%n:=by
    rw[Jt,<-d,<-f,<-o]
    push_cast
    rw[Jt,Int.emod_emod,<-Jt]
   rw[Int.sub_emod,e,ahu]
   rfl
def acp:nv 2:=BV (n:=2) ξ ξ ξ
def aco:nv 3:=BV (n:=3) ξ ξ ξ
def acn:nv 5:=BV (n:=5) ξ ξ ξ
def acm:nv 7:=BV (n:=7) ξ ξ ξ
def kF(p:Int)(f:cj):Prop:=∀u,p ∣ f u
def iq(p:Int)(f:cj)(t:Nat):Prop:=¬p ∣ f t/\∀u,t<u->p ∣ f u
def pn(p:Int)(f:cj)(T:Nat):Prop:=∀u,T<=u->p ∣ f u
abbrev eU(f:cj)(a:Int)(g:cj):cj:=λu=>f u-a*g u
def tG{p a x y:Int}(h:p ∣ x)(k:p ∣ y):p ∣ x-a*y:=qz h<|nD k<|uz _ _
def acr{p a x y:Int}(h:p ∣ x-a*y)(k:p ∣ y):p ∣ x:=by
 have:=pI h<|nD k<|uz a y
 rwa [ahv] at this
def iq.B(h:iq p f a)(k:iq p f b):a=b:=by
 rcases Dj a b with z|z|z
 ·exact aZ (h.2 b z) k.1
 ·exact z
 ·exact aZ (k.2 a z) h.1
def iq.F(h:iq p f a):¬kF p f:=λz=>h.1<|z a
def pk(p:Int):List (Nat×cj)->cj->Prop
 |[],f=>kF p f
 |r::L,f=>∃a,pk p L (eU f a r.2)
def Hg{p:Int}:∀{L:List (Nat×cj)}{f g:cj},(∀u,p ∣ f u-g u)->pk p L g->pk p L f
 |[],f,g,h,b=>λu=>by
  have:=pI (h u)<|b u
  rwa [ahv] at this
 |r::L,f,g,h,(a,b)=>(a,Hg (λu=>by
   have e:eU f a r.2 u-eU g a r.2 u=f u-g u:=by show f u-a*r.2 u-(g u-a*r.2 u)=_;omega
   rw[e];exact h u) b)
def Hd:∀{L:List (Nat×cj)}{f:cj},kF p f->pk p L f
 |[],f,h=>h
 |r::L,f,h=>(0,Hd λu=>by show p ∣ f u-0*r.2 u;rw[ahr,Int.sub_zero];exact h u)
def Pw(P:nv p):∀{L:List (Nat×cj)},(L.map (·.1)).Nodup->(∀r∈L,iq p r.2 r.1)->∀{f:cj},pk p L f->kF p f\/∃r∈L,iq p f r.1
 |[],_,_,f,h=>.inl h
 |r::L,j,n,f,(a,h)=>by
  rw[df,iB] at j;have g:=n r<|.head _;have b:∀u,f u=eU f a r.2 u+a*r.2 u:=λu=>by show f u=f u-a*r.2 u+a*r.2 u;omega
  rcases Pw P j.2 (λq i=>n q<|.tail _ i) h with z|⟨q,i,z⟩
  ·by_cases c:p ∣ a
   ·left
    intro u;rw[b u];exact pI (z u)<|nD c<|DA _ _
   ·right
    refine(r,.head _,λe=>?_,λu d=>?_)
    ·have:p ∣ a*r.2 r.1:=by
      have:=qz e<|z r.1
      rwa [show f r.1-eU f a r.2 r.1=a*r.2 r.1 from by rw[b r.1];omega] at this
     rcases P.c _ _ this with k|k
     ·exact c k
     ·exact g.1 k
    ·rw[b u]
     exact pI (z u)<|nD (g.2 u d)<|uz _ _
  ·have l:q.1≠r.1:=λe=>j.1<|e▸Ru i
   by_cases c:p ∣ a
   ·right
    refine(q,.tail _ i,λe=>z.1 ?_,λu d=>?_)
    ·exact dvd_of e c
    ·rw[b u]
     exact pI (z.2 u d)<|nD c<|DA _ _
   ·rcases ago l with m|m
    ·right
     refine(r,.head _,λe=>?_,λu d=>?_)
     ·have k:=qz e<|z.2 r.1 m
      rw[show f r.1-eU f a r.2 r.1=a*r.2 r.1 from by rw[b r.1];omega] at k;rcases P.c _ _ k with k|k
      ·exact c k
      ·exact g.1 k
     ·rw[b u]
      exact pI (z.2 u ω)<|nD (g.2 u d)<|uz _ _
    ·right
     refine(q,.tail _ i,λe=>z.1<|tG e<|g.2 q.1 m,λu d=>?_);rw[b u];exact pI (z.2 u d)<|nD (g.2 u ω)<|uz _ _
where
 dvd_of {p a x y:Int} (e:p ∣ x) (c:p ∣ a):p ∣ x-a*y:=qz e<|nD c<|DA _ _
structure xW(p:Int)(S:cj->cj):Prop where
 b:∀f a g u,S (eU f a g) u=S f u-a*S g u
 z:∀{f},kF p f->kF p (S f)
structure jg where
 b:Nat
 d:Option Nat
 r:cj
 g:cj
structure Hj(p:Int)(S:cj->cj)(T:Nat)(x:jg):Prop where
 a:x.b<T
 c:iq p x.r x.b
 d:kF p (S x.r)
 b:∀t,x.d=U t->t<T/\x.b<t/\iq p x.g t/\∀u,p ∣ S x.g u-x.r u
structure Rows(p:Int)(S:cj->cj)(T:Nat)(L:List jg):Prop where
 a:∀x∈L,Hj p S T x
 c:(L.map (·.b)).Nodup
 all:∀t,t<T->(∃x∈L,x.b=t)\/∃x∈L,x.d=U t
 d:∀x∈L,∀y∈L,y.d≠U x.b
 e:∀x∈L,∀y∈L,∀t,x.d=U t->y.d=U t->x=y
def Px{L:List jg}(d:(L.map (·.b)).Nodup){x y:jg}(f:x∈L)(g:y∈L)(e:x.b=y.b):x=y:=by
 induction L with
 |nil=>cases f
 |cons q L h=>
  rw[df,iB] at d;rcases ci.mp f with rfl|c
  ·rcases ci.mp g with rfl|a
   ·rfl
   ·exact aZ (bq.mpr (y,a,e.symm)) d.1
  ·rcases ci.mp g with rfl|a
   ·exact aZ (bq.mpr (x,c,e)) d.1
   ·exact h d.2 c a
def tI(t:Nat)(L:List jg):List (Nat×cj):=(L.filter λx=>match x.d with|some d=>aG (d<t)|none=>ao).map λx=>(adc x.b x.r)
def xV{t:Nat}{q:Nat×cj}:q∈tI t L↔∃x∈L,∃d,x.d=U d/\d<t/\q=(adc x.b x.r):=by
 unfold tI;rw[bq];constructor
 ·rintro⟨x,a,rfl⟩
  rw[nA] at a;obtain⟨c,b⟩:=a;cases e:x.d with
  |none=>rw[e] at b;cases b
  |some d=>rw[e] at b;exact(x,c,d,e,iE b,O)
 ·rintro⟨x,a,d,e,f,rfl⟩
  refine(x,nA.mpr (a,?_),O);rw[e];exact bZ f
def acs{t:Nat}{L:List jg}(a:(L.map (·.b)).Nodup):((tI t L).map (·.1)).Nodup:=by
 unfold tI;rw[bY];exact akh (aho _ ahg) a
def Hh{p a:Int}{x:Nat×cj}:∀{L:List (Nat×cj)}{f g:cj},x∈L->(∀u,p ∣ eU g a x.2 u-f u)->pk p L f->pk p L g
 |r::L,f,g,b,h,(k,c)=>by
  rcases ci.mp b with rfl|b
  ·refine(k+a,Hg (λu=>?_) c)
   have e:eU g (k+a) x.2 u-eU f k x.2 u=eU g a x.2 u-f u:=by
    show g u-(k+a)*x.2 u-(f u-k*x.2 u)=g u-a*x.2 u-f u;rw[Int.add_mul];omega
   rw[e];exact h u
  ·refine(k,Hh (a:=a) (f:=eU f k r.2) b (λu=>?_) c)
   have e:eU (eU g k r.2) a x.2 u-eU f k r.2 u=eU g a x.2 u-f u:=by
    show g u-k*r.2 u-a*x.2 u-(f u-k*r.2 u)=g u-a*x.2 u-f u;omega
   rw[e];exact h u
def He{b:List (Nat×cj)}:∀{L:List (Nat×cj)}{e:cj},(∀x∈L,x∈b)->pk p L e->pk p b e
 |[],e,_,h=>Hd h
 |r::L,e,c,(g,h)=>Hh (a:=g) (f:=eU e g r.2) (c r<|.head _) (λu=>by rw[ahu];exact mL _) (He (λx d=>c x<|.tail _ d) h)
def Hi(P:nv p){T:Nat}(e:pn p f (T+1))(c:iq p g T):∃a:Int,pn p (eU f a g) T/\(¬p ∣ f T->¬p ∣ a):=by
 obtain⟨k,_,d⟩:=P.d (g T) (f T) c.1;refine(k,λu b=>?_,λh i=>h ?_)
 ·rcases ags b with rfl|b
  ·have:=ah4.mpr d
   rwa [show -((k:Int)*g T-f T)=eU f k g T from by show _=f T-k*g T;omega] at this
  ·exact tG (e u b)<|c.2 u b
 ·have j:p ∣ (k:Int)*g T:=nD i<|DA _ _
  have:=qz j d
  rwa [show(k:Int)*g T-((k:Int)*g T-f T)=f T from ω] at this
def Hf(P:nv p)(g:xW p S)(R:Rows p S T L):∀t,t<=T->∀f,pn p f t->pk p (tI t L) (S f)
 |0,_,f,h=>Hd (g.z λu=>h u<|dZ _)
 |t+1,j,f,h=>by
  have b:∀m∈tI t L,m∈tI (t+1) L:=λq k=>by
   obtain⟨m,c,d,e,l,rfl⟩:=xV.mp k;exact xV.mpr (m,c,d,e,ω,O)
  rcases R.all t j with ⟨m,c,rfl⟩|⟨m,c,e⟩
  ·have o:=R.a m c
   obtain⟨n,i,_⟩:=Hi P h o.c;refine Hg (λu=>?_)<|He b<|Hf P g R _ ω _ i;rw[g.b];rw[show S f u-(S f u-n*S m.r u)=n*S m.r u from ω];exact nD (o.d u)<|uz _ _
  ·have o:=(R.a m c).b t e
   obtain⟨n,i,_⟩:=Hi P h o.2.2.1;refine Hh (a:=n) (x:=(adc m.b m.r)) (xV.mpr (m,c,t,e,ω,O)) (λu=>?_)<|He b<|Hf P g R _ ω _ i;rw[g.b];rw[show eU (S f) n m.r u-(S f u-n*S m.g u)=n*(S m.g u-m.r u) from by show S f u-n*m.r u-(S f u-n*S m.g u)=_;rw[RG];omega];exact nD (o.2.2.2 u)<|uz _ _
def acg(P:nv p)(w:xW p S)(R:Rows p S T L){t:Nat}(D:pn p c T)(E:kF p (S c))(j:iq p c t):∃x∈L,x.b=t:=by
 have G:t<T:=agp λz=>j.1<|D t z;rcases R.all t G with h|⟨x,l,e⟩
 ·exact h
 ·exfalso
  have o:=(R.a x l).b t e;obtain⟨Q,H,m⟩:=Hi P (T:=t) (f:=c) (g:=x.g) (λu n=>j.2 u n) o.2.2.1;have I:=m j.1;have r:=Hf P w R t ω _ H;have A:=(R.a x l).c;have C:∀u,p ∣ S (eU c Q x.g) u+Q*x.r u:=λu=>by
   rw[w.b];have K:=tG (a:=Q) (E u)<|o.2.2.2 u
   rwa [show S c u-Q*(S x.g u-x.r u)=S c u-Q*S x.g u+Q*x.r u from by rw[RG];omega] at K
  have i:iq p (S<|eU c Q x.g) x.b:=by
   refine(λz=>?_,λu n=>?_)
   ·have k:=qz (C x.b) z
    rw[show S (eU c Q x.g) x.b+Q*x.r x.b-S (eU c Q x.g) x.b=Q*x.r x.b from ω] at k;rcases P.c _ _ k with k|k
    ·exact I k
    ·exact A.1 k
   ·have k:=qz (C u)<|nD (A.2 u n)<|uz Q<|x.r u
    rwa [show S (eU c Q x.g) u+Q*x.r u-Q*x.r u=S (eU c Q x.g) u from ω] at k
  rcases Pw P (acs R.c) (λq s=>by
   obtain⟨y,b,d,v,M,rfl⟩:=xV.mp s;exact(R.a y b).c) r with z|⟨q,s,z⟩
  ·exact i.F z
  ·obtain⟨y,b,d,v,M,rfl⟩:=xV.mp s
   have:=Px R.c l b<|i.B z;subst this;rw[e] at v;cases v;omega
def acl(R:Rows p S T L){z g:cj}(j:iq p z T)(k:kF p (S z)):Rows p S (T+1) (L++[(T,Z,z,g)]):=by
 have l:∀x∈L,Hj p S (T+1) x:=λx c=>by
  have o:=R.a x c;exact(by have:=o.a;omega,o.c,o.d,λt e=>by
   obtain⟨a,b⟩:=o.b t e;exact(ω,b))
 refine(λx c=>?_,?_,λt q=>?_,λx c y d=>?_,λx c y d t f i=>?_)
 ·rcases gB.mp c with c|c
  ·exact l x c
  ·rw[fu.mp c]
   exact(yF _,j,k,λt e=>nomatch e)
 ·rw[cv,mI]
  refine(R.c,by simp,λa m b n=>?_);obtain⟨x,c,rfl⟩:=bq.mp m;have:=(R.a x c).a;simp at n;omega
 ·rcases oh t T with h|h
  ·rcases R.all t h with ⟨x,c,e⟩|⟨x,c,e⟩
   ·exact .inl (x,uo _ c,e)
   ·exact .inr (x,uo _ c,e)
  ·exact .inl (_,oq _<|.head _,by show T=t;omega)
 ·rcases gB.mp d with d|d
  ·rcases gB.mp c with c|c
   ·exact R.d x c y d
   ·rw[fu.mp c]
    intro e;have:=((R.a y d).b _ e).1;simp at this
  ·rw[fu.mp d]
   intro e;cases e
 ·rcases gB.mp c with c|c
  ·rcases gB.mp d with d|d
   ·exact R.e x c y d t f i
   ·rw[fu.mp d] at i;cases i
  ·rw[fu.mp c] at f;cases f
def rG(b T:Nat)(r g:cj)(L:List jg):List jg:=L.map λx=>if x.b=b then(b,U T,r,g) else x
def acq:(rG b T r g L).map (·.b)=L.map (·.b):=by
 unfold rG;rw[bY];refine gC λx _=>?_;show(if x.b=b then((b,U T,r,g):jg) else x).b=x.b
 by_cases e:x.b=b
 ·rw[aB e];exact e.symm
 ·rw[au e]
def ack(R:Rows p S T L){c:jg}(k:c∈L)(v:c.d=Z)(w:iq p r c.b)(z:kF p (S r))(A:iq p g T)(C:∀u,p ∣ S g u-r u):Rows p S (T+1) (rG c.b T r g L):=by
 have i:∀y,y∈rG c.b T r g L->y=(c.b,U T,r,g)\/(y∈L/\y.b≠c.b):=λy d=>by
  obtain⟨x,f,rfl⟩:=bq.mp d
  by_cases e:x.b=c.b
  ·rw[aB e];exact .inl O
  ·rw[au e];exact .inr (f,e)
 have j:∀x∈L,x.b≠c.b->x∈rG c.b T r g L:=λx f e=>bq.mpr (x,f,au e);have l:((c.b,U T,r,g):jg)∈rG c.b T r g L:=bq.mpr (c,k,aB O);refine(λy d=>?_,by rw[acq];exact R.c,λt E=>?_,λx f y d=>?_,λx f y d t m n=>?_)
 ·rcases i y d with rfl|⟨d,_⟩
  ·exact(by have:=(R.a c k).a;show c.b<T+1;omega,w,z,λt e=>by
    cases e;exact(yF _,(R.a c k).a,A,C))
  ·have o:=R.a y d
   exact(by have:=o.a;omega,o.c,o.d,λt e=>by
    obtain⟨a,b⟩:=o.b t e;exact(ω,b))
 ·rcases oh t T with h|h
  ·rcases R.all t h with ⟨x,f,e⟩|⟨x,f,e⟩
   ·by_cases q:x.b=c.b
    ·exact .inl (_,l,by show c.b=t;omega)
    ·exact .inl (x,j x f q,e)
   ·refine .inr (x,j x f λq=>?_,e)
    have:=Px R.c f k q;subst this;rw[v] at e;cases e
  ·exact .inr (_,l,by show U T=U t;rw[show T=t from ω])
 ·rcases i x f with rfl|⟨f,D⟩
  ·rcases i y d with rfl|⟨d,s⟩
   ·intro e
    have:=(R.a c k).a;have G:T=c.b:=ca e;omega
   ·exact R.d c k y d
  ·rcases i y d with rfl|⟨d,s⟩
   ·intro e
    have:=(R.a x f).a;cases e;omega
   ·exact R.d x f y d
 ·rcases i x f with rfl|⟨f,D⟩
  ·rcases i y d with rfl|⟨d,s⟩
   ·rfl
   ·cases m
    have:=((R.a y d).b _ n).1;omega
  ·rcases i y d with rfl|⟨d,s⟩
   ·cases n
    have:=((R.a x f).b _ m).1;omega
   ·exact R.e x f y d t m n
structure vA(p:Int)(S:cj->cj)(T:Nat)(left fill:cj):Prop where
 b:∀u,p ∣ S fill u-left u
 a:iq p fill T
 c:pn p left T
def vA.B(c:vA p S T l f)(b:xW p S)(a:kF p (S<|S f)):kF p (S l):=λu=>by
 have h:=b.z (f:=eU (S f) 1 l) (λu=>by show p ∣ S f u-1*l u;rw[Jr];exact c.b u) u;rw[b.b,Jr] at h;have:=qz (a u) h
 rwa [show S (S f) u-(S (S f) u-S l u)=S l u from ω] at this
def vA.step(e:xW p S)(R:Rows p S T L)(r:vA p S T l f){x:jg}(g:x∈L)(h:x.d=U d)(i:iq p l x.b){k:Int}(j:p ∣ k*x.r x.b-l x.b):vA p S T (eU l k x.r) (eU f k x.g)/\pn p (eU l k x.r) x.b:=by
 have o:=R.a x g;obtain⟨m,q,c,n⟩:=o.b d h;refine((λu=>?_,(λz=>r.a.1<|acr z<|c.2 T m,λu b=>tG (r.a.2 u b)<|c.2 u ω),λu b=>tG (r.c u b)<|o.c.2 u (by have:=o.a;omega)),λu b=>?_)
 ·rw[e.b]
  have:=tG (a:=k) (r.b u)<|n u
  rwa [show S f u-l u-k*(S x.g u-x.r u)=S f u-k*S x.g u-eU l k x.r u from by show _=S f u-k*S x.g u-(l u-k*x.r u);rw[RG];omega] at this
 ·rcases ags b with rfl|b
  ·have:=ah4.mpr j
   rwa [show -(k*x.r x.b-l x.b)=eU l k x.r x.b from by show _=l x.b-k*x.r x.b;omega] at this
  ·exact tG (i.2 u b)<|o.c.2 u b
def ln(a:List (List Int×Int))(q:List Int):Int:=((a.find? λc=>aG<|c.1=q).map (·.2)).getD 0
def Pz(c:List Int×Int)(r:List (List Int×Int))(x:List Int):ln (c::r) x=if c.1=x then c.2 else ln r x:=by
 unfold ln;rw[lF]
 by_cases e:c.1=x
 ·rw[bZ e,aB e];rfl
 ·rw[cf e,au e]
def Py{x:List Int}:∀{a:List (List Int×Int)},x∉a.map (·.1)->ln a x=0
 |[],_=>O
 |c::r,h=>by
  rw[df,ci,not_or] at h;rw[Pz,au<|dB h.1,Py h.2]
def BU{a:Type}(f g:a->Int):∀l:List a,(l.map λx=>f x+g x).sum=(l.map f).sum+(l.map g).sum
 |[]=>O
 |x::l=>by rw[df,om,df,om,df,om,BU f g l];omega
def BS{b:Type}(a:Int)(f:b->Int):∀l:List b,(l.map λx=>a*f x).sum=a*(l.map f).sum
 |[]=>by simp
 |x::l=>by rw[df,om,df,om,BS a f l,ah0]
def BR{a:Type}:∀l:List a,(l.map λ_=>(0:Int)).sum=0
 |[]=>O
 |x::l=>by rw[df,om,BR l];rfl
def Pv{a:Type}{p:Int}(f:a->Int):∀l:List a,(∀x∈l,p ∣ f x)->p ∣ (l.map f).sum
 |[],_=>mL _
 |x::l,h=>by rw[df,om];exact pI (h x<|.head _)<|Pv f l λy b=>h y<|.tail _ b
def Ps{a b:Type}(f:a->b->Int)(m:List b):∀l:List a,(l.map λx=>(m.map λy=>f x y).sum).sum=(m.map λy=>(l.map λx=>f x y).sum).sum
 |[]=>by simp only[yK,List.sum_nil];exact(BR m).symm
 |x::l=>by
  rw[df,om,Ps f m l,<-BU]
  congr 1
def Pu{e:List Int->Int}{v:Int}:∀{l:Ξ},l.Nodup->(l.map λx=>if q=x then v*e x else 0).sum=if q∈l then v*e q else 0
 |[],_=>by simp
 |x::l,a=>by
  rw[iB] at a;rw[df,om,Pu a.2]
  by_cases h:q=x
  ·subst h
   rw[aB O,au a.1,aB dC];omega
  ·rw[au h]
   by_cases k:q∈l
   ·rw[aB k,aB<|d_ _ k];omega
   ·rw[au k,au (λz=>(ci.mp z).elim h k)];rfl
def Hc{a:Ξ}(f:a.Nodup)(e:List Int->Int):∀{cs:List (List Int×Int)},(cs.map (·.1)).Nodup->(∀c∈cs,c.1∈a)->(cs.map λc=>c.2*e c.1).sum=(a.map λx=>ln cs x*e x).sum
 |[],_,_=>by
  have:(a.map λx=>ln [] x*e x)=a.map λ_=>(0:Int):=gC λx _=>by show 0*e x=0;rw[ahr]
  rw[this,BR];rfl
 |c::r,b,g=>by
  rw[df,iB] at b;rw[df,om,Hc f e b.2 λd i=>g d<|.tail _ i];have j:(a.map λx=>ln (c::r) x*e x)=a.map λx=>(if c.1=x then c.2*e x else 0)+ln r x*e x:=by
   refine gC λx _=>?_;rw[Pz]
   by_cases h:c.1=x
   ·rw[aB h,aB h,<-h,Py b.1];omega
   ·rw[au h,au h];omega
  rw[j,BU,Pu f,aB<|g c<|.head _]
def qf(a:Ξ)(F:List Int->Int):cj:=λu=>match a[u]? with
 |some x=>F x
 |none=>0
def PA{a:Ξ}{F:List Int->Int}{u:Nat}(h:a[u]?=U x):qf a F u=F x:=by unfold qf;rw[h]
def act{a:Ξ}{F:List Int->Int}{u:Nat}(h:a.length<=u):qf a F u=0:=by unfold qf;rw[nC h]
def lm(b:Ξ)(a:List Int->List Int->Int)(f:cj):cj:=λu=>match b[u]? with
 |some y=>(b.zipIdx.map λq=>f q.2*a q.1 y).sum
 |none=>0
def aci(c:Ξ)(b:List Int->List Int->Int)(f:cj)(a:Int)(g:cj)(u:Nat):lm c b (eU f a g) u=lm c b f u-a*lm c b g u:=by
 unfold lm;cases e:c[u]? with
 |none=>show(0:Int)=0-a*0;omega
 |some y=>
  show(c.zipIdx.map λq=>eU f a g q.2*b q.1 y).sum=(c.zipIdx.map λq=>f q.2*b q.1 y).sum-a*(c.zipIdx.map λq=>g q.2*b q.1 y).sum;have d:(c.zipIdx.map λq=>eU f a g q.2*b q.1 y)=c.zipIdx.map λq=>f q.2*b q.1 y+(-a)*(g q.2*b q.1 y):=by
   refine gC λq _=>?_;show(f q.2-a*g q.2)*b q.1 y=_;rw[Int.sub_mul,ahz,RF];omega
  rw[d,BU,BS,RF];omega
def xU(p:Int)(c:Ξ)(b:List Int->List Int->Int):xW p (lm c b):=by
 refine(λf a g u=>aci c b f a g u,λ{f} h u=>?_);unfold lm;cases e:c[u]? with
 |none=>exact mL _
 |some y=>exact Pv _ _ λq _=>nD (h q.2)<|DA _ _
def Hb{a:Ξ}{q:List Int×Nat}(h:q∈a.zipIdx):a[q.2]?=U q.1:=by
 have:=ag6 (x:=q) (l:=a);exact this.mp h
def acj{a:Ξ}(d:a.Nodup){b:List (List Int×Int)}(e:(b.map (·.1)).Nodup)(f:∀c∈b,c.1∈a){u:Nat}(h:a[u]?=U y):lm a tau (qf a<|ln b) u=(b.map λc=>c.2*tau c.1 y).sum:=by
 rw[Hc d (λx=>tau x y) e f];unfold lm;rw[h];show(a.zipIdx.map λq=>qf a (ln b) q.2*tau q.1 y).sum=_;have g:(a.zipIdx.map λq=>qf a (ln b) q.2*tau q.1 y)=a.zipIdx.map ((λx=>ln b x*tau x y) ∘ yB):=gC λq i=>by
  show qf a (ln b) q.2*tau q.1 y=ln b q.1*tau q.1 y;rw[PA<|Hb i]
 rw[g,<-bY,IZ]
def ach{b:Ξ}{a:List Int->List Int->Int}(c:∀x∈b,∀y∈b,(b.map λz=>a x z*a z y).sum=0)(f:cj)(u:Nat):lm b a (lm b a f) u=0:=by
 show(match b[u]? with|some y=>(b.zipIdx.map λq:List Int×Nat=>lm b a f q.2*a q.1 y).sum|none=>(0:Int))=0;cases e:b[u]? with
 |none=>rfl
 |some y=>
  show(b.zipIdx.map λq=>lm b a f q.2*a q.1 y).sum=0;have d:=dy e;have g:(b.zipIdx.map λq=>lm b a f q.2*a q.1 y)=b.zipIdx.map λq=>(b.zipIdx.map λr=>f r.2*(a r.1 q.1*a q.1 y)).sum:=gC λq h=>by
   have i:lm b a f q.2=(b.zipIdx.map λr=>f r.2*a r.1 q.1).sum:=by
    show(match b[q.2]? with|some y=>(b.zipIdx.map λr:List Int×Nat=>f r.2*a r.1 y).sum|none=>(0:Int))=_;rw[Hb h]
   rw[i,ahy,<-BS]
   congr 1
   refine gC λr _=>?_;rw[ahy,ahz]
  rw[g,Ps];have j:(b.zipIdx.map λr=>(b.zipIdx.map λq=>f r.2*(a r.1 q.1*a q.1 y)).sum)=b.zipIdx.map λ_=>(0:Int):=gC λr k=>by
   have l:=dy<|Hb k;rw[BS];have m:(b.zipIdx.map λq=>a r.1 q.1*a q.1 y)=b.zipIdx.map ((λz=>a r.1 z*a z y) ∘ yB):=O;rw[m,<-bY,IZ,c _ l _ d,Js]
  rw[j,BR]
def Ow{g:Int->Int}(a:g 0=0)(x:List Int):∀b:bC,du (b.map λc=>(adc c.1 (g c.2))) x=g (du b x)
 |[]=>a.symm
 |c::r=>by
  rw[df,ng,ng,Ow a x r];split<;>rfl
def ZW(g:List Int×Int->Int)(a:bC):bn (a.map λc=>(adc c.1 (g c)))=bn a:=by unfold bn;rw[bY];rfl
def Fc{g:Int->Int}(b:g 0=0)(d:(bn a).Nodup)(x:List Int):gJ (a.map λc=>(adc c.1 (g c.2))) x=g (du a x):=by
 rw[Fd (by rw[ZW λc=>g c.2];exact d),Ow b]
def Fj{c:List Int×Int}(h:c∈mX a):∃t∈a,t.1=c.1:=by
 obtain⟨b,d⟩:=Ny h;exact Xa (by rw[d];exact b)
def tB(p:Int)(a:bC):bC:=mX<|a.map λc=>(adc c.1 (c.2%p))
def Ok(b:(bn a).Nodup)(x:List Int):du (tB p a) x=du a x%p:=by
 unfold tB;rw[As,Fc (g:=λv=>v%p) (ahs p) b]
structure nQ(p:Int)(cs:bC):Prop where
 a:(bn cs).Nodup
 lo:∀c∈cs,1<=c.2/\c.2<p
def Oi{p:Int}(e:0<p)(f:(bn a).Nodup):nQ p (tB p a):=by
 refine(rm _,λc h=>?_);obtain⟨i,d⟩:=Ny h;rw[Fc (g:=λv=>v%p) (ahs p) f] at d;have:=uw (du a c.1) (b:=p) ω;have:=ux (du a c.1) e;have d:du a c.1%p=c.2:=d;omega
def Oj{q:List Int}(h:q∈bn (tB p a)):q∈bn a:=by
 obtain⟨c,b,rfl⟩:=bq.mp h;obtain⟨t,f,e⟩:=Fj b;obtain⟨d,g,rfl⟩:=bq.mp f;exact e▸bq.mpr (d,g,O)
def υ(h:du a x≠0):x∈bn a:=oy λz=>h<|rr z
def nQ.F{p:Int}(d:0<p){a:bC}(h:nQ p a)(x:List Int):0<=du a x/\du a x<p:=by
 by_cases e:x∈bn a
 ·obtain⟨c,b,rfl⟩:=bq.mp e
  rw[vo h.a c b];have:=h.lo c b;omega
 ·rw[rr e];omega
def nQ.B{a:bC}(h:nQ p a){x:List Int}(d:x∈bn a):1<=du a x/\du a x<p:=by
 obtain⟨c,b,rfl⟩:=bq.mp d;rw[vo h.a c b];exact h.lo c b
def pc(p:Int)(a:bC)(k:Int)(b:bC):bC:=tB p<|mX<|a++b.map λc=>(adc c.1 (-k*c.2))
def ZK{p k:Int}(c:(bn a).Nodup)(d:(bn b).Nodup)(x:List Int):du (pc p a k b) x=(du a x-k*du b x)%p:=by
 unfold pc;rw[Ok<|rm _,As,Nj,Fd c,Fc (g:=λv=>-k*v) (Js _) d,RF]
 rfl
def Om{p:Int}(c:0<p){k:Int}:nQ p (pc p a k b):=Oi c<|rm _
def On{p k:Int}{q:List Int}(h:q∈bn (pc p a k b)):q∈bn a\/q∈bn b:=by
 have h:=Oj h;obtain⟨c,g,rfl⟩:=bq.mp h;obtain⟨t,f,e⟩:=Fj g;rcases gB.mp f with f|f
 ·exact .inl<|e▸bq.mpr (t,f,O)
 ·obtain⟨d,i,rfl⟩:=bq.mp f
  exact .inr<|e▸bq.mpr (d,i,O)
abbrev xx(p:Int)(a:bC):bC:=tB p<|FQ a
def XN(a:bC)(x:List Int):du (xx p a) x=m_ a x%p:=by rw[Ok<|rm _,Xr]
def NL{q:List Int}(h:q∈bn (xx p b)):∃c∈b,q∈cq c.1:=by
 have h:=Oj h;obtain⟨c,f,rfl⟩:=bq.mp h;obtain⟨t,a,e⟩:=Fj f;obtain⟨d,g,a⟩:=ki.mp a;refine(d,g,?_);rw[<-Fl d.1 d.2,<-e];exact bq.mpr (t,a,O)
structure nq(oo:Ξ):Prop where
 o:dU oo
 a:oo.Nodup
 c:∀q∈oo,∀r∈cq q,r∈oo
 b:∀q∈oo,q.length<=5
 d:∀q∈oo,q.Nodup
def Yy(h:dU b):nq b:=
 (h,BM h,λq a=>(tC h a).2,λq a=>(nt.mp (tC h a).1).2.1,λq a=>by
  have:=(nt.mp (tC h a).1);exact RE (λh=>ω) this.2.2.2)
abbrev eK(a:Ξ)(b:bC):cj:=qf a<|du b
def nP{a:Ξ}{u:Nat}(h:a[u]?=U x):eK a b u=du b x:=PA h
def rx{a:Ξ}{u:Nat}(h:a.length<=u):eK a b u=0:=act h
abbrev jw(a:Ξ):cj->cj:=lm a jY
section
variable{p:Int}{oo:Ξ}{cs:bC}
def Xm(e:nq oo)(b:(bn cs).Nodup)(a:∀q∈bn cs,q∈oo){u:Nat}(h:oo[u]?=U y):jw oo (eK oo cs) u=m_ cs y:=
 acj (tau:=jY) e.a b (λc d=>a _<|bq.mpr (c,d,O)) h
def ν(i:nq oo):∀x∈oo,∀y∈oo,(oo.map λz=>jY x z*jY z y).sum=0:=λx a y g=>by
 have b:(bn<|gh x 1).Nodup:=by rw[Fl];exact XQ<|i.d x a
 have h:=Hc i.a (λz=>jY z y) (cs:=gh x 1) b (λc d=>i.c x a _ (by rw[<-Fl x 1];exact bq.mpr (c,d,O)));have f:m_ (gh x 1) y=0:=aaf y x<|i.b x a;have e:(oo.map λz=>jY x z*jY z y)=oo.map λz=>ln (gh x 1) z*jY z y:=gC λz _=>by
  show gJ (gh x 1) z*_=du (gh x 1) z*_;rw[Fd b]
 rw[e,<-h];exact f
def OD(a p:Int):p ∣ a-a%p:=(a / p,by have:=Int.emod_add_mul_ediv a p;omega)
def aai(d:nq oo)(b:(bn cs).Nodup)(a:∀q∈bn cs,q∈oo)(u:Nat):p ∣ jw oo (eK oo cs) u-eK oo (xx p cs) u:=by
 cases e:oo[u]? with
 |none=>
  have c:jw oo (eK oo cs) u=0:=by
   show(match oo[u]? with|some y=>(oo.zipIdx.map λq:List Int×Nat=>eK oo cs q.2*jY q.1 y).sum|none=>(0:Int))=0;rw[e]
  rw[c,rx (by simpa using e)];exact mL _
 |some y=>
  rw[Xm d b a e,nP e,XN];exact OD _ _
def GJ{k:Int}(c:(bn a).Nodup)(d:(bn b).Nodup)(u:Nat):p ∣ eU (eK oo a) k (eK oo b) u-eK oo (pc p a k b) u:=by
 show p ∣ eK oo a u-k*eK oo b u-eK oo (pc p a k b) u;cases e:oo[u]? with
 |none=>
  have h:oo.length<=u:=by simpa using e
  rw[rx h,rx h,rx h,Js];exact mL _
 |some y=>
  rw[nP e,nP e,nP e,ZK c d];exact OD _ _
abbrev rD(p:Int)(f g:cj):Prop:=∀u,p ∣ f u-g u
def rD.B(h:rD p f g)(u:Nat):p ∣ f u↔p ∣ g u:=by
 constructor
 ·intro z
  have:=qz z<|h u
  rwa [show f u-(f u-g u)=g u from ω] at this
 ·intro z
  have:=pI (h u) z
  rwa [show f u-g u+g u=f u from ω] at this
def rD.J(h:rD p f g){t:Nat}(y:iq p f t):iq p g t:=(λz=>y.1<|(h.B t).mpr z,λu a=>(h.B u).mp<|y.2 u a)
def rD.F(h:rD p f g){t:Nat}(y:pn p f t):pn p g t:=λu a=>(h.B u).mp<|y u a
def rD.z(h:rD p f g)(y:kF p f):kF p g:=λu=>(h.B u).mp<|y u
def rD.s(h:rD p a g):rD p (jw oo a) (jw oo g):=λu=>by
 have e:=(xU p oo jY).z (f:=eU a 1 g) (λu=>by show p ∣ a u-1*g u;rw[Jr];exact h u) u;rw[(xU p oo jY).b,Jr] at e;exact e
def aaj{l f d e:cj}(i:vA p (jw oo) T l f)(g:rD p l d)(h:rD p f e):vA p (jw oo) T d e:=by
 refine(λu=>?_,h.J i.a,g.F i.c);have a:=i.b u;have b:=h.s (oo:=oo) u;have c:=g u;have:=pI (qz a b) c
 rwa [show jw oo f u-l u-(jw oo f u-jw oo e u)+(l u-d u)=jw oo e u-d u from ω] at this
def Nf(i:nq oo)(h:nQ p cs)(f:0<p){t:Nat}{y:List Int}(a:y∈bn cs)(b:oo[t]?=U y)(c:∀x∈bn cs,∀u,oo[u]?=U x->u<=t):iq p (eK oo cs) t:=by
 refine(λz=>?_,λu g=>?_)
 ·rw[nP b] at z
  have:=h.B a;have:=ah2 ω z;omega
 ·cases e:oo[u]? with
  |none=>rw[rx (by simpa using e)];exact mL _
  |some x=>
   rw[nP e];have:x∉bn cs:=λd=>by have:=c x d u e;omega
   rw[rr this];exact mL _
def WM{t:Nat}(h:iq p (eK oo cs) t):∃y,oo[t]?=U y/\y∈bn cs:=by
 cases e:oo[t]? with
 |none=>exact aZ (by rw[rx (by simpa using e)];exact mL _) h.1
 |some x=>
  refine(x,O,υ λz=>h.1 ?_);rw[nP e,z];exact mL _
def WL:kF p (eK oo []):=λu=>by
 cases e:oo[u]? with
 |none=>rw[rx (by simpa using e)];exact mL _
 |some x=>rw[nP e];exact mL _
end
structure f_ where
 a:Int
 b:Nat
 d:Option Nat
 c:bC
 g:bC
structure aa0(p:Int)(oo:Ξ)(x:f_):Prop where
 c:nQ p x.c
 a:∀q∈bn x.c,q∈oo/\(q.length:Int)=x.a+1
 g:∀t,x.d=U t->nQ p x.g/\∀q∈bn x.g,q∈oo/\(q.length:Int)=x.a+2
abbrev rj(a:Ξ)(x:f_):jg:=(x.b,x.d,eK a x.c,eK a x.g)
structure j_(p:Int)(oo:Ξ)(T:Nat)(L:List f_):Prop where
 d:∀x∈L,aa0 p oo x
 c:Rows p (jw oo) T (L.map<|rj oo)
 a:(L.map (·.b)).Pairwise (·<·)
def Yq:j_ p b 0 []:=((λx a=>nomatch a),((λx a=>nomatch a),lD,(λt c=>aZ c<|yE _),(λx a=>nomatch a),(λx a=>nomatch a)),RC)
def tw(L:List f_)(x:f_):List f_:=L.map λy=>if y.b=x.b then x else y
structure p_(p:Int)(oo:Ξ)(T:Nat)(q:List Int)(left fill:bC):Prop where
 l:nQ p left
 b:∀k∈bn left,k∈oo/\k.length+1=q.length
 f:nQ p fill
 c:∀k∈bn fill,k∈oo/\k.length=q.length
 a:vA p (jw oo) T (eK oo left) (eK oo fill)
section
variable{p:Int}{oo:Ξ}{T:Nat}{q:List Int}{left fill:bC}{L:List f_}
def XT{q r:List Int}(h:r∈cq q):r.length+1=q.length:=by
 obtain⟨a,k,b,rfl⟩:=vt.mp h;rw[dz,eF,mK];omega
def Nh(C:nq oo)(w:2<=p)(g:oo[T]?=U q):p_ p oo T q (xx p [(adc q 1)]) [(adc q 1)]:=by
 have i:q∈oo:=dy g;have n:(bn [(adc q ((1:Int)))]).Nodup:=by simp[bn]
 have o:nQ p [(adc q 1)]:=(n,λc d=>by rw[fu.mp d];exact(md _,by show(1:Int)<p;omega));have f:∀k∈bn [(adc q ((1:Int)))],k=q:=λk f=>by simpa[bn] using f
 refine(Oi ω<|rm _,λk a=>?_,o,λk a=>by rw[f k a];exact(i,O),(λu=>aai C n (λk a=>by rw[f k a];exact i) u,?_,λu z=>?_))
 ·obtain⟨c,d,b⟩:=NL a
  rw[fu.mp d] at b;exact(C.c q i k b,XT b)
 ·refine Nf C o ω (y:=q) (by simp[bn]) g λx r u e=>?_
  rw[f x r] at e;obtain⟨l,A⟩:=cE.mp e;have:=(wd l C.a).mp<|e.trans g.symm;omega
 ·cases e:oo[u]? with
  |none=>rw[rx (by simpa using e)];exact mL _
  |some D=>
   rw[nP e];have s:D∉bn (xx p [(adc q 1)]):=λt=>by
    obtain⟨c,d,b⟩:=NL t;rw[fu.mp d] at b;have m:=(rE.mp<|C.o T q g).2.2 D b;obtain⟨j,h⟩:=jO.mp m;have v:j<T:=by
     have:=(cE.mp h).1;rw[eF] at this;omega
    rw[yM v] at h;obtain⟨l,_⟩:=cE.mp h;have:=(wd l C.a).mp<|h.trans e.symm;omega
   rw[rr s];exact mL _
def p_.B(a:nq oo)(b:p_ p oo T q left fill):kF p (jw oo<|eK oo left):=
 b.a.B (xU p oo jY) λu=>by rw[show jw oo (jw oo<|eK oo fill) u=0 from ach (ν a) _ _];exact mL _
def WQ(P:nv p)(c:nq oo)(R:j_ p oo T L)(d:p_ p oo T q left fill){t:Nat}(a:iq p (eK oo left) t):∃x∈L,x.b=t:=by
 obtain⟨x,b,e⟩:=acg P (xU p oo jY) R.c d.a.c (d.B c) a;obtain⟨y,a,rfl⟩:=bq.mp b;exact(y,a,e)
def tu(R:j_ p oo T L){x:f_}(a:x∈L):Hj p (jw oo) T (rj oo x):=R.c.a _<|bq.mpr (x,a,O)
def NO(R:j_ p oo T L){x:f_}(a:x∈L):∃y,oo[x.b]?=U y/\y∈bn x.c:=WM (tu R a).c
def WP(l:0<p)(R:j_ p oo T L)(D:p_ p oo T q left fill){E:f_}(c:E∈L){e:Nat}(m:E.d=U e)(r:iq p (eK oo left) E.b)(f:oo[E.b]?=U y)(g:y∈bn left){G:Int}(s:p ∣ G*du E.c y-du left y):p_ p oo T q (pc p left G E.c) (pc p fill G E.g)/\pn p (eK oo<|pc p left G E.c) E.b:=by
 have o:=R.d E c;obtain⟨t,i⟩:=o.g e m;have u:E.a+2=q.length:=by
  obtain⟨C,n,v⟩:=NO R c;rw[f] at n;cases n;have a:=(o.a y v).2;have b:=(D.b y g).2;omega
 obtain⟨w,A⟩:=vA.step (xU p oo jY) R.c D.a (x:=rj oo E) (d:=e) (bq.mpr (E,c,O)) m r (k:=G) (by show p ∣ G*eK oo E.c E.b-eK oo left E.b;rw[nP f,nP f];exact s);refine((Om l,λz j=>?_,Om l,λz j=>?_,aaj w (GJ D.l.a o.c.a)<|GJ D.f.a t.a),rD.F (GJ D.l.a o.c.a) A)
 ·rcases On j with h|h
  ·exact D.b z h
  ·obtain⟨a,b⟩:=o.a z h
   exact(a,ω)
 ·rcases On j with h|h
  ·exact D.c z h
  ·obtain⟨a,b⟩:=i z h
   exact(a,ω)
def Ys(l:nq oo)(R:j_ p oo T L)(m:p_ p oo T q [] fill):j_ p oo (T+1) (L++[((q.length:Int)-1,T,Z,fill,[])]):=by
 refine(λx c=>?_,?_,?_)
 ·rcases gB.mp c with c|c
  ·exact R.d x c
  ·rw[fu.mp c]
   exact(m.f,λk d=>((m.c k d).1,by have:=(m.c k d).2;show(k.length:Int)=(q.length:Int)-1+1;omega),λt e=>nomatch e)
 ·rw[cv]
  refine acl R.c (z:=eK oo fill) (g:=eK oo []) m.a.a λu=>?_;have h:=m.a.b u;have i:=WL (p:=p) (oo:=oo) u;have:=pI h i
  rwa [show jw oo (eK oo fill) u-eK oo [] u+eK oo [] u=jw oo (eK oo fill) u from ω] at this
 ·rw[cv,List.pairwise_append]
  refine(R.a,List.pairwise_singleton _ _,λa j b f=>?_);obtain⟨x,c,rfl⟩:=bq.mp j;rw[df,yK,fu] at f;have:=(tu R c).a;rw[f];exact this
def Yd:(tw L a).map (·.b)=L.map (·.b):=by
 unfold tw;rw[bY];refine gC λy _=>?_;show(if y.b=a.b then a else y).b=y.b
 by_cases e:y.b=a.b
 ·rw[aB e];exact e.symm
 ·rw[au e]
def Yr(h:nq oo)(R:j_ p oo T L)(i:p_ p oo T q left fill){x:f_}(d:x∈L)(f:x.d=Z)(c:iq p (eK oo left) x.b):j_ p oo (T+1) (tw L ((q.length:Int)-2,x.b,U T,left,fill)):=by
 refine(λy c=>?_,?_,?_)
 ·obtain⟨z,g,rfl⟩:=bq.mp c
  by_cases e:z.b=x.b
  ·rw[aB e]
   refine(i.l,λk a=>((i.b k a).1,?_),λt _=>(i.f,λk a=>((i.c k a).1,?_)))
   ·have:=(i.b k a).2
    show(k.length:Int)=(q.length:Int)-2+1;omega
   ·have:=(i.c k a).2
    show(k.length:Int)=(q.length:Int)-2+2;omega
  ·rw[au e];exact R.d z g
 ·have e:(tw L ((q.length:Int)-2,x.b,U T,left,fill)).map (rj oo)=rG (rj oo x).b T (eK oo left) (eK oo fill) (L.map<|rj oo):=by
   unfold tw rG;rw[bY,bY];refine gC λy _=>?_;show rj oo (if y.b=x.b then _ else y)=if y.b=x.b then _ else rj oo y
   by_cases e:y.b=x.b
   ·rw[aB e,aB e]
   ·rw[au e,au e]
  rw[e];exact ack R.c (bq.mpr (x,d,O)) f c (i.B h) i.a.a i.a.b
 ·rw[Yd];exact R.a
end
section
variable{X:aK}{pins:Ψ}{σ:aM}{H:ac}{s:ai}
def Vj{h:List V}{E:List Int}{R:tW->ai->Prop}(hh:X.A.handled=Z)(hl:bx X.K H l (h.map af.c))(c0:E.length=h.length)(G:fQ X pins H S)(K:fQ X pins H I)(P:S≠I)(b4:l≠I)(b5:∀d,aw X pins σ H d->∀(j:Nat) a n,h[j]?=U a->E[j]?=U n->iK (aE X.prog X.w) X.A.in1 (.call (.ref f) ([.ref a],[])) (λr k=>∃v,r=.ok (.ret v)/\rf X.c X.prog X.w H d (λv H'=>v=.d n/\H'=H) v k) d)(hR:∀(j:Nat) a n d,aw X pins σ H d->h[j]?=U a->E[j]?=U n->(∀m∈E,m<=n)->R (.ok<|.ret<|.ref a) d):∀(r j i:Nat)(d:ai)(a:V)(n:Int)(t:ga)(c:Nat),h.length-(j+1)=r->j+1<=h.length->aw X pins σ H d->d.heap.get? S=U (bE "list" #[.ref a,.int n t] c)->
   d.heap.IsListIter I l (j+1)->h[i]?=U a->E[i]?=U n->(∀(D:Nat) m,D<=j->E[D]?=U m->m<=n)->
   iK (aE X.prog X.w) X.A (.builtin "max.loop" ([.ref I,.ref f,.ref S],[])) R d:=by
 have y:(Hk "max"++Hk ".loop":String)="max.loop":=ξ
 have c3:=vL (prog:=X.prog) (w:=X.w) (A:=X.A.in1) hh I l b4 (h.map Y).toArray;have a3:(h.map Y).toArray.size=h.length:=by rw[cz,aA]
 have a4:∀d,aw X pins σ H d->d.heap.IsList l (h.map Y).toArray:=λd Q=>by
  obtain⟨c1,r1,p1,_⟩:=Q.B hl;obtain rfl:=mQ r1;exact p1.isList
 intro r
 induction r with
 |zero=>
  intro j i d a n t c hr hj Q nS T ea en g;have b6:j+1=h.length:=ω
  refine jj QO ?_;rw[kK vS _];show am _ X.A.in1 (Cg (.ref S) >>= _) _ _ _;refine ag<|lS nS O ?_;show am _ X.A.in1 (yI (jh<|.ref I) _ >>= _) _ _ _;refine ag<|vD<|c3.done _ _ _ (by rw[a3,<-b6];exact T,a4 _ Q) λh' p C=>?_;have I1:aw X pins σ H {d with heap:=h',toks:=p}:=aw.A1 (t':=p) (ch:=[I]) Q (oV K) λb o hb q=>C b o hb q;have a0:=C S _ (by simpa using P) nS;have s1:=jl h' S<|b_ λ_=>(#[]:Array aa);show am _ X.A.in1 (xZ S (λ_=>#[]) >>= _) _ _ _;refine ag ?_;refine tJ (s:={d with heap:=h',toks:=p}) a0 O<|ag<|po<|aC ?_;refine hR i a n _ (aw.A1 (s:={d with heap:=h',toks:=p}) (t':=p) (ch:=[S]) I1 (oV G) λb o hb q=>(s1.2 b (λz=>hb (by simp[z]))).trans q) ea en λm hm=>?_;obtain⟨D,e'⟩:=jO.mp hm;have:=(cE.mp e').1;exact g D m ω e'
 |succ r ih=>
  intro j i d a n t c hr hj Q nS T ea en g;have x:j+1<h.length:=ω
  refine jj QO ?_;rw[kK vS _];show am _ X.A.in1 (Cg (.ref S) >>= _) _ _ _;refine ag<|lS nS O ?_;show am _ X.A.in1 (yI (jh<|.ref I) _ >>= _) _ _ _;refine ag<|vD<|c3.item (j+1) _ _ _ (by rw[a3];exact x) (T,a4 _ Q) λv h' p hP a5 C=>?_;have e1:h[j+1]?=U (h[j+1]'(x)):=cw x;have e2:E[j+1]?=U (E[j+1]'ω):=cw ω;have hv:v=.ref (h[j+1]'(x)):=by
   have:(h.map Y)[j+1]?=U v:=by simpa using hP
   rw[cm,e1] at this;exact(ca this).symm
  subst hv;obtain⟨a6,a7,a8,a9⟩:=id a5.1;have I1:aw X pins σ H {d with heap:=h',toks:=p}:=aw.A1 (t':=p) (ch:=[I]) Q (oV K) λb o hb q=>C b o hb q;have a0:=C S _ (by simpa using P) nS;generalize h[j+1]'(x)=L at e1 ⊢;generalize (E[j+1]'ω)=M at e2;show am _ X.A.in1 (yI (qj [.ref L]<|gv (.ref f) [.ref L]) _ >>= _) _ _ _;refine ag<|vD<|fz<|pu<|ka (b5 _ I1 (j+1) _ _ e1 e2) λr k hq=>?_;obtain⟨u,rfl,v,H',os,b0,un,b7,ru,rfl,rfl⟩:=hq;obtain⟨t2,rfl⟩:=ru;have I2:aw X pins σ H' k:=I1.A6 os un b7 b0 (λb z=>nomatch z);have a1:=un.a S _ a0 G.1 (qR I1 G) (by simp);have b1:=un.a I _ a7 K.1 (qR I1 K) (by simp);have b2:k.heap.IsListIter I l (j+1+1):=(a6,b1,a8,a9)
  try dsimp only
  show am _ X.A.in1 (yI (qj [.ref L,.int M t2]<|PZ .Gt (.int M t2) (.int n t) >>= _) _ >>= _) _ _ _;refine ag<|vD<|fz<|ag<|gt_int ?_;refine ag<|fz<|vE ?_;refine ag<|po<|aC ?_
  by_cases b3:n<M
  ·have s1:=jl k.heap S<|b_ λ_=>#[.ref L,.int M t2]
   obtain⟨c2,b8⟩:∃c2,(k.heap.update S<|b_ λ_=>#[.ref L,.int M t2]).get? S=U (bE "list" #[.ref L,.int M t2] c2):=(_,rW a1 λ_=>#[.ref L,.int M t2]);simp only[b3,decide_true,dQ];refine ag ?_;refine tJ a1 O<|ag<|po ?_;rw[y];refine aC (lp vS _,ih (j+1) (j+1) _ L M t2 c2 ω x (aw.A1 (t':=k.toks) (ch:=[S]) I2 (oV G) λb o hb q=>(s1.2 b (λz=>hb (by simp[z]))).trans q) b8 (a6,(s1.2 I P.symm).trans b1,a8,a9) e1 e2 λD m b9 em=>?_)
   by_cases e:D=j+1
   ·subst e
    rw[e2] at em;cases em;exact md _
   ·have:=g D m ω em
    omega
  ·simp only[b3,decide_false,dc,cM]
   refine ag<|po ?_;rw[y];refine aC (lp vS _,ih (j+1) i k a n t c ω x I2 a1 b2 ea en λD m b9 em=>?_)
   by_cases e:D=j+1
   ·subst e
    rw[e2] at em;cases em;omega
   ·exact g D m ω em
def Vk{c:List V}{x:List Int}{Q:Ω}(hh:X.A.handled=Z)(I:aw X pins σ H s)(hl:bx X.K H l (c.map af.c))(a3:x.length=c.length)(d:0<c.length)(E:∀g,aw X pins σ H g->∀(j:Nat) a n,c[j]?=U a->x[j]?=U n->iK (aE X.prog X.w) X.A.in1 (.call (.ref f) ([.ref a],[])) (λr e=>∃v,r=.ok (.ret v)/\rf X.c X.prog X.w H g (λv H'=>v=.d n/\H'=H) v e) g)(h:∀(j:Nat) a n g,aw X pins σ H g->c[j]?=U a->x[j]?=U n->(∀m∈x,m<=n)->Q (.ref a) g):am (aE X.prog X.w) X.A (gv (.builtin "max") [.ref l] [(adc (iu "key") (.ref f))]) Q X.a s:=by
 have i:(Hk "max"++Hk ".loop":String)="max.loop":=ξ
 have G:∀g,aw X pins σ H g->g.heap.IsList l (c.map Y).toArray:=λg Ik=>by
  obtain⟨b4,r1,p1,_⟩:=Ik.B hl;obtain rfl:=mQ r1;exact p1.isList
 have K:=G s I;obtain⟨ol,a4,_⟩:=id K;have a5:l<s⁻¹:=bT a4;refine kmk_tree PySem.F.kind_max PySem.F.plain_max PySem.F.entry_max (kmk_max_key _ _) ?_;show am _ X.A.in1 (afx "max" ["key","default"] 0 ([],[(adc (iu "key") (.ref f))]) >>= _) _ _ s;refine ag<|qh (show afx "max" ["key","default"] 0 ([],[(adc (iu "key") (.ref f))])=bH [U<|.ref f,Z] from O) ?_;refine ag<|aC ?_;refine ag<|xY K ?_;refine ag<|tK ?_<|dZ _;rw[i];have hS:(s.heap.push {cls:=.type "list_iterator",data:=.fields #[.ref l,.int 0 0]}).objs.size=s⁻¹+1:=uh ..;have L:l≠s⁻¹:=ck a5;have y:(s.heap.push {cls:=.type "list_iterator",data:=.fields #[.ref l,.int 0 0]}).objs.size≠s⁻¹:=by rw[hS];exact iM<|yF _
 have k:fQ X pins H s⁻¹:=I.A0 (bc _)<|I.b.B<|bc _;have p:fQ X pins H (s.heap.push {cls:=.type "list_iterator",data:=.fields #[.ref l,.int 0 0]}).objs.size:=I.A0 (by rw[hS];exact lY _)<|I.b.B (by rw[hS];exact lY _);refine aC (lp vS _,?_);have I0:aw X pins σ H {s with heap:=(s.heap.push {cls:=.type "list_iterator",data:=.fields #[.ref l,.int 0 0]}).push<|bE "list" #[] 0}:=I.W (t':=s.toks) λb u q=>bJ _<|bJ _ q;have gI:((s.heap.push {cls:=.type "list_iterator",data:=.fields #[.ref l,.int 0 0]}).push<|bE "list" #[] 0).get? s⁻¹=U {cls:=.type "list_iterator",data:=.fields #[.ref l,.int 0 0]}:=
  bJ _<|dv _ O
 have gS:((s.heap.push {cls:=.type "list_iterator",data:=.fields #[.ref l,.int 0 0]}).push<|bE "list" #[] 0).get? (s.heap.push {cls:=.type "list_iterator",data:=.fields #[.ref l,.int 0 0]}).objs.size=U (bE "list" #[] 0):=dv _ O;have b6:=vL (prog:=X.prog) (w:=X.w) (A:=X.A.in1) hh s⁻¹ l L (c.map Y).toArray;have a6:(c.map Y).toArray.size=c.length:=by rw[cz,aA]
 generalize (s.heap.push {cls:=.type "list_iterator",data:=.fields #[.ref l,.int 0 0]}).objs.size=S at *;refine jj QO ?_;rw[kK vS _];show am _ X.A.in1 (Cg (.ref S) >>= _) _ _ _;refine ag<|lS gS O ?_;show am _ X.A.in1 (yI (jh<|.ref s⁻¹) _ >>= _) _ _ _;refine ag<|vD<|b6.item 0 _ _ _ (by rw[a6];exact d) ((_,gI,O,O),G _ I0) λv h' M hP P R=>?_;have e1:c[0]?=U (c[0]'(d)):=cw d;have e2:x[0]?=U (x[0]'ω):=cw ω;have hv:v=.ref (c[0]'(d)):=by
  have:(c.map Y)[0]?=U v:=by simpa using hP
  rw[cm,e1] at this;exact(ca this).symm
 subst hv;obtain⟨a7,T,a8,a9⟩:=id P.1;have I1:aw X pins σ H {s with heap:=h',toks:=M}:=aw.A1 (s:={s with heap:=(s.heap.push {cls:=.type "list_iterator",data:=.fields #[.ref l,.int 0 0]}).push<|bE "list" #[] 0}) (t':=M) (ch:=[s⁻¹]) I0 (oV k) λb o hb q=>R b o hb q;have b0:=R S _ (by simpa using y) gS;generalize c[0]'(d)=t at e1 ⊢;generalize (x[0]'ω)=C at e2;show am _ X.A.in1 (yI (qj [.ref t]<|gv (.ref f) [.ref t]) _ >>= _) _ _ _;refine ag<|vD<|fz<|pu<|ka (E _ I1 0 _ _ e1 e2) λr e hq=>?_;obtain⟨u,rfl,v,H',os,a0,un,b1,ru,rfl,rfl⟩:=hq;obtain⟨D,rfl⟩:=ru;have I2:aw X pins σ H' e:=I1.A6 os un b1 a0 (λb z=>nomatch z);have a1:=un.a S _ b0 p.1 (qR I1 p) (by simp);have b2:=un.a s⁻¹ _ T k.1 (qR I1 k) (by simp)
 try dsimp only
 have s1:=jl e.heap S<|b_ λ_=>#[.ref t,.int C D];obtain⟨c2,b3⟩:∃c2,(e.heap.update S<|b_ λ_=>#[.ref t,.int C D]).get? S=U (bE "list" #[.ref t,.int C D] c2):=(_,rW a1 λ_=>#[.ref t,.int C D]);show am _ X.A.in1 (xZ S (λ_=>#[.ref t,.int C D]) >>= _) _ _ _;refine ag ?_;refine tJ a1 O ?_;rw[i];refine aC (lp vS _,Vj hh hl a3 p k y L E (λj a n g Ij ea en hb=>h j a n g Ij ea en hb) _ 0 0 _ t C D c2 O d (aw.A1 (t':=e.toks) (ch:=[S]) I2 (oV p) λb o hb q=>(s1.2 b (λz=>hb (by simp[z]))).trans q) b3 (a7,(s1.2 _ y.symm).trans b2,a8,a9) e1 e2 λj' m b5 em=>?_);obtain rfl:j'=0:=ω
 rw[e2] at em;cases em;exact md _
end
def TQ(K:aH)(P:V)(e:bR)(c:al)(p:Nat)(q:bb)(r:ff):bb:=λi H Q=>r i H λs f=>∃(l:V)(g:List V)(h:List Int)(k:af),s=[.c l]/\bx K f l (g.map af.c)/\h.length=g.length/\0<g.length/\i[p]?=U (U k)/\gX f P e c/\
 (∀d,iS f d->∀(j:Nat) a n,g[j]?=U a->h[j]?=U n->q [U<|.c a,U k] d λv t=>v=.d n/\t=d)/\
 ∀d(j:Nat) a n,iS f d->(∀b o,b≠P->f b=U (.d o)->d b=U (.d o))->gX d P e c->g[j]?=U a->h[j]?=U n->(∀m∈h,m<=n)->Q (.c a) d
section
variable{X:aK}{a:bf}{ta:ff}{p p2 pos kpos lpos:bR}{P c cc:V}{args:qr}{body:bf}{sc:eO}{x y:al}{iy k:Nat}{te:bb}
def UH(hr:eJ (k+2) X.A)(hg:iH X "max")(hm:X.mg "max"=Z)(hv:ig "max"=U (.builtin "max"))(hC:CF X.base c P)(m:X.env.code=.ref c)(G:oZ X.mg X.base)(K:Cz sc X.env=bH [(adc y cc)])(r:X.env.cells.lookup y=U cc)(hk:X.env.kindOf y=U .cell)(hN:X.N[iy]?=U y)(S:EU x y sc)(M:∀d cl R t w u,yf (yh "<lambda>" d args body sc cl R (.ref t) w) ([u],[])=bH [(adc x u)])(A:∀s H f d t,bA (wK X X.A.in1 s H f d sc x y cc t) body te)(ha:je X [a] ta)(hc:X.b=ae)(he:eM [a] X.env=[(adc ao (dO a X.env))]:=by rfl)(C:Qo args X.env=(adc ([]) ([])):=by rfl):bA X (.Call (.Name "max" p) [a] [(U "key",.Lambda args body sc lpos,kpos)] pos) (TQ X.K P lpos (X.env.qual++"<lambda>") iy te ta):=by
 intro i s σ H Q I h;refine tO<|oQ I hg hm hv ?_;refine IT ?_ (by rw[he];rfl) (by rw[he];rfl) O O;refine bI (ha pos i s σ H _ I h) λus s1 (vs,T,I1,r1,q1)=>?_;obtain⟨l,as,ns,vy,rfl,hl,a0,h0,a5,ht,a6,q⟩:=q1;obtain⟨u,rfl,ru⟩:=gU r1;cases ru;refine IL<|bI (Lu (P:=P) (args:=args) (body:=body) (pos:=lpos) hC m G K C i s1 σ T (λv g=>∃f,v=.c f/\iS T g/\(∀b ps,b≠P->T b=U (.d ps)->g b=U (.d ps))/\gX g P lpos (X.env.qual++"<lambda>")/\uX g f (X.env.qual++"<lambda>") args body sc y cc) I1 (ht,λf g a1 a2 a3 a4=>(f,O,a1,a2,a3,a4))) λu2 s2 a7=>?_;obtain⟨v2,g,I2,r2,f,rfl,D,a8,tb,L⟩:=a7;cases r2;refine IK ?_;show am (aE X.prog X.w) X.A (gv (.builtin "max") [.ref l] [(adc (iu "key") (.ref f))]) _ _ s2;have a9:bx X.K g l (as.map af.c):=by
  rcases hl with (z|⟨o,z⟩)|z
  ·exact .inl<|.inl<|D _ _ (λ_ e=>nomatch e) z
  ·exact .inl<|.inr (o,D _ _ (λ_ e=>nomatch e) z)
  ·exact .inr z
 refine Vk (I.a.hd hc) I2 a9 a0 h0 (λs' E j a n ea en=>?_) λj a n s' E ea en M=>(.c a,_,E,O,q g j a n D a8 tb ea en M);exact LK (va:=.c a) (vy:=vy) (iy:=iy) E E.B3.B O (eJ.B hr).N L S r hN a5 (.inl hk) (λR t w=>M _ _ R t w _) O (λt=>A s' g f _ t)<|a6 g D j a n ea en
end
def iS.B(e:iS H b)(h:cG H a c):cG b a c:=e _ _ (λ_ z=>nomatch z) h
def iS.J(e:iS H b)(h:aW H c a):aW b c a:=il h λ_ _ q=>e.B q
def iS.W{K:aH}(e:iS H a)(h:bx K H l b):bx K a l b:=by
 rcases h with (z|⟨o,z⟩)|z
 ·exact .inl<|.inl<|e _ _ (λ_ q=>nomatch q) z
 ·exact .inl<|.inr (o,e _ _ (λ_ q=>nomatch q) z)
 ·exact .inr z
def iS.F{P:V}(e:iS H c)(f:∀b a,b≠P->H b=U (.d a)->c b=U (.d a))(i:gX c P d g)(h:c l=Z):H l=Z:=by
 cases q:H l with
 |none=>rfl
 |some o=>
  have:c l=U o:=by
   by_cases z:∃a,o=.d a
   ·obtain⟨a,rfl⟩:=z
    refine f l a (λy=>?_) q;subst y;rcases i with t|⟨_,t,_⟩<;>(rw[h] at t;cases t)
   ·exact e l o (λa y=>z (a,y)) q
  rw[h] at this;cases this
def TB(h:aW H f c)(j:c.Nodup):f.Nodup:=by
 induction h with
 |nil=>exact lD
 |@cons a g f c q t k=>
  obtain⟨l,m⟩:=iB.mp j;refine iB.mpr (λn=>?_,k m);obtain⟨i,e⟩:=jO.mp n;obtain⟨p,o,r⟩:=aW.F t e;have s:H a=U (.b<|p.map af.d):=r;have d:H a=U (.b<|g.map af.d):=q;rw[s] at d;have u:p.map af.d=g.map af.d:=by injection d with d;injection d
  have:p=g:=(uq (λa b z=>by injection z)).mp u;subst this;exact l<|dy o
def LL:∀x,([(adc p NameKind.local),(adc y bQ)]:List (al×lz)).lookup x=U .free->x=y:=λx h=>by
 rw[kM] at h;cases b:x==p with
 |true=>rw[b] at h;cases h
 |false=>
  rw[b] at h;have a:([(adc y bQ)]:List (al×lz)).lookup x=U .free:=h;rw[kM] at a;cases c:x==y with
  |true=>exact yU c
  |false=>rw[c] at a;cases a
section
variable{prog:aU}{w:aO}{A:bg}{E:Ω}{s:ai}
def abt(d:V)(e:(d==kH)=ao):MeetsIn prog w (Builtin.«dict.__len__» ([.ref d],[])) (λ_ R s=>∃b c,iW s.heap d b c/\R (.ok<|.ret<|.int b.size s.toks) {s with toks:=s.toks+1}):=
 .of_wp λA R s (b,c,f,h)=>by
  obtain⟨o,g,i,a⟩:=f;show am _ _ (dictSize d >>= _) _ _ s;unfold dictSize;refine ag<|ag<|pq g a<|aC ?_;show am _ _ (aka d >>= _) _ _ s;refine ag<|wpAny_pendingCount_other e ?_;refine wpAny_ret_mkInt ?_;rw[agt];exact h
def ab2{d:V}{Q:Ω}(f:(d==kH)=ao)(b:iW s.heap d a c)(e:(a.size:Int)<2 ^ 63)(h:Q (.int a.size<|s.toks+1) {s with toks:=s.toks+1+1}):am (aE prog w) A (gv (.builtin "len") [.ref d]) Q E s:=by
 refine QV kind_len plain_len entry_len (args_len1 _) ?_;unfold Builtin.«len»;refine ag (m:=oneArg "len" _)<|aC ?_;refine ag (m:=callSpecial? (.ref d)<|iu "__len__") (pt (name:=iu "__len__") b.typeIs aey
 <|HM aey b.typeIs F.entry_dict_len (F.args_dict_len_1 _) (abt d f) (a,c,b,?_))
 show am _ _ _ _ _ {s with toks:=s.toks+1};refine ag<|fz<|aC ?_;refine ag<|po ?_;show am _ _ (if((a.size:Nat):Int)<0 then _ else _) _ _ _;rw[au ω];show am _ _ (if((a.size:Nat):Int) ≥ 2 ^ 63 then _ else _) _ _ _;rw[au ω];exact ag<|wpAny_mkInt<|aC (_,O,h)
end
section
variable{X:aK}
def MD:io X (.builtin "len") (λd H Q=>∃a b,d=[af.c a]/\bX H a (.c b)/\Q (.d b.length) H):=by
 intro e s p H d t Q I r h;obtain⟨a,b,rfl,g,q⟩:=h;obtain⟨u,rfl,i⟩:=gU r;cases i;obtain⟨z,y,v,c,o,j,w,k,l,m,n,x⟩:=(show db X.prog X.w H s.heap a (.c b) from g.F I.b);have f:j.size=b.length:=by
  have:=gD aF n;rw[aA,<-hZ c] at this
  simpa using this
 refine ab2 y (o,k,l,m) (by rw[f];rw[jx] at z;omega) (.d b.length,H,I.N _,(_,by rw[f]),q)
end
def qd(h:aI)(e d:V)(i n f:Nat):Prop:=∃(c:aa)(b:Bool)(k v:aa),(c=.none\/∃a:V,c=dY a)/\
 h.get? e=U {cls:=.type "dict_itemiterator",dict:=Z,data:=.fields #[c,.bool b,.ref d,.int i 0,.int n 0,.int f 0,k,v],slots:=#[]}
def qd.B{h c:aI}{i n f:Nat}(x:qd h a d i n f)(k:∀o,h.get? a=U o->c.get? a=U o):qd c a d i n f:=by
 obtain⟨g,b,j,l,m,e⟩:=x;exact(g,b,j,l,m,k _ e)
section
variable{prog:aU}{w:aO}{A:bg}{E:Ω}{s:ai}{it d v:V}{i ep:Nat}{es:Array lX}
def abq{Q:Option aR->ai->Prop}(h:Q (s.heap.get? a) s):am (aE prog w) A (loadIfAlive a) Q E s:=λ_ _ _=>h
def abx{Q:Ω}(c:s.heap.IsItemsView v d)(h:iW s.heap d es ep)(i:Q (.ref s⁻¹) {s with heap:=s.heap.push {cls:=.type "dict_itemiterator",data:=.fields #[.none,.bool ao,.ref d,.int 0 0,.int es.size 0,.int ep 0,.none,.none]}}):am (aE prog w) A (qi<|.ref v) Q E s:=by
 obtain⟨k,e,j,f⟩:=id c;obtain⟨o,g,l,a⟩:=id h;refine ac0 c.typeIs ae0<|lT ae0 c.typeIs PySem.F.entry_dict_items_iter ?_<|PySem.F.args_dict_items_iter_1 _;unfold Builtin.«dict_items.__iter__»;refine ag<|aC ?_;refine ag ?_;unfold aj6;refine ag<|gm e f (x:=.ref d) O<|aC ?_;refine ag ?_;unfold aj5;refine ag<|pq g a ?_;refine ag<|tN g a ?_;have b:Da "dict_itemiterator"=ae:=ξ
 simp only[b,dQ];refine mE (aC (_,O,"dict_itemiterator",_,(_,dv _ O,O),CT.lookup,?_))
  (by simp only[sizeOk,aft,cz,dz,dP,nB,jx];omega)
 simpa[dY,aft] using i
def aby{Q:Option aa->ai->Prop}(G:qd s.heap it d i es.size ep)(hm:iW s.heap d es ep)(hx:i<es.size)(hQ:∀H,qd H it d (i+1) es.size ep->H.get? s⁻¹=U {cls:=.type "tuple",data:=.seq #[es[i].key,es[i].val]}->
   (∀b o,b≠it->s.heap.get? b=U o->H.get? b=U o)->Q (U<|.ref s⁻¹) {s with heap:=H}):am (aE prog w) A (jh<|.ref it) Q E s:=by
 obtain⟨D,g,T,X,os⟩:=s;obtain⟨f0,fb,ok,ov,a5,G⟩:=G;obtain⟨od,a2,a7,a3⟩:=id hm;have hT:rN (D,g,T,X,os) (.ref it) "dict_itemiterator":=(_,G,O);unfold jh;refine ag (pv (pt (name:=iu "__next__") hT CT
 <|lT CT hT ae9 ?_<|afe _))
 refine ag<|aC ?_;refine ag ?_;refine ag ?_
 first|refine ag<|Hm hT<|aC ?_|refine wpAny_bind<|wpAny_typeNameOf_itemiter hT<|wpAny_pure ?_
 refine ag<|Hq G O ?_;have a4:Da "dict_itemiterator"=ae:=ξ
 simp only[a4,dQ];show am _ _ (if(Y d==bj)=ae then _ else _) _ _ _;rw[au<|show ¬((Y d==bj)=ae) from eP];refine ag<|aC ?_;refine ag<|pq a2 a3 ?_;rw[au (by simp)];refine ag<|aC ?_;refine ag<|tN a2 a3 ?_;rw[au (by simp)];refine aC ?_;simp only[show ¬((i:Int)<0) from ω,cM,wn,yV hx];refine ag ?_
 first|refine ag<|Hm hT<|aC ?_|refine wpAny_bind<|wpAny_typeNameOf_itemiter hT<|wpAny_pure ?_
 refine ag<|PJ hT ?_;show am _ _ (rI (.ref it) 3 (dY<|(i:Int)+1) >>= _) _ _ (D,g,T,X,os);refine ag<|nT G (by simp) λh k l=>?_;replace l:gA it D h:=l;replace k:h.get? it=U {cls:=.type "dict_itemiterator",dict:=Z,data:=.fields #[f0,.bool fb,.ref d,.int ((i+1:Nat):Int) 0,.int es.size 0,.int ep 0,ok,ov],slots:=#[]}:=by
  have e:((i+1:Nat):Int)=(i:Int)+1:=ω
  rw[e];simpa[dY] using k
 have r:rN (h,g,T,X,os) (.ref it) "dict_itemiterator":=(_,k,O);refine ag<|fz ?_;refine ag<|PJ r ?_;refine ag<|PJ r ?_;show am _ _ (afr (.ref it) 6 es[i].key es[i].val) _ _ (h,g,T,X,os);unfold afr;refine ag<|BX ?_;have f:(h.push {cls:=.type "tuple",data:=.seq #[es[i].key,es[i].val]}).get? it=U {cls:=.type "dict_itemiterator",dict:=Z,data:=.fields #[f0,.bool fb,.ref d,.int ((i+1:Nat):Int) 0,.int es.size 0,.int ep 0,ok,ov],slots:=#[]}:=bJ _ k;generalize t:h.push {cls:=.type "tuple",data:=.seq #[es[i].key,es[i].val]}=j at f;have u:h.objs.size=D.objs.size:=l.1;have I:it<D.objs.size:=bT G;have v:j.get? D.objs.size=U {cls:=.type "tuple",data:=.seq #[es[i].key,es[i].val]}:=by rw[<-t,<-u];exact dv _ O
 have y:∀b o,b≠it->D.get? b=U o->j.get? b=U o:=λb o L e=>by rw[<-t];exact bJ _<|l.extBut b o L e
 show am _ _ (afs (.ref it) >>= _) _ _ (j,g,T,X,os);rw[u];clear t k l r u h;have M:∀(E':Ω)(R:Ω),(∀H,qd H it d (i+1) es.size ep->H.get? D.objs.size=U {cls:=.type "tuple",data:=.seq #[es[i].key,es[i].val]}->
   (∀b o,b≠it->D.get? b=U o->H.get? b=U o)->R (.ref D.objs.size) (H,g,T,X,os))->am (aE prog w) A.in1 (do
    let a6:=[<-qm (.ref it) 6,<-qm (.ref it) (6+1)]
    rI (.ref it) 6 es[i].key;rI (.ref it) (6+1) es[i].val
    rI (.ref it) 0 (dY D.objs.size);rI (.ref it) 1 (.bool ao)
    letGo a6 [.ref D.objs.size]
    return .ref D.objs.size) R E' (j,g,T,X,os):=by
  intro E' R hR;refine ag<|gm f O (x:=ok) O ?_;refine ag<|gm f O (x:=ov) O ?_;refine ag<|nT f (by simp) λq z c=>?_;replace c:gA it j q:=c;refine ag<|nT z (by simp) λP a0 m=>?_;replace m:gA it q P:=m;refine ag<|nT a0 (by simp) λS a1 n=>?_;replace n:gA it P S:=n;refine ag<|nT a1 (by simp) λK C p=>?_;replace p:gA it S K:=p;replace C:K.get? it=U {cls:=.type "dict_itemiterator",dict:=Z,data:=.fields #[dY D.objs.size,.bool ao,.ref d,.int ((i+1:Nat):Int) 0,.int es.size 0,.int ep 0,es[i].key,es[i].val],slots:=#[]}:=C;refine ag<|po<|aC<|hR K (_,_,_,_,.inr (_,O),C) ?_ ?_
  ·exact p.extBut _ _ (iM I)<|n.extBut _ _ (iM I)<|m.extBut _ _ (iM I)<|c.extBut _ _ (iM I) v
  ·exact λb o L e=>p.extBut b o L<|n.extBut b o L<|m.extBut b o L<|c.extBut b o L<|y b o L e
 refine ag ?_;unfold afs;refine ag<|gm f O (x:=f0) O ?_;rcases a5 with rfl|⟨a,rfl⟩
 ·refine aC ?_
  simp only[dQ];exact M _ _ λH x1 x2 x3=>aC (_,O,aC<|hQ H x1 x2 x3)
 ·dsimp only[dY]
  refine ag<|abq ?_;cases a8:j.get? ((a:Int)).toNat with
  |none=>
   simp only[agh,dQ];refine aC ?_;simp only[dQ];exact M _ _ λH x1 x2 x3=>aC (_,O,aC<|hQ H x1 x2 x3)
  |some oa=>
   simp only[agg,dc,cM];refine ag<|gm f O (x:=.bool fb) O ?_;refine Ho (λ_=>?_) (λ_=>?_)
   ·refine ag<|nT f (by simp) λq z c=>?_
    replace c:gA it j q:=c;refine aC ?_;simp only[dc,cM];refine aC<|aC (_,O,aC<|hQ q (_,_,_,_,.inr (a,O),z) ?_ ?_)
    ·exact c.extBut _ _ (iM I) v
    ·exact λb o L e=>c.extBut b o L<|y b o L e
   ·refine aC ?_
    simp only[dc,cM];exact aC<|aC (_,O,aC<|hQ j (_,_,_,_,.inr (a,O),f) v y)
def abz{Q:Option aa->ai->Prop}(j:A.handled=Z)(c:qd s.heap it d es.size es.size ep)(k:iW s.heap d es ep)(l:∀i,Io it s.heap i->Q Z {s with heap:=i}):am (aE prog w) A (jh<|.ref it) Q E s:=by
 obtain⟨p,q,r,t,n,c⟩:=c;obtain⟨u,f,o,g⟩:=id k;have e:s.TypeIs (.ref it) "dict_itemiterator":=(_,c,O);unfold jh;refine ag (pv (pt (name:=iu "__next__") e CT
 <|lT CT e ae9 ?_<|afe _))
 refine ag<|aC ?_;refine ag ?_;refine ag ?_
 first|refine ag<|Hm e<|aC ?_|refine wpAny_bind<|wpAny_typeNameOf_itemiter e<|wpAny_pure ?_
 refine ag<|Hq c O ?_;have h:Da "dict_itemiterator"=ae:=ξ
 simp only[h,dQ];show am _ _ (if(Y d==bj)=ae then _ else _) _ _ s;rw[au<|show ¬((Y d==bj)=ae) from eP];refine ag<|aC ?_;refine ag<|pq f g ?_;rw[au (by simp)];refine ag<|aC ?_;refine ag<|tN f g ?_;rw[au (by simp)];refine aC ?_;simp only[show ¬((es.size:Int)<0) from ω,cM,wn,RM (bc es.size)];refine ag ?_
 first|refine ag<|Hm e<|aC ?_|refine wpAny_bind<|wpAny_typeNameOf_itemiter e<|wpAny_pure ?_
 show am _ _ (rI (.ref it) 2 .none >>= _) _ _ s;refine ag<|qg c O (by simp) ?_;show am _ _ (yd (.type "StopIteration") [] >>= _) _ _ _;refine ag ?_;simp only[yd,Qe];refine ag<|mE ?_ (by size_fits);refine ag (m:=Qm _ _)<|qh (a:=bj) (by first|rfl|(simp only[firstArgMember];rfl)) ?_;refine mE ?_ (by size_fits);simp only[P_];refine ag<|PK ?_;rw[show A.in1.handled=Z from j];refine ag<|aC<|PC ?_;refine ag<|tL (T:="StopIteration") (b:=ae) (_,dv _ O,O) Qi ?_;exact aC<|l _<|((jl ..).extBut.push _).push _
def rF(h:aI)(es:Array lX)(a:List V)(i:Nat):Prop:=a.length=i/\a.Nodup/\∀(j:Nat) t,a[j]?=U t->∃e,es[j]?=U e/\h.get? t=U {cls:=.type "tuple",data:=.seq #[e.key,e.val]}
def ab1{S:V}{I:aa}{R:tW->ai->Prop}{z:Nat}(hh:A.handled=Z)(hn:es.size<=bG)(x:S≠it)(X:S≠d)(a0:it≠d):∀(k i:Nat)(s:ai)(f:List V)(c:Nat),es.size-i=k->i<=es.size->qd s.heap it d i es.size ep->iW s.heap d es ep->
   s.heap.get? S=U {cls:=.type "list",dict:=Z,data:=.seq (f.map Y).toArray c,slots:=#[]}->rF s.heap es f i->z<=s⁻¹->(∀t∈f,z<=t)->
   (∀m tk n c',m.get? S=U {cls:=.type "list",dict:=Z,data:=.seq (n.map Y).toArray c',slots:=#[]}->rF m es n es.size->(∀t∈n,z<=t)->
    (∀b o,b≠S->b≠it->s.heap.get? b=U o->m.get? b=U o)->R (.ok<|.ret I) {s with heap:=m,toks:=tk})->
   iK (aE prog w) A (.builtin "list.extend.loop" ([.ref S,.ref it,I],[])) R s:=by
 have g:∀{h m:aI}{f:List V}{i:Nat}{oS oI:aR},h.get? S=U oS->oS.cls=.type "list"->h.get? it=U oI->oI.cls=.type "dict_itemiterator"->(∀b o,b≠S->b≠it->h.get? b=U o->m.get? b=U o)->rF h es f i->rF m es f i:=by
  intro h m f i oS oI C cS hI cI kk tt;refine(tt.1,tt.2.1,λj t e=>?_);obtain⟨en,e1,r⟩:=tt.2.2 j t e;refine(en,e1,kk _ _ (λy=>?_) (λy=>?_) r)
  ·rw[y,C] at r;rw[ca r] at cS;exact aZ (show ay "tuple"=ay "list" from cS) ξ
  ·rw[y,hI] at r;rw[ca r] at cI;exact aZ (show ay "tuple"=ay "dict_itemiterator" from cI) ξ
 intro k
 induction k with
 |zero=>
  intro i s f c hk hi p Q C q hz D hR;have a1:i=es.size:=ω
  subst a1;obtain⟨f0,fb,k0,v0,_,E⟩:=id p;refine jj ae7 ?_;rw[kK CU _];show am _ A.in1 (jh (.ref it) >>= _) _ _ s;refine ag<|abz (A:=A.in1) hh p Q λm eb=>?_;exact aC<|hR m s.toks f c (eb _ _ x C) (g C O E O (λb o _ l e=>eb b o l e) q) D λb o _ l e=>eb b o l e
 |succ k ih=>
  intro i s f c hk hi p Q C q hz D hR;have G:i<es.size:=ω
  obtain⟨f0,fb,k0,v0,_,E⟩:=id p;refine jj ae7 ?_;rw[kK CU _];show am _ A.in1 (jh (.ref it) >>= _) _ _ s;refine ag<|aby (A:=A.in1) p Q G λv K L T=>?_;have H:=T S _ x C;have a7:s⁻¹<v.objs.size:=bT L;obtain⟨a8,a9,b0,b1,_,M⟩:=id K;have a2:rF v es (f++[s⁻¹]) (i+1):=by
   have t0:=g C O E O (λb o _ l e=>T b o l e) q;refine(by rw[dz,q.1];rfl,?_,λj t e=>?_)
   ·rw[mI]
    refine(q.2.1,by simp,λa ha b l=>?_);have a3:b=s⁻¹:=by simpa using l
    obtain⟨j,hj⟩:=Ry ha;obtain⟨en,_,r⟩:=q.2.2 j a hj;rw[a3];exact ck<|bT r
   ·by_cases hj:j<f.length
    ·rw[yP hj] at e
     exact t0.2.2 j t e
    ·have a4:j=i:=by
      have:=(cE.mp e).1;rw[dz] at this;simp at this;have:=q.1;omega
     subst a4;rw[yO ω,q.1,agk] at e;have:t=s⁻¹:=(ca e).symm;rw[this];exact(_,yV G,L)
  show am _ A.in1 (xZ S (·.push<|.ref s⁻¹) >>= _) _ _ _;refine ag ?_;have u:∀b o,b≠S->v.get? b=U o->(v.update S (b_ (·.push<|Y s⁻¹))).get? b=U o:=λb o l e=>(lB _ _<|dB l).trans e;have e0:((f.map Y).toArray.push<|.ref s⁻¹)=((f++[s⁻¹]).map Y).toArray:=by simp
  obtain⟨c2,a5⟩:∃c2,(v.update S (b_ (·.push<|Y s⁻¹))).get? S=U {cls:=.type "list",dict:=Z,data:=.seq ((f++[s⁻¹]).map Y).toArray c2,slots:=#[]}:=by
   rw[<-e0];exact(_,pC _ H O)
  refine tJ H O (aC (lp CU _,ih (i+1) _ (f++[s⁻¹]) c2 ω G (K.B λo e=>u _ o (dB x) e) ((Q.B λo e=>T _ o (dB a0) e).B λo e=>u _ o (dB X) e) a5 (g H O M O (λb o l _ e=>u b o l e) a2) ?_ ?_ λm tk n c' e1 r e3 e4=>?_))
   (by simp only[cz,aA];rw[q.1];omega) (by simp only[DD,cz,aA];rw[q.1];omega)
  ·have:(v.update S (b_ (·.push<|Y s⁻¹))).objs.size=v.objs.size:=(jl ..).1
   show z<=(v.update S (b_ (·.push<|Y s⁻¹))).objs.size;rw[this];omega
  ·intro t a6
   rcases gB.mp a6 with y|y
   ·exact D t y
   ·have:t=s⁻¹:=by simpa using y
    rw[this];exact hz
  ·exact hR m tk n c' e1 r e3 λb o l P e=>e4 b o l P<|u b o l<|T b o P e
end
section
variable{prog:aU}{w:aO}{A:bg}{E:Ω}{s:ai}{r d:V}{ep:Nat}{es:Array lX}
def ab0{Q:Bool->ai->Prop}(d:s.TypeIs (.ref r) "dict_items")(h:Q ao s):am (aE prog w) A (afo<|.ref r) Q E s:=by
 unfold afo;refine ag<|xX d PySem.F.slot_dict_items_len.lookup ?_;generalize c:("dict_items.__len__":String)=e
 wp_delta
 rw[show splitId e=U (adc ("dict_items") ("__len__")) from by subst c;decide +kernel];subst c;refine ag<|tL (T:="dict_items") (b:=ae) d (by rw[Qh];kernel_rfl) ?_;refine Ho (λa=>aZ a ξ) (λ_=>?_);refine Ho (λ_=>?_) (λa=>aZ δ a);refine ag<|rH d ?_;exact aC h
def abv{R:tW->ai->Prop}{z:Nat}(hh:A.handled=Z)(E:s.heap.IsItemsView r d)(G:iW s.heap d es ep)(hn:es.size<=bG)(S:V)(H:S≠r)(q:S≠d)(hz:z<=s⁻¹)(k:aa)(i:Nat)(hS:s.heap.get? S=U {cls:=.type "list",data:=.seq #[] i})(hR:∀n C I p,(∀b o,b≠S->s.heap.get? b=U o->n.get? b=U o)->n.get? S=U {cls:=.type "list",dict:=Z,data:=.seq (I.map Y).toArray p,slots:=#[]}->rF n es I es.size->(∀t∈I,z<=t)->R (.ok<|.ret k) {s with heap:=n,toks:=C}):am (aE prog w) A.in1 (CZ (.ref S) (.ref r) k)
   (λfin D=>match fin with|.done f=>R (.ok f) D|.again p=>p.quiet=ae/\iK (aE prog w) A p R D) (λe D=>R (.error e) D) s:=by
 have l:S≠s⁻¹:=ck<|bT hS;have K:s⁻¹≠d:=iM G.F;have u:∀(h:aI)(c C:Nat),qd h s⁻¹ d 0 es.size ep->s⁻¹<=h.objs.size->(∀b o,b≠S->s.heap.get? b=U o->h.get? b=U o)->
   h.get? S=U {cls:=.type "list",data:=.seq #[] c}->iK (aE prog w) A (.builtin "list.extend.loop" ([.ref S,.ref s⁻¹,k],[])) R {s with heap:=h,toks:=C}:=by
  intro h c C L M hk a;refine ab1 (z:=z) hh hn l q K es.size 0 _ [] c O (dZ _) L (G.B λo e=>hk _ o (dB q) e) a (O,lD,λj t e=>by simp at e) (dE hz M) (λt ht=>nomatch ht) λn P Q p e1 e2 e3 e4=>?_;exact hR n P Q p (λb o v e=>e4 b o v (λy=>aZ (bT e) (by rw[y];exact oj _))<|hk b o v e) e1 e2 e3
 unfold CZ;refine ag<|rH (T:="dict_items") E.typeIs ?_;have h1:afn (.ref S) (.ref r)=ao:=by simp[afn,H]
 have h2:(ay "dict_items" == ay "list")=ao:=ξ
 have h3:(ay "dict_items" == ay "tuple")=ao:=ξ
 simp only[h1,h2,h3,ah5,dc,cM];refine ag<|abx E G ?_;have a:=bJ {cls:=.type "dict_itemiterator",data:=.fields #[.none,.bool ao,.ref d,.int 0 0,.int es.size 0,.int ep 0,.none,.none]} hS;have st:qd (s.heap.push {cls:=.type "dict_itemiterator",data:=.fields #[.none,.bool ao,.ref d,.int 0 0,.int es.size 0,.int ep 0,.none,.none]}) s⁻¹ d 0 es.size ep:=(_,_,_,_,.inl O,dv _ O);have X:rN {s with heap:=s.heap.push {cls:=.type "dict_itemiterator",data:=.fields #[.none,.bool ao,.ref d,.int 0 0,.int es.size 0,.int ep 0,.none,.none]}} (.ref r) "dict_items":=by
  obtain⟨o,ho,hc,_⟩:=E;exact(o,bJ _ ho,hc)
 refine ag<|fz<|ab0 X ?_;have x:∀o:aR,s⁻¹<=(s.heap.push o).objs.size:=λo=>by rw[mF];omega
 refine Ho (λ_=>?_) (λ_=>aC (lp CU _,u _ i _ st (x _) (λb o _ e=>bJ _ e) a));refine ag<|nU ?_;refine ag ?_;show am _ _ (xZ S (·.push .none) >>= λ_=>xZ S (·.pop)) _ _ _;refine ag<|tJ a O ?_;have g:=pC (b_ (·.push bj)) a O;refine tJ (hz:=by seq_fits) g O ?_;have m:=pC (b_ (·.pop)) g O;refine aC (lp CU _,u _ _ _ ?_ ?_ (λb o v e=>?_) m)
 ·exact(st.B λo e=>(lB _ _ l).trans e).B λo e=>(lB _ _ l).trans e
 ·rw[(jl ..).1,(jl ..).1];exact x _
 ·exact(lB _ _<|dB v).trans<|(lB _ _<|dB v).trans<|bJ _ e
def abu{R:tW->ai->Prop}{z:Nat}(x:A.handled=Z)(y:s.heap.IsItemsView r d)(C:iW s.heap d es ep)(D:es.size<=bG)(S:V)(i:S≠r)(j:S≠d)(E:z<=s⁻¹)(p:s.heap.get? S=U {cls:=.type "list",data:=.seq #[]})(hR:∀g q k h,(∀b o,b≠S->s.heap.get? b=U o->g.get? b=U o)->g.get? S=U {cls:=.type "list",dict:=Z,data:=.seq (k.map Y).toArray h,slots:=#[]}->rF g es k es.size->(∀t∈k,z<=t)->R (.ok<|.ret .none) {s with heap:=g,toks:=q}):am (aE prog w) A.in1 (Builtin.«list.__init__» ([.ref S,.ref r],[]))
   (λfin m=>match fin with|.done f=>R (.ok f) m|.again h=>h.quiet=ae/\iK (aE prog w) A h R m) (λe m=>R (.error e) m) s:=by
 show am _ _ (do let u <-afp (.ref S);aj1 (.ref S) (λ_=>#[]);letGo u.toList.reverse;CZ (.ref S) (.ref r) .none) _ _ s;refine ag ?_;unfold afp;refine ag<|lS p O<|aC ?_;show am _ _ (xZ S (λ_=>#[]) >>= λ_=>letGo (#[]:Array aa).toList.reverse >>= λ_=>CZ (.ref S) (.ref r) .none) _ _ s;refine ag<|tJ p O ?_;have a:=pC (b_ (λ_=>(#[]:Array aa))) p O;have c:∀b o,b≠S->s.heap.get? b=U o->(s.heap.update S<|b_ (λ_=>(#[]:Array aa))).get? b=U o:=
  λb o n e=>(lB _ _<|dB n).trans e
 refine ag<|po ?_;obtain⟨o,G,H,I⟩:=id y;refine abv (s:={s with heap:=s.heap.update S<|b_ (λ_=>(#[]:Array aa))}) x (o,c _ _ (dB i) G,H,I) (C.B λo e=>c _ o (dB j) e) D S i j (by show z<=(s.heap.update S<|b_ (λ_=>(#[]:Array aa))).objs.size;rw[(jl ..).1];exact E) .none _ a λg q k h K v l L=>?_;exact hR g q k h (λb o n e=>K b o n<|c b o n e) v l L
def abw{Q:Ω}(q:A.handled=Z)(u:s.heap.IsItemsView r d)(m:iW s.heap d es ep)(v:es.size<=bG)(x:∀c j f k,(∀b o,s.heap.get? b=U o->c.get? b=U o)->c.get? s⁻¹=U {cls:=.type "list",dict:=Z,data:=.seq (f.map Y).toArray k,slots:=#[]}->rF c es f es.size->(∀t∈f,s⁻¹<t)->Q (.ref s⁻¹) {s with heap:=c,toks:=j}):am (aE prog w) A (gv (.type "list") [.ref r]) Q E s:=by
 refine callType_codes (Q₁:=λg a=>g=.ref s⁻¹/\a={s with heap:=s.heap.push {cls:=.type "list",data:=.seq #[]}}) PySem.F.called_list (PySem.F.typeCall_list_1 _) PySem.F.entry_list_init
  (code_list_new _ (O,O)) λg a h=>?_
 obtain⟨rfl,rfl⟩:=h;have n:(s.heap.push {cls:=.type "list",data:=.seq #[]}).get? s⁻¹=U {cls:=.type "list",data:=.seq #[]}:=dv _ O;obtain⟨o,p,y,C⟩:=id u;refine((_,n,O),PySem.F.args_list_init_2 _ _,abu (A:=A.in1) (z:=s⁻¹+1) q (o,bJ _ p,y,C) (m.B λo e=>bJ _ e) v _ (iM<|bT p) (iM m.F) (by show _<=(s.heap.push _).objs.size;rw[mF];exact bc _) n λc j f k D l i G=>?_);exact(O,x c j f k (λb o e=>D b o (ck<|bT e)<|bJ _ e) l i λt H=>G t H)
end
section
variable{X:aK}{pins:Ψ}{σ:aM}{H:ac}{s:ai}
def MR:∀(a:List (V×List af))(H:ac),aw X pins σ H s->(a.map (·.1)).Nodup->(∀r∈a,fQ X pins H r.1/\X.d⁻¹<=r.1/\r.2.length<=bG/\∃b:List aa,bW r.2 b/\jL s.heap r.1 b.toArray)->
  ∃f,aw X pins σ f s/\aQ H f/\∀r∈a,f r.1=U (.b r.2)
 |[],H,I,_,_=>(H,I,aQ.A3 _,λr k=>nomatch k)
 |r::c,H,I,l,h=>by
  obtain⟨⟨i,m,G,K,n,p⟩,t,u,b,v,w⟩:=h r dC;have d:(r.1::c.map (·.1)).Nodup:=l;rw[iB] at d;have x:=I.C1 (o:=.b r.2) i t m n p (u,b,v,w);have z:=aQ.B (o:=.b r.2) i;obtain⟨f,A,j,g⟩:=MR c (av H r.1<|.b r.2) x d.2 λq e=>by
   obtain⟨⟨C,D⟩,E⟩:=h q<|d_ _ e;refine((?_,D),E);rw[a_ (λy=>d.1 (by rw[<-y];exact bq.mpr (q,e,O)))];exact C
  refine(f,A,z.F j,λq e=>?_);rcases ci.mp e with rfl|e
  ·exact j _ _ aD
  ·exact g q e
end
section
variable{X:aK}
def wL(v d:V):cP:=.i λh=>h.IsItemsView v d
inductive Eo(x:af)(vs:List af)(H:ac)(Q:aL):Prop
 |a:∀d kvs,(x=.c d)->(vs=[])->(bX H d<|.c kvs)->(∀v,H v=Z->Q (.c v) (av H v<|wL v d))->Eo x vs H Q
def Vd:M_ X "dict.items" Eo:=by
 intro f s w H x y v C Q I j l h;obtain⟨d,e,rfl,rfl,m,q⟩:=h;cases j;obtain rfl:=l.A6;obtain⟨z,n,D,r,o,E,G,g,i,K,L,M⟩:=(show db X.prog X.w H s.heap d (.c e) from m.F I.b);have a:s.TypeIs (.ref d) "dict":=(o,g,i.1);have t:MeetsIn X.prog X.w (Builtin.«dict.items» ([.ref d],[])) (λ_ R s=>s.TypeIs (.ref d) "dict"/\R (.ok<|.ret<|.ref s⁻¹) {s with heap:=s.heap.push {cls:=.type "dict_items",data:=.fields #[.ref d]}}):=
  .of_wp λA R s (a,h)=>by
   unfold Builtin.«dict.items»;refine ag ?_;unfold akb;refine ag<|PH a ?_;show am _ _ (bH d) _ _ s;refine aC ?_;show am _ _ (IB d >>= _) _ _ s;unfold IB;rw[au (by rw[n];exact eP)];refine ag<|aC ?_;exact ag<|mE<|aC (_,O,h)
 refine HM ae1 a PySem.F.entry_dict_items (PySem.F.args_dict_items_1 _) t (a,?_);refine(.c s⁻¹,_,I.F (t':=s.toks) (o:=wL s⁻¹ d) (λb P q=>bJ _ q) (bc _) ?_,O,q _<|I.b.B<|bc _);refine((_,dv _ O,O,O),(_,dv _ O),λg i p k=>?_);obtain⟨o,u,c⟩:=p;exact(o,k o u,c)
def TS(a:bb):bb:=λb H Q=>a b H λx c=>Eo x [] c Q
def UI{k:bb}{b c:bR}(u:bA X o k)(g:HO o "items" X.env (dO o X.env)=dO o X.env:=by rfl)(i:(b.endLine==c.line)=ae:=by rfl):bA X (.Call (.Attribute o "items" b) [] [] c) (TS k):=by
 intro f s l H Q I h;refine wpAny_Call_method0_late g i<|bI (u f s l H _ I h) λv m (x,n,p,w,q)=>?_;have y:=q;obtain⟨d,j,rfl,_,A,_⟩:=q;cases w;obtain⟨_,_,_,_,r,_,_,e,t,_⟩:=(show db X.prog X.w n m.heap d (.c j) from A.F p.b);exact("dict","dict.items",ae4,ae1,PySem.F.type_dict_items,(r,e,t.1),(λa z=>by cases z;exact(r,e,t.2.1)),QW O<|PySem.evalArgs_none<|Vd f m l n (.c d) [] (.ref d) [] Q p O .nil y)
def Wu(hc:X.b=ae):io X (.type "list") (λxs H Q=>∃v d k,xs=[.c v]/\H v=U (wL v d)/\bX H d (.c k)/\
  ∀n(l:V)(m:List V),aQ H n->H l=Z->n l=U (.a<|m.map af.c)->dA (λt(e:List aN×af)=>∃b,n t=U (.b [.c b,e.2])/\n b=U (.b<|e.1.map dM)) m k->Q (.c l) n):=by
 intro M s σ H xs us Q I r h;obtain⟨v,d,k,rfl,hv,hd,q⟩:=h;obtain⟨u,rfl,ru⟩:=gU r;cases ru;have a0:s.heap.IsItemsView v d:=(show db X.prog X.w H s.heap v (wL v d) from I.b v _ hv).1;obtain⟨z,hs,L,w,o,es,ep,h1,h2,h3,h4,h5⟩:=(show db X.prog X.w H s.heap d (.c k) from hd.F I.b);have K:es.size=k.length:=by
  have:=gD aF h4;rw[aA,<-hZ w] at this
  simpa using this
 refine abw (I.a.hd hc) a0 (o,h1,h2,h3) (by rw[K];exact z) λh' tk m c' kk hl S a1=>?_;have hL:H s⁻¹=Z:=I.b.B<|bc _;have vv:∀m:List V,bW (m.map af.c) (m.map Y):=λm=>by
  induction m with
  |nil=>exact .nil
  |cons b bs ih=>exact .cons O ih
 have I1:aw X M σ (av H s⁻¹<|.a<|m.map af.c) {s with heap:=h',toks:=tk}:=I.F kk (bc _) (by rw[aA,S.1,K];exact z,_,c',vv m,hl);have s1:=aQ.B (o:=.a<|m.map af.c) hL;have P:m.length=k.length:=by rw[S.1,K]
 have R:∀(j:Nat)(t:V)(e:List aN×af),m[j]?=U t->k[j]?=U e->∃(y:List aN×V×aa),H y.2.1=U (.b<|e.1.map dM)/\cb e.2 y.2.2/\L[j]?=U y/\h'.get? t=U {cls:=.type "tuple",data:=.seq #[.ref y.2.1,y.2.2]}:=by
  intro j t e E A;obtain⟨en,T,g2⟩:=S.2.2 j t E;obtain⟨y,G,g4,g5⟩:=LM w A;obtain⟨y',g6,g7⟩:=EF w A;rw[G] at g6;obtain rfl:=ca g6;have g8:es.toList[j]?=U en:=by simpa using T
  rw[h4,cm,G] at g8;simp only[nz,pF] at g8;refine(y,g7,g5,G,?_);rw[g2,<-g8]
  rfl
 let p:List (V×List af):=(m.zip<|L.zip k).map λq=>(adc q.1 ([.c q.2.1.2.1,q.2.2.2]))
 have a4:L.length=k.length:=(hZ w).symm;have a2:p.map (·.1)=m:=by
  show((m.zip<|L.zip k).map λq=>(adc q.1 ([af.c q.2.1.2.1,q.2.2.2]))).map (·.1)=m;rw[bY];show(m.zip<|L.zip k).map yB=m;rw[yL];rw[ur];omega
 have C:∀(j:Nat)(t:V)(e:List aN×af)(y:List aN×V×aa),m[j]?=U t->k[j]?=U e->L[j]?=U y->(adc t ([af.c y.2.1,e.2]))∈p:=by
  intro j t e y E A e3;refine bq.mpr ((adc t (adc y e)),dy (i:=j) ?_,O);rw[wc];exact(E,by rw[wc];exact(e3,A))
 obtain⟨n,I',sm,g⟩:=MR p _ I1 (by rw[a2];exact S.2.1) λr hr=>by
  obtain⟨⟨t,y,e⟩,hq,rfl⟩:=bq.mp hr;obtain⟨j,hj⟩:=Ry hq;rw[wc] at hj;obtain⟨j1,j2⟩:=hj;rw[wc] at j2;obtain⟨j2,j3⟩:=j2;obtain⟨y',T,g2,G,g4⟩:=R j t e j1 j3;rw[j2] at G;obtain rfl:=ca G;have D:s⁻¹<t:=a1 t<|dy j1;refine(I.A0 (qv D) ?_,dE I.sz<|qv D,by show 2<=bG;rw[jx];omega,[.ref y.2.1,y.2.2],.cons O<|.cons g2 .nil,(_,g4,O,_,O));rw[a_<|iM D];exact I.b.B<|qv D
 have a3:∀(a:List V)(b:List (List aN×af)),a.length=b.length->(∀(j:Nat) t e,a[j]?=U t->b[j]?=U e->∃c,n t=U (.b [.c c,e.2])/\n c=U (.b<|e.1.map dM))->dA (λt(e:List aN×af)=>∃b,n t=U (.b [.c b,e.2])/\n b=U (.b<|e.1.map dM)) a b:=by
  intro a
  induction a with
  |nil=>
   intro b hb _;cases b with
   |nil=>exact .nil
   |cons x y=>simp at hb
  |cons x a ih=>
   intro b hb f;cases b with
   |nil=>simp at hb
   |cons y b=>exact .cons (f 0 x y O O)<|ih b (by simpa using hb) λj t e E A=>f (j+1) t e (by simpa using E) (by simpa using A)
 refine(.c s⁻¹,n,I',O,q n _ m (s1.F sm) hL (sm _ _ aD)<|a3 _ _ P λj t e E A=>?_);obtain⟨y,T,g2,G,g4⟩:=R j t e E A;exact(y.2.1,g _<|C j t e y E A G,sm _ _<|s1 _ _ T)
end
section
variable{X:aK}{pins:Ψ}{σ:aM}{H:ac}{s:ai}{D:V}{o:aR}{kvs:List (List aN×af)}
def aw.E7(I:aw X pins σ H s)(i:X.h D=Z)(f:H D=U (.e o<|.c kvs)):aw X pins σ (av H D<|.c kvs) s:=by
 have g:∀{b:V},H b=Z->b≠D:=λ{b} e=>(dH f e).symm;refine(I.a,I.k,I.e,(I.base.a,I.base.g,λb u e n h=>?_,I.base.d,λb j e=>?_,λb m u e=>?_,λb r e=>?_),I.d,I.g,?_,λx c e=>?_,λp t=>?_,λb u e=>?_,I.l)
 ·have:=I.base.c b u e n h
  rw[a_<|g this];exact this
 ·have:=I.base.i b j e
  rw[a_<|fL this f (by intro z;cases z)];exact this
 ·have d:b≠D:=λz=>by rw[z,i] at e;cases e
  rw[a_ d];exact I.base.f b m u e
 ·have d:b≠D:=λz=>by rw[z,i] at e;cases e
  rw[a_ d];exact I.base.e b r e
 ·rw[a_<|g I.h];exact I.h
 ·rw[a_<|g<|I.j x c e];exact I.j x c e
 ·obtain⟨w,k,y⟩:=I.f p t
  exact(w,by rw[a_<|g k];exact k,y)
 ·have l:∀{a:V}{v:cP},db X.prog X.w H s.heap a v->db X.prog X.w (av H D<|.c kvs) s.heap a v:=λ{a v} x=>
   x.B (λ_ _ _ q=>q) (λc q=>by rw[a_<|fL q f (by intro z;cases z)];exact q) λc j q=>by rw[a_<|fL q f (by intro z;cases z)];exact q
  by_cases d:b=D
  ·subst d
   rw[aD] at e;cases e;have h:=I.b b _ f;exact l (show s.heap.get? b=U o/\db X.prog X.w H s.heap b (.c kvs) from h).2
  ·rw[a_ d] at e
   exact l<|I.b b u e
end
section
variable{X:aK}
def TV(c d:bb):bb:=λe H Q=>∀p,H p=Z->zq [(adc c d)] e (av H p<|.c []) λf a=>∃b k v,f=[(adc (.c b) v)]/\a p=U (.c [])/\a b=U (.b<|ax dM k)/\Q (.c p) (av a p<|.c [(adc k v)])
def UL{m n:bf}(hu:X.A.units+1<cH)(A:bA X m p)(C:bA X n r):bA X (.Dict [U m] [n] g) (TV p r):=by
 intro f s D H Q I q;have E:=I.b.B<|bc s⁻¹;have G:=I.F (a:=s⁻¹) (o:=.c []) (h':=s.heap.push {cls:=.type "dict",data:=.dict #[]}) (t':=s.toks) (λ_ _ q=>bJ _ q) (bc _)<|EL s.heap I.B4;refine wpAny_Dict_any O O (by simp) (by simp)<|bI (Lq A C Lp f _ D _ _ G<|q _ E) λws s2 (ps,H2,i,d,b,k,v,j,e,u,K)=>?_;subst j;cases d with
 |@cons p' L M P h t=>
  cases t;obtain⟨R,w2⟩:=L;obtain⟨S,T⟩:=h;cases(show R=Y b from S);obtain⟨z,hd,xs,d,dd⟩:=EK i.b e;cases d;unfold Hw;rw[Ds];refine ag<|ag<|PL (hsz:=dZ _) (knd:=kG<|fH X.prog X.w) (by show X.A.units<cH;omega) (pP i.b u) dd λh' l hs=>aC ?_;show am _ _ (uA _ _ _) _ _ _;rw[Jh];refine aC (.c s⁻¹,_,?_,O,K);obtain⟨w,es,j,x,h2,h3,h4,_,h5⟩:=l;refine wQ i (by rw[e];exact vB) hs (w,x) (by show 1<=bG;rw[jx];omega,hd,_,(js.J (kvs:=[]) .nil k u T).B λc ys y=>?_,w,es,j,x,h2,h3,h4,h5);rw[a_<|fL y e (λz=>nomatch z)];exact y
end
abbrev xH:bV:=de 30
abbrev Bb:bV:=de 31
abbrev Ba:bV:=de 40
section
variable{P:aU}{w:aO}{K:aH}{mg:al->Option aa}{base:aI}{f:V}{fd:cr}
def μ{f:ac}{l:List V}{Q:aL}(r:bx K f L (l.map af.c))(n:aW f l h)(s:f d=U (.c<|iU a))(G:h.length<=1000)(q:f D=Z)(H:∀(c:ac),aQ f c->c D=U (.a<|(h.map λp=>aG<|p∈a).map af.e)->Q (.c D) c):fg (im K L) (eA 0) ja (Eg (bz 0)<|bz 1) [Z,U<|.c d] f D Q:=by
 have t:=n.B;refine jX (xs:=l.map af.c) (λj m i c=>∃(v:Option af),m=[v,U<|.c d]/\aQ f c/\c D=U (.a i)/\i=((h.map λp=>aG<|p∈a).take j).map af.e) ?_ ?_ ?_ ?_
 ·exact(Z,O,aQ.B q,aD,O)
 ·rintro j m i c ⟨v,rfl,g,b,rfl⟩
  exact g.W r
 ·rintro j m i c x u w y ⟨v,rfl,g,b,rfl⟩
  obtain⟨o,z,rfl⟩:=fY u;obtain⟨p,A,C⟩:=n.F z;have E:(l.map af.c).length<=bG:=by rw[aA];exact dN ω
  have e:(h.map λp=>aG<|p∈a)[j]?=U (aG<|p∈a):=by rw[cm,A];rfl
  refine jU (_,O,_,O,d,_,O,hJ.t (k:=p.map bd) (g _ _ s) (by rw[bY];exact g.N C),?_);rw[GD];exact gG E w y b (_,O,g.A0 q,aD,by rw[di e,cv];rfl)
 ·rintro m i c ⟨v,rfl,g,b,rfl⟩
  rw[gb (by rw[aA,aA];omega)] at b;exact H c g b
inductive pX(K:aH)(vs:List af)(H:ac)(Q:aL)(E':bK):Prop
 |a:∀l as pss,(vs=[.c l])->(bx K H l<|as.map af.c)->(aW H as pss)->(pss.length<=200)->(∀b H',(b=ae↔dU pss)->aQ H H'->Q (.e b) H')->pX K vs H Q E'
def AQ:cQ ["order","seen","piece"] ["order"] (bB xH):=(O,O,O,δ,O,δ,δ)
def Zn(F:bF K "is_order" "is_order" xH f fd)(a8:eC mg)(L:mg "MOST_PIECES"=U (.int 200 I))(Ci:bO P w K mg base aX "is_piece" ["numbers"] 1 Ax)(Cr:bO P w K mg base aX "rims_of" ["piece"] 1 o_):bD P w K mg base aX 2 f fd ["order"] (pX K):=by
 refine F.B AQ (λvs H Q E h=>?_) (λa7 A a0 s H vs Q E hr h=>?_)
 ·obtain⟨l,as,b,rfl,_⟩:=h;rfl
 ·obtain⟨l,as,b,rfl,hl,ht,a6,k⟩:=h
  have hu:=jb hr;refine(_,aY (dh (cV sK (eH gW O a8.a fZ<|aj (ah 0) az) (oN O L (v:=.d 200) (_,O))<|cN _) (be<|cp gd) dq)
   (aY (cJ (i:=1) AQ.a O (aq O) ml)
   (aY (iF iL O (eG<|ah 0) (cB (i:=2) AQ.a O<|ak O)
    (aY (dh (sW.B<|sH (mR<|oF<|bN Ci hr O ce<|aj (ah 2) az)<|sG<|Et (Ey hu (ah 2)<|ah 1) (by with_unfolding_all rfl)) (be<|cp gd) dq)
    (aY (dh (mR (oF (eH (wU O) O a8.all xO (aj (fE ["order","seen","piece"] ["rim","seen"] [Z,U 1] (eG<|bN Cr hr O ce<|aj (ah 2) az) (λcl C q t ex=>cB (i:=0) (eI ["rim","seen"]) O<|ak O) (λcl C q t ex=>gE)
     (λcl C q t ex=>UN (Ey hu (ah 0)<|ah 1) (by with_unfolding_all rfl)) (hfr:=iQ (bB xH) δ) (te:=Eg (bz 0)<|bz 1)) az)))) (be<|cp gd) dq)
   <|be<|oG hu (ah 1) (ah 2) gd O)))
  <|be<|cp gd)),?_)
  have a1:=ht.B;refine(_,O,l,_,O,.inl hl,_,_,O,O,_,O,?_);rw[aA,cf ω];refine cZ λd hd=>?_;refine(_,O,l,O,(_,(aQ.B hd).W hl),mm (K:=K) (a:=l) (xs:=as.map af.c) (λi S G=>∃(v:Option af),S=[U<|.c l,U<|.c d,v]/\aQ H G/\G d=U (.c<|iU<|b.take i)/\dU (b.take i))
   (Z,O,aQ.B hd,aD,GX) (λi S G _ (_,_,g,_)=>g.W hl) ?_ ?_)
  ·rintro i x S G hx ⟨v,rfl,g,j,m⟩
   obtain⟨a,ea,rfl⟩:=fY hx;obtain⟨p,T,X⟩:=ht.F ea;have hi:i<b.length:=(cE.mp T).1;have no:nr (b.take i) p=ao->∀H',aQ H H'->Q (.e ao) H':=λe H' s'=>k ao H' (λz=>(by cases z),λz=>by rw[z i p T] at e;cases e) s';refine(_,O,a,p,O,g.N X,λH3 u=>(_,O,?_));cases n:gl p with
   |false=>exact dI<|no (by unfold nr;rw[n];rfl) H3<|g.F u
   |true=>
   have h5:p.length<=5:=(nt.mp (by rw[<-BL];exact n)).2.1;refine cZ (_,O,_,O,d,_,O,hJ.t (k:=p.map bd) (u _ _ j) (by rw[bY];exact(g.F u).N X),_,O,?_);rw[GD]
   by_cases o:p∈b.take i
   ·rw[bZ o]
    exact dI<|no (by unfold nr;rw[n,bZ o];rfl) H3<|g.F u
   rw[cf o];have M:=g.F u;refine cZ (_,O,a,p,O,M.N X,h5,λRL H4 rs s4 _ R a2=>(RL,O,(_,bx.B R),λD hD=>fc<|μ (bx.B R) a2 (s4 _ _<|u _ _ j) (dE (nR p) ω) hD λH5 s5 a3=>(D,_,O,bx.B a3,_,O,?_)));have y:=M.F<|s4.F s5;have a4:=s5 _ _<|s4 _ _<|u _ _ j;cases c:(((cq p).map λr=>aG<|r∈b.take i).all id) with
   |false=>exact dI<|no (by unfold nr;rw[RB] at c;rw[show((cq p).all λr=>aG<|r∈b.take i)=ao from c,pJ]) H5 y
   |true=>
   have a5:nr (b.take i) p=ae:=by unfold nr;rw[RB] at c;rw[n,cf o,show((cq p).all λr=>aG<|r∈b.take i)=ae from c];rfl
   refine cZ (_,O,_,O,d,_,O,xf.t (k:=p.map bd) a4 (by rw[bY];exact y.N X)<|li<|dE (Bw _) (by rw[eF];omega),(_,O,y.A0 hd,?_,?_))
   ·rw[aD,Br,<-di T]
   ·rw[di T];exact GW m a5
  ·rintro S G ⟨v,rfl,g,j,m⟩
   rw[aA,a1,iI] at m;exact k ae G (λ_=>m,λ_=>O) g
inductive xn(K:aH)(vs:List af)(H:ac)(Q:aL)(E':bK):Prop
 |a:∀l as pss,(vs=[.c l])->(bx K H l<|as.map af.c)->(aW H as pss)->(pss.length<=200)->(dU pss)->(∀H',aQ H H'->Q .g H')->xn K vs H Q E'
def NG:cQ ["order"] ["order"] (bB Bb):=(O,O,O,δ,O,δ,δ)
def YY(F:bF K "must_be_order" "must_be_order" Bb f fd)(g:bO P w K mg base aX "is_order" ["order"] 2 (pX K)):bD P w K mg base aX 3 f fd ["order"] (xn K):=by
 refine F.B NG (λi H Q E h=>?_) (λj A d s H i Q E m h=>?_)
 ·obtain⟨l,e,a,rfl,_⟩:=h;rfl
 ·obtain⟨l,e,a,rfl,n,o,c,p,k⟩:=h
  refine(_,be<|dh (mR<|oF<|bN g m O ce<|aj (ah 0) az) lL dq,?_);refine(_,O,l,e,a,O,n,o,c,λb q r t=>(_,O,?_));obtain rfl:b=ae:=r.mpr p;exact cZ<|k q t
inductive xm(vs:List af)(H:ac)(Q:aL)(E':bK):Prop
 |a:∀p:Int,(vs=[.d p])->((p=2\/p=3\/p=5\/p=7))->(Q .g H)->xm vs H Q E'
def NF:cQ ["prime"] ["prime"] (bB Ba):=(O,O,O,δ,O,δ,δ)
def YW{t:V}(F:bF K "must_be_prime" "must_be_prime" Ba f fd)(b:mg "PRIMES"=U (.ref t))(c:∀H,fm K H t [.d 2,.d 3,.d 5,.d 7]):bD P w K mg base aX 1 f fd ["prime"] xm:=by
 refine F.B NF (λd H Q E h=>?_) (λe A a s H d Q E i h=>?_)
 ·obtain⟨p,rfl,_⟩:=h;rfl
 ·obtain⟨p,rfl,g,k⟩:=h
  refine(_,be<|dh (cV Lx (ah 0) (oN (v:=.c t) O b O) (by with_unfolding_all rfl)) lL dq,?_);refine(_,O,t,_,O,.inr<|c _,O,O,_,O,?_);rcases g with rfl|rfl|rfl|rfl<;>exact cZ k
end
structure w_(o:cP):Prop where
 t:∀ps,o≠.d ps
 d:∀k,o≠.c k
 z:∀ob k,o≠.e ob (.c k)
structure gZ(P:V)(pos:bR)(q:al)(H H':ac):Prop where
 d:∀b o,w_ o->H b=U o->H' b=U o
 a:∀{b kvs},bX H b (.c kvs)->bX H' b (.c kvs)
 c:∀{b},H' b=Z->H b=Z
 tab:gX H P pos q->gX H' P pos q
 e:∀b ps,b≠P->H b=U (.d ps)->H' b=U (.d ps)
section
variable{P:V}{pos:bR}{q:al}{H H' H1 H2:ac}{a b d l:V}
def gZ.A3(H:ac):gZ P pos q H H:=(λ_ _ _ h=>h,λh=>h,λh=>h,λh=>h,λ_ _ _ h=>h)
def gZ.B(x:gZ P pos q H H1)(y:gZ P pos q H1 H2):gZ P pos q H H2:=(λb o n h=>y.d b o n<|x.d b o n h,λh=>y.a<|x.a h,λh=>x.c<|y.c h,λh=>y.tab<|x.tab h,λb a n h=>y.e b a n<|x.e b a n h)
def aQ.sf(s:aQ H H'):gZ P pos q H H':=(λb o _ h=>s b o h,λh=>h.B s,λh=>s.A2 h,λt=>t.B s,λ_ _ _ h=>s _ _ h)
def Ls{a:List af}:w_ (.a a):=((λ_ z=>nomatch z),(λ_ z=>nomatch z),(λ_ _ z=>nomatch z))
def Lr{a:List af}:w_ (.b a):=((λ_ z=>nomatch z),(λ_ z=>nomatch z),(λ_ _ z=>nomatch z))
def Uz{a:List (aN×af)}:w_ (.g a):=((λ_ z=>nomatch z),(λ_ z=>nomatch z),(λ_ _ z=>nomatch z))
def gZ.J(x:gZ P pos q H H'){b:List af}(h:H a=U (.a b)):H' a=U (.a b):=x.d _ _ Ls h
def gZ.F(x:gZ P pos q H H'){b:List af}(h:H a=U (.b b)):H' a=U (.b b):=x.d _ _ Lr h
def gZ.dK(x:gZ P pos q H H'){b:List (aN×af)}(h:H a=U (.g b)):H' a=U (.g b):=x.d _ _ Uz h
def gZ.N(x:gZ P pos q H H'){b:List Int}(h:cG H a b):cG H' a b:=x.F h
def gZ.A4(x:gZ P pos q H H'){b:List V}{a:Ξ}(h:aW H b a):aW H' b a:=il h λ_ _ q=>x.N q
def gZ.A7{K:aH}(x:gZ P pos q H H'){a:List af}(h:bx K H l a):bx K H' l a:=by
 rcases h with (z|⟨o,z⟩)|z
 ·exact .inl<|.inl<|x.J z
 ·exact .inl<|.inr (o,x.d _ _ ((λ_ z=>nomatch z),(λ_ z=>nomatch z),(λ_ _ z=>nomatch z)) z)
 ·exact .inr z
def gX.F{o b:cP}(t:gX H P pos q)(h:H a=U b)(g:∀i,b≠.d i)(j:∀k u,b≠.e k u):gX (av H a o) P pos q:=by
 have d:P≠a:=λz=>by subst z;rcases t with e|⟨_,e,_⟩<;>exact g _<|ca<|h.symm.trans e
 rcases t with e|⟨c,e,l,m,n,f,r⟩
 ·exact .inl (by rw[a_ d];exact e)
 ·exact .inr (c,by rw[a_ d];exact e,l,m,n,by rw[a_ (λz=>by subst z;exact j _ _<|ca<|h.symm.trans f)];exact f,r)
def sz{a:List (List aN×af)}(h:bX H d (.c a)):∃o,H d=U o:=by
 rcases h with e|⟨o,e⟩
 ·exact(_,e)
 ·exact(_,e)
def gZ.A0{o d:cP}(x:gZ P pos q H H1)(i:H a=Z)(h:H1 a=U d)(j:∀c,d≠.d c:=by intro c r;cases r)(l:∀g p,d≠.e g p:=by intro g p r;cases r):gZ P pos q H (av H1 a o):=by
 have f:∀{b:V}{p:cP},H b=U p->b≠a:=λe=>dH e i;refine(λb p n e=>by rw[a_<|f e];exact x.d b p n e,λ{b k} e=>?_,λ{b} e=>?_,λt=>(x.tab t).F h j l,λb c n e=>by rw[a_<|f e];exact x.e b c n e)
 ·obtain⟨p,m⟩:=sz e
  unfold bX;rw[a_<|f m];exact x.a e
 ·by_cases r:b=a
  ·subst r;rw[aD] at e;cases e
  ·rw[a_ r] at e;exact x.c e
def gZ.A8(x:gZ P pos q H H1)(h:H1 a=Z):gZ P pos q H (av H1 a o):=x.B<|aQ.sf<|aQ.B h
def gZ.A1{a:List (List aN×af)}(i:bX H d (.c a))(h:bX H1 d (.c a))(f:∀b,b≠d->H1 b=H b):gZ P pos q H H1:=by
 have g:∀{b:V}{u:cP},H b=U u->(∀k,u≠.c k)->(∀j k,u≠.e j (.c k))->b≠d:=λ{b u} e o p z=>by
  subst z;rcases i with r|⟨j,r⟩
  ·exact o _<|ca<|e.symm.trans r
  ·exact p _ _<|ca<|e.symm.trans r
 refine(λb u n e=>by rw[f b<|g e n.d n.z];exact e,λ{b k} e=>?_,λ{b} e=>?_,λt=>?_,λb x _ e=>by rw[f b<|g e (λ_ z=>nomatch z) (λ_ _ z=>nomatch z)];exact e)
 ·by_cases z:b=d
  ·subst z
   have:cP.c k=cP.c a:=by
    rcases e with e|⟨y,e⟩<;>rcases i with r|⟨A,r⟩<;>rw[e] at r<;>cases r<;>rfl
   rw[this];exact h
  ·unfold bX;rw[f b z];exact e
 ·by_cases z:b=d
  ·subst z
   obtain⟨u,l⟩:=sz h;rw[e] at l;cases l
  ·rw[f b z] at e;exact e
 ·rcases t with e|⟨c,e,s,v,w,m,r⟩
  ·exact .inl (by rw[f _<|g e (λ_ z=>nomatch z) (λ_ _ z=>nomatch z)];exact e)
  ·exact .inr (c,by rw[f _<|g e (λ_ z=>nomatch z) (λ_ _ z=>nomatch z)];exact e,s,v,w,by rw[f _<|g m (λ_ z=>nomatch z) (λ_ _ z=>nomatch z)];exact m,r)
def gZ.W(s:iS H H1)(a:∀b c,b≠P->H b=U (.d c)->H1 b=U (.d c))(d:gX H1 P pos q):gZ P pos q H H1:=
 (λb o n e=>s b o n.t e,λ{b k} e=>by
  rcases e with e|⟨o,e⟩
  ·exact .inl<|s _ _ (λ_ z=>nomatch z) e
  ·exact .inr (o,s _ _ (λ_ z=>nomatch z) e),λh=>s.F a d h,λ_=>d,a)
def gZ.A2{b:V}{a:bR}{d:al}(x:gZ P pos q H H')(n:b≠P)(t:gX H b a d):gX H' b a d:=by
 rcases t with e|⟨c,e,f,g,h,i,r⟩
 ·exact .inl<|x.e _ _ n e
 ·exact .inr (c,x.e _ _ n e,f,g,h,x.d _ _ ((λ_ z=>nomatch z),(λ_ z=>nomatch z),(λ_ _ z=>nomatch z)) i,r)
end
section
variable{X:aK}{scope:eO}{N':List al}{caps:List (Option Nat)}{tg iter elt:bf}{ifs:List bf}{wi:kw}{g:gY}{tc:eB}{te:bb}{pos:bR}
def Uv{i:Nat}{x:al}{d w:bR}(P:X.b=ae)(hk:scope.kind=.function)(l:∀y∈scope.names,y.2=.cell->scope.names.lookup y.1=U .cell)(p:∀y∈scope.names,y.2=.free->scope.names.lookup y.1=U .free)(r:∀y∈scope.names,y.2=.local->scope.names.lookup y.1=U .local)(Q:∀y∈scope.names,y.2=.free->X.env.kindOf y.1=U .cell\/X.env.kindOf y.1=U .free)(E:vb X.N N' caps scope)(hi:kX X tg iter wi)(hg:∀G C j k K,lQ (jV X scope N' G C j k K) tg g)(ht:∀G C j k K,oW (jV X scope N' G C j k K) ifs tc)(he:∀G C j k K,bA (jV X scope N' G C j k K) elt te)(hs:∀x,tP iter X.env x=bH x)(hN:X.N.Nodup)(S:X.N[i]?=U x)(A:sY X.env.scope x)(hf:X.g x=ae\/X.env.scope.names.lookup x=U .local)(T:ya (.ListComp elt [(tg,iter,ifs,0)] scope pos) (U<|.Name x d) w.line X.env=bH ae):ky X (.Assign [.Name x d] (.ListComp elt [(tg,iter,ifs,0)] scope pos) w) (uI (qH wi caps g tc te)<|eA i):=by
 intro M s σ H D I h;rw[exec_Assign_Name_used _ _ _ _ T];refine ag<|PD<|ag ?_;show am _ X.A (do let _ <-Qq (.ListComp elt [(tg,iter,ifs,0)] scope pos) scope X.env _ (HG []) (Ql [(tg,iter,ifs,0)]) (Qk [(tg,iter,ifs,0)] X.env) (U<|vK (.Name x d) X.env)) _ _ s;refine ag<|ic (Mr (use:=U<|vK (.Name x d) X.env) (R:=λ_ s'=>qX X M D .next s') P hk l p r Q E hi hg ht he hs I h λDl C H' s4 f L q=>?_) (λ_ s' hq=>aC<|aC hq) λ_ _ e=>e;show am _ X.A (vK (.Name x d) X.env<|.ref Dl) _ _ s4;refine ada<|KI (v:=.c Dl) (L.a s4.heap<|CQ _ _) hN S A O (λs5 I5 (a,a0,ha)=>?_) hf;have a1:C≠a:=by
  rcases ha with e|e
  ·rw[e];exact L.e
  ·exact λz=>L.d x a e z.symm
 obtain⟨m,hn⟩:=L.ns;refine(m,hn.sameBut a0 a1,λh' t=>(_,H',?_,q));refine I5.A6 (s':={s5 with heap:=h'}) (ch:=[C]) O (λb o q n hb A=>?_,λb o q n hb A=>?_,λb o q n A=>n,λb o q A=>?_,λb xs q=>q,λb o u q=>q,λb ps q=>(#[],by simpa using q)) ?_ I5.e λb hb=>?_
 ·exact(t.2 b (by simpa using A)).trans q
 ·exact(o.slots,(t.2 b (by simpa using A)).trans q)
 ·exact(o,(t.2 b (by simpa using A)).trans q)
 ·intro b u e
  refine(I5.b b u e).B (λc v P q=>(t.2 c ?_).trans q) (λ_ q=>q) λ_ _ q=>q;rintro rfl;rcases P with z|z
  ·rw[<-z,L.b] at e;cases e
  ·rw[L.b] at z;cases z
 ·have e:b=C:=by simpa using hb
  subst e;exact(.inr L.g,L.e,L.d,L.f)
def Uw{i:Nat}{x:al}{k l:bR}(q:X.b=ae)(r:scope.kind=.function)(c:∀y∈scope.names,y.2≠.cell)(h:∀y∈scope.names,y.2=.free->scope.names.lookup y.1=U .free)(j:∀y∈scope.names,y.2=.local->scope.names.lookup y.1=U .local)(n:∀y∈scope.names,y.2=.free->X.env.kindOf y.1=U .cell\/X.env.kindOf y.1=U .free)(m:vb X.N N' caps scope)(s:kX X tg iter wi)(t:∀d C a b f,lQ (jW X scope N' d C a b f) tg g)(u:∀d C a b f,oW (jW X scope N' d C a b f) ifs tc)(v:∀d C a b f,bA (jW X scope N' d C a b f) elt te)(w:∀x,tP iter X.env x=bH x)(z:X.N.Nodup)(o:X.N[i]?=U x)(A:sY X.env.scope x)(D:X.g x=ae\/X.env.scope.names.lookup x=U .local)(p:ya (.ListComp elt [(tg,iter,ifs,0)] scope pos) (U<|.Name x k) l.line X.env=bH ae):ky X (.Assign [.Name x k] (.ListComp elt [(tg,iter,ifs,0)] scope pos) l) (uI (qH wi caps g tc te)<|eA i):=
 Uv q r (λy E e=>aZ e<|c y E) h j n m s (λd C a b f=>uS (X:=X) (N':=N') c d C a b f▸t d C a b f) (λd C a b f=>uS (X:=X) (N':=N') c d C a b f▸u d C a b f) (λd C a b f=>uS (X:=X) (N':=N') c d C a b f▸v d C a b f) w z o A D p
end
section
variable{X:aK}{scope:eO}{caps:List (Option Nat)}{tg iter elt:bf}{ifs:List bf}{wi:kw}{g:gY}{tc:eB}{te:bb}{pos:bR}
def zK{i:Nat}{e f:bR}(n:X.N.Nodup)(o:X.N[i]?=U x)(q:sY X.env.scope x)(E m:List al)(caps:List (Option Nat))(r:kX X tg iter wi)(s:∀j C a b k,lQ (jW X scope m j C a b k) tg g)(t:∀j C a b k,oW (jW X scope m j C a b k) ifs tc)(u:∀j C a b k,bA (jW X scope m j C a b k) elt te)(v:X.b=ae:=by rfl)(w:scope.kind=.function:=by rfl)(h:∀y∈scope.names,y.2≠.cell:=by decide +kernel)(c:∀y∈scope.names,y.2=.free->scope.names.lookup y.1=U .free:=by decide +kernel)(d:∀y∈scope.names,y.2=.local->scope.names.lookup y.1=U .local:=by decide +kernel)(hfr:∀y∈scope.names,y.2=.free->X.env.kindOf y.1=U .cell\/X.env.kindOf y.1=U .free)(z:X.N=E:=by rfl)(l:zZ E m caps scope=ae:=by decide +kernel)(A:∀x,tP iter X.env x=bH x:=by intro _;rfl)(D:X.g x=ae\/X.env.scope.names.lookup x=U .local:=by first|exact .inl rfl|exact .inr rfl|assumption)(p:ya (.ListComp elt [(tg,iter,ifs,0)] scope pos) (U<|.Name x e) f.line X.env=bH ae:=by rfl):ky X (.Assign [.Name x e] (.ListComp elt [(tg,iter,ifs,0)] scope pos) f) (uI (qH wi caps g tc te)<|eA i):=
 Uw v w h c d hfr (Mx (by rw[z];exact l)) r s t u A n o q D p
end
def bF.N{P:aU}{w:aO}{K:aH}{v:al->Option aa}{d:aI}{x b:al}{j:bV}{a0 m:List al}{k:Nat}{n:ia}(F:bF K x b j f l)(y:l.code=.ref c)(S:cQ a0 m (bB j))(o:∀g H Q E,n g H Q E->g.length=m.length)(i:∀(A:bg)(a:List dD)(s:ai)(H:ac)(g:List af)(Q:aL)(E:bK),eJ k (A.deeper<|iY b (bB j) s⁻¹ f<|.ref c)->n g H Q E->
   ∃t,g_ (iG aX P w K v d a0 b (bB j) f (.ref c) A a s H E).F (gf j) t/\t {a:=λ_ z=>Q .g z,b:=Q} (kq a0 g) H):bD P w K v d aX (k+1) f l m n:=by
 obtain⟨L,M,R,C,T,X,p,ct,D,rfl,G,r⟩:=F.b;have e:p=.ref c:=y;subst e;refine EH G r S o λA a s H g Q E I u=>?_;obtain⟨t,h,q⟩:=i A a s H g Q E I u;exact(t,h.B,q)
abbrev F_:bV:=de 43
abbrev FW:bV:=de 45
abbrev AU:bV:=de 46
abbrev Bg:bV:=de 47
abbrev Bc:bV:=de 48
def aao:ig "max"=U (.builtin "max"):=δ
abbrev vn:bR:=(165,32,165,58)
abbrev vj:al:=(("youngest_of":al)++".<locals>.")++"<lambda>"
abbrev hW(a:V)(H b:ac):Prop:=gZ a vn vj H b
abbrev rB(a:V)(H:ac):Prop:=gX H a vn vj
def jJ(a:Ξ):bC:=a.zipIdx.map λq=>(adc q.1 ((q.2:Int)))
def Nl(a:Ξ):bn (jJ a)=a:=by
 unfold bn jJ;rw[bY];exact IZ 0 a
def Fe{a:Ξ}(b:a.Nodup){t:Nat}(h:a[t]?=U y):fJ (cC<|jJ a) (y.map bd)=U (.d t):=by
 have c:(adc y ((t:Int)))∈jJ a:=bq.mpr ((adc y t),by rw[ag6];exact h,O);exact rh (by rw[Nl];exact b) _ c
section
variable{P:aU}{w:aO}{K:aH}{mg:al->Option aa}{base:aI}{f:V}{fd:cr}{Pt:V}
def Xq{H i:ac}(s:gi d H i)(j:bX H d (.c a))(h:bX i d (.c a)):gZ Pt g q H i:=by
 have f:∀{b:V}{u:cP},H b=U u->(∀k,u≠.c k)->(∀l k,u≠.e l (.c k))->b≠d:=λ{b u} e w x z=>by
  subst z;rcases j with r|⟨l,r⟩
  ·exact w _<|ca<|e.symm.trans r
  ·exact x _ _<|ca<|e.symm.trans r
 refine(λb u n e=>s _ _ (f e n.d n.z) e,λ{b k} e=>?_,λ{b} e=>?_,λt=>?_,λb m _ e=>s _ _ (f e (λ_ z=>nomatch z) (λ_ _ z=>nomatch z)) e)
 ·by_cases z:b=d
  ·subst z
   have:cP.c k=cP.c a:=by
    rcases e with e|⟨D,e⟩<;>rcases j with r|⟨E,r⟩<;>rw[e] at r<;>cases r<;>rfl
   rw[this];exact h
  ·rcases e with e|⟨o,e⟩
   ·exact .inl<|s _ _ z e
   ·exact .inr (o,s _ _ z e)
 ·by_cases z:b=d
  ·subst z
   obtain⟨u,p⟩:=sz h;rw[e] at p;cases p
  ·cases q:H b with
   |none=>rfl
   |some o=>rw[s _ _ z q] at e;cases e
 ·rcases t with e|⟨c,e,y,A,C,v,r⟩
  ·exact .inl<|s _ _ (f e (λ_ z=>nomatch z) (λ_ _ z=>nomatch z)) e
  ·exact .inr (c,s _ _ (f e (λ_ z=>nomatch z) (λ_ _ z=>nomatch z)) e,y,A,C,s _ _ (f v (λ_ z=>nomatch z) (λ_ _ z=>nomatch z)) v,r)
def Oq{p:ac}{m:bC}{h:List (Option af)}{G:bb}{g:List Int×Int->Int}{Q:aL}(H:p d=U (.e X<|.c<|cC m))(M:m.length<=1000)(step:∀(c:List Int×Int)(b:V)(a:ac)(R:aL),c∈m->aQ p a->cG a b c.1->(∀t,a t=Z->R (.c t) (av a t<|.b [.c b,.d<|g c]))->G (U (.c b)::h) a R)(I:p D=Z)(k:∀(a:ac)(l:List V),aQ p a->a D=U (.a<|l.map af.c)->iV a l (m.map λc=>(adc c.1 (g c)))->Q (.c D) a):fg (uY d X<|cC m) (eA 0) ja G (Z::h) p D Q:=by
 refine sR m.length (λj s q a=>∃(v:Option af)(l:List V),s=v::h/\aQ p a/\a D=U (.a q)/\q=l.map af.c/\iV a l ((m.map λc=>(adc c.1 (g c))).take j)) ?_ ?_ ?_ ?_ ?_
 ·exact(Z,[],O,aQ.B I,aD,O,.nil)
 ·rintro s q a ⟨v,l,rfl,n,f,rfl,r⟩
  exact((pd m).symm,n _ _ H)
 ·rintro i s q a A ⟨v,l,rfl,n,f,rfl,r⟩
  exact(by rw[pd];exact A,n _ _ H)
 ·rintro i s q a x P A L ⟨v,l,rfl,n,f,rfl,r⟩ ⟨rfl,S,b,C,rfl,u⟩
  obtain⟨c,K,rfl⟩:=OL C;have w:=dy K;have e:(m.map λc=>(adc c.1 (g c)))[i]?=U (adc c.1 (g c)):=by rw[cm,K];rfl
  refine jU<|step c b _ _ w n (Ak u) λt E=>?_;have y:=aQ.B (o:=.b [.c b,.d<|g c]) E;refine gG (dN ω) A L (y _ _ f) (_,l++[t],O,(n.F y).A0 I,aD,by rw[cv];rfl,?_);rw[di e];exact iV.J (iV.W (r.F y) (b,aD,y.N<|Ak u)) (y _ _ f) (by intro T z;cases z)
 ·rintro s q a ⟨v,l,rfl,n,f,rfl,r⟩
  rw[gb (by rw[aA];exact bc _)] at r;exact k a l n f r
inductive Fv(K:aH)(vs:List af)(H:ac)(Q:aL)(E':bK):Prop
 |a:∀l as oo,(vs=[.c l])->(bx K H l<|as.map af.c)->(aW H as oo)->(oo.Nodup)->(oo.length<=200)->(∀D H',aQ H H'->H D=Z->H' D=U (.c<|cC<|jJ oo)->Q (.c D) H')->Fv K vs H Q E'
def AJ:cQ ["order","times","time","piece"] ["order"] (bB F_):=(O,O,O,δ,O,δ,δ)
def YG(F:bF K "times_of" "times_of" F_ f fd)(a0:eC mg):bD P w K mg base aX 1 f fd ["order"] (Fv K):=by
 refine F.B AJ (λT H Q E h=>?_) (λX A t s H T Q E hr h=>?_)
 ·obtain⟨l,u,c,rfl,_⟩:=h;rfl
 ·obtain⟨l,u,c,rfl,M,R,nd,S,k⟩:=h
  have hu:=jb hr;have v:=R.B;refine(_,aY (cJ (i:=1) AJ.a O (ak O) ml)
   (aY (iF iL O (Ev O a0.f GL<|aj (ah 0) az) (wF O<|oK (cB (i:=2) AJ.a O<|ak O)<|oK (cB (i:=3) AJ.a O<|ak O) wE)
   <|be<|oG hu (ah 1) (ah 3) (ah 2) O)
  <|be<|cp<|ah 1),?_)
  intro d q;refine(_,O,l,O,(_,(aQ.B q).W M),Me (K:=K) (a:=l) (xs:=u.map af.c) (λi r g=>∃(C D:Option af),r=[U<|.c l,U<|.c d,C,D]/\aQ H g/\g d=U (.c<|cC<|(jJ c).take i))
   (Z,Z,O,aQ.B q,aD) (λi r g _ (_,_,_,m,_)=>m.W M) ?_ ?_)
  ·rintro i x p r g hx ⟨C,D,rfl,m,b⟩ hp
   obtain⟨a,ea,rfl⟩:=fY hx;obtain⟨y,G,hy⟩:=R.F ea;have I:=aQ.B (o:=.b [.d i,.c a]) hp;have e:(jJ c)[i]?=U (adc y ((i:Int))):=by unfold jJ;rw[cm,ahd,G];simp
   have hi:i<c.length:=(cE.mp G).1;have n:y∉bn ((jJ c).take i):=λz=>by
    unfold bn at z;rw[Dq] at z;have z:y∈(bn<|jJ c).take i:=z;rw[Nl] at z;obtain⟨j,L⟩:=jO.mp z;have hj:j<i:=by
     have:=(cE.mp L).1;rw[eF] at this;omega
    rw[yM hj] at L;have:=(wd ω nd).mp<|L.trans G.symm;omega
   refine(p,_,O,fm.B aD,O,_,_,O,_,_,O,O,?_);refine(_,O,_,O,_,O,d,_,O,xf.t (k:=y.map bd) (I _ _ b) (by rw[bY];exact I.N<|m.N hy)<|li (by rw[pd,eF];omega),(_,_,O,(m.F I).A0 q,?_));rw[aD,Gq,NQ _ n,di e]
  ·rintro r g ⟨C,D,rfl,m,b⟩
   have:(u.map af.c).length=(jJ c).length:=by unfold jJ;rw[aA,aA,Rw];exact v
   rw[this,iI] at b;exact(_,O,k d g m q b)
def BB(a:Ξ)(b:bC)(y:List Int)(t:Nat):Prop:=y∈bn b/\a[t]?=U y/\∀x∈bn b,∀u,a[u]?=U x->u<=t
inductive Au(Pt:V)(vs:List af)(H:ac)(Q:aL)(E':bK):Prop
 |a:∀d T cs oo,(vs=[.c d,.c T])->(bX H d<|.c<|cC cs)->(bX H T<|.c<|cC<|jJ oo)->(oo.Nodup)->(cs≠[])->((∀q∈bn cs,q∈oo))->(rB Pt H)->(∀b y t H',hW Pt H H'->cG H' b y->BB oo cs y t->Q (.c b) H')->Au Pt vs H Q E'
def Xs:cQ ["chain","times"] ["chain","times"] (bB FW):=(O,O,O,δ,O,δ,δ)
def Yz(F:bF K "youngest_of" "youngest_of" FW f fd)(a5:eC mg)(D:mg "max"=Z)(G:fd.code=.ref c)(hC:CF base c Pt)(I:oZ mg base):bD P w K mg base aX 4 f fd ["chain","times"] (Au Pt):=by
 refine F.N G Xs (λvs H Q E h=>?_) (λA M s H vs Q E hr h=>?_)
 ·obtain⟨d,T,l,b,rfl,_⟩:=h;rfl
 ·obtain⟨d,T,l,b,rfl,hd,hT,nd,R,p,tb,k⟩:=h
  refine(_,be (cp (UH (k:=1) (iy:=1) (x:="piece") (y:="times") (te:=pN (bz 1)<|bz 0) hr O D aao hC O I O O O O (O,O,O,O,O,δ,LL) (λ_ _ _ _ _ _=>O)
    (λs H f a3 c'=>jS (jb<|(eJ.B hr).J _) (ah 1) (ah 0) (λ_ _=>O)) (aj (ik (Wv O) O a5.b mz<|aj (ah 0) az) az) O)),?_)
  refine(_,O,d,cC l,O,hd,λbs S L hL=>?_);have X:=ε S;have kl:=X.B;rw[Bx] at kl;have q:=aQ.B (o:=.a<|bs.map af.c) hL;have a4:∀y∈bn l,∃t:Nat,b[t]?=U y:=λy i=>jO.mp<|p y i;have ix:∀y∈bn l,b[b.idxOf y]?=U y:=λy i=>by
   have h:=List.idxOf_lt_length_of_mem<|p y i;rw[cw h,List.getElem_idxOf h]
  refine(L,bs,(bn l).map λy=>(b.idxOf y:Int),.c T,O,bx.B aD,by rw[aA,Bx];omega,?_,O,tb.B q,λH2 m j a n ea v=>?_,λH2 j a n m a0 a1 ea v a2=>?_)
  ·cases l with
   |nil=>exact aZ O R
   |cons c r=>simp at kl;omega
  ·obtain⟨y,C,i⟩:=(q.J X).F ea
   rw[cm,C] at v;obtain rfl:=ca v;have g:=dy C;have rT:bX H2 T (.c<|cC<|jJ b):=by
    rcases hT.B q with e|⟨o,e⟩
    ·exact .inl<|m _ _ (λ_ z=>nomatch z) e
    ·exact .inr (o,m _ _ (λ_ z=>nomatch z) e)
   refine(_,O,_,O,T,.d<|b.idxOf y,O,.inr (cC<|jJ b,y.map bd,a,rT,O,by rw[bY];exact m.B i,(Fe nd<|ix y g).symm),O,O)
  ·obtain⟨y,C,i⟩:=(q.J X).F ea
   rw[cm,C] at v;obtain rfl:=ca v;have g:=dy C;refine k a y (b.idxOf y) H2 ((aQ.sf q).B<|gZ.W m a0 a1) (m.B i) (g,ix y g,λx hx u eu=>?_);have h1:=a2 (b.idxOf x:Int)<|bq.mpr (x,hx,O);have h2:=(wd (cE.mp eu).1 nd).mp<|eu.trans (ix x hx).symm;have h1:((b.idxOf x:Nat):Int)<=((b.idxOf y:Nat):Int):=h1;omega
inductive Aw(Pt:V)(vs:List af)(H:ac)(Q:aL)(E':bK):Prop
 |a:∀d cs p,(vs=[.c d,.d p])->(bX H d<|.c<|cC cs)->((bn cs).Nodup)->(cs.length<=1000)->(0<p)->(∀D H',hW Pt H H'->H D=Z->H' D=U (.c<|cC<|tB p cs)->Q (.c D) H')->Aw Pt vs H Q E'
def Xu:cQ ["chain","prime"] ["chain","prime"] (bB AU):=(O,O,O,δ,O,δ,δ)
abbrev Xe:bb:=ko<|cT (bz 0)<|cT (dW (mj (λ_ j=>0<j) λi j=>.d<|i%j) (pN (bz 1)<|bz 0)<|bz 2) e_
def YF(F:bF K "taken_by" "taken_by" AU f fd)(T:bO P w K mg base aX "sum_of" ["terms"] 1 (xi K)):bD P w K mg base aX 2 f fd ["chain","prime"] (Aw Pt):=by
 refine F.B Xu (λX H Q E h=>?_) (λa0 A m s H X Q E x h=>?_)
 ·obtain⟨d,n,p,rfl,_⟩:=h;rfl
 ·obtain⟨d,n,p,rfl,y,nd,z,hp,k⟩:=h
  have hu:=jb x;refine(_,be (cp (bN T x O ce (aj (fE ["chain","prime"] ["piece","chain","prime"] [Z,U 0,U 1] (zL<|ah 0) (λG C a e I=>cB (i:=0) (eI ["piece","chain","prime"]) O<|ak O) (λG C a e I=>gE)
   (λG C a e I=>ij<|aj (ah 0)<|aj (cA oP (jS hu (ah 1) (ah 0) (λ_ _=>O))<|ah 2) az) (hfr:=iQ (bB AU) δ) (te:=Xe)) az))),?_)
  refine(_,O,d,cC n,O,y,λo H1 j l=>λD hD=>fc<|Oq (g:=λc=>c.2%p) j z (λc b L R hc sm hb kk=>?_) hD λH2 ts M q r=>?_)
  ·refine(_,O,_,O,_,O,d,_,O,.inr (cC n,c.1.map bd,b,.inr (o,sm _ _ j),O,by rw[bY];exact hb,(rh nd c hc).symm),_,O,_,_,O,O,hp,cg O,λt ht=>kk t ht)
  ·have S:hW Pt H H1:=gZ.A1 y (.inr (o,j)) l
   refine(D,ts,_,O,bx.B q,r,by rw[aA];exact z,λR L s3 u v=>?_);exact k R L (S.B<|aQ.sf<|M.F s3) (S.c<|M.A2 u) v
inductive FH(vs:List af)(H:ac)(Q:aL)(E':bK):Prop
 |a:∀wt g p,(vs=[.d wt,.d g,.d p])->((-(2 ^ 64)<wt/\wt<2 ^ 64))->(2<=p)->(p<=100)->((∃k:Nat,(k:Int)<p/\p ∣ (k:Int)*wt-g))->(∀(k:Int) H',0<=k->k<p->p ∣ k*wt-g->aQ H H'->Q (.d k) H')->FH vs H Q E'
def XE:cQ ["weight","goal","prime"] ["weight","goal","prime"] (bB Bg):=(O,O,O,δ,O,δ,δ)
abbrev Nm:eB:=jF<|dW qJ (dW (mj (λ_ j=>0<j) λi j=>.d<|i%j) (dW (jq λi j=>.d<|i-j) (dW (mj vc λi j=>.d<|i*j) (bz 0)<|bz 1)<|bz 2)<|bz 3)<|dK<|.d 0
def η{d:ac}{c g p:Int}{n:Nat}{Q:aL}(t:n<=100)(hw:-(2 ^ 64)<c/\c<2 ^ 64)(s:0<p)(q:d D=Z)(k:∀b,aQ d b->b D=U (.a<|((dk n).filter λj:Nat=>aG<|((j:Int)*c-g)%p=0).map λj:Nat=>af.d j)->Q (.c D) b):fg (mV 0 n) (eA 0) Nm (bz 0) [Z,U<|.d c,U<|.d g,U<|.d p] d D Q:=by
 refine wS (λj m f b=>∃(v:Option af),m=[v,U<|.d c,U<|.d g,U<|.d p]/\aQ d b/\b D=U (.a f)/\f=(((dk n).take j).filter λj:Nat=>aG<|((j:Int)*c-g)%p=0).map λj:Nat=>af.d j) ?_ ?_ ?_
 ·exact(Z,O,aQ.B q,aD,O)
 ·rintro i m f b o r ⟨v,rfl,l,a,rfl⟩
  have e:(dk n)[i]?=U i:=by rw[yN o]
  refine(_,O,_,O,_,_,O,O,.inr hw,_,O,_,_,O,O,_,O,_,_,O,O,s,O,_,O,?_);rw[show(0:Int)+(i:Int)=i from ω]
  by_cases h:((i:Int)*c-g)%p=0
  ·rw[bZ<|gD af.d h]
   refine dI (_,O,gG (dN ω) o r a (_,O,l.A0 q,aD,?_));rw[di e,kj,yR (by exact bZ h),qy,cv]
   rfl
  ·rw[cf (λz=>h (by injection z))]
   refine cZ<|sQ o r (_,O,l,a,?_);rw[di e,kj,wf (by simpa using h),qy,lG]
 ·rintro m f b ⟨v,rfl,l,a,rfl⟩
  rw[gb (by rw[lZ];exact bc _)] at a;exact k b l a
def Zo(F:bF K "times_into" "times_into" Bg f fd)(a0:eC mg):bD P w K mg base aX 1 f fd ["weight","goal","prime"] FH:=by
 refine F.B XE (λu H Q E h=>?_) (λv A l s H u Q E T h=>?_)
 ·obtain⟨d,g,p,rfl,_⟩:=h;rfl
 ·obtain⟨d,g,p,rfl,x,X,m,⟨y,k1,z⟩,k⟩:=h
  refine(_,be (cp (dG jr (fE ["weight","goal","prime"] ["often","weight","goal","prime"] [Z,U 0,U 1,U 2] (qK O a0.c<|aj (ah 2) az) (λo C a b q=>cB (i:=0) (eI ["often","weight","goal","prime"]) O<|ak O) (λo C a b q=>oE<|cV jT (cA oP (cA uM (cA qP (ah 0)<|ah 1)<|ah 2)<|ah 3) aV<|cN _)
   (λo C a b q=>ah 0) (hfr:=iQ (bB Bg) δ) (tc:=Nm) (te:=bz 0)) aV (λ_ _=>O))),?_)
  refine(_,O,p,O,ω,ω,λD G=>fc<|η (n:=p.toNat) ω x ω G λI L c=>?_);have t:y∈(dk p.toNat).filter λj:Nat=>aG<|((j:Int)*d-g)%p=0:=nA.mpr (h_.mpr ω,bZ<|ah3 z);cases e:(dk p.toNat).filter λj:Nat=>aG<|((j:Int)*d-g)%p=0 with
  |nil=>rw[e] at t;cases t
  |cons j r=>
   have M:j∈(dk p.toNat).filter λj:Nat=>aG<|((j:Int)*d-g)%p=0:=by rw[e];exact .head _
   obtain⟨R,S⟩:=nA.mp M;have:=h_.mp R;rw[e] at c;exact(D,_,0,.d j,O,O,bx.B c,kW (j:=0) O,k j I ω ω (Dz<|iE S) L)
inductive FD(Pt:V)(vs:List af)(H:ac)(Q:aL)(E':bK):Prop
 |c:∀d e a b k p,(vs=[.c d,.d k,.c e,.d p])->(bX H d<|.c<|cC a)->(bX H e<|.c<|cC b)->((bn a).Nodup)->((bn b).Nodup)->(a.length<=200)->(b.length<=200)->(0<p)->((-(2 ^ 64)<k/\k<2 ^ 64))->(∀D H',hW Pt H H'->H D=Z->H' D=U (.c<|cC<|pc p a k b)->Q (.c D) H')->FD Pt vs H Q E'
def NI:cQ ["chain","often","other","prime","taken"] ["chain","often","other","prime"] (bB Bc):=(O,O,O,δ,O,δ,δ)
abbrev Xf:bb:=ko<|cT (bz 0)<|cT (dW (mj vc λi j=>.d<|i*j) (wB (sE λi=>.d<|-i)<|bz 1)<|pN (bz 2)<|bz 0) e_
def Zd(F:bF K "less_by" "less_by" Bc f fd)(b0:eC mg)(Cs:bO P w K mg base aX "sum_of" ["terms"] 1 (xi K))(Ct:bO P w K mg base aX "taken_by" ["chain","prime"] 2 (Aw Pt)):bD P w K mg base aX 3 f fd ["chain","often","other","prime"] (FD Pt):=by
 refine F.B NI (λvs H Q E h=>?_) (λa6 A M s H vs Q E T h=>?_)
 ·obtain⟨d,e,a,b,k,p,rfl,_⟩:=h;rfl
 ·obtain⟨d,e,a,b,n,p,rfl,hd,he,na,nb,la,lb,hp,hn,k⟩:=h
  have hu:=jb T;refine(_,aY (zK (i:=4) NI.a O (ak O) ["chain","often","other","prime","taken"] ["piece","often","other"] [Z,U 1,U 2] (zL<|ah 2) (λcl C j m ex=>cB (i:=0) (eI ["piece","often","other"]) O<|ak O) (λcl C j m ex=>gE)
    (λcl C j m ex=>ij<|aj (ah 0)<|aj (cA qP (uL uH<|ah 1)<|jS hu (ah 2) (ah 0) (λ_ _=>O)) az) (hfr:=iQ (bB Bc) δ) (te:=Xf))
  <|be<|cp<|bN Ct T O ce<|aj (bN Cs T O ce<|aj (cA kT (ik (Wu O) O b0.b mz<|aj (UI<|ah 0) az)<|ah 4) az)<|aj (ah 3) az,?_)
  refine(_,O,e,cC b,O,he,λo H1 x z=>λD hD=>fc<|Oq (g:=λc=>-n*c.2) x ω (λc t H3 R hc sm hb kk=>?_) hD λH2 ts s2 X G=>?_)
  ·refine(_,O,_,O,_,O,_,O,_,O,e,_,O,.inr (cC b,c.1.map bd,t,.inr (o,sm _ _ x),O,by rw[bY];exact hb,(rh nb c hc).symm),_,_,O,O,.inl ω,cg O,λt ht=>kk t ht)
  ·have f1:hW Pt H H1:=gZ.A1 he (.inr (o,x)) z
   have f2:hW Pt H H2:=f1.B<|aQ.sf s2;refine(_,O,d,cC a,O,O,f2.a hd,λv hv=>?_);have s3:=aQ.B (o:=wL v d) hv;refine(v,d,cC a,O,aD,(f2.a hd).B s3,λL l u s4 a7 a0 a1=>(_,O,?_));have I:iV L u a:=by
    have:∀{u:List V}{a:bC},dA (λt(kv:List aN×af)=>∃b,L t=U (.b [.c b,kv.2])/\L b=U (.b<|kv.1.map dM)) u (cC a)->iV L u a:=by
     intro u a
     induction a generalizing u with
     |nil=>intro h;cases h;exact .nil
     |cons c r ih=>
      intro h;cases h with
      |cons q t=>
       obtain⟨b,q1,q2⟩:=q;exact .cons (b,q1,Ak q2)<|ih t
    exact this a1
   have y:=s3.F s4;have a8:=I.B;have a2:=G.B;rw[aA] at a2;refine(l,D,_,_,O,O,a0,y _ _ X,by rw[aA,aA];exact dN ω,λq hq=>?_);have s5:=aQ.B (o:=.a<|u.map af.c++ts.map af.c) hq;refine(q,u++ts,a++b.map λc=>(adc c.1 (-n*c.2)),O,bx.B (by rw[aD,cv]),(I.N<|G.F y).F s5,by rw[dz,aA];omega,λS H6 s6 a9 a3=>?_);have f6:hW Pt H H6:=f2.B<|aQ.sf<|(y.F s5).F s6;refine(_,O,S,_,p,O,.inl a3,rm _,dE (Nx _) (by rw[dz,aA];omega),hp,λD7 H7 f7 a4 a5=>?_);exact k D7 H7 (f6.B f7) (f6.c a4) a5
end
abbrev FX:bV:=de 44
structure fq where
 x:f_
 t:V
 c:V
 g:V
def qa(H:ac)(r:fq):Prop:=bX H r.c (.c<|cC r.x.c)/\((r.x.d=Z/\H r.t=U (.b [.d r.x.a,.d r.x.b,.g,.c r.c,.g]))\/∃e:Nat,r.x.d=U e/\bX H r.g (.c<|cC r.x.g)/\H r.t=U (.b [.d r.x.a,.d r.x.b,.d e,.c r.c,.c r.g]))
def qa.B(h:qa H r)(s:gZ P b q H c):qa c r:=by
 obtain⟨d,a⟩:=h;refine(s.a d,?_);rcases a with ⟨e,a⟩|⟨e,a,f,g⟩
 ·exact .inl (e,s.F a)
 ·exact .inr (e,a,s.a f,s.F g)
def jv(L:List fq):List (aN×af):=L.map λr=>(adc ((bd (r.x.b:Int):aN)) (af.c r.t))
abbrev hU(L:List fq):List f_:=L.map fq.x
def GB:∀{L:List fq},((hU L).map (·.b)).Nodup->∀{r:fq},r∈L->fJ (jv L) (bd (r.x.b:Int))=U (.c r.t)
 |q::L,c,r,d=>by
  rw[show(hU<|q::L).map (·.b)=q.x.b::(hU L).map (·.b) from O,iB] at c;show fJ ((adc (bd (q.x.b:Int)) (af.c q.t))::jv L) _=_
  by_cases e:(q.x.b:Int)=r.x.b
  ·rcases ci.mp d with rfl|a
   ·exact zk O
   ·exact aZ (bq.mpr (r.x,bq.mpr (r,a,O),ω)) c.1
  ·rw[zl (λz=>e (by injection z))]
   rcases ci.mp d with rfl|a
   ·exact aZ O e
   ·exact GB c.2 a
def Bv{b:Ξ}(c:(bn a).Nodup)(h:∀q∈bn a,q∈b):a.length<=b.length:=by
 have:=c.length_le_of_subset h
 rwa [Bx] at this
def BB.B{t:Nat}(h:BB a b y t)(e:nq a)(c:nQ p b)(d:0<p):iq p (eK a b) t:=Nf e c d h.1 h.2.1 h.2.2
def Od{a:bC}(h:¬a.length=0):a≠[]:=λz=>h (by rw[z];rfl)
section
variable{P:aU}{w:aO}{K:aH}{mg:al->Option aa}{base:aI}{f:V}{fd:cr}{Pt:V}
structure BC(Pt:V)(H:ac)(R T:V)(L:List fq)(oo:Ξ)(p:Int)(t:Nat):Prop where
 hR:H R=U (.g<|jv L)
 c:∀r∈L,qa H r
 hT:bX H T (.c<|cC<|jJ oo)
 O:nq oo
 e:oo.length<=200
 f:nv p
 g:p<=7
 a:j_ p oo t (hU L)
 d:rB Pt H
def BC.B{H a:ac}{R T:V}{t:Nat}(x:BC Pt H R T L b p t)(s:hW Pt H a):BC Pt a R T L b p t:=
 (s.dK x.hR,λr c=>(x.c r c).B s,s.a x.hT,x.O,x.e,x.f,x.g,x.a,s.tab x.d)
inductive Fm(Pt:V)(vs:List af)(H:ac)(Q:aL)(E':bK):Prop
 |b:∀a R T L q oo t p,(vs=[.c a,.c R,.c T,.d p])->(cG H a q)->(BC Pt H R T L oo p t)->(oo[t]?=U q)->(∀u c g left fill H',hW Pt H H'->H c=Z->H g=Z->c≠g->H u=Z->H' u=U (.b [.c c,.c g])->bX H' c (.c<|cC left)->bX H' g (.c<|cC fill)->p_ p oo t q left fill->(left=[]\/∃y t0,BB oo left y t0/\∃r∈L,r.x.b=t0/\r.x.d=Z)->Q (.c u) H')->Fm Pt vs H Q E'
abbrev ZE:List al:=["piece","rows","times","prime","filling","left","young","row","often"]
def ro:cQ ZE ["piece","rows","times","prime"] (bB FX):=(O,O,O,δ,O,δ,δ)
def YA(F:bF K "worked_off" "worked_off" FX f fd)(d6:eC mg)(Cm:bO P w K mg base aX "seam_of" ["chain"] 3 Fy)(Ct:bO P w K mg base aX "taken_by" ["chain","prime"] 2 (Aw Pt))(Cy:bO P w K mg base aX "youngest_of" ["chain","times"] 4 (Au Pt))(Ci:bO P w K mg base aX "times_into" ["weight","goal","prime"] 1 FH)(a6:bO P w K mg base aX "less_by" ["chain","often","other","prime"] 3 (FD Pt)):bD P w K mg base aX 5 f fd ["piece","rows","times","prime"] (Fm Pt):=by
 refine F.B ro (λvs H Q E h=>?_) (λd2 A b7 s H vs Q E hr h=>?_)
 ·obtain⟨a,R,T,L,q,oo,t,p,rfl,_⟩:=h;rfl
 ·obtain⟨a,R,T,L,q,oo,t,p,rfl,ha,I,hq,k⟩:=h
  have hu:=jb hr;have h2:=I.f.e;have h7:=I.g;have a7:=dy hq;refine(_,aY (cJ (i:=4) ro.a O (ak O)<|UL hu (ah 0) aV)
   (aY (cJ (i:=5) ro.a O (ak O)<|bN Ct hr O ce<|aj (bN Cm hr O ce<|aj (ah 4) az)<|aj (ah 3) az)
   (aY (Lm iL (cV sK (eH MD O d6.a fZ<|aj (ah 5) az) aV<|cN _)
    (aY (cJ (i:=6) ro.a O (ak O)<|bN Cy hr O ce<|aj (ah 5)<|aj (ah 2) az)
    (aY (cJ (i:=7) ro.a O (ak O)<|jS hu (ah 1) (jS hu (ah 2) (ah 6) (λ_ _=>O)) (λ_ _=>O))
    (aY (dh (cV wH (dG gF (ah 7) aV (λ_ _=>O)) qL<|cN _) (be Ux) dq)
    (aY (cJ (i:=8) ro.a O (ak O)<|bN Ci hr O ce<|aj (jS hu (dG gF (ah 7) aV (λ_ _=>O)) (ah 6) (λ_ _=>O))<|aj (jS hu (ah 5) (ah 6) (λ_ _=>O))<|aj (ah 3) az)
    (aY (cJ (i:=5) ro.a O (ak O)<|bN a6 hr O ce<|aj (ah 5)<|aj (ah 8)<|aj (dG gF (ah 7) aV (λ_ _=>O))<|aj (ah 3) az)
   <|be<|cJ (i:=4) ro.a O (ak O)<|bN a6 hr O ce<|aj (ah 4)<|aj (ah 8)<|aj (dG gF (ah 7) aV (λ_ _=>O))<|aj (ah 3) az))))))
  <|be<|cp<|ij<|aj (ah 5)<|aj (ah 4) az)),?_)
  intro g0 a0;have b8:=aQ.B (o:=.c []) a0;refine(_,O,a,q.map bd,.d 1,O,aD,by rw[bY];exact b8.N ha,?_);rw[Tr];have s1:=aQ.B (o:=.c [(adc ((q.map bd:List aN)) (af.d 1))]) a0;have a1:av H g0 (.c [(adc ((q.map bd:List aN)) (af.d 1))]) g0=U (.c<|cC [(adc q 1)]):=aD;generalize av H g0 (.c [(adc ((q.map bd:List aN)) (af.d 1))])=H1 at s1 a1;refine(_,O,g0,[(adc q 1)],O,.inl a1,by simp[bn],by simp,λc hc=>by rw[fu.mp hc];exact I.O.b q a7,λM H2 b9 a2 d3 c1=>?_);have f2:hW Pt H H2:=(aQ.sf s1).B<|Xq b9 (.inl a1) a2;have a3:(FQ [(adc q ((1:Int)))]).length<=1000:=by
   refine dE (Nx _) ?_;have:=GF (cs:=[(adc q ((1:Int)))]) λc hc=>by rw[fu.mp hc];exact I.O.b q a7
   simp at this ⊢;omega
  refine(_,O,M,_,p,O,.inl c1,rm _,a3,ω,λc0 H3 f3 a8 c2=>?_);have c3:=f2.B f3;refine(λm σ H4=>∃(d j:bC)(c g:V)(v6 v7 v8:Option af),σ=[U<|.c a,U<|.c R,U<|.c T,U<|.d p,U<|.c g,U<|.c c,v6,v7,v8]/\hW Pt H H4/\H c=Z/\H g=Z/\c≠g/\bX H4 c (.c<|cC d)/\bX H4 g (.c<|cC j)/\p_ p oo t q d j/\pn p (eK oo d) m,
   (t,_,_,c0,g0,Z,Z,Z,O,c3,f2.c a8,a0,λz=>?_,.inl c2,f3.a a2,Nh I.O h2 hq,(Nh I.O h2 hq).a.c),?_)
  ·subst z
   obtain⟨o,eo⟩:=sz a2;rw[a8] at eo;cases eo
  ·rintro m σ H4 ⟨d,j,c,g,v6,v7,v8,rfl,f4,hc,hg,c4,rc,rg,d7,bl⟩
   have a9:∀(v6 v7 v8:Option af)(n:ac),hW Pt H4 n->(d=[]\/∃y t0,BB oo d y t0/\∃r∈L,r.x.b=t0/\r.x.d=Z)->ko (cT (bz 5)<|cT (bz 4) e_) [U<|.c a,U<|.c R,U<|.c T,U<|.d p,U<|.c g,U<|.c c,v6,v7,v8] n Q:=by
    intro v6 v7 v8 n S hw;have l:=f4.B S;refine(_,O,_,O,cg O,λu b0=>?_);have s6:=aQ.B (o:=.b [.c c,.c g]) b0;exact k u c g d j _ (l.B<|aQ.sf s6) hc hg c4 (l.c b0) aD ((S.a rc).B s6) ((S.a rg).B s6) d7 hw
   refine(_,O,c,cC d,O,rc,_,_,O,O,_,O,?_);rw[pd]
   by_cases hl:d.length=0
   ·have c5:d=[]:=Dw hl
    rw[cf ω];exact cZ<|a9 v6 v7 v8 H4 (gZ.A3 H4)<|.inl c5
   rw[bZ ω];have I4:=I.B f4;refine dI (_,λd4 H' h=>h,?_);refine(_,O,_,O,c,T,d,oo,O,rc,I4.hT,I.O.a,Od hl,λz X=>(d7.b z X).1,I4.d,λb y t0 n S hb hy=>?_);have l:=f4.B S;have I5:=I4.B S;have a4:=hy.B I.O d7.l ω;obtain⟨x,hx,ex⟩:=WQ I.f I.O I.a d7 a4;obtain⟨r,a5,rfl⟩:=bq.mp hx;subst ex;have gT:hJ n T (.c b) (U<|.d r.x.b):=.inr (cC<|jJ oo,y.map bd,b,I5.hT,O,by rw[bY];exact hb,(Fe I.O.a hy.2.1).symm);have c6:((hU L).map (·.b)).Nodup:=I.a.a.imp λh=>ω
   have gR:hJ n R (.d r.x.b) (U<|.c r.t):=by
    have:=hJ.k (k:=bd (r.x.b:Int)) I5.hR
    rwa [GB c6 a5] at this
   refine(_,O,_,O,_,O,T,_,O,gT,R,_,O,gR,?_);obtain⟨b1,h5⟩:=I5.c r a5;have ow:=I.a.d r.x hx;obtain⟨y',ey,b2⟩:=NO I.a hx;rw[hy.2.1] at ey;cases ey;rcases h5 with ⟨ed,ht⟩|⟨e,ed,c7,ht⟩
   ·refine(_,O,r.t,_,2,.g,O,O,fm.B ht,O,O,_,O,dI ?_)
    exact a9 _ _ v8 n S<|.inr (y,_,hy,r,a5,O,ed)
   ·refine(_,O,r.t,_,2,.d e,O,O,fm.B ht,O,O,_,O,cZ ?_)
    obtain⟨b3,c8⟩:=ow.g e ed;have b4:n b=U (.b<|(y.map bd:List aN).map dM):=by rw[bY];exact hb
    have g1:hJ n r.c (.c b) (U<|.d<|du r.x.c y):=by
     obtain⟨cc,v,rfl⟩:=bq.mp b2;refine .inr (cC r.x.c,cc.1.map bd,b,b1,O,b4,?_);rw[rh ow.c.a cc v,vo ow.c.a cc v]
    have g2:hJ n c (.c b) (U<|.d<|du d y):=by
     obtain⟨cc,v,e3⟩:=bq.mp hy.1;subst e3;refine .inr (cC d,cc.1.map bd,b,S.a rc,O,b4,?_);rw[rh d7.l.a cc v,vo d7.l.a cc v]
    have d5:=ow.c.B b2;refine(_,O,r.t,_,3,.c r.c,O,O,fm.B ht,O,_,O,r.c,_,O,g1,_,O,_,O,c,_,O,g2,_,O,_,_,p,O,ω,h2,ω,I.f.d _ _ (λz=>by have:=ah2 ω z;omega),λkk H6 k0 k1 kd s6=>?_);have C:hW Pt n H6:=aQ.sf s6;have lc:d.length<=200:=dE (Bv d7.l.a λz X=>(d7.b z X).1) I.e;have lr:r.x.c.length<=200:=dE (Bv ow.c.a λz X=>(ow.a z X).1) I.e;have lf:j.length<=200:=dE (Bv d7.f.a λz X=>(d7.c z X).1) I.e;have lg:r.x.g.length<=200:=dE (Bv b3.a λz X=>(c8 z X).1) I.e;refine(_,O,_,O,_,O,r.t,_,3,.c r.c,O,O,fm.B<|C.F ht,O,_,O,c,r.c,d,r.x.c,kk,p,O,C.a<|S.a rc,C.a b1,d7.l.a,ow.c.a,lc,lr,ω,ω,λc' H7 f7 b5 b6=>?_);have D:=C.B f7;refine(_,O,_,O,_,O,r.t,_,4,.c r.g,O,O,fm.B<|D.F ht,O,_,O,g,r.g,j,r.x.g,kk,p,O,D.a<|S.a rg,D.a c7,d7.f.a,b3.a,lf,lg,ω,ω,λg' H8 f8 G c9=>?_);have d0:=(l.B D).B f8;obtain⟨W',d1⟩:=WP ω I.a d7 hx ed a4 hy.2.1 hy.1 kd;refine(r.x.b,?_,_,_,c',g',_,_,_,O,d0,(l.B C).c b5,(l.B D).c G,λz=>?_,f8.a<|.inl b6,.inl c9,W',d1)
    ·refine agp λz=>a4.1<|bl _ z
    ·subst z
     rw[b6] at G;cases G
end
def KZ{k a:List (List aN×af)}(e:bX H b (.c k))(r:bX H b (.c a)):k=a:=by
 rcases e with e|⟨c,e⟩<;>rcases r with r|⟨d,r⟩<;>rw[e] at r<;>cases r<;>rfl
def gZ.A6{H f:ac}(h:∀b,f b=H b\/∃a,bX H b (.c a)/\bX f b (.c a)):gZ P g q H f:=by
 have d:∀{b:V}{u:cP},H b=U u->(∀k,u≠.c k)->(∀j k,u≠.e j (.c k))->f b=U u:=λ{b u} e o p=>by
  rcases h b with z|⟨k,r,_⟩
  ·rw[z];exact e
  ·rcases r with r|⟨j,r⟩
   ·exact aZ (ca<|e.symm.trans r)<|o _
   ·exact aZ (ca<|e.symm.trans r)<|p _ _
 refine(λb u n e=>d e n.d n.z,λ{b k} e=>?_,λ{b} e=>?_,λt=>?_,λb l _ e=>d e (λ_ z=>nomatch z) (λ_ _ z=>nomatch z))
 ·rcases h b with z|⟨s,r,i⟩
  ·unfold bX;rw[z];exact e
  ·rw[KZ e r];exact i
 ·rcases h b with z|⟨s,r,i⟩
  ·rw[<-z];exact e
  ·obtain⟨u,m⟩:=sz i
   rw[e] at m;cases m
 ·rcases t with e|⟨c,e,v,w,x,y,r⟩
  ·exact .inl<|d e (λ_ z=>nomatch z) (λ_ _ z=>nomatch z)
  ·exact .inr (c,d e (λ_ z=>nomatch z) (λ_ _ z=>nomatch z),v,w,x,d y (λ_ z=>nomatch z) (λ_ _ z=>nomatch z),r)
section
variable{X:aK}{pins:Ψ}{σ:aM}{H:ac}{s:ai}
def aw.thaws(I:aw X pins σ H s):∀g:List V,(∀a∈g,X.h a=Z/\∃d,bX H a (.c d))->∃e,aw X pins σ e s/\(∀b,b∉g->e b=H b)/\∀a∈g,∀d,bX H a (.c d)->e a=U (.c d)
 |[],_=>(H,I,λ_ _=>O,λa v=>nomatch v)
 |a::g,h=>by
  obtain⟨e,n,o,p⟩:=I.thaws g λb f=>h b<|.tail _ f
  by_cases m:a∈g
  ·exact(e,n,λb f=>o b λz=>f<|.tail _ z,λb f=>by
    rcases ci.mp f with rfl|q
    ·exact p b m
    ·exact p b q)
  ·obtain⟨w,d,r⟩:=h a<|.head _
   have x:=o a m;have i:bX e a (.c d):=by unfold bX;rw[x];exact r
   have j:∀l:ac,aw X pins σ l s->l a=U (.c d)->(∀b,b≠a->l b=e b)->∃e,aw X pins σ e s/\(∀b,b∉a::g->e b=H b)/\∀c∈a::g,∀d,bX H c (.c d)->e c=U (.c d):=λl y A t=>by
    refine(l,y,λb f=>?_,λc C k u=>?_)
    ·rw[ci,not_or] at f
     rw[t b f.1];exact o b f.2
    ·by_cases z:c=a
     ·subst z;rw[KZ u r];exact A
     ·rw[t c z];exact p c ((ci.mp C).resolve_left z) k u
   rcases i with i|⟨D,i⟩
   ·exact j e n i λ_ _=>O
   ·exact j _ (n.E7 w i) aD λb f=>a_ f
def TG(g:ac)(t:bb):bb:=λσ H Q=>t σ H λx d=>∃e:List V,(∀a∈e,g a=Z/\∃c,bX d a (.c c))/\∀f,(∀b,b∉e->f b=d b)->(∀a∈e,∀c,bX d a (.c c)->f a=U (.c c))->Q x f
def UD{e:bf}{t:bb}(h:bA X e t):bA X e (TG X.h t):=by
 intro pins s σ H Q I q;refine bI (h pins s σ H _ I q) λv l (x,m,b,c,d,f,k)=>?_;obtain⟨a,g,i,j⟩:=b.thaws d f;exact(x,a,g,c,k a i j)
def TD{d g:ac}{e:List V}(h:∀a∈e,∃c,bX d a (.c c))(i:∀b,b∉e->g b=d b)(j:∀a∈e,∀c,bX d a (.c c)->g a=U (.c c)):gZ P f q d g:=
 gZ.A6 λb=>by
  by_cases m:b∈e
  ·obtain⟨k,r⟩:=h b m
   exact .inr (k,r,.inl<|j b m k r)
  ·exact .inl<|i b m
end
abbrev Bi:bV:=de 41
abbrev xB:bV:=de 42
def mZ(L:List fq)(x:fq):List fq:=L.map λy=>if y.x.b=x.x.b then x else y
def WN(L:List fq)(a:fq):hU (mZ L a)=tw (hU L) a.x:=by
 unfold hU mZ tw;rw[bY,bY];refine gC λy _=>?_;show(if y.x.b=a.x.b then a else y).x=if y.x.b=a.x.b then a.x else y.x;split<;>rfl
def ZV{L:List fq}{b:Nat}{t:V}(h:∀r∈L,r.x.b≠b):eQ (jv L) (bd (b:Int)) (.c t)=jv L++[(adc (bd (b:Int)) (.c t))]:=by
 unfold eQ;rw[au];intro z;obtain⟨d,a,e⟩:=uu.mp z;obtain⟨r,c,rfl⟩:=bq.mp a;have e:=iE e;have:(r.x.b:Int)=b:=by injection e
 exact h r c ω
def ZU{L:List fq}{x:fq}(h:∃r∈L,r.x.b=x.x.b):eQ (jv L) (bd (x.x.b:Int)) (.c x.t)=jv (mZ L x):=by
 obtain⟨r,a,e⟩:=h;unfold eQ;have b:((jv L).any λc=>aG<|c.1=(bd (x.x.b:Int):aN))=ae:=uu.mpr (_,bq.mpr (r,a,O),bZ (by show(bd (r.x.b:Int):aN)=_;rw[e]));rw[aB b];unfold jv mZ;rw[bY,bY];refine gC λy _=>?_;show(if(bd (y.x.b:Int):aN)=bd (x.x.b:Int) then(adc ((bd (y.x.b:Int):aN)) (af.c x.t)) else(adc (bd (y.x.b:Int)) (af.c y.t)))=(adc (bd ((if y.x.b=x.x.b then x else y).x.b:Int)) (af.c (if y.x.b=x.x.b then x else y).t))
 by_cases z:y.x.b=x.x.b
 ·rw[aB (by rw[z]),aB z,z]
 ·have d:¬(bd (y.x.b:Int):aN)=bd (x.x.b:Int):=λq=>z<|Int.ofNat.inj<|vC q
  rw[au d,au z]
def fG(r:fq):List V:=match r.x.d with
 |none=>[r.c]
 |some _=>[r.c,r.g]
def OE(h:qa H r){a:V}(b:a∈fG r):∃c,bX H a (.c c):=by
 obtain⟨d,f⟩:=h;unfold fG at b;rcases f with ⟨e,_⟩|⟨e,g,i,_⟩
 ·rw[e] at b
  rw[fu.mp b];exact(_,d)
 ·rw[g] at b
  rcases ci.mp b with rfl|b
  ·exact(_,d)
  ·rw[fu.mp b];exact(_,i)
structure vq(H:ac)(L:List fq):Prop where
 c:(L.flatMap fG).Nodup
 b:∀a∈L.flatMap fG,H a=Z
def vq.B(h:vq H L)(d:(fG r).Nodup)(f:∀a∈fG r,H a=Z)(g:∀a∈fG r,a∉L.flatMap fG):vq H (L++[r]):=by
 have e:(L++[r]).flatMap fG=L.flatMap fG++fG r:=by rw[Du];simp
 refine(?_,λa c=>?_)
 ·rw[e,mI]
  exact(h.c,d,λa c b i z=>g b i<|z▸c)
 ·rw[e] at c
  rcases gB.mp c with c|c
  ·exact h.b a c
  ·exact f a c
def Gu{a:V}(h:a∈(mZ L x).flatMap fG):a∈L.flatMap fG\/a∈fG x:=by
 obtain⟨y,c,b⟩:=ki.mp h;obtain⟨z,d,rfl⟩:=bq.mp c
 by_cases e:z.x.b=x.x.b
 ·rw[aB e] at b;exact .inr b
 ·rw[au e] at b;exact .inl<|ki.mpr (z,d,b)
def vq.F(h:vq H L)(g:((hU L).map (·.b)).Nodup)(n:(fG x).Nodup)(o:∀a∈fG x,H a=Z)(p:∀a∈fG x,a∉L.flatMap fG):vq H (mZ L x):=by
 refine(?_,λa d=>?_)
 ·have k:∀M:List fq,((hU M).map (·.b)).Nodup->(M.flatMap fG).Nodup->(∀a∈fG x,a∉M.flatMap fG)->((mZ M x).flatMap fG).Nodup:=by
   intro M
   induction M with
   |nil=>intro _ _ _;exact lD
   |cons y M r=>
    intro g j m;rw[show(hU<|y::M).map (·.b)=y.x.b::(hU M).map (·.b) from O,iB] at g;rw[ot,mI] at j;have f:∀a∈fG x,a∉M.flatMap fG:=λa d z=>m a d (by rw[ot];exact oq _ z);have i:=r g.2 j.2.1 f;show(((if y.x.b=x.x.b then x else y)::mZ M x).flatMap fG).Nodup;rw[ot,mI]
    by_cases e:y.x.b=x.x.b
    ·rw[aB e]
     refine(n,i,λa d u c z=>?_);subst z;rcases Gu c with q|q
     ·exact f a d q
     ·have l:mZ M x=M:=by
       unfold mZ;refine(gC λz s=>?_).trans<|wb _;rw[au];intro t;exact g.1<|bq.mpr (z.x,bq.mpr (z,s,O),ω)
      rw[l] at c;exact f a d c
    ·rw[au e]
     refine(j.1,i,λa d u c z=>?_);subst z;rcases Gu c with q|q
     ·exact j.2.2 a d a q O
     ·exact m a q (by rw[ot];exact uo _ d)
  exact k L g h.c p
 ·rcases Gu d with q|q
  ·exact h.b a q
  ·exact o a q
def Bo{a R:V}(h:bX H a (.c b))(hR:H R=U (.g c)):bX (av H R o) a (.c b):=by
 have d:a≠R:=λz=>by
  subst z;rcases h with e|⟨_,e⟩<;>(rw[hR] at e;cases e)
 unfold bX;rw[a_ d];exact h
def Bn{R:V}(h:qa H r)(hR:H R=U (.g c)):qa (av H R o) r:=by
 obtain⟨d,a⟩:=h;refine(Bo d hR,?_);rcases a with ⟨e,a⟩|⟨e,a,f,b⟩
 ·exact .inl (e,by rw[a_<|fL a hR (by intro z;cases z)];exact a)
 ·exact .inr (e,a,Bo f hR,by rw[a_<|fL b hR (by intro z;cases z)];exact b)
def θ{l m:List Int}(c:l.Perm m)(d:l.Pairwise (·<=·))(e:m.Pairwise (·<=·)):l=m:=
 ahp (λa b _ _ f g=>Int.le_antisymm f g) d e c
def rA(L:List fq):List Int:=L.map λr=>(r.x.b:Int)
section
variable{P:aU}{w:aO}{K:aH}{mg:al->Option aa}{base:aI}{f:V}{fd:cr}{Pt:V}
def XO{S R D:V}{Q:aL}(p:bx K d S ((rA L).map af.d))(hR:d R=U (.g<|jv L))(q:((hU L).map (·.b)).Nodup)(u:L.length<=1000)(m:d D=Z)(w:∀(a:ac),aQ d a->a D=U (.a<|L.map λr=>af.c r.t)->Q (.c D) a):fg (im K S) (eA 0) ja (pN (bz 1)<|bz 0) [Z,U<|.c R] d D Q:=by
 have n:((rA L).map af.d).length=L.length:=by unfold rA;rw[aA,aA]
 refine jX (xs:=(rA L).map af.d) (λj i h a=>∃(v:Option af),i=[v,U<|.c R]/\aQ d a/\a D=U (.a h)/\h=(L.map λr=>af.c r.t).take j) ?_ ?_ ?_ ?_
 ·exact(Z,O,aQ.B m,aD,O)
 ·rintro j i h a ⟨v,rfl,f,c,rfl⟩
  exact f.W p
 ·rintro j i h a x l s t ⟨v,rfl,f,c,rfl⟩
  unfold rA at l;rw[bY,cm] at l;obtain⟨r,o,rfl⟩:=pG.mp l;have e:(L.map λr=>af.c r.t)[j]?=U (.c r.t):=by rw[cm,o];rfl
  have g:hJ a R (.d r.x.b) (U<|.c r.t):=by
   have:=hJ.k (k:=bd (r.x.b:Int))<|f _ _ hR
   rwa [GB q<|dy o] at this
  refine jU (_,O,_,O,R,_,O,g,gG (by rw[n];exact dN ω) s t c (_,O,f.A0 m,aD,by rw[di e]))
 ·rintro i h a ⟨v,rfl,f,c,rfl⟩
  rw[n,gb (by rw[aA];exact bc _)] at c;exact w a f c
structure aa1(p:Int)(oo:Ξ)(H':ac)(D:V)(L:List fq):Prop where
 a:H' D=U (.a<|L.map λr=>af.c r.t)
 c:∀r∈L,qa H' r
 b:j_ p oo oo.length (hU L)
def Gx(h:j_ p a T (hU L))(f:T<=a.length):L.length<=a.length:=by
 have c:((hU L).map (·.b)).Nodup:=h.a.imp λh=>ω
 have:=c.length_le_of_subset (l₂:=dk a.length) λg d=>by
  obtain⟨x,e,rfl⟩:=bq.mp d;have:=(tu h e).a;have this:x.b<T:=this;exact h_.mpr ω
 rw[lZ,aA,aA] at this;exact this
def gM(p:Int):Prop:=p=2\/p=3\/p=5\/p=7
def gM.B(h:gM p):nv p/\p<=7:=by
 rcases h with rfl|rfl|rfl|rfl
 ·exact(acp,ξ)
 ·exact(aco,ξ)
 ·exact(acn,ξ)
 ·exact(acm,ξ)
inductive Ay(K:aH)(Pt:V)(vs:List af)(H:ac)(Q:aL)(E':bK):Prop
 |b:∀l as oo p,(vs=[.c l,.d p])->(bx K H l<|as.map af.c)->(aW H as oo)->(dU oo)->(oo.length<=60)->(gM p)->(rB Pt H)->(∀D L H',hW Pt H H'->H D=Z->aa1 p oo H' D L->vq H L->(∀a∈L.flatMap fG,∃kvs,H' a=U (.c kvs))->Q (.c D) H')->Ay K Pt vs H Q E'
abbrev Of:List al:=["order","prime","times","rows","time","piece","found","born"]
def rp:cQ Of ["order","prime"] (bB xB):=(O,O,O,δ,O,δ,δ)
def YP(F:bF K "paper" "paper" xB f fd)(e8:eC mg)(Co:bO P w K mg base aX "must_be_order" ["order"] 3 (xn K))(Cp:bO P w K mg base aX "must_be_prime" ["prime"] 1 xm)(Ct:bO P w K mg base aX "times_of" ["order"] 1 (Fv K))(Cw:bO P w K mg base aX "worked_off" ["piece","rows","times","prime"] 5 (Fm Pt))(Cy:bO P w K mg base aX "youngest_of" ["chain","times"] 4 (Au Pt)):bD P w K mg base aX 6 f fd ["order","prime"] (Ay K Pt):=by
 refine F.B rp (λvs H Q E h=>?_) (λe3 A d3 s H vs Q E j h=>?_)
 ·obtain⟨l,as,oo,p,rfl,_⟩:=h;rfl
 ·obtain⟨l,as,oo,p,rfl,hl,ht,ho,m,hp,tb,k⟩:=h
  have hu:=jb j;have e9:=Yy ho;have e4:=m;have m:oo.length<=200:=ω
  obtain⟨a3,a8⟩:=hp.B;have h2:=a3.e;have d4:=ht.B;refine(_,aY (eW<|bN Co j O ce<|aj (ah 0) az) (aY (eW<|bN Cp j O ce<|aj (ah 1) az)
   (aY (cJ (i:=2) rp.a O (ak O)<|bN Ct j O ce<|aj (ah 0) az)
   (aY (cJ (i:=3) rp.a O (aq O) UJ)
   (aY (iF iL O (Ev O e8.f GL<|aj (ah 0) az) (wF O<|oK (cB (i:=4) rp.a O<|ak O)<|oK (cB (i:=5) rp.a O<|ak O) wE)
    (aY (cJ (i:=6) rp.a O (ak O)<|bN Cw j O ce<|aj (ah 5)<|aj (ah 3)<|aj (ah 2)<|aj (ah 1) az)
    (be (dh (cV jT (eH MD O e8.a fZ<|aj (dG gF (ah 6) aV (λ_ _=>O)) az) aV<|cN _)
     (be<|oG hu (ah 3) (ah 4) (ij<|aj (cA uM (eH gW O e8.a fZ<|aj (ah 5) az) aV)<|aj (ah 4)<|aj qL<|aj (dG gF (ah 6) aV (λ_ _=>O))<|aj qL az) O)
     (aY (cJ (i:=7) rp.a O (ak O)<|jS hu (ah 2) (bN Cy j O ce<|aj (dG gF (ah 6) aV (λ_ _=>O))<|aj (ah 2) az) (λ_ _=>O))
    <|be<|oG hu (ah 3) (ah 7) (ij<|aj (cA uM (eH gW O e8.a fZ<|aj (ah 5) az) aV)<|aj (ah 7)<|aj (ah 4)<|aj (dG gF (ah 6) aV (λ_ _=>O))<|aj (dG gF (ah 6) aV (λ_ _=>O)) az) O)))))
   (be (cp (UD (fE Of ["born","rows"] [Z,U 3] (eG<|eH (Wo O) O e8.d vp<|aj (ah 3) az) (λcl C a5 a6 ex=>cB (i:=0) (eI ["born","rows"]) O<|ak O) (λcl C a5 a6 ex=>gE)
    (λcl C a5 a6 ex=>jS hu (ah 1) (ah 0) (λ_ _=>O)) (hfr:=iQ (bB xB) δ) (te:=pN (bz 1)<|bz 0))))))))),?_)
  refine(_,O,l,as,oo,O,hl,ht,m,ho,λH1 s1=>?_);refine(_,O,p,O,hp,?_);refine(_,O,l,as,oo,O,s1.W hl,s1.J ht,e9.a,m,λT H2 s2 e5 d5 R hR=>?_);have b7:=s1.F s2;have s3:=aQ.B (o:=.g []) hR;have sh:=b7.F s3;have b8:H R=Z:=b7.A2 hR;refine(_,O,l,O,(_,sh.W hl),Me (K:=K) (a:=l) (xs:=as.map af.c) (λi σ H4=>∃(v4 v5 v6 v7:Option af)(L:List fq),σ=[U<|.c l,U<|.d p,U<|.c T,U<|.c R,v4,v5,v6,v7]/\hW Pt H H4/\BC Pt H4 R T L oo p i/\vq H L)
   (Z,Z,Z,Z,[],O,aQ.sf sh,(aD,(λr j=>nomatch j),.inl<|s3 _ _ d5,e9,m,a3,a8,Yq,tb.B sh),(lD,(λa ha=>nomatch ha))) (λi σ H4 _ (_,_,_,_,_,_,f,_)=>f.A7 hl) ?_ ?_)
  ·rintro i x pr σ H4 hx ⟨v4,v5,v6,v7,L,rfl,f4,I4,ap⟩ b9
   obtain⟨a,ea,rfl⟩:=fY hx;obtain⟨q,eq,hq⟩:=ht.F ea;have hi:i<oo.length:=(cE.mp eq).1;have s5:=aQ.B (o:=.b [.d i,.c a]) b9;have f5:=f4.B<|aQ.sf s5;have I5:=I4.B<|aQ.sf s5;refine(pr,_,O,fm.B aD,O,_,_,O,_,_,O,O,?_);generalize av H4 pr (.b [.d i,.c a])=H5 at s5 f5 I5;refine(_,O,_,O,_,O,_,O,a,R,T,L,q,oo,i,p,O,f5.N hq,I5,eq,λu c g n v H6 f6 c0 a9 d6 e6 a4 b0 c1 f0 hw=>?_);have b1:=f5.B f6;have I6:=I5.B f6;have a7:∀b∈L.flatMap fG,∃o,H5 b=U o:=λb d=>by
    obtain⟨r,j,d⟩:=ki.mp d;obtain⟨a0,hk⟩:=OE (I5.c r j) d;exact sz hk
   have cn:c∉L.flatMap fG:=λz=>by obtain⟨o,e⟩:=a7 c z;rw[c0] at e;cases e
   have gn:g∉L.flatMap fG:=λz=>by obtain⟨o,e⟩:=a7 g z;rw[a9] at e;cases e
   refine(_,O,u,_,0,.c c,O,O,fm.B a4,O,c,cC n,O,b0,O,_,O,?_);rw[pd];have c2:=Gx I5.a<|qv hi;have a1:(jv L).length<bG:=by unfold jv;rw[aA];exact li ω
   have b2:((hU L).map (·.b)).Nodup:=I5.a.a.imp λh=>ω
   by_cases hz:n.length=0
   ·have d8:n=[]:=Dw hz
    subst d8;rw[bZ (by rfl)];refine dI (_,O,a,_,O,.inr<|fm.B<|b1.N hq,_,_,O,O,_,O,_,O,u,_,1,.c g,O,O,fm.B a4,O,cg O,λt d9=>?_);have s7:=aQ.B (o:=.b [.d<|(ax af.d q).length-1,.d i,.g,.c g,.g]) d9;refine(_,O,_,O,R,_,O,xf.k (k:=bd (i:Int)) (s7 _ _ I6.hR) a1,?_);have d:∀r∈L,r.x.b≠i:=λr j=>by
     have:=(tu I5.a<|bq.mpr (r,j,O)).a;have this:r.x.b<i:=this;omega
    rw[ZV d];have b3:jv L++[(adc ((bd (i:Int):aN)) (af.c t))]=jv (L++[(((q.length:Int)-1,i,Z,v,[]),t,g,g)]):=by unfold jv;rw[cv];rfl
    have I:=s7 _ _ I6.hR;have M:=b1.B<|aQ.sf (P:=Pt) (pos:=vn) (q:=vj) s7;have I7:=I6.B<|aQ.sf (P:=Pt) (pos:=vn) (q:=vj) s7;have c3:=c1.B s7;have a2:=aD (H:=H6) (a:=t) (o:=.b [.d<|(ax af.d q).length-1,.d i,.g,.c g,.g]);generalize av H6 t (.b [.d<|(ax af.d q).length-1,.d i,.g,.c g,.g])=H7 at s7 I M I7 c3 a2;rw[aA] at a2;refine(_,_,_,_,L++[(((q.length:Int)-1,i,Z,v,[]),t,g,g)],O,M.A0 b8 I,(by rw[aD,b3],λr j=>?_,Bo I7.hT I,e9,m,a3,a8,?_,I7.d.F I (by intro ps z;cases z) (by intro ob u z;cases z)),ap.B (by simp[fG]) (λb d=>?_) (λb d=>?_))
    ·rcases gB.mp j with j|j
     ·exact Bn (I7.c r j) I
     ·rw[fu.mp j]
      exact Bn (c3,.inl (O,a2)) I
    ·have e:hU (L++[(((q.length:Int)-1,i,Z,v,[]),t,g,g)])=hU L++[((q.length:Int)-1,i,Z,v,[])]:=by unfold hU;rw[cv];rfl
     rw[e];exact Ys e9 I5.a f0
    ·rw[fu.mp<|show b∈[g] from d];exact f5.c a9
    ·rw[fu.mp<|show b∈[g] from d];exact gn
   ·rw[cf (λz=>hz (by injection z with z;omega))]
    rcases hw with hw|⟨y,t0,hy,X,c4,eb,ed⟩
    ·exact aZ (by rw[hw];rfl) hz
    subst eb;refine cZ (_,O,_,O,u,_,0,.c c,O,O,fm.B a4,O,_,O,c,T,n,oo,O,b0,I6.hT,e9.a,Od hz,λz b4=>(f0.b z b4).1,I6.d,λb y' e7 H7 M e0 c5=>?_);have c6:=hy.B e9 f0.l ω;have c7:=c5.B e9 f0.l ω;have et:=c6.B c7;subst et;have c8:=b1.B M;have I7:=I6.B M;have gT:hJ H7 T (.c b) (U<|.d X.x.b):=.inr (cC<|jJ oo,y'.map bd,b,I7.hT,O,by rw[bY];exact e0,(Fe e9.a c5.2.1).symm);have c9:=M.F a4;refine(T,_,O,gT,?_);refine(_,O,a,_,O,.inr<|fm.B<|c8.N hq,_,_,O,O,_,O,_,O,_,O,u,_,0,.c c,O,O,fm.B c9,O,_,O,u,_,1,.c g,O,O,fm.B c9,O,cg O,λt a2=>?_);have s8:=aQ.B (o:=.b [.d<|(ax af.d q).length-2,.d X.x.b,.d i,.c c,.c g]) a2;have G:=s8 _ _ I7.hR;have f8:=c8.B<|aQ.sf (P:=Pt) (pos:=vn) (q:=vj) s8;have I8:=I7.B<|aQ.sf (P:=Pt) (pos:=vn) (q:=vj) s8;have d0:=(M.a b0).B s8;have d1:=(M.a c1).B s8;have b5:=aD (H:=H7) (a:=t) (o:=.b [.d<|(ax af.d q).length-2,.d X.x.b,.d i,.c c,.c g]);refine(_,O,_,O,R,_,O,xf.k (k:=bd (X.x.b:Int)) G a1,?_);generalize av H7 t (.b [.d<|(ax af.d q).length-2,.d X.x.b,.d i,.c c,.c g])=H8 at s8 G f8 I8 d0 d1 b5;rw[aA] at b5;have b3:eQ (jv L) (bd (X.x.b:Int)) (.c t)=jv (mZ L (((q.length:Int)-2,X.x.b,U i,n,v),t,c,g)):=ZU (x:=(((q.length:Int)-2,X.x.b,U i,n,v),t,c,g)) (X,c4,O);rw[b3];refine(_,_,_,_,mZ L (((q.length:Int)-2,X.x.b,U i,n,v),t,c,g),O,f8.A0 b8 G,(aD,λr j=>?_,Bo I8.hT G,e9,m,a3,a8,?_,I8.d.F G (by intro ps z;cases z) (by intro ob u z;cases z)),ap.F b2 ?_ (λb d=>?_) (λb d=>?_))
    ·obtain⟨z,b4,rfl⟩:=bq.mp j
     by_cases e:z.x.b=X.x.b
     ·rw[aB e]
      exact Bn (d0,.inr (i,O,d1,b5)) G
     ·rw[au e]
      exact Bn (I8.c z b4) G
    ·rw[WN]
     exact Yr e9 I5.a f0 (bq.mpr (X,c4,O)) ed c6
    ·show [c,g].Nodup
     simp[d6]
    ·have d:b∈[c,g]:=d
     rcases ci.mp d with rfl|d
     ·exact f5.c c0
     ·rw[fu.mp d];exact f5.c a9
    ·have d:b∈[c,g]:=d
     rcases ci.mp d with rfl|d
     ·exact cn
     ·rw[fu.mp d];exact gn
  ·rintro σ H4 ⟨v4,v5,v6,v7,L,rfl,f4,I4,ap⟩
   rw[aA,d4] at I4;have c2:=Gx I4.a<|bc _;have b2:((hU L).map (·.b)).Nodup:=I4.a.a.imp λh=>ω
   have ez:(.g (jv L):cP)=Mp (L.map λr=>(adc ((r.x.b:Int)) (af.c r.t))):=by
    unfold jv;show _=cP.g _;rw[bY];rfl
   refine(_,O,R,L.map λr=>(adc ((r.x.b:Int)) (af.c r.t)),O,by rw[<-ez];exact I4.hR,by rw[aA];omega,λS ms e1 d2 hS=>?_);have em:ms=rA L:=by
    refine θ (e1.trans ?_) d2 ?_
    ·rw[bY];exact wl _
    ·have:=I4.a.a
     unfold rA;rw[jN] at this ⊢;rw[jN] at this;exact this.imp λh=>ω
   subst em;have s5:=aQ.B (o:=.a<|(rA L).map af.d) hS;refine(S,O,(_,bx.B aD),λD hD=>fc<|XO (bx.B aD) (s5 _ _ I4.hR) b2 ω hD λH6 s6 e2=>?_);have f6:hW Pt H4 H6:=aQ.sf<|s5.F s6;have I6:=I4.B f6;have b6:∀b∈L.flatMap fG,∃a0,bX H6 b (.c a0):=λb d=>by
    obtain⟨r,j,d⟩:=ki.mp d;exact OE (I6.c r j) d
   refine(L.flatMap fG,λb d=>(ap.b b d,b6 b d),λH7 o7 d7=>?_);have M:hW Pt H6 H7:=TD b6 o7 d7;refine k D L H7 ((f4.B f6).B M) ((f4.B<|aQ.sf s5).c hD) (M.J e2,λr j=>(I6.c r j).B M,I4.a) ap λb d=>?_;obtain⟨a0,hk⟩:=b6 b d;exact(a0,d7 b d a0 hk)
end
abbrev Bf:bV:=de 49
def ip(x:f_):List af:=[.d x.a,.d x.b,match x.d with|none=>.g|some e=>.d e]
section
variable{P:aU}{w:aO}{K:aH}{mg:al->Option aa}{base:aI}{f:V}{fd:cr}{Pt:V}
def qa.all(h:qa H r):∃a b:af,H r.t=U (.b<|ip r.x++[a,b]):=by
 obtain⟨_,⟨e,h⟩|⟨e,c,_,h⟩⟩:=h
 ·exact(.c r.c,.g,by rw[h];unfold ip;rw[e];rfl)
 ·exact(.c r.c,.c r.g,by rw[h];unfold ip;rw[c];rfl)
abbrev Nv(K:aH):bb:=zo (Em K) (bz 0) zr<|zp<|dK<|.d 3
def aag{f:ac}{L:List fq}{Q:aL}(C:bx K f S (L.map λr=>af.c r.t))(E:∀r∈L,qa f r)(P:L.length<=1000)(p:f D=Z)(k:∀(b:ac)(d:List V),aQ f b->b D=U (.a<|d.map af.c)->dA (λu x=>b u=U (.b x)) d ((hU L).map ip)->Q (.c D) b):fg (im K S) (eA 0) ja (Nv K) [Z] f D Q:=by
 have q:(L.map λr=>af.c r.t).length=L.length:=aA _;refine jX (xs:=L.map λr=>af.c r.t) (λj n i b=>∃(v:Option af)(d:List V),n=[v]/\aQ f b/\b D=U (.a i)/\i=d.map af.c/\dA (λu x=>b u=U (.b x)) d (((hU L).map ip).take j)) ?_ ?_ ?_ ?_
 ·exact(Z,[],O,aQ.B p,aD,O,.nil)
 ·rintro j n i b ⟨v,d,rfl,g,c,rfl,l⟩
  exact g.W C
 ·rintro j n i b x s G H ⟨v,d,rfl,g,c,rfl,l⟩
  rw[cm] at s;obtain⟨r,t,rfl⟩:=pG.mp s;have e:((hU L).map ip)[j]?=U (ip r.x):=by rw[cm,cm,t];rfl
  obtain⟨w,y,I⟩:=(E r<|dy t).all;refine jU (_,O,3,O,r.t,_,O,fm.B<|g _ _ I,(show ¬(cu 5 0 Z=0/\cu 5 5 (U 3)=5) from ξ),λu M=>?_);have m:=aQ.B (o:=.b<|iR (ip r.x++[w,y]) Z<|U 3) M;refine gG (by rw[q];exact dN ω) G H (m _ _ c) (_,d++[u],O,(g.F m).A0 p,aD,by rw[cv];rfl,?_);rw[di e];have A:∀{a:V}{x:List af},av b u (.b<|iR (ip r.x++[w,y]) Z<|U 3) a=U (.b x)->a≠D:=λh=>fL h (m _ _ c) (by intro z;cases z);refine tX (il l λa x h=>?_) ?_
  ·rw[a_<|A<|m _ _ h];exact m _ _ h
  ·rw[a_<|A aD,aD];rfl
 ·rintro n i b ⟨v,d,rfl,g,c,rfl,l⟩
  rw[q,gb (by rw[aA,aA];exact bc _)] at l;exact k b d g c l
inductive xo(K:aH)(Pt:V)(vs:List af)(H:ac)(Q:aL)(E':bK):Prop
 |a:∀l as oo p,(vs=[.c l,.d p])->(bx K H l<|as.map af.c)->(aW H as oo)->(dU oo)->(oo.length<=60)->(gM p)->(rB Pt H)->(∀D us xs H',hW Pt H H'->H D=Z->H' D=U (.a<|us.map af.c)->dA (λu x=>H' u=U (.b x)) us (xs.map ip)->j_ p oo oo.length xs->Q (.c D) H')->xo K Pt vs H Q E'
def NJ:cQ ["order","prime"] ["order","prime"] (bB Bi):=(O,O,O,δ,O,δ,δ)
def Zy(F:bF K "bars" "bars" Bi f fd)(v:bO P w K mg base aX "paper" ["order","prime"] 6 (Ay K Pt)):bD P w K mg base aX 7 f fd ["order","prime"] (xo K Pt):=by
 refine F.B NJ (λx H Q E h=>?_) (λy A g s H x Q E z h=>?_)
 ·obtain⟨l,n,o,p,rfl,_⟩:=h;rfl
 ·obtain⟨l,n,o,p,rfl,G,I,M,c,R,S,k⟩:=h
  refine(_,be (cp (fE ["order","prime"] ["row"] [Z] (eG<|bN v z O ce<|aj (ah 0)<|aj (ah 1) az) (λq C a b r=>cB (i:=0) (eI ["row"]) O<|ak O) (λq C a b r=>gE)
   (λq C a b r=>oM Ei (ah 0) oJ<|oH aV) (hfr:=lN δ) (te:=Nv K))),?_)
  refine(_,O,_,O,l,n,o,p,O,G,I,M,c,R,S,λD L H1 t T d ap hf=>?_);have u:=Gx d.b<|bc _;refine(D,O,(_,bx.B d.a),λX e=>fc<|aag (bx.B d.a) d.c ω e λH3 us s3 j m=>?_);exact k X us (hU L) H3 (t.B<|aQ.sf s3) (t.c e) j m d.b
end
abbrev AZ:bV:=de 33
section
variable{P:aU}{w:aO}{K:aH}{mg:al->Option aa}{base:aI}
def Ah(a:hV)(p:List Int):List Int:=(fn a p).getD 0::mD p
def xL(c:hV)(e d:Ξ):Prop:=d.Perm e/\d.Pairwise λa b=>co (Ah c b) (Ah c a)=ao
def WO{s:hV}{c:Ξ}{t:List V}{f:List (List Int×V)}(T:c.Nodup)(M:c.Pairwise λa b=>co (mD b) (mD a)=ao)(C:aW H t c)(D:f.Perm ((mf<|c.map λp=>(fn s p).getD 0).zip t))(hw:f.Pairwise λa b=>co b.1 a.1=ao):∃E,aW H (f.map (·.2)) E/\xL s c E:=by
 have w:=C.B;have k:∀q∈f,∃(i:Nat)(p:List Int),c[i]?=U p/\t[i]?=U q.2/\q.1=[(fn s p).getD 0,(i:Int)]:=λq m=>by
  obtain⟨i,e⟩:=jO.mp<|D.mem_iff.mp m;rw[lI,DG,cm] at e;cases d:c[i]? with
  |none=>rw[d] at e;simp at e
  |some p=>
   cases g:t[i]? with
   |none=>rw[d,g] at e;simp at e
   |some a=>
    rw[d,g] at e;simp only[nz,Dh,pF] at e;subst e;exact(i,p,d,g,O)
 have n:∀q∈f,∀(i:Nat)(p:List Int),c[i]?=U p->q.1=[(fn s p).getD 0,(i:Int)]->c.getD (q.1.getD 1 0).toNat []=p:=λq m i p d g=>by
  rw[g];show c.getD i []=p;rw[l_,d];rfl
 refine(f.map λq=>c.getD (q.1.getD 1 0).toNat [],?_,?_,?_)
 ·have:∀l:List (List Int×V),(∀q∈l,q∈f)->aW H (l.map (·.2)) (l.map λq=>c.getD (q.1.getD 1 0).toNat []):=by
   intro l
   induction l with
   |nil=>intro _;exact .nil
   |cons q l P=>
    intro h;have m:=h q dC;obtain⟨i,p,d,g,v⟩:=k q m;refine .cons ?_<|P λx Q=>h x<|d_ _ Q;show cG H q.2 (c.getD (q.1.getD 1 0).toNat []);rw[n q m i p d v];obtain⟨X,o,G⟩:=C.F g;rw[d] at o;obtain rfl:=ca o;exact G
  exact this f λq m=>m
 ·have R:=D.map λq:List Int×V=>c.getD (q.1.getD 1 0).toNat []
  refine R.trans<|List.Perm.of_eq ?_;apply Dv;intro i;rw[cm,lI,DG,cm];cases d:c[i]? with
  |none=>rfl
  |some p=>
   have u:i<t.length:=by rw[w];exact(cE.mp d).1
   rw[cw u];show U (c.getD i [])=U p;rw[l_,d];rfl
 ·rw[jN]
  refine hw.imp_of_mem λ{a b} I K h=>?_;obtain⟨i,p,d,g,v⟩:=k a I;obtain⟨j,r,o,G,L⟩:=k b K;rw[n a I i p d v,n b K j r o L];rw[v,L,ib] at h;unfold Ah;rw[ib]
  by_cases z:(fn s r).getD 0=(fn s p).getD 0
  ·rw[aB z] at h ⊢
   rw[ib] at h;have S:i<=j:=by
    by_cases y:(j:Int)=(i:Int)
    ·omega
    ·rw[au y] at h
     have:=mM h;omega
   rcases oh i j with l|l
   ·have u:=(cE.mp d)
    have A:=(cE.mp o);obtain⟨u,rfl⟩:=u;obtain⟨A,rfl⟩:=A;exact ul.mp M i j u A l
   ·have:i=j:=ω
    subst this;rw[d] at o;obtain rfl:=ca o;exact wy _
  ·rw[au z] at h ⊢
   exact h
def XY(s:iS H a)(h:bX H d (.c u)):bX a d (.c u):=by
 rcases h with h|⟨o,h⟩
 ·exact .inl<|s _ _ (λ_ e=>nomatch e) h
 ·exact .inr (o,s _ _ (λ_ e=>nomatch e) h)
abbrev Bu:bR:=(108,29,108,56)
abbrev Bq:al:=(("order_by":al)++".<locals>.")++"<lambda>"
structure ni(K:aH)(H:ac)(l d:V)(as:List V)(pss:Ξ)(cs:hV):Prop where
 hl:bx K H l (as.map af.c)
 b:aW H as pss
 hw:Ai pss
 a:(cW pss).length<=56
 hd:bX H d (.c<|iT cs)
 c:(cs.map (·.1)).Nodup
 z:cs.length<=57
def ni.B{H b:ac}{c:List V}{a:Ξ}{e:hV}(x:ni K H l d c a e)(s:aQ H b):ni K b l d c a e:=(s.W x.hl,s.J x.b,x.hw,x.a,x.hd.B s,x.c,x.z)
def GK{q r:List Int}(b:q∈cW a)(c:r∈cq q):r∈cW a:=by
 obtain⟨t,d,f⟩:=ki.mp<|qc.mp b;obtain⟨i,g⟩:=nu.mp f;obtain⟨j,k,h,rfl⟩:=vt.mp c;refine qc.mpr<|ki.mpr (t,d,nu.mpr (λz=>?_,((GV h O).1).trans g));have e:=gD aF z;rw[dz,eF,mK,nB] at e;omega
def OG(hw:gj a=ae):∀o∈cW a,o.length<=5:=λo c=>by
 obtain⟨_,b,_,_⟩:=qb hw;obtain⟨q,d,e⟩:=ki.mp<|qc.mp c;exact(nt.mp<|BK (b q d) e).2.1
inductive xl(K:aH)(Pt:V)(vs:List af)(H:ac)(Q:aL)(E':bK):Prop
 |a:∀l d as pss cs,(vs=[.c l,.c d])->(ni K H l d as pss cs)->(gX H Pt Bu Bq)->(nh (cW pss) cs)->(∀D H' bs os,gZ Pt Bu Bq H H'->H D=Z->H' D=U (.a<|bs.map af.c)->aW H' bs os->xL cs (cW pss) os->Q (.c D) H')->xl K Pt vs H Q E'
def AM:cQ ["web","worths","every"] ["web","worths"] (bB AZ):=(O,O,O,δ,O,δ,δ)
def YS{R:cr}(F:bF K "order_by" "order_by" AZ f R)(a3:eC mg)(S:R.code=.ref c)(hC:CF base c Pt)(T:oZ mg base)(Cp:bO P w K mg base aX "pieces" ["web"] 8 (xj K))(Ca:bO P w K mg base aX "are_worths" ["every","worths"] 3 (AH K)):bD P w K mg base aX 9 f R ["web","worths"] (xl K Pt):=by
 refine F.N S AM (λvs H Q E h=>?_) (λA X s H vs Q E t h=>?_)
 ·obtain⟨l,d,as,g,M,rfl,_⟩:=h;rfl
 ·obtain⟨l,d,as,g,M,rfl,a4,tb,hg,k⟩:=h
  have hu:=jb t;refine(_,aY (cJ (i:=2) AM.a O (ak O)<|bN Cp t O ce<|aj (ah 0) az)
   (aY (dh (mR<|oF<|bN Ca t O ce<|aj (ah 2)<|aj (ah 1) az) lL dq)
   (be (cp (UF (k:=6) (iy:=1) (x:="piece") (y:="worths") (te:=pN (bz 1)<|bz 0) t O a3.d vp hC O T O O O O (O,O,O,O,O,δ,LL) (λ_ _ _ _ _ _=>O)
    (λs H f a1 c'=>jS (jb<|(eJ.B<|eJ.B t).J _) (ah 1) (ah 0) (λ_ _=>O))<|aj (ah 2) az)))),?_)
  refine(_,O,l,as,g,O,a4.hl,a4.b,a4.hw,λL H1 ks u hL v z=>?_);have kl:=z.B;have a2:=a4.a;refine(_,O,_,O,L,d,ks,cW g,M,O,bx.B v,z,tD g,a4.a,OG a4.hw.1,(λp C r a0=>GK C a0),a4.hd.B u,a4.c,a4.z,λb H2 hb o=>(_,O,?_));obtain rfl:b=ae:=hb.mpr hg;refine cZ (_,O,L,ks,(cW g).map λp=>(fn M p).getD 0,.c d,O,bx.B<|o _ _ v,?_,by rw[aA];omega,ω,O,tb.B<|u.F o,λH3 q j a n ea en=>?_,λD H3 qs q G I hD C hw=>?_)
  ·exact TB z<|tD g
  ·obtain⟨p,ep,C⟩:=z.F ea
   rw[cm,ep] at en;obtain rfl:=ca en;obtain⟨m,hm⟩:=E_<|hg.1.mem_iff.mpr<|dy ep;refine(_,O,_,O,d,.d m,O,?_,?_,O)
   ·have:=By (k:=p.map bd) (b:=a) (XY q<|a4.hd.B<|u.F o) (by rw[bY];exact q _ _ (λ_ e=>nomatch e)<|o _ _ C)
    rwa [Ag,hm] at this
   ·show af.d m=af.d ((fn M p).getD 0)
    rw[hm];rfl
  ·have t3:aW H3 ks (cW g):=iS.J q<|o.J z
   obtain⟨os,to,ho⟩:=WO (tD g) ((G_ g).imp λh=>tE.mp h) t3 C hw;refine k D _ (qs.map (·.2)) os ((aQ.sf<|u.F o).B<|(gZ.W q G I).B<|aQ.sf<|aQ.B hD) ((u.F o).A2<|iS.F q G I hD) (by rw[bY];exact aD) ((aQ.B hD).J to) ho
end
section
variable{prog:aU}{w:aO}{A:bg}{E:Ω}{s:ai}{good:aI->Prop}{us vs:List aa}{ls:Ξ}
def JR(h:aI)(u:aa)(l:List Int):Prop:=∃(a:V)(b:List aa),u=.ref a/\jL h a b.toArray/\fU b l/\l≠[]
def JR.B{l m:List Int}(d:JR h u l)(f:JR h u m):l=m:=by
 obtain⟨a,c,rfl,g,i,_⟩:=d;obtain⟨p,b,e,j,k,_⟩:=f;cases e;have n:=za g j;have o:c=b:=by simpa using n
 subst o;exact JS i k
end
section
variable{X:aK}{pins:Ψ}{σ:aM}{H:ac}{s:ai}
def zj{x:af}{d:List af}{e:List aa}(h:bW (x::d) e):∃u c,e=u::c/\cb x u/\bW d c:=by
 cases h with
 |cons a b=>exact(_,_,O,a,b)
end
section
variable{prog:aU}{w:aO}{A:bg}{E:Ω}{s:ai}{good:aI->Prop}{us vs:List aa}{ls:Ξ}
def DI{n a:Int}{t c:ga}{i:Nat}(h:if n=a then yl prog w A ae fin Q r (i+1) s else Q (aG<|n<a) s):yl prog w A ae fin Q ((adc (.int n t) (.int a c))::r) i s:=by
 refine HV<|ic (If n t a c prog w (λ_ _=>False) _ (O,O):am (aE prog w) A (eqBool (.int n t)<|.int a c) (λe d=>e=(n==a)/\d=s) (λ_ _=>False) s) (λg j f=>?_) λ_ _ z=>z;obtain⟨rfl,rfl⟩:=f
 by_cases b:n=a
 ·rw[aB b] at h
  rw[show(n==a)=ae by simpa using b];exact HS h
 ·rw[au b] at h
  rw[show(n==a)=ao by simpa using b];refine HU ?_;cases k:(ae&&i==0) with
  |true=>exact oneLt_int h
  |false=>exact kat_one _ _<|Rg h
def Sg{b a:Bool}(h:if b=a then yl prog w A ae fin Q r 3 s else Q (aG<|b2i b<b2i a) s):yl prog w A ae fin Q ((adc (.bool b) (.bool a))::r) 2 s:=by
 refine HV<|ic (aeh b a prog w (λ_ _=>False) _ (O,O):am (aE prog w) A (eqBool (.bool b)<|.bool a) (λe d=>e=(b==a)/\d=s) (λ_ _=>False) s) (λi f g=>?_) λ_ _ z=>z;obtain⟨rfl,rfl⟩:=g
 by_cases c:b=a
 ·rw[aB c] at h
  rw[show(b==a)=ae by simpa using c];exact HS h
 ·rw[au c] at h
  rw[show(b==a)=ao by simpa using c];refine HU ?_;show am (aE prog w) A (oneLt' ao (.bool b)<|.bool a) Q (λ_ _=>False) f;exact kat_one _ _<|lt_bool h
def su(h:aI)(u:aa)(l:List Int):Prop:=∃(a:V)(n c d:Int)(b:Bool)(t e f:ga),u=.ref a/\l=[n,c,b2i b,d]/\jL h a #[.int n t,.int c e,.bool b,.int d f]
def Si(h:b2i b=b2i a):b=a:=by cases b<;>cases a<;>first|rfl|cases h
def Sd{l m:List Int}{Q:Bool->ai->Prop}(G:su s.heap x l)(H:su s.heap y m)(c:Q (co l m) s):am (aE prog w) A (Dg (IF ae) x y) Q E s:=by
 obtain⟨a,n,p,q,b,t,I,K,rfl,rfl,o,e,S,k,d⟩:=G;obtain⟨T,r,f,g,u,L,i,j,rfl,rfl,X,M,P,k',R⟩:=H;refine kat_lt e d M R ?_;show yl prog w A ae (aG<|4<4) Q [(adc (.int n t) (.int r L)),(adc (.int p I) (.int f i)),(adc (.bool b) (.bool u)),(adc (.int q K) (.int g j))] 0 s;rw[ib] at c;refine DI ?_
 by_cases v:n=r
 ·rw[aB v] at c ⊢
  rw[ib] at c;refine DI ?_
  by_cases C:p=f
  ·rw[aB C] at c ⊢
   rw[ib] at c;refine Sg ?_
   by_cases h:b=u
   ·rw[aB h]
    rw[aB (by rw[h]),ib] at c;refine DI ?_
    by_cases D:q=g
    ·rw[aB D] at c ⊢
     exact kat_nil c
    ·rw[au D] at c ⊢
     exact c
   ·rw[au h]
    rw[au (λz=>h<|Si z)] at c;exact c
  ·rw[au C] at c ⊢
   exact c
 ·rw[au v] at c ⊢
  exact c
def JL:∀{us:List aa}{ls:Ξ},us.length=ls.length->(∀(i:Nat) u l,us[i]?=U u->ls[i]?=U l->su h u l)->∃c,KatTups h us c/\c.length=us.length/\∀f∈c,∃n t,f=aJ n t
 |[],[],_,_=>([],.nil,O,λf g=>nomatch g)
 |u::us,l::ls,m,j=>by
  obtain⟨c,p,q,r⟩:=JL (us:=us) (ls:=ls) (by simpa using m) λi u l s v=>j (i+1) u l (by simpa using s) (by simpa using v);obtain⟨a,n,x,y,b,t,z,A,rfl,rfl,o,e,w,k,d⟩:=j 0 u l O O;refine(.int n t::c,.cons e w d O p,by simp[q],λf g=>?_);rcases ci.mp g with rfl|g
  ·exact(n,t,O)
  ·exact r f g
 |[],_::_,h,_=>by simp at h
 |_::_,[],h,_=>by simp at h
def su.B{l m:List Int}(c:su h u l)(d:su h u m):l=m:=by
 obtain⟨a,n,o,p,b,t,r,s,rfl,rfl,q⟩:=c;obtain⟨v,w,f,g,x,y,i,j,e,rfl,k⟩:=d;cases e;cases za q k
 rfl
def Sh(o:us.length=ls.length)(q:∃h,good h)(a:∀h,good h->∀(i:Nat) u l,us[i]?=U u->ls[i]?=U l->su h u l):oC prog w A good us ls:=by
 refine(o,λi j u l m d b e g=>?_,λb=>(IF ae,λs Q E c k=>?_,λi j u v l m d b e g s Q E c k=>?_))
 ·obtain⟨h,p⟩:=q
  exact(a h p i u l d e).B<|a h p j u m b g
 ·obtain⟨z,r,C,x⟩:=JL o<|a _ c
  refine kat_kind (T:=.type "int") r ω (λf y=>?_) ξ k;obtain⟨n,t,rfl⟩:=x f y;exact ad8 O
 ·exact Sd (a _ c i u l d e) (a _ c j v m b g) k
end
def Kw(l:List Int):List af:=[.d<|l.getD 0 0,.d<|l.getD 1 0,if l.getD 2 0=1 then .g else .d (l.getD 3 0)]
def LD(l:List Int):Prop:=∃n c a b,l=[n,c,b2i b,a]/\(b=ae->a=0)
def mu(H:ac)(a:V)(l:List Int):Prop:=LD l/\H a=U (.b<|Kw l)
def LP(l:List Int):List af:=[.d<|l.getD 0 0,.d<|l.getD 1 0,.e<|aG<|l.getD 2 0=1,.d<|l.getD 3 0]
abbrev Eh:ia:=KJ mu λ_ l=>LP l
section
variable{X:aK}{a:bf}{ta:ff}{p p2 pos kpos:bR}{k:Nat}{f:V}{fd:cr}{x y:al}
def TH(K:aH)(ta:ff):bb:=λh H Q=>ta h H λi d=>∃(l:V)(e:List V)(c:Ξ),i=[.c l]/\bx K d l (e.map af.c)/\dA (mu d) e c/\c.length<64/\
 ∀D f(g:List (List Int×V)),aQ d f->d D=Z->f D=U (.a<|g.map λq=>af.c q.2)->g.Perm (c.zip e)->g.Pairwise (λa b=>co b.1 a.1=ao)->Q (.c D) f
def UE(F:bD X.prog X.w X.K X.mg X.base aX k f fd [x] Eh)(P:eJ (k+2) X.A)(R:eT X.K fd [x] [])(S:iH X "sorted")(T:X.mg "sorted"=Z)(hv:ig "sorted"=U (.builtin "sorted"))(j:iH X y)(m:X.mg y=U (.ref f))(ha:je X [a] ta)(o:(y==("__debug__":al))=ao:=by decide)(z:eM [a] X.env=[(adc ao (dO a X.env))]:=by rfl):bA X (.Call (.Name "sorted" p) [a] [(U "key",.Name y p2,kpos)] pos) (TH X.K ta):=by
 intro g s A H Q I h;refine tO<|oQ I S T hv ?_;refine IT ?_ (by rw[z];rfl) (by rw[z];rfl) O O;refine bI (ha pos g s A H _ I h) λus s1 (vs,H1,C,r,q1)=>?_;obtain⟨l,as,a0,rfl,hl,ht,v,q⟩:=q1;obtain⟨u,rfl,ru⟩:=gU r;cases ru;refine IL<|uO C j m (IK ?_) o;show am (aE X.prog X.w) X.A (gv (.builtin "sorted") [.ref l] [(adc (iu "key") (.ref f))]) _ _ s1;refine KL (At:=mu) (Kf:=λ_ l=>LP l) (Is:=su) (rk:=id) (un:=id) (λs h=>(h.1,s _ _ h.2)) (λ_=>O) (λ{g A H s p a ps} I h e=>?_) (λ_ _ _ _ a _ c d=>Sh a c d) F P R C hl ht v λD E qs s' I' sm hD w hp hs=>(.c D,E,I',O,q D E qs sm hD w hp hs);obtain⟨⟨n,G,L,b,rfl,_⟩,_⟩:=h;obtain⟨a1,r,p1,_⟩:=I.J<|fm.B (K:=X.K) e;obtain⟨i,a2,rfl,⟨t,rfl⟩,ra⟩:=zj r;obtain⟨i,a3,rfl,⟨t2,rfl⟩,rb⟩:=zj ra;obtain⟨i,a4,rfl,M,rc⟩:=zj rb;obtain⟨i,a5,rfl,⟨t4,rfl⟩,rd⟩:=zj rc;cases rd;obtain rfl:i=.bool b:=by
  have:(aG<|([n,G,b2i b,L]:List Int).getD 2 0=1)=b:=by cases b<;>rfl
  rw[this] at M;cases M;rfl
 exact(p,n,G,L,b,t,t2,t4,O,O,p1)
end
abbrev Bj:bV:=de 55
abbrev Bh:bV:=de 54
structure mC(PO PY:V)(H:ac):Prop where
 a:PO≠PY
 o:gX H PO Bu Bq
 y:rB PY H
structure dX(PO PY:V)(H H':ac):Prop where
 c:∀b o,w_ o->H b=U o->H' b=U o
 a:∀{b kvs},bX H b (.c kvs)->bX H' b (.c kvs)
 d:∀{b},H' b=Z->H b=Z
 tab:mC PO PY H->mC PO PY H'
section
variable{PO PY:V}{H H' H1 H2:ac}{a b d l:V}
def dX.F(x:dX PO PY H H1)(y:dX PO PY H1 H2):dX PO PY H H2:=(λb o n h=>y.c b o n<|x.c b o n h,λh=>y.a<|x.a h,λh=>x.d<|y.d h,λh=>y.tab<|x.tab h)
def dX.A1(x:gZ PO Bu Bq H H'):dX PO PY H H':=(x.d,x.a,x.c,λt=>(t.a,x.tab t.o,x.A2 (dB t.a) t.y))
def dX.W(x:hW PY H H'):dX PO PY H H':=(x.d,x.a,x.c,λt=>(t.a,x.A2 t.a t.o,x.tab t.y))
def dX.B(s:aQ H H'):dX PO PY H H':=.A1<|aQ.sf s
def dX.J(x:dX PO PY H H'){b:List af}(h:H a=U (.a b)):H' a=U (.a b):=x.c _ _ Ls h
def dX.A3(x:dX PO PY H H'){b:List af}(h:H a=U (.b b)):H' a=U (.b b):=x.c _ _ Lr h
def dX.N(x:dX PO PY H H'){b:List V}{a:Ξ}(h:aW H b a):aW H' b a:=il h λ_ _ q=>x.A3 q
def dX.A2{K:aH}(x:dX PO PY H H'){a:List af}(h:bx K H l a):bx K H' l a:=by
 rcases h with (z|⟨o,z⟩)|z
 ·exact .inl<|.inl<|x.J z
 ·exact .inl<|.inr (o,x.c _ _ ((λ_ z=>nomatch z),(λ_ z=>nomatch z),(λ_ _ z=>nomatch z)) z)
 ·exact .inr z
def dX.A0(x:dX PO PY H H1)(i:H a=Z)(h:H1 a=U (.a f)):dX PO PY H (av H1 a<|.a g):=by
 have d:∀{b:V}{u:cP},H b=U u->b≠a:=λe=>dH e i;refine(λb u n e=>by rw[a_<|d e];exact x.c b u n e,λ{b k} e=>?_,λ{b} e=>?_,λt=>?_)
 ·obtain⟨u,j⟩:=sz e
  unfold bX;rw[a_<|d j];exact x.a e
 ·by_cases z:b=a
  ·subst z;rw[aD] at e;cases e
  ·rw[a_ z] at e;exact x.d e
 ·have c:=x.tab t
  exact(c.a,c.o.F h (λ_ z=>nomatch z) (λ_ _ z=>nomatch z),c.y.F h (λ_ z=>nomatch z) (λ_ _ z=>nomatch z))
end
def gg(a:hV)(b:Ξ)(i:Nat):Int:=(fn a<|b.getD i []).getD 0
def rq(a:hV)(b:Ξ)(x:f_):List Int:=match x.d with
 |none=>[x.a,gg a b x.b,1,0]
 |some e=>[x.a,gg a b x.b,0,gg a b e]
def pe(a:hV)(b:Ξ)(x:f_):Bool:=match x.d with
 |none=>ae
 |some e=>!aG (gg a b x.b=gg a b e)
def nO(a:hV)(b:Ξ)(c:List f_):Ξ:=(c.filter<|pe a b).map<|rq a b
def Yc(a:hV)(b:Ξ)(x:f_):LD (rq a b x):=by
 unfold rq;split
 ·exact(_,_,0,ae,O,λ_=>O)
 ·exact(_,_,_,ao,O,λz=>nomatch z)
def aab(d:hV)(f:Ξ)(p:Int)(l:Ξ):Prop:=∃c e,xL d f c/\j_ p c c.length e/\l.Perm (nO d c e)/\l.Pairwise λa b=>co b a=ao
def NX{a k:Ξ}(hw:gj a=ae)(s:nh (cW a) c)(h:xL c (cW a) k):dU k:=by
 obtain⟨_,l,_,_⟩:=qb hw;have t:k.Nodup:=h.1.nodup_iff.mpr<|tD a;intro i p o;have m:=h.1.mem_iff.mp<|dy o;obtain⟨u,n⟩:=cE.mp o;refine rE.mpr (?_,λz=>?_,λr d=>?_)
 ·obtain⟨q,v,w⟩:=ki.mp<|qc.mp m
  exact BK (l q v) w
 ·obtain⟨j,f,x⟩:=ag7.mp z
  have:=(ahc t).mp<|x.trans n.symm;omega
 ·obtain⟨j,y⟩:=jO.mp<|h.1.mem_iff.mpr<|GK m d
  obtain⟨f,b⟩:=cE.mp y;have A:(fn c r).getD 0<=(fn c p).getD 0:=s.2 p m r d;have C:r.length<p.length:=by
   unfold cq at d;split at d
   ·cases d
   ·obtain⟨j,f,rfl⟩:=bq.mp d
    have:=h_.mp f;rw[dz,eF,mK];omega
  refine ag7.mpr (j,?_,b);rcases Dj j i with g|g|g
  ·omega
  ·subst g
   rw[n] at b;subst b;omega
  ·have:=ul.mp h.2 i j u f g
   rw[n,b] at this;unfold Ah mD at this;rw[ib] at this
   by_cases e:(fn c r).getD 0=(fn c p).getD 0
   ·rw[aB e,ib,au ω] at this
    have:=mM this;omega
   ·rw[au e] at this
    have:=mM this;omega
section
variable{P:aU}{w:aO}{K:aH}{mg:al->Option aa}{base:aI}{f:V}{fd:cr}{PO PY:V}
def XJ:cQ ["bar"] ["bar"] (bB Bj):=(O,O,O,δ,O,δ,δ)
def Zu(F:bF K "bar_key" "bar_key" Bj f fd):bD P w K mg base aX 1 f fd ["bar"] Eh:=by
 refine F.B XJ (λg H Q E h=>?_) (λi A d s H g Q E m h=>?_)
 ·obtain⟨a,j,rfl,_⟩:=h;rfl
 ·obtain⟨a,j,rfl,⟨⟨n,o,q,b,rfl,l⟩,c⟩,k⟩:=h
  refine(_,be (cp (ij (aj (dG gF (ah 0) aV (λ_ _=>O)) (aj (dG gF (ah 0) aV (λ_ _=>O)) (aj (wG wH (dG gF (ah 0) aV (λ_ _=>O)) qL<|cN _)
  <|aj (Ex (cV wH (dG gF (ah 0) aV (λ_ _=>O)) qL<|cN _) aV<|dG gF (ah 0) aV (λ_ _=>O)) az))))),?_)
  refine(_,O,a,_,0,_,O,O,fm.B c,O,_,O,a,_,1,_,O,O,fm.B c,O,_,O,a,_,2,_,O,O,fm.B c,O,O,_,O,a,_,2,_,O,O,fm.B c,O,O,_,O,?_);cases b with
  |true=>
   obtain rfl:=l O;exact dI (cg O,λp e=>k p e)
  |false=>
   exact cZ (_,O,a,_,2,_,O,O,fm.B c,O,cg O,λp e=>k p e)
abbrev ZF:List al:=["web","worths","prime","order","told","bar","born","dead"]
def pa:cQ ZF ["web","worths","prime"] (bB Bh):=(O,O,O,δ,O,δ,δ)
inductive FO(K:aH)(PO PY:V)(vs:List af)(H:ac)(Q:aL)(E':bK):Prop
 |a:∀l d as pss cs p,(vs=[.c l,.c d,.d p])->(ni K H l d as pss cs)->(mC PO PY H)->(nh (cW pss) cs)->(gM p)->(∀D H' us L,dX PO PY H H'->H D=Z->H' D=U (.a<|us.map af.c)->dA (mu H') us L->aab cs (cW pss) p L->Q (.c D) H')->FO K PO PY vs H Q E'
def Yb(h:mu H a l)(s:aQ H b):mu b a l:=(h.1,s _ _ h.2)
def NP(h:dA (mu H) b L)(s:aQ H a):dA (mu a) b L:=il h λ_ _ q=>Yb q s
def Ya(h:dA (mu H) a L)(d:H b=U (.a c)):dA (mu<|av H b o) a L:=
 il h λ_ _ q=>(q.1,by rw[a_<|fL q.2 d (by intro z;cases z)];exact q.2)
def Ng{a:hV}{g f:Ξ}(o:(a.map (·.1)).Perm g)(p:xL a g f)(r:bX H d (.c<|iT a))(h:aW H c f){i:Nat}(t:i<f.length):∃b,lP (c.map af.c) (i:Int)=U (.c b)/\hJ H d (.c b) (U<|.d<|gg a f i):=by
 have u:=h.B;have j:c[i]?=U c[i]:=cw ω;obtain⟨q,l,s⟩:=h.F j;refine(c[i],kW (by rw[cm,j];rfl),?_);obtain⟨m,n⟩:=E_<|o.mem_iff.mpr<|p.1.mem_iff.mp<|dy l;have:=By (k:=q.map bd) (b:=c[i]) r (by rw[bY];exact s);rw[Ag,n] at this;have e:gg a f i=m:=by unfold gg;rw[l_,l];show(fn a q).getD 0=m;rw[n];rfl
 rw[e];exact this
def Zw(F:bF K "bars_by" "bars_by" Bh f fd)(d1:eC mg)(Co:bO P w K mg base aX "order_by" ["web","worths"] 9 (xl K PO))(Cb:bO P w K mg base aX "bars" ["order","prime"] 7 (xo K PY))(Fk:bF K "bar_key" "bar_key" Bj fk a0)(bk:eT K a0 ["bar"] [])(mk:mg "bar_key"=U (.ref fk))(Gk:bD P w K mg base aX 1 fk a0 ["bar"] Eh):bD P w K mg base aX 10 f fd ["web","worths","prime"] (FO K PO PY):=by
 refine F.B pa (λvs H Q E h=>?_) (λc9 A b4 s H vs Q E hr h=>?_)
 ·obtain⟨l,d,as,a4,g,p,rfl,_⟩:=h;rfl
 ·obtain⟨l,d,as,a4,g,p,rfl,d2,tt,hg,hp,k⟩:=h
  have hu:=jb hr;have b5:eJ (1+2) _:=hr.F ξ;refine(_,aY (cJ (i:=3) pa.a O (ak O)<|bN Co hr O ce<|aj (ah 0)<|aj (ah 1) az)
   (aY (cJ (i:=4) pa.a O (ak O)<|eR az)
   (aY (iF iL O (eG<|bN Cb hr O ce<|aj (ah 3)<|aj (ah 2) az) (cB (i:=5) pa.a O<|ak O)
    (aY (cJ (i:=6) pa.a O (ak O)<|jS hu (ah 1) (dG jr (ah 3) (dG gF (ah 5) aV (λ_ _=>O)) (λ_ _=>O)) (λ_ _=>O))
    (aY (cJ (i:=7) pa.a O (ak O)<|Ex (cV wH (dG gF (ah 5) aV (λ_ _=>O)) qL<|cN _) qL<|jS hu (ah 1) (dG jr (ah 3) (dG gF (ah 5) aV (λ_ _=>O)) (λ_ _=>O)) (λ_ _=>O))
   <|be<|dh (cV qO (ah 6) (ah 7)<|cN _) (be<|eW<|oO rR CR Ip wI (ah 4)<|aj (ij<|aj (dG gF (ah 5) aV (λ_ _=>O))<|aj (ah 6)<|aj (ah 7) az) az) dq)))
  <|be<|cp<|UE Gk b5 bk O d1.d vp O mk<|aj (ah 4) az)),?_)
  refine(_,O,_,O,l,d,as,a4,g,O,d2,tt.o,hg,λd3 H1 bs c f1 d0 a1 a5 ow=>?_);have z1:dX PO PY H H1:=.A1 f1;have op:=NX d2.hw.1 hg ow;have ol:c.length<=56:=by rw[ow.1.length_eq];exact d2.a
  refine(cg O,λT hT=>?_);have s2:=aQ.B (o:=.a []) hT;have z2:=z1.F<|.B s2;have b6:H T=Z:=z1.d hT;refine(_,O,_,O,d3,bs,c,p,O,bx.B<|s2 _ _ a1,s2.J a5,op,ω,hp,(z2.tab tt).y,λB3 us m H3 f3 a2 a6 a7 pp=>?_);have z3:=z2.F<|.W f3;have b7:H3 d3=U (.a<|bs.map af.c):=f3.J<|s2 _ _ a1;have b8:aW H3 bs c:=f3.A4<|s2.J a5;have b9:H3 T=U (.a []):=f3.J aD;have lu:us.length=m.length:=by rw[hZ a7,aA]
  have lx:m.length<=56:=by
   have nd:(m.map (·.b)).Nodup:=pp.a.imp λh=>ω
   have:=nd.length_le_of_subset (l₂:=dk c.length) λb hb=>by
    obtain⟨x,hx,rfl⟩:=bq.mp hb;exact h_.mpr (tu pp hx).a
   rw[aA,lZ] at this;omega
  have c0:B3≠T:=λe=>by rw[e] at a2;rw[aD] at a2;cases a2
  have c1:d3≠T:=dH a1 hT;refine(B3,O,(_,bx.B a6),mm (K:=K) (a:=B3) (xs:=us.map af.c) (λi σ j=>∃(v5 v6 v7:Option af)(C:List V),σ=[U<|.c l,U<|.c d,U<|.d p,U<|.c d3,U<|.c T,v5,v6,v7]/\dX PO PY H j/\j B3=U (.a<|us.map af.c)/\dA (λu x=>j u=U (.b x)) us (m.map ip)/\j d3=U (.a<|bs.map af.c)/\aW j bs c/\j T=U (.a<|C.map af.c)/\dA (mu j) C (nO g c<|m.take i))
   (Z,Z,Z,[],O,z3,a6,a7,b7,b8,b9,.nil) (λi σ j _ (_,_,_,_,_,_,h,_)=>bx.B h) ?_ ?_)
  ·rintro i x σ j hx ⟨v5,v6,v7,C,rfl,z4,a3,X,M,R,n,v⟩
   obtain⟨u,eu,rfl⟩:=fY hx;obtain⟨y,ey,hy⟩:=Ew X eu;rw[cm] at ey;obtain⟨r,er,rfl⟩:=pG.mp ey;have a8:=tu pp<|dy er;have a9:=z4.a d2.hd;obtain⟨b1,c2,g1⟩:=Ng hg.1 ow a9 R (i:=r.b) a8.a;have hi:i<m.length:=(cE.mp er).1;have tl:C.length<=56:=by
    rw[hZ v];unfold nO;rw[aA];have:=qw (pe g c)<|m.take i;rw[eF] at this;omega
   have I:nO g c (m.take<|i+1)=nO g c (m.take i)++if pe g c r=ae then [rq g c r] else []:=by
    rw[di er];unfold nO;rw[kj,cv,yS,qy];split<;>rfl
   refine(_,O,_,O,_,O,u,_,1,_,O,O,fm.B hy,O,d3,_,_,_,O,O,bx.B M,c2,d,_,O,g1,?_);have b0:∀{G:af},Kw (rq g c r)=[.d r.a,.d<|gg g c r.b,G]->∀t,j t=Z->∃v5 v6 v7 b3,[U<|af.c l,U<|.c d,U<|.d p,U<|.c d3,U<|.c T,U<|.c u,U<|.d<|gg g c r.b,U G]=[U<|.c l,U<|.c d,U<|.d p,U<|.c d3,U<|.c T,v5,v6,v7]/\dX PO PY H (av (av j t<|.b [.d r.a,.d<|gg g c r.b,G]) T<|.a<|C.map af.c++[.c t])/\
     av (av j t<|.b [.d r.a,.d<|gg g c r.b,G]) T (.a<|C.map af.c++[.c t]) B3=U (.a<|us.map af.c)/\dA (λu x=>av (av j t<|.b [.d r.a,.d<|gg g c r.b,G]) T (.a<|C.map af.c++[.c t]) u=U (.b x)) us (m.map ip)/\av (av j t<|.b [.d r.a,.d<|gg g c r.b,G]) T (.a<|C.map af.c++[.c t]) d3=U (.a<|bs.map af.c)/\
     aW (av (av j t<|.b [.d r.a,.d<|gg g c r.b,G]) T<|.a<|C.map af.c++[.c t]) bs c/\av (av j t<|.b [.d r.a,.d<|gg g c r.b,G]) T (.a<|C.map af.c++[.c t]) T=U (.a<|b3.map af.c)/\dA (mu<|av (av j t<|.b [.d r.a,.d<|gg g c r.b,G]) T<|.a<|C.map af.c++[.c t]) b3 (nO g c (m.take i)++[rq g c r]):=λ{G} ev t ht=>by
    have L:=aQ.B (o:=.b [.d r.a,.d<|gg g c r.b,G]) ht;have S:=L _ _ n;have e5:av j t (.b [.d r.a,.d<|gg g c r.b,G]) t=U (.b [.d r.a,.d<|gg g c r.b,G]):=aD;generalize av j t (.b [.d r.a,.d<|gg g c r.b,G])=H5 at L S e5;refine(_,_,_,C++[t],O,(z4.F<|.B L).A0 b6 S,by rw[a_ c0];exact L _ _ a3,il X λa x e=>by rw[a_<|fL (L _ _ e) S (by intro z;cases z)];exact L _ _ e,by rw[a_ c1];exact L _ _ M,kD (L.J R) S (by intro m z;cases z),by rw[aD,cv];rfl,?_);exact Ya (tX (NP v L) (Yc _ _ _,by rw[ev];exact e5)) S
   cases hd:r.d with
   |none=>
    have e3:ip r=[.d r.a,.d r.b,.g]:=by unfold ip;rw[hd]
    have ek:pe g c r=ae:=by unfold pe;rw[hd]
    rw[e3] at hy;rw[ek,aB O] at I;refine(_,O,u,_,2,.g,O,O,fm.B hy,O,O,_,O,dI (_,O,_,O,O,_,O,dI (_,O,.inl (O,_,bx.B n),_,O,u,_,0,_,O,O,fm.B hy,O,_,O,_,O,cg O,λt ht=>(T,_,_,O,O,aQ.B ht _ _ n,by rw[aA];exact li ω,?_))));rw[I];exact b0 (by unfold rq;rw[hd];rfl) t ht
   |some e=>
    have e3:ip r=[.d r.a,.d r.b,.d e]:=by unfold ip;rw[hd]
    rw[e3] at hy;have c3:e<c.length:=(a8.b e hd).1;obtain⟨b2,c4,g2⟩:=Ng hg.1 ow a9 R (i:=e) c3;refine(_,O,u,_,2,.d e,O,O,fm.B hy,O,O,_,O,cZ (_,O,_,O,_,O,u,_,2,_,O,O,fm.B hy,O,d3,_,_,_,O,O,bx.B M,c4,d,_,O,g2,_,O,_,O,O,_,O,?_))
    by_cases ew:gg g c r.b=gg g c e
    ·rw[show(!aG (af.d (gg g c r.b)=af.d (gg g c e)))=ao by rw[ew,bZ O];rfl]
     rw[show pe g c r=ao by unfold pe;rw[hd];simp[ew],au eP,lG] at I;refine cZ (_,_,_,C,O,z4,a3,X,M,R,n,?_);rw[I];exact v
    ·rw[show(!aG (af.d (gg g c r.b)=af.d (gg g c e)))=ae by rw[cf (λz=>ew (by injection z))];rfl]
     rw[show pe g c r=ae by unfold pe;rw[hd];simp[ew],aB O] at I;refine dI (_,O,.inl (O,_,bx.B n),_,O,u,_,0,_,O,O,fm.B hy,O,_,O,_,O,cg O,λt ht=>(T,_,_,O,O,aQ.B ht _ _ n,by rw[aA];exact li ω,?_));rw[I];exact b0 (by unfold rq;rw[hd];rfl) t ht
  ·rintro σ j ⟨v5,v6,v7,C,rfl,z4,a3,X,M,R,n,v⟩
   rw[aA,lu,agx] at v;have tl:(nO g c m).length<=56:=by
    unfold nO;rw[aA];have:=qw (pe g c) m;omega
   refine(_,O,T,C,nO g c m,O,bx.B n,v,ω,λD H5 qs L c5 c6 pm so=>?_);have c7:(qs.map (·.1)).Perm (nO g c m):=by
    have:=pm.map (·.1)
    rwa [yL (by rw[hZ v];exact bc _)] at this
   refine k D H5 (qs.map (·.2)) (qs.map (·.1)) (z4.F<|.B L) (z4.d c5) (by rw[bY];exact c6) ?_ (c,m,ow,pp,c7,by rw[jN];exact so);have c8:=NP v L;have:∀l:List (List Int×V),(∀q∈l,q∈qs)->dA (mu H5) (l.map (·.2)) (l.map (·.1)):=by
    intro l
    induction l with
    |nil=>intro _;exact .nil
    |cons q l ih=>
     intro h;refine .cons ?_<|ih λx hx=>h x<|d_ _ hx;obtain⟨i,e⟩:=jO.mp<|pm.mem_iff.mp<|h q dC;obtain⟨e1,e2⟩:=wc.mp e;exact qM c8 i _ _ e2 e1
   exact this qs λq hq=>hq
end
abbrev AS:bV:=de 68
inductive Ns(C:V)(i:Nat)(b:Bool)(σ:aM)(H:ac)(Q:aL):Prop
 |a:∀x,(σ[i]?=U (U<|.c x))->(H x=U (sN x C))->(Q (.e b) H)->Ns C i b σ H Q
section
variable{X:aK}
def vl{n d:al}{i:Nat}{o m p g:bR}(r:qU X.K C)(y:lq X.K (.ref C) (.ref f)=U b)(t:X.mg "isinstance"=Z)(w:X.mg d=U (.ref f))(j:iH X "isinstance")(k:iH X d)(z:bA X (.Name n m) (bz i))(l:(d==("__debug__":al))=ao:=by decide):bA X (.Call (.Name "isinstance" o) [.Name n m,.Name d p] [] g) (Ns C i b):=by
 intro a s A H Q I h;obtain⟨x,e,D,q⟩:=h;refine(show bA X _ _ from eH (ME (c:=.c f) (λu h=>h) r y) j t OK (aj z<|aj (oN (v:=.c f) k w O (hd:=l)) az)) a s A H Q I ?_;exact(_,e,x,O,D,q)
end
structure rC(K:aH)(C f0 f1 f2 f3 f4 f5:V)(b0 b1 b2:Bool):Prop where
 a:qU K C
 g:lq K (.ref C) (.ref f0)=U b0
 f:lq K (.ref C) (.ref f1)=U ao
 b:lq K (.ref C) (.ref f2)=U ao
 c:lq K (.ref C) (.ref f3)=U b1
 d:lq K (.ref C) (.ref f4)=U b2
 h:lq K (.ref C) (.ref f5)=U ao
 e:lq K (.ref C) (.type "ValueError")=U ae
section
variable{P:aU}{w:aO}{K:aH}{mg:al->Option aa}{base:aI}
inductive Av(fW fO fN:V)(vs:List af)(H:ac)(Q:aL)(E':bK):Prop
 |a:∀x C st,(vs=[.c x])->(H x=U (sN x C))->(((C=fW/\st="web")\/(C=fO/\st="order")\/(C=fN/\st="number")))->(∀H',aQ H H'->Q (.f st) H')->Av fW fO fN vs H Q E'
def FR:cQ ["e","marks"] ["e"] (bB AS):=(O,O,O,δ,O,δ,δ)
def YB{f q I L r t R:V}(F:bF K "_law_which" "_law_which" AS f fd)(y:mg "isinstance"=Z)(bv:mg "ValueError"=Z)(m0:mg "NoWeb"=U (.ref q))(m1:mg "NoPiece"=U (.ref I))(m2:mg "NoPush"=U (.ref L))(m3:mg "NoOrder"=U (.ref r))(m4:mg "NoNumber"=U (.ref t))(m5:mg "NoChain"=U (.ref R))(M0:rC K q q I L r t R ae ao ao)(M1:rC K r q I L r t R ao ae ao)(M2:rC K t q I L r t R ao ao ae):xb P w K mg base 1 f fd ["e"] (Av q r t):=by
 refine F.W FR (λvs H Q E h=>?_) (λa2 A a0 s H vs Q E hr h=>?_)
 ·obtain⟨x,C,X,rfl,_⟩:=h;rfl
 ·obtain⟨x,C,X,rfl,d,h,k⟩:=h
  have G:∃e g j,rC K C q I L r t R e g j/\((e=ae/\g=ao/\j=ao/\X="web")\/(e=ao/\g=ae/\j=ao/\X="order")\/(e=ao/\g=ao/\j=ae/\X="number")):=by
   rcases h with ⟨rfl,rfl⟩|⟨rfl,rfl⟩|⟨rfl,rfl⟩
   ·exact(ae,ao,ao,M0,.inl (O,O,O,O))
   ·exact(ao,ae,ao,M1,.inr<|.inl (O,O,O,O))
   ·exact(ao,ao,ae,M2,.inr<|.inr (O,O,O,O))
  obtain⟨e,g,j,M,hb⟩:=G;refine(_,aY (cJ (i:=1) FR.a O (ak O)<|eR<|aj (vl M.a M.g y m0 O O<|ah 0)<|aj (vl M.a M.f y m1 O O<|ah 0)<|aj (vl M.a M.b y m2 O O<|ah 0)<|aj (vl M.a M.c y m3 O O<|ah 0) az)
   (aY (cJ (i:=1) FR.a O (ak O)<|cA kT (ah 1)<|eR<|aj (vl M.a M.d y m4 O O<|ah 0)<|aj (vl M.a M.h y m5 O O<|ah 0) az)
   (aY (dh (sW.B<|sH (cV qO (oO rR aew PySem.F.type_list_count Vh (ah 1)<|aj gd az) aV<|cN _)<|sG<|mR<|oF<|eH (ME (c:=.j "ValueError") (λu h=>h) M.a M.e) O y OK<|aj (ah 0)<|aj (UP (v:=.j "ValueError") O bv PyProof.Rows.Boot.«ValueError» O) az)
     (be<|cp dF) dq)
   <|be<|cp<|dG jr (eR<|aj dF<|aj dF<|aj dF<|aj dF<|aj dF<|aj dF az) (oO rR aeu PySem.F.type_list_index Vf (ah 1)<|aj gd az) (λ_ _=>O))),?_)
  refine(x,O,d,x,O,d,x,O,d,x,O,d,cg O,λp hp=>?_);have s1:=aQ.B (o:=.a [.e e,.e ao,.e ao,.e g]) hp;refine(_,O,x,O,s1 _ _ d,x,O,s1 _ _ d,cg O,λp2 S=>?_);have s2:=s1.F<|aQ.B (o:=.a [.e j,.e ao]) S;refine(p,p2,_,_,O,O,(aQ.B S) _ _ aD,aD,cg O,λz a1=>?_);have D:=s2.F<|aQ.B (o:=.a [.e e,.e ao,.e ao,.e g,.e j,.e ao]) a1;have l:=aD (H:=av (av H p<|.a [.e e,.e ao,.e ao,.e g]) p2<|.a [.e j,.e ao]) (a:=z) (o:=.a [.e e,.e ao,.e ao,.e g,.e j,.e ao]);rcases hb with ⟨rfl,rfl,rfl,rfl⟩|⟨rfl,rfl,rfl,rfl⟩|⟨rfl,rfl,rfl,rfl⟩
  ·refine(_,O,.inl (O,_,bx.B l),z,_,.e ae,O,O,l,O,?_)
   refine(O,O,ao,(by first|rfl|decide),cZ (_,O,x,O,D _ _ d,?_));refine(ae,O,cZ (cg O,λT b=>?_));have n:=(aQ.B (o:=.a [.f "web",.f "piece",.f "push",.f "order",.f "number",.f "chain"]) b) _ _ l;refine(_,O,.inl (O,_,bx.B n),z,_,.e ae,0,O,O,n,ξ,O,ξ,ξ,(λm hm=>?_),T,_,0,_,O,O,bx.B aD,O,k _<|D.F<|aQ.B b);omega
  ·refine(_,O,.inl (O,_,bx.B l),z,_,.e ae,O,O,l,O,?_)
   refine(O,O,ao,(by first|rfl|decide),cZ (_,O,x,O,D _ _ d,?_));refine(ae,O,cZ (cg O,λT b=>?_));have n:=(aQ.B (o:=.a [.f "web",.f "piece",.f "push",.f "order",.f "number",.f "chain"]) b) _ _ l;refine(_,O,.inl (O,_,bx.B n),z,_,.e ae,3,O,O,n,ξ,O,ξ,ξ,(λm hm=>?_),T,_,3,_,O,O,bx.B aD,O,k _<|D.F<|aQ.B b);have:m=0\/m=1\/m=2:=ω
   rcases this with rfl|rfl|rfl<;>decide
  ·refine(_,O,.inl (O,_,bx.B l),z,_,.e ae,O,O,l,O,?_)
   refine(O,O,ao,(by first|rfl|decide),cZ (_,O,x,O,D _ _ d,?_));refine(ae,O,cZ (cg O,λT b=>?_));have n:=(aQ.B (o:=.a [.f "web",.f "piece",.f "push",.f "order",.f "number",.f "chain"]) b) _ _ l;refine(_,O,.inl (O,_,bx.B n),z,_,.e ae,4,O,O,n,ξ,O,ξ,ξ,(λm hm=>?_),T,_,4,_,O,O,bx.B aD,O,k _<|D.F<|aQ.B b);have:m=0\/m=1\/m=2\/m=3:=ω
   rcases this with rfl|rfl|rfl|rfl<;>decide
end
abbrev AT:bV:=de 17
section
variable{P:aU}{w:aO}{K:aH}{mg:al->Option aa}{base:aI}{f:V}{fd:cr}
def ZM{m:List V}{n e:Ξ}{Q:aL}(C:bx K h L (m.map af.c))(s:aW h m n)(E:h d=U (.c<|iU e))(P:n.length<=1000)(t:h D=Z)(R:∀(b:ac)(c:List V),aQ h b->b D=U (.a<|c.map af.c)->aW b c (n.filter λp=>!aG (p∈e))->Q (.c D) b):fg (im K L) (eA 0) (zu<|Ef (bz 0)<|bz 1) (bz 0) [Z,U<|.c d] h D Q:=by
 have r:=s.B;refine jX (xs:=m.map af.c) (λj q i b=>∃(v:Option af)(c:List V),q=[v,U<|.c d]/\aQ h b/\b D=U (.a i)/\i=c.map af.c/\aW b c ((n.take j).filter λp=>!aG (p∈e))) ?_ ?_ ?_ ?_
 ·exact(Z,[],O,aQ.B t,aD,O,.nil)
 ·rintro j q i b ⟨v,c,rfl,f,a,rfl,_⟩
  exact f.W C
 ·rintro j q i b x G u w ⟨v,c,rfl,f,a,rfl,l⟩
  obtain⟨o,H,rfl⟩:=fY G;obtain⟨p,y,A⟩:=s.F H;have I:(m.map af.c).length<=bG:=by rw[aA];exact dN ω
  refine(_,O,_,O,d,_,O,hJ.t (k:=p.map bd) (f _ _ E) (by rw[bY];exact f.N A),_,O,?_);rw[GD]
  by_cases g:p∈e
  ·rw[bZ g]
   refine cZ<|sQ u w (_,c,O,f,a,O,?_);rw[di y,kj,wf (by rw[bZ g];decide),qy,lG];exact l
  ·rw[cf g]
   refine dI (_,O,gG I u w a (_,c++[o],O,f.A0 t,aD,by rw[cv];rfl,?_));rw[di y,kj,yR (by rw[cf g];rfl),qy];exact kD (aW.J l<|f.N A) a (by intro M z;cases z)
 ·rintro q i b ⟨v,c,rfl,f,a,rfl,l⟩
  rw[aA,r,gb<|bc _] at l;exact R b c f a l
def OB{m:Nat}:∀{b:Ξ},(∀a∈b,(cq a).length<=m)->(b.flatMap cq).length<=m*b.length
 |[],_=>by simp
 |p::r,h=>by
  have d:=h p dC;have e:=OB (b:=r) λq c=>h q<|d_ _ c;rw[ot,dz,dP,agn];omega
inductive Fu(K:aH)(vs:List af)(H:ac)(Q:aL)(E':bK):Prop
 |a:∀l as kn,(vs=[.c l])->(bx K H l<|as.map af.c)->(aW H as kn)->((∀p∈kn,p.length<=5))->(kn.length<64)->(∀D H2,aQ H H2->Q (.c D) H2)->Fu K vs H Q E'
def AI:cQ ["every","covered","piece","rim"] ["every"] (bB AT):=(O,O,O,δ,O,δ,δ)
def YE(F:bF K "greatest_of" "greatest_of" AT f fd)(Cr:bO P w K mg base aX "rims_of" ["piece"] 1 o_)(Co:bO P w K mg base aX "in_order" ["some"] 4 (AA K)):bD P w K mg base aX 5 f fd ["every"] (Fu K):=by
 refine F.B AI (λvs H Q E h=>?_) (λb1 A a3 s H vs Q E hr h=>?_)
 ·obtain⟨l,as,M,rfl,_⟩:=h;rfl
 ·obtain⟨l,as,M,rfl,hl,ht,h5,S,k⟩:=h
  have hu:=jb hr;refine(_,aY (cJ (i:=1) AI.a O (aq O) ml)
   (aY (iF iL O (eG<|ah 0) (cB (i:=2) AI.a O<|ak O)
    (be (iF iL O (eG<|bN Cr hr O ce<|aj (ah 2) az) (cB (i:=3) AI.a O<|ak O)
    <|be<|oG hu (ah 1) (ah 3) gd O)))
   (be (cp (bN Co hr O ce (aj (fE ["every","covered","piece","rim"] ["piece","covered"] [Z,U 1] (eG<|ah 0) (λcl C y G ex=>cB (i:=0) (eI ["piece","covered"]) O<|ak O)
    (λcl C y G ex=>oE<|Et (UQ hu (ah 0)<|ah 1) (by with_unfolding_all rfl)) (λcl C y G ex=>ah 0) (hfr:=iQ (bB AT) δ) (tc:=zu<|Ef (bz 0)<|bz 1)) az))))),?_)
  intro d hd;have a4:=ht.B;refine(_,O,l,O,(_,(aQ.B hd).W hl),mm (K:=K) (a:=l) (xs:=as.map af.c) (λi r T=>∃(v I:Option af),r=[U<|.c l,U<|.c d,v,I]/\aQ H T/\T d=U (.c<|iU<|(M.take i).flatMap cq))
   (Z,Z,O,aQ.B hd,aD) (λi r T _ (_,_,_,t,_)=>t.W hl) ?_ ?_)
  ·rintro i x r T hx ⟨v,I,rfl,t,e⟩
   obtain⟨a,ea,rfl⟩:=fY hx;obtain⟨R,L,a5⟩:=ht.F ea;have X:=h5 R<|dy L;have hi:i<M.length:=(cE.mp L).1;refine(_,O,a,R,O,t.N a5,X,λD H3 cs g b2 hD a0=>(D,O,(_,bx.B hD),?_));have a6:=a0.B;have a7:D≠d:=fL hD (g _ _ e) (by intro z;cases z);refine mm (K:=K) (a:=D) (xs:=cs.map af.c) (λj r u=>∃(I:Option af),r=[U<|.c l,U<|.c d,U<|.c a,I]/\aQ H u/\u D=U (.a<|cs.map af.c)/\aW u cs (cq R)/\u d=U (.c<|iU<|(M.take i).flatMap cq++(cq R).take j))
    (_,O,t.F g,hD,a0,by rw[vY,lG];exact g _ _ e) (λj r u _ (_,_,_,q,_)=>bx.B q) ?_ ?_
   ·rintro j x r u hx ⟨I,rfl,n,a1,o,p⟩
    obtain⟨c,ec,rfl⟩:=fY hx;obtain⟨f,ef,hf⟩:=o.F ec;have a2:(iU<|(M.take i).flatMap cq++(cq R).take j).length<bG:=by
     refine li<|dE (Bw _) ?_;rw[dz];have h1:=OB (m:=5) (b:=M.take i) (λq hq=>dE (nR q)<|h5 q<|wa hq);have h2:=nR R;rw[eF] at h1 ⊢;omega
    refine(_,O,_,O,d,_,O,xf.t (k:=f.map bd) p (by rw[bY];exact hf) a2,(_,O,n.A0 hd,?_,?_,?_))
    ·rw[a_ a7];exact a1
    ·exact kD o p (by intro xs z;cases z)
    ·rw[aD,Br,ut,<-di ef]
   ·rintro r u ⟨I,rfl,n,a1,o,p⟩
    refine(_,_,O,n,?_);rw[aA,a6,iI] at p;rw[di L,Du,List.flatMap_singleton];exact p
  ·rintro r T ⟨v,I,rfl,t,e⟩
   rw[aA,a4,iI] at e;refine(_,O,l,O,(_,t.W hl),λa8 a9=>fc<|ZM (t.W hl) (t.J ht) e ω a9 λH3 bs g b0 hb=>?_);exact(a8,bs,_,O,bx.B b0,hb,agq (qw _ _) S,λD u qs n _ _ _ _=>k D u<|(t.F g).F n)
end
abbrev Gd:bV:=de 32
abbrev FY:bV:=de 37
abbrev Bl:bV:=de 52
abbrev vh:bV:=de 53
def Yp(h:j_ p a T L):L.length<=T:=by
 have c:(L.map (·.b)).Nodup:=h.a.imp λh=>ω
 have:=c.length_le_of_subset (l₂:=dk T) λf d=>by
  obtain⟨x,e,rfl⟩:=bq.mp d;have:=(tu h e).a;have this:x.b<T:=this;exact h_.mpr this
 rw[aA,lZ] at this;exact this
section
variable{P:aU}{w:aO}{K:aH}{mg:al->Option aa}{base:aI}{f:V}{fd:cr}{Pt fO fN:V}
inductive AD(K:aH)(fO:V)(vs:List af)(H:ac)(Q:aL)(E:bK):Prop
 |a:∀l as pss,(vs=[.c l])->(bx K H l<|as.map af.c)->(aW H as pss)->(pss.length<=200)->((∀H',dU pss->aQ H H'->Q .g H'))->(∀H1,¬dU pss->aQ H H1->∀x,H1 x=Z->E (.ref x) (U fO) H1)->AD K fO vs H Q E
def YX(F:bF K "must_be_order" "must_be_order" Bb f fd)(q:mg "NoOrder"=U (.ref fO))(r:jK K fO kU "ValueError.__new__"=ae)(t:bO P w K mg base aX "is_order" ["order"] 2 (pX K)):bD P w K mg base (da P w) 3 f fd ["order"] (AD K fO):=by
 refine F.F NG (λu H Q E h=>?_) (λv A g s H u Q E y h=>?_)
 ·obtain⟨l,j,c,rfl,_⟩:=h;rfl
 ·obtain⟨l,j,c,rfl,D,G,d,k,L⟩:=h
  refine(_,be<|dh (mR<|oF<|bN t y O ce<|aj (ah 0) az) (be<|sI (C:=fO) (EX:=E) O O q r (λm T X s' x I i M R S=>qG I i M R (λa e=>nomatch e) S)) dq,?_);refine(_,O,l,j,c,O,D,G,d,λb n o p=>(_,O,?_));cases b with
  |true=>exact cZ<|k n (o.mp O) p
  |false=>exact dI λx i=>L n (λz=>by have:=o.mpr z;cases this) p x i
inductive AC(K:aH)(fN:V)(vs:List af)(H:ac)(Q:aL)(E:bK):Prop
 |a:∀(l:V)(xs:List af)(t:Int),(vs=[.c l,.d t])->(bx K H l xs)->(((0<=t/\t<xs.length)->Q .g H))->((¬(0<=t/\t<xs.length)->∀x,H x=Z->E (.ref x) (U fN) H))->AC K fN vs H Q E
def XA:cQ ["order","time"] ["order","time"] (bB Gd):=(O,O,O,δ,O,δ,δ)
def YU(F:bF K "must_be_time" "must_be_time" Gd f fd)(R:eC mg)(n:mg "NoNumber"=U (.ref fN))(o:jK K fN kU "ValueError.__new__"=ae):bD P w K mg base (da P w) 1 f fd ["order","time"] (AC K fN):=by
 refine F.F XA (λp H Q E h=>?_) (λq A d s H p Q E D h=>?_)
 ·obtain⟨l,i,t,rfl,_⟩:=h;rfl
 ·obtain⟨l,i,t,rfl,r,k,j⟩:=h
  refine(_,be<|dh (mR<|Ll uN sJ aV (ah 1)<|eH gW O R.a fZ<|aj (ah 0) az) (be<|sI (C:=fN) (EX:=E) O O n o (λm G L M x I b u v y=>qG I b u v (λa e=>nomatch e) y)) dq,?_);refine(_,O,_,_,O,O,_,O,qQ (λg=>?_) (λg=>(_,O,dI λx b=>j (λz=>g<|bZ z.1) x b)));refine(_,O,l,_,O,.inl r,_,_,O,O,_,O,?_)
  by_cases c:t<i.length
  ·rw[bZ c]
   exact cZ<|k (iE g,c)
  ·rw[cf c]
   exact dI λx b=>j (λz=>c z.2) x b
def Oy{i:ac}{m:List V}{g:List f_}{A:eB}{d:aM}{p:f_->Bool}{Q:aL}(t:∀(u:V)(x:f_)(b:ac)(R:Bool->ac->Prop),b u=U (.b<|ip x)->R (p x) b->A (U (.c u)::d) b R)(I:bx K i S (m.map af.c))(C:dA (λu x=>i u=U (.b x)) m (g.map ip))(X:g.length<=1000)(E:i D=Z)(k:∀(b:ac)(e:List V),aQ i b->b D=U (.a<|e.map af.c)->dA (λu x=>b u=U (.b x)) e ((g.filter p).map ip)->Q (.c D) b):fg (im K S) (eA 0) A (bz 0) (Z::d) i D Q:=by
 have L:m.length=g.length:=by rw[C.length,aA]
 refine jX (xs:=m.map af.c) (λj q n b=>∃(v:Option af)(e:List V),q=v::d/\aQ i b/\b D=U (.a n)/\n=e.map af.c/\dA (λu x=>b u=U (.b x)) e (((g.take j).filter p).map ip)) ?_ ?_ ?_ ?_
 ·exact(Z,[],O,aQ.B E,aD,O,.nil)
 ·rintro j q n b ⟨v,e,rfl,f,c,rfl,l⟩
  exact f.W I
 ·rintro j q n b x M s G ⟨v,e,rfl,f,c,rfl,l⟩
  obtain⟨u,P,rfl⟩:=fY M;have T:j<m.length:=by rw[aA] at s;exact s
  obtain⟨r,w⟩:∃r,g[j]?=U r:=(_,cw ω);have y:=qM C j _ _ P (by rw[cm,w];rfl);refine t u r b _ (f _ _ y) ?_;cases o:p r with
  |false=>
   refine cZ<|sQ s G (_,e,O,f,c,O,?_);rw[di w,kj,wf (by rw[o];intro z;cases z),qy,lG];exact l
  |true=>
   refine dI (_,O,gG (by rw[aA];exact dN ω) s G c (_,e++[u],O,f.A0 E,aD,by rw[cv];rfl,?_));rw[di w,kj,yR o,qy,cv];have H:∀{a:V}{x:List af},b a=U (.b x)->a≠D:=λh=>fL h c (by intro z;cases z);refine tX (il l λa x h=>?_) ?_
   ·rw[a_<|H h];exact h
   ·rw[a_<|H<|f _ _ y];exact f _ _ y
 ·rintro q n b ⟨v,e,rfl,f,c,rfl,l⟩
  rw[aA,L,iI] at l;exact k b e f c l
abbrev X_:mq:=λx y H Q=>y=.g/\Q (.e<|aG<|x=.g) H
abbrev Aq(K:aH)(j:Int):bb:=dW (uJ K) (bz 0)<|dK<|.d j
abbrev No(K:aH):eB:=KH (jF<|dW qJ (Aq K 0)<|bz 1)<|jF<|dW (jq λi j=>.e<|aG<|i<=j) (Aq K 1)<|bz 2
abbrev Nr(K:aH):eB:=KC (jF<|dW X_ (Aq K 2)<|dK .g)<|jF<|dW (jq λi j=>.e<|aG<|j<i) (Aq K 2)<|bz 1
def vm(a e:Int)(x:f_):Bool:=aG<|x.a=a/\(x.b:Int)<=e
def Gy(a:Int)(x:f_):Bool:=match x.d with|none=>ae|some t=>aG (a<(t:Int))
def Xb{a e:Int}(u:V)(x:f_)(b:ac)(R:Bool->ac->Prop)(h:b u=U (.b<|ip x))(r:R (vm a e x) b):No K [U<|.c u,U<|.d a,U<|.d e] b R:=by
 refine(_,O,u,_,0,_,O,O,fm.B h,O,_,O,O,_,O,?_)
 by_cases c:x.a=a
 ·rw[bZ (by rw[c])]
  refine dI (_,O,u,_,1,_,O,O,fm.B h,O,_,O,_,_,O,O,_,O,?_);rw[show aG ((x.b:Int)<=e)=vm a e x by unfold vm;rw[decide_eq_decide];exact(λz=>(c,z),λz=>z.2)];exact r
 ·rw[cf (λz=>c<|af.d.inj z)]
  refine cZ ?_;rw[show ao=vm a e x by unfold vm;exact(cf λz=>c z.1).symm];exact r
def ZI(u:V)(x:f_)(a:ac)(R:Bool->ac->Prop)(h:a u=U (.b<|ip x))(r:R (Gy b x) a):Nr K [U<|.c u,U<|.d b] a R:=by
 unfold Gy at r;unfold ip at h;cases c:x.d with
 |none=>
  rw[c] at r h;refine(_,O,u,_,2,_,O,O,fm.B h,O,O,_,O,?_);exact dI r
 |some t=>
  rw[c] at r h;refine(_,O,u,_,2,_,O,O,fm.B h,O,O,_,O,?_);rw[cf (λz=>nomatch z)];exact cZ (_,O,u,_,2,_,O,O,fm.B h,O,_,O,_,_,O,O,_,O,r)
def OF(a:List f_)(b e c:Int):Nat:=((a.filter<|vm b e).filter<|Gy c).length
inductive AF(K:aH)(Pt fN:V)(vs:List af)(H:ac)(Q:aL)(E:bK):Prop
 |a:∀(l:V)(as:List V)(oo:Ξ)(p hi e lt:Int),(vs=[.c l,.d p,.d hi,.d e,.d lt])->(bx K H l<|as.map af.c)->(aW H as oo)->(dU oo)->(oo.length<=60)->(gM p)->(rB Pt H)->((∀xs H',(0<=e/\e<=lt/\lt<oo.length)->hW Pt H H'->j_ p oo oo.length xs->Q (.d<|OF xs hi e lt) H'))->((∀H',¬(0<=e/\e<=lt/\lt<oo.length)->hW Pt H H'->∀x,H' x=Z->E (.ref x) (U fN) H'))->AF K Pt fN vs H Q E
def FU:cQ ["order","prime","high","early","late","there"] ["order","prime","high","early","late"] (bB vh):=(O,O,O,δ,O,δ,δ)
def Zg{fN:V}(F:bF K "lasting" "lasting" vh f fd)(a6:eC mg)(mN:mg "NoNumber"=U (.ref fN))(qN:jK K fN kU "ValueError.__new__"=ae)(Co:bO P w K mg base aX "must_be_order" ["order"] 3 (xn K))(Cp:bO P w K mg base aX "must_be_prime" ["prime"] 1 xm)(Ct:bO P w K mg base (da P w) "must_be_time" ["order","time"] 1 (AC K fN))(Cb:bO P w K mg base aX "bars" ["order","prime"] 7 (xo K Pt)):bD P w K mg base (da P w) 8 f fd ["order","prime","high","early","late"] (AF K Pt fN):=by
 refine F.F FU (λvs H Q E h=>?_) (λa4 A R s H vs Q E q h=>?_)
 ·obtain⟨l,G,o,p,hi,e,r,rfl,_⟩:=h;rfl
 ·obtain⟨l,G,o,p,hi,e,r,rfl,L,S,ho,T,hp,tb,k,kE⟩:=h
  refine(_,aY (eW<|bN Co q O ce<|aj (ah 0) az)
   (aY (eW<|bN Cp q O ce<|aj (ah 1) az)
   (aY (eW<|bN Ct q O (ge (E:=E))<|aj (ah 0)<|aj (ah 3) az)
   (aY (eW<|bN Ct q O (ge (E:=E))<|aj (ah 0)<|aj (ah 4) az)
   (aY (dh (cV sJ (ah 4) (ah 3)<|cN _) (be<|sI (C:=fN) (EX:=E) O O mN qN (λa3 σ H' s' x I j h0 hs hE=>qG I j h0 hs (λa e=>nomatch e) hE)) dq)
   (aY (zK (i:=5) FU.a O (ak O) ["order","prime","high","early","late","there"] ["bar","high","early"] [Z,U 2,U 3] (eG<|bN Cb q O ce<|aj (ah 0)<|aj (ah 1) az) (λt C b d u=>cB (i:=0) (eI ["bar","high","early"]) O<|ak O)
    (λt C b d u=>oE<|sW.B<|Uq (cV jT (dG gF (ah 0) aV (λ_ _=>O)) (ah 1)<|cN _)<|Up<|cV uN (dG gF (ah 0) aV (λ_ _=>O)) (ah 2)<|cN _)
    (λt C b d u=>ah 0) (hfr:=iQ (bB vh) δ) (tc:=No K) (te:=bz 0))
   (be (cp (eH gW O a6.a fZ (aj (fE ["order","prime","high","early","late","there"] ["bar","late"] [Z,U 4] (eG<|ah 5) (λt C b d u=>cB (i:=0) (eI ["bar","late"]) O<|ak O)
    (λt C b d u=>oE<|sW.B<|sH (cV wH (dG gF (ah 0) aV (λ_ _=>O)) qL<|cN _)<|sG<|cV sK (dG gF (ah 0) aV (λ_ _=>O)) (ah 1)<|cN _)
    (λt C b d u=>ah 0) (hfr:=iQ (bB vh) δ) (tc:=Nr K) (te:=bz 0)) az))))))))),?_)
  have X:=S.B;have v:o.length<=200:=ω
  refine(_,O,l,G,o,O,L,S,v,ho,λH1 m=>(_,O,p,O,hp,?_));have n:¬(0<=e/\e<=r/\r<o.length)->∀x,H1 x=Z->E (.ref x) (U fN) H1:=λz x j=>kE H1 z (aQ.sf m) x j;have hn:((G.map af.c).length:Int)=o.length:=by rw[aA,X]
  refine(_,O,_,O,l,_,e,O,m.W L,λg=>?_,λg x j=>n (λz=>g (z.1,by rw[hn];omega)) x j);refine(_,O,_,O,l,_,r,O,m.W L,λM=>?_,λM x j=>n (λz=>M (ω,by rw[hn];omega)) x j);rw[hn] at g M;refine(_,O,_,O,_,_,O,O,_,O,?_)
  by_cases c:r<e
  ·rw[bZ c]
   exact dI λx j=>n (λz=>ω) x j
  rw[cf c];refine cZ (_,O,_,O,l,G,o,p,O,m.W L,m.J S,ho,T,hp,(aQ.sf m).tab tb,λD us xs H2 f2 a5 hD hu pp=>?_);have lx:xs.length<=1000:=by have:=Yp pp;omega
  refine(D,O,(_,bx.B hD),λD2 a0=>fc<|Oy Xb (bx.B hD) hu lx a0 λH3 ws s3 y hw=>?_);refine(_,O,D2,O,(_,bx.B y),λD4 a1=>fc<|Oy ZI (bx.B y) hw (dE (qw _ _) lx) a1 λH5 vs s5 a2 hv=>?_);refine(D4,_,O,.inl<|bx.B a2,?_);have:=k xs H5 (g.1,ω,M.2) (((aQ.sf m).B f2).B<|aQ.sf<|s3.F s5) pp;rw[aA,hv.length,aA];exact this
inductive FP(K:aH)(Pt fN:V)(vs:List af)(H:ac)(Q:aL)(E:bK):Prop
 |a:∀(l:V)(as:List V)(oo:Ξ)(p hi e:Int),(vs=[.c l,.d p,.d hi,.d e])->(bx K H l<|as.map af.c)->(aW H as oo)->(dU oo)->(oo.length<=60)->(gM p)->(rB Pt H)->((∀xs H',(0<=e/\e<oo.length)->hW Pt H H'->j_ p oo oo.length xs->Q (.d<|OF xs hi e e) H'))->((∀H',¬(0<=e/\e<oo.length)->hW Pt H H'->∀x,H' x=Z->E (.ref x) (U fN) H'))->FP K Pt fN vs H Q E
def NK:cQ ["order","prime","high","time"] ["order","prime","high","time"] (bB Bl):=(O,O,O,δ,O,δ,δ)
def ZB{fN:V}(F:bF K "alive" "alive" Bl f fd)(a:bO P w K mg base (da P w) "lasting" ["order","prime","high","early","late"] 8 (AF K Pt fN)):bD P w K mg base (da P w) 9 f fd ["order","prime","high","time"] (FP K Pt fN):=by
 refine F.F NK (λn H Q D h=>?_) (λo A b s H n Q D q h=>?_)
 ·obtain⟨l,i,j,p,m,e,rfl,_⟩:=h;rfl
 ·obtain⟨l,i,j,p,m,e,rfl,r,t,u,c,v,x,k,y⟩:=h
  refine(_,be<|cp<|bN a q O (ge (E:=D))<|aj (ah 0)<|aj (ah 1)<|aj (ah 2)<|aj (ah 3)<|aj (ah 3) az,?_);exact(_,O,_,O,_,O,_,O,_,O,l,i,j,p,m,e,e,O,r,t,u,c,v,x,λC d g=>k C d (g.1,g.2.2),λd g=>y d λz=>g (z.1,md _,z.2))
def OP(fO fN:V)(b:Ξ)(g:Prop)(H:ac)(E:bK):Prop:=(¬dU b/\∀a,aQ H a->∀x,a x=Z->E (.ref x) (U fO) a)\/(dU b/\¬g/\∀a,aQ H a->∀x,a x=Z->E (.ref x) (U fN) a)
inductive Fn(K:aH)(fO fN:V)(vs:List af)(H:ac)(Q:aL)(E:bK):Prop
 |a:∀(l:V)(as:List V)(pss:Ξ)(t:Int),(vs=[.c l,.d t])->(bx K H l<|as.map af.c)->(aW H as pss)->(pss.length<=60+3)->((∀D H2,dU pss->(0<=t/\t<pss.length)->aQ H H2->Q (.c D) H2))->(((dU pss->¬(0<=t/\t<pss.length))->OP fO fN pss (0<=t/\t<pss.length) H E))->Fn K fO fN vs H Q E
def Xt:cQ ["order","time"] ["order","time"] (bB FY):=(O,O,O,δ,O,δ,δ)
def YC(F:bF K "web_at" "web_at" FY f fd)(G:bO P w K mg base (da P w) "must_be_order" ["order"] 3 (AD K fO))(I:bO P w K mg base (da P w) "must_be_time" ["order","time"] 1 (AC K fN))(L:bO P w K mg base aX "greatest_of" ["every"] 5 (Fu K)):bD P w K mg base (da P w) 6 f fd ["order","time"] (Fn K fO fN):=by
 refine F.F Xt (λM H Q E h=>?_) (λR A i s H M Q E j h=>?_)
 ·obtain⟨l,e,a,t,rfl,_⟩:=h;rfl
 ·obtain⟨l,e,a,t,rfl,m,q,S,k,v⟩:=h
  refine(_,aY (eW<|bN G j O (ge (E:=E))<|aj (ah 0) az)
   (aY (eW<|bN I j O (ge (E:=E))<|aj (ah 0)<|aj (ah 1) az)
  <|be<|cp<|bN L j O ce<|aj (oM zy (ah 0) oJ<|oH<|cA lM (ah 1) aV) az),?_)
  have d:=q.B;refine(_,O,l,e,a,O,m,q,ω,λr c b=>?_,λr c b x u=>(v λz=>(c z).elim).elim (λz=>z.2 r b x u) λz=>(c z.1).elim);refine(_,O,_,O,l,_,t,O,b.W m,λg=>?_,λg x u=>?_)
  ·rw[aA,d] at g
   refine(_,O,_,O,_,_,O,O,_,O,l,_,O,b.W m,λC T=>?_);obtain⟨n,rfl⟩:=wo g.1;rw[show((n:Nat):Int)+1=((n+1:Nat):Int) from ω,GI _ _ (by rw[aA];omega),<-Dq];have y:=aQ.B (o:=.a<|(e.take<|n+1).map af.c) T;exact(C,e.take<|n+1,a.take<|n+1,O,bx.B aD,(b.F y).J<|q.W _,λp X=>(nt.mp (tC c<|wa X).1).2.1,by rw[eF];omega,λD H3 s3=>k D H3 c g<|(b.F y).F s3)
  ·have g':¬(0<=t/\t<a.length):=λz=>g (by rw[aA,d];exact z)
   exact(v λ_=>g').elim (λz=>(z.1 c).elim) λz=>z.2.2 r b x u
inductive FB(fN:V)(vs:List af)(H:ac)(Q:aL)(E:bK):Prop
 |a:∀p:Int,(vs=[.d p])->((gM p->Q .g H))->((¬gM p->∀x,H x=Z->E (.ref x) (U fN) H))->FB fN vs H Q E
def YV{t:V}(F:bF K "must_be_prime" "must_be_prime" Ba f fd)(i:mg "PRIMES"=U (.ref t))(j:∀H,fm K H t [.d 2,.d 3,.d 5,.d 7])(l:mg "NoNumber"=U (.ref fN))(m:jK K fN kU "ValueError.__new__"=ae):bD P w K mg base (da P w) 1 f fd ["prime"] (FB fN):=by
 refine F.F NF (λn H Q E h=>?_) (λo A b s H n Q E D h=>?_)
 ·obtain⟨p,rfl,_⟩:=h;rfl
 ·obtain⟨p,rfl,k,q⟩:=h
  refine(_,be<|dh (cV Lx (ah 0) (oN (v:=.c t) O i O) (by with_unfolding_all rfl)) (be<|sI (C:=fN) (EX:=E) O O l m (λd G L M x I c r u y=>qG I c r u (λa e=>nomatch e) y)) dq,?_);refine(_,O,t,_,O,.inr<|j _,O,O,_,O,?_)
  by_cases g:gM p
  ·have z:=k g
   clear k;rcases g with rfl|rfl|rfl|rfl<;>exact cZ z
  ·have e:zT (af.d p) [.d 2,.d 3,.d 5,.d 7]=ao:=by
    unfold zT;unfold gM at g;simp only[wh,List.any_nil,ah5,Bool.or_eq_false_iff,kt,beq_eq_false_iff_ne];omega
   rw[aB O,e];exact dI λx c=>q g x c
def mv(K:aH)(fO fN:V)(n:Nat):ia:=λd H Q E=>∃l c b p a,d=.c l::.d p::a/\a.length=n/\bx K H l (c.map af.c)/\aW H c b/\b.length<=200/\OP fO fN b (gM p) H E
def FV:cQ ["order","prime","paper","ends","times"] ["order","prime","paper"] (bB Bf):=(O,O,O,δ,O,δ,δ)
variable(Co:bO P w K mg base (da P w) "must_be_order" ["order"] 3 (AD K fO))(Cp:bO P w K mg base (da P w) "must_be_prime" ["prime"] 1 (FB fN))
include Co Cp
theorem YO(F:bF K "paper" "paper" xB f fd):bD P w K mg base (da P w) 6 f fd ["order","prime"] (mv K fO fN 0):=by
 refine F.F rp (λr H Q y h=>?_) (λt A e s H r Q y o h=>?_)
 ·obtain⟨l,q,b,p,a,rfl,i,_⟩:=h;simp[i]
 ·obtain⟨l,q,b,p,a,rfl,i,u,v,c,j⟩:=h
  match a,i with
  |[],_=>
  refine(_,aY (eW<|bN Co o O (ge (E:=y))<|aj (ah 0) az)<|aY (eW<|bN Cp o O (ge (E:=y))<|aj (ah 1) az) lL,?_);exact(_,O,l,q,b,O,u,v,c,λk d m=>(_,O,p,O,λg=>(j.elim (λz=>z.1 d) (λz=>z.2.1 g)).elim,λg x n=>j.elim (λz=>(z.1 d).elim) λz=>z.2.2 k m x n),λk d m x n=>j.elim (λz=>z.2 k m x n) λz=>(d z.1).elim)
theorem Zk(F:bF K "is_paper" "is_paper" Bf f fd):bD P w K mg base (da P w) 6 f fd ["order","prime","paper"] (mv K fO fN 1):=by
 refine F.F FV (λr H Q C h=>?_) (λt A e s H r Q C o h=>?_)
 ·obtain⟨l,q,b,p,a,rfl,i,_⟩:=h;simp[i]
 ·obtain⟨l,q,b,p,a,rfl,i,u,y,c,j⟩:=h
  match a,i with
  |[v],_=>
  refine(_,aY (eW<|bN Co o O (ge (E:=C))<|aj (ah 0) az)<|aY (eW<|bN Cp o O (ge (E:=C))<|aj (ah 1) az) lL,?_);exact(_,O,l,q,b,O,u,y,c,λk d m=>(_,O,p,O,λg=>(j.elim (λz=>z.1 d) (λz=>z.2.1 g)).elim,λg x n=>j.elim (λz=>(z.1 d).elim) λz=>z.2.2 k m x n),λk d m x n=>j.elim (λz=>z.2 k m x n) λz=>(d z.1).elim)
theorem Zf(F:bF K "lasting" "lasting" vh f fd):bD P w K mg base (da P w) 8 f fd ["order","prime","high","early","late"] (mv K fO fN 3):=by
 refine F.F FU (λv H Q G h=>?_) (λy A k s H v Q G t h=>?_)
 ·obtain⟨l,u,e,p,d,rfl,m,_⟩:=h;simp[m]
 ·obtain⟨l,u,e,p,d,rfl,m,C,D,i,n⟩:=h
  match d,m with
  |[a,b,c],_=>
  refine(_,aY (eW<|bN Co t O (ge (E:=G))<|aj (ah 0) az)<|aY (eW<|bN Cp t O (ge (E:=G))<|aj (ah 1) az) lL,?_);exact(_,O,l,u,e,O,C,D,i,λo j q=>(_,O,p,O,λg=>(n.elim (λz=>z.1 j) (λz=>z.2.1 g)).elim,λg x r=>n.elim (λz=>(z.1 j).elim) λz=>z.2.2 o q x r),λo j q x r=>n.elim (λz=>z.2 o q x r) λz=>(j z.1).elim)
omit Co Cp
theorem Zx(F:bF K "bars" "bars" Bi f fd)(Cp:bO P w K mg base (da P w) "paper" ["order","prime"] 6 (mv K fO fN 0)):bD P w K mg base (da P w) 7 f fd ["order","prime"] (mv K fO fN 0):=by
 refine F.F NJ (λn H Q r h=>?_) (λo A e s H n Q r q h=>?_)
 ·obtain⟨l,j,d,p,a,rfl,g,_⟩:=h;simp[g]
 ·obtain⟨l,j,d,p,a,rfl,g,h⟩:=h
  match a,g with
  |[],_=>
  exact(_,be (cp (fE ["order","prime"] ["row"] [Z] (eG<|bN Cp q O (ge (E:=r))<|aj (ah 0)<|aj (ah 1) az) (λk C b c m=>cB (i:=0) (eI ["row"]) O<|ak O) (λk C b c m=>gE)
   (λk C b c m=>λ_ _ _ _ _ _ h=>h.elim) (hfr:=lN δ) (te:=λ_ _ _=>False))),(_,O,_,O,l,j,d,p,[],O,O,h.1,h.2.1,h.2.2.1,h.2.2.2))
theorem ZA(F:bF K "alive" "alive" Bl f fd)(e:bO P w K mg base (da P w) "lasting" ["order","prime","high","early","late"] 8 (mv K fO fN 3)):bD P w K mg base (da P w) 9 f fd ["order","prime","high","time"] (mv K fO fN 2):=by
 refine F.F NK (λk H Q o h=>?_) (λm A g s H k Q o n h=>?_)
 ·obtain⟨l,j,d,p,c,rfl,i,_⟩:=h;simp[i]
 ·obtain⟨l,j,d,p,c,rfl,i,h⟩:=h
  match c,i with
  |[a,b],_=>
  refine(_,be<|cp<|bN e n O (ge (E:=o))<|aj (ah 0)<|aj (ah 1)<|aj (ah 2)<|aj (ah 3)<|aj (ah 3) az,?_);exact(_,O,_,O,_,O,_,O,_,O,l,j,d,p,[a,b,b],O,O,h.1,h.2.1,h.2.2.1,h.2.2.2)
end
section
variable{P:aU}{w:aO}{K:aH}{mg:al->Option aa}{base:aI}{f:V}{fd:cr}{PO PY fW fO fN:V}
def BH(K:aH)(fW:V)(H:ac)(l:V)(E:bK):Prop:=∃c a,bx K H l (c.map af.c)/\aW H c a/\(a.all gl=ae->(bh<|a.flatMap cy).length<64)/\gj a=ao/\∀b,aQ H b->∀x,b x=Z->E (.ref x) (U fW) b
inductive xp(K:aH)(fW:V)(vs:List af)(H:ac)(Q:aL)(E:bK):Prop
 |a:∀l,(vs=[.c l])->(BH K fW H l E)->xp K fW vs H Q E
def YZ(F:bF K "must_be_web" "must_be_web" xD f fd)(m:mg "NoWeb"=U (.ref fW))(n:jK K fW kU "ValueError.__new__"=ae)(o:bO P w K mg base aX "is_web" ["web"] 6 (AG K)):bD P w K mg base (da P w) 7 f fd ["web"] (xp K fW):=by
 refine F.F NH (λp H Q E h=>?_) (λq A b s H p Q E r h=>?_)
 ·obtain⟨l,rfl,_⟩:=h;rfl
 ·obtain⟨l,rfl,t,c,u,v,d,y,k⟩:=h
  refine(_,be (dh (mR<|oF<|bN o r O ce<|aj (ah 0) az)
   (be<|sI (C:=fW) (EX:=E) O O m n (λj M R S x I g z D G=>qG I g z D (λa e=>nomatch e) G)) dq),?_)
  refine(_,O,l,t,c,O,u,v,d,λL i=>(_,O,?_));rw[y];exact dI λx g=>k L i x g
def YL(F:bF K "pieces" "pieces" AX f fd)(b:bO P w K mg base (da P w) "must_be_web" ["web"] 7 (xp K fW)):bD P w K mg base (da P w) 8 f fd ["web"] (xp K fW):=by
 refine F.F NE (λc H Q i h=>?_) (λd A a s H c Q i e h=>?_)
 ·obtain⟨l,rfl,_⟩:=h;rfl
 ·obtain⟨l,rfl,g⟩:=h
  exact(_,aY (eW<|bN b e O (ge (E:=i))<|aj (ah 0) az) lL,(_,O,l,O,g))
abbrev NA(K:aH)(fW:V):ia:=λa H Q E=>xj K a H Q E\/xp K fW a H Q E
def OQ(K:aH)(fW fO:V)(H:ac)(l d:V)(E:bK):Prop:=BH K fW H l E\/∃e a c,ni K H l d e a c/\¬nh (cW a) c/\∀b,aQ H b->∀x,b x=Z->E (.ref x) (U fO) b
inductive AB(K:aH)(fW fO:V)(vs:List af)(H:ac)(Q:aL)(E:bK):Prop
 |a:∀l d,(vs=[.c l,.c d])->(OQ K fW fO H l d E)->AB K fW fO vs H Q E
def YR(F:bF K "order_by" "order_by" AZ f fd)(a0:eC mg)(u:mg "NoOrder"=U (.ref fO))(v:jK K fO kU "ValueError.__new__"=ae)(y:bO P w K mg base (da P w) "pieces" ["web"] 8 (NA K fW))(z:bO P w K mg base aX "are_worths" ["every","worths"] 3 (AH K)):bD P w K mg base (da P w) 9 f fd ["web","worths"] (AB K fW fO):=by
 refine F.F AM (λD H Q E h=>?_) (λG A g s H D Q E o h=>?_)
 ·obtain⟨l,d,rfl,_⟩:=h;rfl
 ·obtain⟨l,d,rfl,h⟩:=h
  refine(_,aY (cJ (i:=2) AM.a O (ak O)<|bN y o O (ge (E:=E))<|aj (ah 0) az)
  <|aY (dh (mR<|oF<|bN z o O ce<|aj (ah 2)<|aj (ah 1) az) (be<|sI (C:=fO) (EX:=E) O O u v (λq σ H' s' x I j M R S=>qG I j M R (λa e=>nomatch e) S)) dq) lL,?_)
  rcases h with k|⟨T,c,X,a1,hg,kE⟩
  ·exact(_,O,.inr (l,O,k))
  ·refine(_,O,.inl (l,T,c,O,a1.hl,a1.b,a1.hw,λL H1 ks t hL m hk=>?_))
   refine(_,O,_,O,L,d,ks,cW c,X,O,bx.B m,hk,tD c,a1.a,OG a1.hw.1,(λp hp r n=>GK hp n),a1.hd.B t,a1.c,a1.z,λb H2 k s2=>(_,O,?_));obtain rfl:b=ao:=by cases b with|false=>rfl|true=>exact(hg<|k.mp O).elim
   exact dI λx j=>kE H2 (t.F s2) x j
inductive FN(K:aH)(PO PY fW fO fN:V)(vs:List af)(H:ac)(Q:aL)(E:bK):Prop
 |a:∀l d p,(vs=[.c l,.c d,.d p])->((OQ K fW fO H l d E\/∃as pss cs,ni K H l d as pss cs/\mC PO PY H/\nh (cW pss) cs/\¬gM p/\∀H1,dX PO PY H H1->∀x,H1 x=Z->E (.ref x) (U fN) H1))->FN K PO PY fW fO fN vs H Q E
def Zv(F:bF K "bars_by" "bars_by" Bh f fd)(r:bO P w K mg base (da P w) "order_by" ["web","worths"] 9 (λa H Q E=>xl K PO a H Q E\/AB K fW fO a H Q E))(t:bO P w K mg base (da P w) "bars" ["order","prime"] 7 (mv K fO fN 0)):bD P w K mg base (da P w) 10 f fd ["web","worths","prime"] (FN K PO PY fW fO fN):=by
 refine F.F pa (λa H Q E h=>?_) (λu A b s H a Q E k h=>?_)
 ·obtain⟨l,d,p,rfl,_⟩:=h;rfl
 ·obtain⟨l,d,p,rfl,h⟩:=h
  refine(_,aY (cJ (i:=3) pa.a O (ak O)<|bN r k O (ge (E:=E))<|aj (ah 0)<|aj (ah 1) az)
   (aY (cJ (i:=4) pa.a O (ak O)<|eR az)
  <|aY (iF PassesOwn.leaving O (eG<|bN t k O (ge (E:=E))<|aj (ah 3)<|aj (ah 2) az) (cB (i:=5) pa.a O<|ak O) lL) lL),?_)
  rcases h with h|⟨v,c,y,a0,z,m,C,D⟩
  ·exact(_,O,_,O,.inr (l,d,O,h))
  ·refine(_,O,_,O,.inl (l,d,v,c,y,O,a0,z.o,m,λa1 G I n L M e g q=>?_))
   have R:dX PO PY H G:=.A1 L;have S:=NX a0.hw.1 m q;have ol:n.length<=56:=by rw[q.1.length_eq];exact a0.a
   refine(cg O,λT X=>?_);have j:=aQ.B (o:=.a []) X;have z2:=R.F<|.B j;exact(_,O,_,O,a1,I,n,p,[],O,O,bx.B<|j _ _ e,j.J g,ω,.inr (S,C,λH3 s3 x hx=>D H3 (z2.F<|.B s3) x hx))
end
section
variable{X:aK}
inductive Le(K:aH)(x:af)(y:af)(H:ac)(Q:aL):Prop
 |a:∀l m ns ms,(x=.c l)->(y=.c m)->(bx K H l<|ax af.d ns)->(bx K H m<|ax af.d ms)->(Q (.e<|!aG (ns=ms)) H)->Le K x y H Q
def UW(d:X.A.units+64<cH):fy X (gu .NotEq) (Le X.K):=by
 intro c s o H x y v u Q I f g h;obtain⟨l,m,a,b,rfl,rfl,i,j,q⟩:=h;cases f;cases g;obtain⟨_,k⟩:=KY I i;obtain⟨_,n⟩:=KY I j;refine IJ k n (KP _) (KP _) d (QE (.list .int) O _ _ (L_ _)<|L_ _) ?_;have e:rM (.list<|a.map iw) (.list<|b.map iw)=aG (a=b):=by simp only[rM];exact Qy a b
 rw[e];exact(.e _,H,I,O,q)
end
section
variable{X:aK}
def Ws:io X (.type "range") (λa H Q=>∃j:Int,a=[.d j]/\∀r,H r=Z->Q (.c r) (av H r<|.j 0 j)):=by
 intro c s d H a f Q I r h;obtain⟨j,rfl,q⟩:=h;obtain⟨u,rfl,⟨t,rfl⟩⟩:=gU r;exact call_range_1 (.c s⁻¹,_,I.F (o:=.j 0 j) (λb o e=>bJ _ e) (bc _) (_,t,_,dv _ O),O,q _<|I.b.B<|bc _)
def Wt(m:X.b=ae):io X (.type "list") (λf H Q=>∃(r:V)(j:Nat),f=[.c r]/\H r=U (.j 0 j)/\j<=1000/\∀l,H l=Z->Q (.c l) (av H l<|.a<|((dk j).map λk:Nat=>(k:Int)).map af.d)):=by
 intro g s G H f K Q I r h;obtain⟨a,j,rfl,p,L,q⟩:=h;obtain⟨u,rfl,w⟩:=gU r;cases w;obtain⟨t,u,v,e⟩:=(show db X.prog X.w H s.heap a (.j 0 j) from I.b a _ p);have x:IsRange s.heap a 0 j 1 t u v:=e;have y:afm 0 j 1=(j:Nat):=by rw[rangeSize_one];split<;>omega
 refine call_list_range (n:=j) (I.a.hd m) x (small_one ω ω ω ω) y ω λM z d A C D c=>?_;have i:=VC c;have E:((dk j).map λk:Nat=>(0:Int)+(k:Nat))=(dk j).map λk:Nat=>(k:Int):=gC λk _=>ω
 rw[E] at i;refine(.c s⁻¹,_,I.F (t':=z) (o:=.a<|((dk j).map λk:Nat=>(k:Int)).map af.d) (λb o e=>C b o e) (bc _)<|show db X.prog X.w _ _ _ (.a _) from(?_,d.toList,A,i,by simpa using D),O,q _<|I.b.B<|bc _);rw[aA,aA,lZ,jx];omega
end
section
variable{X:aK}
def NS{e:bf}:bA X e (λ_ _ _=>False):=λ_ _ _ _ _ _ h=>h.elim
def Yj{e:bf}:kx X e (λ_ _ _=>False):=λ_ _ _ _ _ _ h=>h.elim
end
section
variable{P:aU}{w:aO}{K:aH}{mg:al->Option aa}{base:aI}{f:V}{fd:cr}
def Oe{f:eB}{Q:aL}(h:bx K b L [])(i:b D=Z)(k:∀a,aQ b a->a D=U (.a [])->Q (.c D) a):fg (im K L) (eA 0) f g [Z] b D Q:=by
 refine jX (xs:=[]) (λj d c a=>aQ b a/\a D=U (.a c)/\c=[]) ?_ ?_ ?_ ?_
 ·exact(aQ.B i,aD,O)
 ·rintro j d c a ⟨e,_⟩
  exact e.W h
 ·rintro j d c a x l
  cases l
 ·rintro d c a ⟨e,m,rfl⟩
  exact k a e m
inductive FG(K:aH)(vs:List af)(H:ac)(Q:aL)(E':bK):Prop
 |a:∀l as pss p e,(vs=[.c l,.d p,.c e])->(bx K H l<|as.map af.c)->(aW H as pss)->(dU pss)->(pss≠[])->(pss.length<=60)->(gM p)->(bx K H e [])->(∀H',aQ H H'->Q (.e ao) H')->FG K vs H Q E'
def aan:ig "range"=U (.type "range"):=δ
abbrev Oh:List al:=["order","prime","paper","ends","times"]
def Zl(F:bF K "is_paper" "is_paper" Bf f fd)(a3:eC mg)(Co:bO P w K mg base aX "must_be_order" ["order"] 3 (xn K))(Cp:bO P w K mg base aX "must_be_prime" ["prime"] 1 xm):bD P w K mg base aX 6 f fd ["order","prime","paper"] (FG K):=by
 refine F.B FV (λvs H Q E h=>?_) (λa1 A x s H vs Q E y h=>?_)
 ·obtain⟨l,d,g,p,e,rfl,_⟩:=h;rfl
 ·obtain⟨l,d,g,p,e,rfl,hl,ht,ho,h0,a2,hp,v,k⟩:=h
  have j:=y.units;have D:=ht.B;refine(_,aY (eW<|bN Co y O ce<|aj (ah 0) az) (aY (eW<|bN Cp y O ce<|aj (ah 1) az)
   (aY (cJ (i:=3) FV.a O (ak O) (cA kT (fE Oh ["row"] [Z] (eG<|ah 2) (λm C a b n=>cB (i:=0) (eI ["row"]) O<|ak O) (λm C a b n=>gE) (λm C a b n=>NS) (hfr:=lN δ) (te:=λ_ _ _=>False))
   <|fE Oh ["row"] [Z] (eG<|ah 2) (λm C a b n=>cB (i:=0) (eI ["row"]) O<|ak O) (λm C a b n=>oE Yj) (λm C a b n=>NS) (hfr:=lN δ) (tc:=λ_ _ _=>False) (te:=λ_ _ _=>False)))
   (aY (dh (cV (UW j) (eH Wn O a3.d vp<|aj (ah 3) az) (ik (Wt O) O a3.b mz<|aj (ik Ws O a3.c aan<|aj (eH gW O a3.a fZ<|aj (ah 0) az) az) az)<|cN _) (be<|cp gd) dq)
   lL))),?_)
  refine(_,O,l,d,g,O,hl,ht,ω,ho,λH1 G=>?_);refine(_,O,p,O,hp,?_);refine(_,O,e,O,(_,G.W v),λD2 I=>fc<|Oe (G.W v) I λH2 s2 r=>?_);have c:=G.F s2;refine(_,O,e,O,(_,c.W v),λD3 L=>fc<|Oe (c.W v) L λH3 s3 t=>?_);refine(D2,D3,_,_,O,O,s3 _ _ r,t,cg O,λq hq=>?_);have s4:=aQ.B (o:=.a<|[]++[]) hq;refine(_,O,q,[],O,bx.B aD,by simp,λD5 ms S a0 T=>?_);obtain rfl:=S.eq_nil;have s5:=aQ.B (o:=.a<|([]:List Int).map af.d) T;have u:=((c.F s3).F s4).F s5;refine(_,O,l,_,O,.inl<|u.W hl,_,O,λR hR=>?_);have s6:=aQ.B (o:=.j 0 ((d.map af.c).length:Nat)) hR;refine(R,(d.map af.c).length,O,aD,by rw[aA];omega,λM hM=>?_);have s7:=aQ.B (o:=.a<|((dk (d.map af.c).length).map λk:Nat=>(k:Int)).map af.d) hM;refine(D5,M,[],_,O,O,bx.B<|(s6.F s7) _ _ aD,bx.B aD,_,O,?_);have X:¬([]:List Int)=(dk (d.map af.c).length).map λk:Nat=>(k:Int):=λz=>by
   have:=gD aF z;rw[aA,lZ,aA,D] at this;exact h0<|aha.mp this.symm
  rw[cf X];exact dI<|k _<|u.F<|s6.F s7
end
abbrev Gj:bV:=de 69
section
variable{P:aU}{w:aO}{K:aH}{mg:al->Option aa}{base:aI}{f:V}{fd:cr}{PO PY fW fO fN:V}
def fh{n k:Int}{c:kz}{a:aM}(h:¬n=k)(e:a[0]?=U (U<|af.d n))(q:c.a a H):Ee (jF<|dW qJ (bz 0)<|dK<|af.d k) b KD c a H:=by
 refine(_,e,O,_,O,?_);rw[cf (λz=>h<|af.d.inj z)];exact cZ q
def pZ{n:Int}{b d:fe}{a:aM}(e:a[0]?=U (U<|af.d n))(q:b c a H):Ee (jF<|dW qJ (bz 0)<|dK<|af.d n) b d c a H:=by
 refine(_,e,O,_,O,?_);rw[bZ O];exact dI q
abbrev xh(t:Int)(a:Ξ):Prop:=0<=t/\t<a.length
def BE(n:Nat)(p t:Int)(a:Ξ)(fO fN:V)(G:Prop)(A:V->Prop):Prop:=
 (¬dU a/\A fO)\/(dU a/\a.length<=60/\((n<5/\¬gM p)\/(3<=n/\gM p/\¬xh t a))/\A fN)\/(dU a/\a.length<=60/\a≠[]/\gM p/\xh t a/\G)
inductive FJ(K:aH)(PY fO fN:V)(vs:List af)(H:ac)(Q:aL)(E:bK):Prop
 |a:∀(n:Nat)(l:V)(as:List V)(pss:Ξ)(p t:Int),(vs=[.d n,.c l,.d p,.d t])->(n<6)->(bx K H l<|as.map af.c)->(aW H as pss)->(pss.length<=61)->(rB PY H)->(BE n p t pss fO fN (∀H1,hW PY H H1->Q .g H1) (λC=>∀H1,hW PY H H1->∀x,H1 x=Z->E (.ref x) (U C) H1))->FJ K PY fO fN vs H Q E
def XG:cQ ["way","order","prime","time"] ["way","order","prime","time"] (bB Gj):=(O,O,O,δ,O,δ,δ)
def Zr(F:bF K "_law_called" "_law_called" Gj f fd)(C0:bO P w K mg base (da P w) "bars" ["order","prime"] 7 (λy H Q E=>xo K PY y H Q E\/mv K fO fN 0 y H Q E))(C1:bO P w K mg base (da P w) "paper" ["order","prime"] 6 (λy H Q E=>Ay K PY y H Q E\/mv K fO fN 0 y H Q E))(C2:bO P w K mg base (da P w) "is_paper" ["order","prime","paper"] 6 (λy H Q E=>FG K y H Q E\/mv K fO fN 1 y H Q E))(C3:bO P w K mg base (da P w) "alive" ["order","prime","high","time"] 9 (λy H Q E=>FP K PY fN y H Q E\/mv K fO fN 2 y H Q E))(C4:bO P w K mg base (da P w) "lasting" ["order","prime","high","early","late"] 8 (λy H Q E=>AF K PY fN y H Q E\/mv K fO fN 3 y H Q E))(C5:bO P w K mg base (da P w) "web_at" ["order","time"] 6 (Fn K fO fN)):bD P w K mg base (da P w) 10 f fd ["way","order","prime","time"] (FJ K PY fO fN):=by
 refine F.F XG (λy H Q E h=>?_) (λa1 A a0 s H y Q E M h=>?_)
 ·obtain⟨n,l,q,a,p,t,rfl,_⟩:=h;rfl
 ·obtain⟨n,l,q,a,p,t,rfl,hn,r,u,a2,R,S⟩:=h
  refine(_,aY (dh (cV jT (ah 0) aV<|cN _) (be<|eW<|bN C0 M O (ge (E:=E))<|aj (ah 1)<|aj (ah 2) az) dq)
   (aY (dh (cV jT (ah 0) aV<|cN _) (be<|eW<|bN C1 M O (ge (E:=E))<|aj (ah 1)<|aj (ah 2) az) dq)
   (aY (dh (cV jT (ah 0) aV<|cN _) (be<|eW<|bN C2 M O (ge (E:=E))<|aj (ah 1)<|aj (ah 2)<|aj (eR az) az) dq)
   (aY (dh (cV jT (ah 0) aV<|cN _) (be<|eW<|bN C3 M O (ge (E:=E))<|aj (ah 1)<|aj (ah 2)<|aj aV<|aj (ah 3) az) dq)
   (aY (dh (cV jT (ah 0) aV<|cN _) (be<|eW<|bN C4 M O (ge (E:=E))<|aj (ah 1)<|aj (ah 2)<|aj aV<|aj (ah 3)<|aj (ah 3) az) dq)
  <|be<|dh (cV jT (ah 0) aV<|cN _) (be<|eW<|bN C5 M O (ge (E:=E))<|aj (ah 1)<|aj (ah 3) az) dq)))),?_)
  have:n=0\/n=1\/n=2\/n=3\/n=4\/n=5:=ω
  rcases this with rfl|rfl|rfl|rfl|rfl|rfl
  ·refine pZ O (_,O,_,O,?_)
   rcases S with ⟨c,k⟩|⟨c,d,m,k⟩|⟨c,d,T,C,v,k⟩
   ·exact .inr (l,q,a,p,[],O,O,r,u,ω,.inl (c,λb i x j=>k b (aQ.sf i) x j))
   ·exact .inr (l,q,a,p,[],O,O,r,u,ω,.inr (c,m.elim (·.2) (λz=>aZ z.1 ξ),λb i x j=>k b (aQ.sf i) x j))
   ·exact .inl (l,q,a,p,O,r,u,c,d,C,R,λD us X b G _ _ _ _=>fh ξ O<|fh ξ O<|fh ξ O<|fh ξ O<|fh ξ O<|k b G)
  ·refine fh ξ O<|pZ O (_,O,_,O,?_)
   rcases S with ⟨c,k⟩|⟨c,d,m,k⟩|⟨c,d,T,C,v,k⟩
   ·exact .inr (l,q,a,p,[],O,O,r,u,ω,.inl (c,λb i x j=>k b (aQ.sf i) x j))
   ·exact .inr (l,q,a,p,[],O,O,r,u,ω,.inr (c,m.elim (·.2) (λz=>aZ z.1 ξ),λb i x j=>k b (aQ.sf i) x j))
   ·exact .inl (l,q,a,p,O,r,u,c,d,C,R,λD L b G _ _ _ _=>fh ξ O<|fh ξ O<|fh ξ O<|fh ξ O<|k b G)
  ·refine fh ξ O<|fh ξ O<|pZ O (_,O,_,O,cg O,λe he=>?_)
   have I:=aQ.B (o:=.a []) he;rcases S with ⟨c,k⟩|⟨c,d,m,k⟩|⟨c,d,T,C,v,k⟩
   ·exact .inr (l,q,a,p,[_],O,O,I.W r,I.J u,ω,.inl (c,λb i x j=>k b (aQ.sf<|I.F i) x j))
   ·exact .inr (l,q,a,p,[_],O,O,I.W r,I.J u,ω,.inr (c,m.elim (·.2) (λz=>aZ z.1 ξ),λb i x j=>k b (aQ.sf<|I.F i) x j))
   ·exact .inl (l,q,a,p,e,O,I.W r,I.J u,c,T,d,C,bx.B aD,λb i=>fh ξ O<|fh ξ O<|fh ξ O<|k b<|aQ.sf<|I.F i)
  ·refine fh ξ O<|fh ξ O<|fh ξ O<|pZ O (_,O,_,O,_,O,?_)
   rcases S with ⟨c,k⟩|⟨c,d,m,k⟩|⟨c,d,T,C,v,k⟩
   ·exact .inr (l,q,a,p,[_,_],O,O,r,u,ω,.inl (c,λb i x j=>k b (aQ.sf i) x j))
   ·rcases m with ⟨_,m⟩|⟨_,C,m⟩
    ·exact .inr (l,q,a,p,[_,_],O,O,r,u,ω,.inr (c,m,λb i x j=>k b (aQ.sf i) x j))
    ·exact .inl (l,q,a,p,0,t,O,r,u,c,d,C,R,λX b g=>(m g).elim,λb g G x j=>k b G x j)
   ·exact .inl (l,q,a,p,0,t,O,r,u,c,d,C,R,λX b g G _=>fh ξ O<|fh ξ O<|k b G,λb g=>(g v).elim)
  ·refine fh ξ O<|fh ξ O<|fh ξ O<|fh ξ O<|pZ O (_,O,_,O,_,O,_,O,?_)
   rcases S with ⟨c,k⟩|⟨c,d,m,k⟩|⟨c,d,T,C,v,k⟩
   ·exact .inr (l,q,a,p,[_,_,_],O,O,r,u,ω,.inl (c,λb i x j=>k b (aQ.sf i) x j))
   ·rcases m with ⟨_,m⟩|⟨_,C,m⟩
    ·exact .inr (l,q,a,p,[_,_,_],O,O,r,u,ω,.inr (c,m,λb i x j=>k b (aQ.sf i) x j))
    ·exact .inl (l,q,a,p,0,t,t,O,r,u,c,d,C,R,λX b g=>(m (g.1,g.2.2)).elim,λb g G x j=>k b G x j)
   ·exact .inl (l,q,a,p,0,t,t,O,r,u,c,d,C,R,λX b g G _=>fh ξ O<|k b G,λb g=>(g (v.1,md _,v.2)).elim)
  ·refine fh ξ O<|fh ξ O<|fh ξ O<|fh ξ O<|fh ξ O<|pZ O (_,O,_,O,?_)
   rcases S with ⟨c,k⟩|⟨c,d,m,k⟩|⟨c,d,T,C,v,k⟩
   ·exact(l,q,a,t,O,r,u,ω,λD b z=>(c z).elim,λ_=>.inl (c,λb i x j=>k b (aQ.sf i) x j))
   ·have m:¬xh t a:=m.elim (λz=>aZ z.1 ξ) (·.2.2)
    exact(l,q,a,t,O,r,u,ω,λD b _ g=>(m g).elim,λ_=>.inr (c,m,λb i x j=>k b (aQ.sf i) x j))
   ·exact(l,q,a,t,O,r,u,ω,λD b _ _ i=>k b<|aQ.sf i,λz=>(z c v).elim)
end
abbrev Gl:bV:=de 70
abbrev Ge:bV:=de 71
section
variable{P:aU}{w:aO}{K:aH}{mg:al->Option aa}{base:aI}{f:V}{fd:cr}{PO PY fW fO fN fS:V}
abbrev rz:hV:=[(adc ([99]) 1)]
def GQ(K:aH)(H:ac)(l:V):Prop:=∃b a,bx K H l (b.map af.c)/\aW H b a/\(a.all gl=ae->(bh<|a.flatMap cy).length<64)/\gj a=ao
def GQ.e{E:bK}(h:GQ K H l)(k:∀e,aQ H e->∀x,e x=Z->E (.ref x) (U fW) e):BH K fW H l E:=by
 obtain⟨g,f,a,b,c,d⟩:=h;exact(g,f,a,b,c,d,k)
inductive Fq(K:aH)(fW fO:V)(vs:List af)(H:ac)(Q:aL)(E:bK):Prop
 |a:∀l d,(vs=[.c l,.c d])->((BH K fW H l E\/∃as pss,ni K H l d as pss rz/\∀H1,aQ H H1->∀x,H1 x=Z->E (.ref x) (U fO) H1))->Fq K fW fO vs H Q E
def BG(K:aH)(H:ac)(n:Nat)(l d:V)(p:Int)(fW fO fN:V)(G:Prop)(A:V->Prop):Prop:=
 (GQ K H l/\A fW)\/(∃b a,ni K H l d b a rz/\¬nh (cW a) rz/\A fO)\/(n=6/\∃b a c,ni K H l d b a c/\nh (cW a) c/\((¬gM p/\A fN)\/(gM p/\G)))
def BG.B{n:Nat}{G j:Prop}{A m:V->Prop}(g:G->j)(a:∀C,A C->m C)(h:BG K H n l d p fW fO fN G A):BG K H n l d p fW fO fN j m:=by
 rcases h with ⟨h,k⟩|⟨c,b,h,f,k⟩|⟨e,c,b,o,h,f,⟨i,k⟩|⟨i,k⟩⟩
 ·exact .inl (h,a _ k)
 ·exact .inr<|.inl (c,b,h,f,a _ k)
 ·exact .inr<|.inr (e,c,b,o,h,f,.inl (i,a _ k))
 ·exact .inr<|.inr (e,c,b,o,h,f,.inr (i,g k))
def BE.B{n:Nat}{p t:Int}{G e:Prop}{A f:V->Prop}(g:G->e)(a:∀C,A C->f C)(h:BE n p t b fO fN G A):BE n p t b fO fN e f:=by
 rcases h with ⟨h,k⟩|⟨h,c,d,k⟩|⟨h,c,d,i,j,k⟩
 ·exact .inl (h,a _ k)
 ·exact .inr<|.inl (h,c,d,a _ k)
 ·exact .inr<|.inr (h,c,d,i,j,g k)
inductive FK(K:aH)(PO PY fW fO fN:V)(vs:List af)(H:ac)(Q:aL)(E:bK):Prop
 |a:∀(n:Nat)(l d:V)(p:Int),(vs=[.d n,.c l,.c d,.d p])->((n=6\/n=7\/n=8))->(mC PO PY H)->(BG K H n l d p fW fO fN (∀H1,dX PO PY H H1->Q .g H1) (λC=>∀H1,dX PO PY H H1->∀x,H1 x=Z->E (.ref x) (U C) H1))->FK K PO PY fW fO fN vs H Q E
def XH:cQ ["way","web","worths","prime"] ["way","web","worths","prime"] (bB Gl):=(O,O,O,δ,O,δ,δ)
def Zs(F:bF K "_law_by_worths" "_law_by_worths" Gl f fd)(v:bO P w K mg base (da P w) "bars_by" ["web","worths","prime"] 10 (λi H Q R=>FO K PO PY i H Q R\/FN K PO PY fW fO fN i H Q R))(y:bO P w K mg base (da P w) "order_by" ["web","worths"] 9 (λi H Q R=>xl K PO i H Q R\/AB K fW fO i H Q R))(C:bO P w K mg base (da P w) "worths_by_points" ["web","ages"] 10 (Fq K fW fO)):bD P w K mg base (da P w) 11 f fd ["way","web","worths","prime"] (FK K PO PY fW fO fN):=by
 refine F.F XH (λi H Q R h=>?_) (λG A m s H i Q R o h=>?_)
 ·obtain⟨n,l,d,p,rfl,_⟩:=h;rfl
 ·obtain⟨n,l,d,p,rfl,I,t,q⟩:=h
  refine(_,aY (dh (cV jT (ah 0) aV<|cN _) (be<|eW<|bN v o O (ge (E:=R))<|aj (ah 1)<|aj (ah 2)<|aj (ah 3) az) dq)
   (aY (dh (cV jT (ah 0) aV<|cN _) (be<|eW<|bN y o O (ge (E:=R))<|aj (ah 1)<|aj (ah 2) az) dq)
  <|be<|dh (cV jT (ah 0) aV<|cN _) (be<|eW<|bN C o O (ge (E:=R))<|aj (ah 1)<|aj (ah 2) az) dq),?_)
  rcases I with rfl|rfl|rfl
  ·refine pZ O (_,O,_,O,_,O,?_)
   rcases q with ⟨h,k⟩|⟨g,a,h,j,k⟩|⟨_,g,a,u,h,j,⟨r,k⟩|⟨r,k⟩⟩
   ·exact .inr (l,d,p,O,.inl<|.inl<|h.e λb c x e=>k b (.B c) x e)
   ·exact .inr (l,d,p,O,.inl<|.inr (g,a,rz,h,j,λb c x e=>k b (.B c) x e))
   ·exact .inr (l,d,p,O,.inr (g,a,u,h,t,j,r,k))
   ·exact .inl (l,d,g,a,u,p,O,h,t,j,r,λD b M L z _ _ _ _=>fh ξ O<|fh ξ O<|k b z)
  ·refine fh ξ O<|pZ O (_,O,_,O,?_)
   rcases q with ⟨h,k⟩|⟨g,a,h,j,k⟩|⟨z,_⟩
   ·exact .inr (l,d,O,.inl<|h.e λb c x e=>k b (.B c) x e)
   ·exact .inr (l,d,O,.inr (g,a,rz,h,j,λb c x e=>k b (.B c) x e))
   ·exact aZ z ξ
  ·refine fh ξ O<|fh ξ O<|pZ O (_,O,_,O,?_)
   rcases q with ⟨h,k⟩|⟨g,a,h,j,k⟩|⟨z,_⟩
   ·exact(l,d,O,.inl<|h.e λb c x e=>k b (.B c) x e)
   ·exact(l,d,O,.inr (g,a,h,λb c x e=>k b (.B c) x e))
   ·exact aZ z ξ
def AN:cQ ["way","order","worths","prime","time","told","e"] ["way","order","worths","prime","time"] (bB Ge):=(O,O,O,δ,O,δ,δ)
def Gz(fW fO fN C:V)(a:String):Prop:=(C=fW/\a="web")\/(C=fO/\a="order")\/(C=fN/\a="number")
inductive nN(K:aH)(PO PY fW fO fN:V)(vs:List af)(H:ac)(Q:aL)(E':bK):Prop
 |a:∀(n:Nat)(l d:V)(p t:Int),(vs=[.d n,.c l,.c d,.d p,.d t])->(mC PO PY H)->(((n<6/\∃as pss,bx K H l (as.map af.c)/\aW H as pss/\pss.length<=61/\BE n p t pss fO fN (∀H1,dX PO PY H H1->Q (.f "told") H1) (λC=>∃st,Gz fW fO fN C st/\∀H1,dX PO PY H H1->Q (.f st) H1))\/((n=6\/n=7\/n=8)/\BG K H n l d p fW fO fN (∀H1,dX PO PY H H1->Q (.f "told") H1) (λC=>∃st,Gz fW fO fN C st/\∀H1,dX PO PY H H1->Q (.f st) H1))))->nN K PO PY fW fO fN vs H Q E'
def Y'{z:V}(F:bF K "_law_met" "_law_met" Ge f fd)(mS:mg "SeamError"=U (.ref fS))(S0:qW K fW fS)(S1:qW K fO fS)(S2:qW K fN fS)(Cc:bO P w K mg base (da P w) "_law_called" ["way","order","prime","time"] 10 (FJ K PY fO fN))(Cb:bO P w K mg base (da P w) "_law_by_worths" ["way","web","worths","prime"] 11 (FK K PO PY fW fO fN))(Fw:bF K "_law_which" "_law_which" AS z q)(bw:eT K q ["e"] [])(mw:mg "_law_which"=U (.ref z))(Gw:xb P w K mg base 1 z q ["e"] (Av fW fO fN)):bD P w K mg base aX 12 f fd ["way","order","worths","prime","time"] (nN K PO PY fW fO fN):=by
 refine F.B AN (λvs H Q E h=>?_) (λa2 A G s H vs Q E I h=>?_)
 ·obtain⟨n,l,d,p,t,rfl,_⟩:=h;rfl
 ·obtain⟨n,l,d,p,t,rfl,tt,h⟩:=h
  have L:eJ 1 _:=I.F ξ;refine(_,aY (cJ (i:=5) AN.a O (ak O) dF)
   (aY (Uu (ie:=6) (S:=fS) O AN.a O O O O O mS
    (λv EB=>be (dh (cV sJ (ah 0) aV<|cN _) (be<|eW<|bN Cc I O (Lw O)<|aj (ah 0)<|aj (ah 1)<|aj (ah 3)<|aj (ah 4) az)
    <|be<|eW<|bN Cb I O (Lw O)<|aj (ah 0)<|aj (ah 1)<|aj (ah 2)<|aj (ah 3) az))
    (λv x=>be<|cJ (i:=5) AN.a O (ak O)<|UO (E:=oY) Gw (L.W _) O mw Fw.a bw .nil<|aj (ah 6) az))
  <|be<|cp<|ah 5),?_)
  have HB:∀(D:kz)(j:ac)(x C:V)(m:String),Gz fW fO fN C m->j x=Z->(∀a b c d g o,aQ j o->D.a [a,b,c,d,g,U<|.f m,Z] o)->Nc K 7 6 fS (uI (qI (Av fW fO fN) [] oY<|cT (bz 6) e_)<|eA 5) D (.ref x) (U C) j:=by
   intro D j x C m u y kk;refine(x,C,O,O,?_,λM R=>?_)
   ·rcases u with ⟨rfl,_⟩|⟨rfl,_⟩|⟨rfl,_⟩
    ·exact S0
    ·exact S1
    ·exact S2
   match M,R with
   |[a,b,c,d,g,e,f],_=>exact(_,O,x,C,m,O,aD,u,λo T=>kk a b c d g o<|(aQ.B y).F T)
  refine(_,O,_,_,O,O,_,O,?_);rcases h with ⟨X,as,a0,R,ht,a1,hM⟩|⟨X,hM⟩
  ·rw[bZ ω]
   refine dI (_,O,_,O,_,O,_,O,n,l,as,a0,p,t,O,X,R,ht,a1,tt.y,hM.B (λk j r=>(_,O,k j<|.W r)) ?_);rintro C ⟨m,u,k⟩ j r x y;exact HB _ j x C m u y λa b c d g o s2=>(_,O,k o<|(dX.W r).F<|.B s2)
  ·rw[cf ω]
   refine cZ (_,O,_,O,_,O,_,O,n,l,d,p,O,X,tt,hM.B (λk j r=>(_,O,k j r)) ?_);rintro C ⟨m,u,k⟩ j r x y;exact HB _ j x C m u y λa b c d g o s2=>(_,O,k o<|r.F<|.B s2)
end
section
open PySem.SetTable
section
variable{prog:aU}{w:aO}{A:bg}{E:Ω}{s:ai}{K:Type}[DecidableEq K]{knd:kc prog w K}
def SU{m:Nat}{t:gz}(k:s.heap.get? S=U o)(l:o.data=.set a m t)(T:gQ t (a.map (·.1))){h:Int}(p:∀e∈a.toList,e.1≠h){Q:Option Nat->ai->Prop}(q:Q Z s):am (aE prog w) A (B' S (.ref b) h) Q E s:=by
 have c:=jQ T;unfold B' setFindIn;refine ag<|lR k l c ?_;dsimp only;have r:byScan (.ref b) a=ao:=O;rw[r];simp only[dc,cM];obtain⟨u,f,v,x⟩:=zh T h;refine ag ?_;unfold PS Hx;refine ag<|lR k l c ?_;dsimp only;have y:t.gaveWay=ao:=by
  unfold aed;rw[T.e]
  rfl
 rw[y];simp only[dc,cM];rcases DN T (n:=0) (hashAt:=λi=>((a[i]?).map (·.1)).getD 0) f v x (dZ _) with ⟨g,j⟩|⟨P,i,I,K,z,C,L,M⟩
 ·have d:t.probe (λi=>((a[i]?).map (·.1)).getD 0) h (cF t.mask h 0)=U (.empty (bU t.mask h u) Z):=g
  show am _ _ (match t.probe (λi=>((a[i]?).map (·.1)).getD 0) h (cF t.mask h 0) with|some D=>_|_=>_) _ _ s;rw[d];dsimp only;exact aC<|aC q
 ·exfalso
  have G:i<a.size:=by
   have:=(qB.mp z).1;rw[T.a,jD] at this;exact this
  have H:a[i]?=U a[i]:=kP a i G;have:((a[i]?).map (·.1)).getD 0=h:=C;rw[H] at this;exact p a[i] (by simp) this
def SI{B1:List V}{R:aR}(c:fw knd s.heap M R a y t1 q B1)(X2:lK prog w s.heap P C)(D:q≠[])(hh:∀k∈q,∀n∈C,(dR prog w).hash n≠cD knd k)(hu:A.units+64<cH){Q:Ω}(h:Q (.bool ae) s):am (aE prog w) A (gu .NotEq (.ref M)<|.ref P) Q E s:=by
 have f1:=jQ c.d;obtain⟨o2,j,a0,t2,l,a2,u,S,a5,a6,a7,a8,a9⟩:=X2;have G:=jQ S;have m:∀e∈j.toList,∃n t,n∈C/\e=(adc ((dR prog w).hash n) (.int n t)):=λe i=>by
  obtain⟨n,t,rfl⟩:=Ko a5 i;exact(n,t,a6.mem_iff.mp<|bq.mpr (_,i,O),O)
 refine Kh (r:=ao) (R,c.a,c.g.1) (o2,l,a2.1) hu (λX Q' E' p=>uD c p) (λX Q' E' p=>JV l u G p) (λH id X Q' E' b0 p=>?_) (by rw[pJ];exact h);refine Ka (es1:=a) (g:=λ_=>ao) H (λI v x d=>uD c d) (λI v x d=>JV l u G d) (λI v x d=>JZ c d)
  (λI v x d=>JU (es1:=a) (es2:=j) (λ_ _ _ f=>wz c.a c.c f1 f) (λ_ _ _ f=>wz l u G f) (λe i=>?_) (λ_ _ _ f _=>JT c f) d) (λe i v x d=>?_) ?_
 ·rcases gB.mp i with z|z
  ·obtain⟨k,b,_,rfl,o,L,n,ho,hc,_⟩:=c.f e z
   refine(ao,λ_=>(b,O),λA3 Q3 E3 f=>?_);unfold IA;dsimp only;refine ag<|xX (T:="tuple") (o,ho,hc) QH.lookup ?_;exact aC f
  ·obtain⟨n,t,_,rfl⟩:=m e z
   refine(ae,(λz=>by cases z),λA3 Q3 E3 f=>?_);unfold IA;exact aC f
 ·obtain⟨k,b,hk,rfl,b1⟩:=c.f e i
  refine SU l u S (λe i=>?_)<|d Z O;obtain⟨n,t,H,rfl⟩:=m e i;exact hh k hk n H
 ·have:a.toList.all (λ_=>ao)=ao:=by
   cases q with
   |nil=>exact(D O).elim
   |cons k r=>
    obtain⟨b,hb,_⟩:=c.i k dC;exact List.all_eq_false.mpr (_,hb,by simp)
  rw[this];exact p
end
end
section
variable{X:aK}
def UV(g:X.A.units+64<cH):fy X (gu .NotEq) (λx y H Q=>∃a b c d D,x=.c a/\y=.c b/\H a=U (mn X.prog X.w a c D)/\H b=U (wY X.prog X.w b d)/\qV H D/\c≠[]/\ (∀k∈c,∀n∈d,(dR X.prog X.w).hash n≠cD (dR X.prog X.w) k)/\Q (.e ae) H):=by
 intro f s z H x y v u Q I i j h;obtain⟨a,b,c,d,D,rfl,rfl,l,m,o,e,p,q⟩:=h;cases i;cases j;obtain⟨A,r,t,C,w⟩:=(Ej I l).ts<|o.F I;exact SI w (show lK _ _ _ _ _ from(I.b _ _ m).1) e p g (.e _,H,I,O,q)
end
abbrev Gb:bV:=de 24
abbrev FZ:bV:=de 36
abbrev Nq(K:aH):eB:=jF<|dW qJ (oD (Bp K)<|cT (bz 0) e_)<|dK<|.d 1
abbrev Nu(K:aH):bb:=dW (uJ K) (bz 0)<|dK<|.d 0
section
variable{P:aU}{w:aO}{K:aH}{mg:al->Option aa}{base:aI}{f:V}{fd:cr}{fW fO:V}
def Yh{f:List V}{Q:aL}(u:bx K d L (f.map af.c))(m:aW d f g)(C:g.length<=1000)(n:d D=Z)(k:∀b,aQ d b->b D=U (.a<|(ph g).map af.d)->Q (.c D) b):fg (im K L) (eA 0) (Nq K) (Nu K) [Z] d D Q:=by
 have l:=m.B;refine jX (xs:=f.map af.c) (λE h e b=>∃v:Option af,h=[v]/\aQ d b/\b D=U (.a e)/\e=(ph<|g.take E).map af.d) ?_ ?_ ?_ ?_
 ·exact(Z,O,aQ.B n,aD,O)
 ·rintro E h e b ⟨v,rfl,c,a,rfl⟩
  exact c.W u
 ·rintro E h e b x w q r ⟨v,rfl,c,a,rfl⟩
  obtain⟨o,y,rfl⟩:=fY w;obtain⟨p,s,t⟩:=m.F y;have A:(f.map af.c).length<=bG:=by rw[aA];exact dN ω
  refine(_,O,o,_,O,.inr<|fm.B<|c.N t,O,_,O,?_)
  by_cases i:p.length=1
  ·rw[show aG (af.d ((p.map af.d).length:Int)=af.d 1)=ae from bZ (by rw[aA,i];rfl)]
   obtain⟨x,rfl⟩:∃x,p=[x]:=by
    match p,i with
    |[x],_=>exact(x,O)
   refine dI (_,O,o,_,_,.d x,O,O,fm.B<|c.N t,kW (j:=0) O,gG A q r a (_,O,c.A0 n,aD,?_));unfold ph;rw[di s,kj,cv,cv]
   rfl
  ·rw[show aG (af.d ((p.map af.d).length:Int)=af.d 1)=ao from cf λG=>i (by injection G with G;rw[aA] at G;omega)]
   refine cZ<|sQ q r (_,O,c,a,?_);unfold ph;rw[di s,kj,wf (by rw[cf i];decide),qy,lG]
 ·rintro h e b ⟨v,rfl,c,a,rfl⟩
  rw[aA,l,gb<|bc _] at a;exact k b c a
inductive Fz(K:aH)(vs:List af)(H:ac)(Q:aL)(E':bK):Prop
 |a:∀l as pss,(vs=[.c l])->(bx K H l<|as.map af.c)->(aW H as pss)->(Ai pss)->(∀D H2,aQ H H2->H D=Z->H2 D=U (.a<|(ph<|cW pss).map af.d)->Q (.c D) H2)->Fz K vs H Q E'
def Xx:cQ ["web"] ["web"] (bB Gb):=(O,O,O,δ,O,δ,δ)
def YK(F:bF K "points" "points" Gb f fd)(X:eC mg)(u:bO P w K mg base aX "pieces" ["web"] 8 (xj K)):bD P w K mg base aX 9 f fd ["web"] (Fz K):=by
 refine F.B Xx (λv H Q E h=>?_) (λx A e s H v Q E y h=>?_)
 ·obtain⟨l,m,c,rfl,_⟩:=h;rfl
 ·obtain⟨l,m,c,rfl,z,G,n,k⟩:=h
  obtain⟨_,_,_,o⟩:=qb n.1;refine(_,be (cp (fE ["web"] ["piece"] [Z] (eG<|bN u y O ce<|aj (ah 0) az) (λp C a b q=>cB (i:=0) (eI ["piece"]) O<|ak O)
   (λp C a b q=>oE<|cV jT (eH gW O X.a fZ<|aj (ah 0) az) aV<|cN _) (λp C a b q=>dG gF (ah 0) aV (λ_ _=>O)) (hfr:=lN δ) (tc:=Nq K) (te:=Nu K))),?_)
  refine(_,O,l,m,c,O,z,G,n,λL R S r T d I=>(L,O,(_,bx.B d),λD t=>fc<|Yh (bx.B d) I (by rw[vu];omega) t λM g j=>k D M (r.F g) (r.A2 t) j))
def ο:∀m:_root_.Fin 100,hashInt ((m.val:Nat):Int)≠reduceHash (ajw<|([99]:List Int).map hashInt):=δ
def π(P:aU)(w:aO){n:Int}(a:0<=n)(c:n<=99):(dR P w).hash n≠cD (dR P w) [99]:=by
 obtain⟨m,rfl⟩:=wo a;have b:m<100:=ω
 exact ο (m,b)
def ND:cQ ["web","ages","every","worths","piece"] ["web","ages"] (bB FZ):=(O,O,O,δ,O,δ,δ)
def Yi(hw:gj a=ae){n:Int}(h:n∈ph (cW a)):0<=n/\n<=99:=by
 unfold ph at h;obtain⟨p,d,rfl⟩:=bq.mp h;obtain⟨e,b⟩:=nA.mp d;have b:=iE b;obtain⟨_,c,_,_⟩:=qb hw;obtain⟨q,f,g⟩:=ki.mp<|qc.mp e;have:=(nt.mp<|BK (c q f) g).2.2.1
 match p,b,this with
 |[x],_,this=>exact this x dC
def YD(F:bF K "worths_by_points" "worths_by_points" FZ f fd)(a3:eC mg)(X:mg "NoOrder"=U (.ref fO))(qx:jK K fO kU "ValueError.__new__"=ae)(Cp:bO P w K mg base (da P w) "pieces" ["web"] 8 (NA K fW))(m:bO P w K mg base aX "points" ["web"] 9 (Fz K)):bD P w K mg base (da P w) 10 f fd ["web","ages"] (Fq K fW fO):=by
 refine F.F ND (λvs H Q E h=>?_) (λa0 A p s H vs Q E c h=>?_)
 ·obtain⟨l,d,rfl,_⟩:=h;rfl
 ·obtain⟨l,d,rfl,h⟩:=h
  refine(_,aY (cJ (i:=2) ND.a O (ak O)<|bN Cp c O (ge (E:=E))<|aj (ah 0) az)
   (aY (dh (cV (UV c.units) (ik (MB c.units) O a3.e xN<|aj (ah 1) az) (ik (Wr O) O a3.e xN<|aj (bN m c O ce<|aj (ah 0) az) az)<|cN _)
    (be<|sI (C:=fO) (EX:=E) O O X qx (λD σ H' s' x I q h0 hs hE=>qG I q h0 hs (λa e=>nomatch e) hE)) dq) lL),?_)
  rcases h with hb|⟨G,b,a4,kE⟩
  ·exact(_,O,.inr (l,O,hb))
  ·refine(_,O,.inl (l,G,b,O,a4.hl,a4.b,a4.hw,λL H1 ks g hL a1 M=>?_))
   refine(_,O,d,_,[[99]],O,a4.hd.B g,O,ξ,λR hB S r=>?_);have j:=aQ.B (o:=mn P w S (bh [[99]]) R) r;have t:=a4.a;have pl:(ph<|cW b).length<=56:=by unfold ph;rw[aA];exact dE (qw _ _) t
   refine(_,O,l,G,b,O,(g.F j).W a4.hl,(g.F j).J a4.b,a4.hw,λL2 H3 u a2 v=>(L2,_,O,bx.B v,ω,λT y=>?_));have z:=aQ.B (o:=wY P w T<|bh<|ph<|cW b) y;refine(S,T,_,_,R,O,O,z _ _<|u _ _ aD,aD,hB.N<|(j.F u).F z,ξ,λk M n hn=>?_,_,O,?_)
   ·obtain rfl:k=[99]:=by simpa[bh] using M
    have:=Yi a4.hw.1<|(DX _ n).mp hn;exact π _ _ this.1 this.2
   ·exact dI λx q=>kE _ (((g.F j).F u).F z) x q
end
section
variable{P:aU}{w:aO}{K:aH}{mg:al->Option aa}{base:aI}{f:V}{fd:cr}
inductive tj(K:aH)(vs:List af)(H:ac)(Q:aL)(E':bK):Prop
 |a:∀l xs,(vs=[.c l])->(bx K H l xs)->(200<xs.length)->(Q (.e ao) H)->tj K vs H Q E'
def Zm(F:bF K "is_order" "is_order" xH f fd)(n:eC mg)(b:mg "MOST_PIECES"=U (.int 200 a)):bD P w K mg base aX 2 f fd ["order"] (tj K):=by
 refine F.B AQ (λd H Q E h=>?_) (λe A c s H d Q E j h=>?_)
 ·obtain⟨l,g,rfl,_⟩:=h;rfl
 ·obtain⟨l,g,rfl,i,m,k⟩:=h
  refine(_,aY (dh (cV sK (eH gW O n.a fZ<|aj (ah 0) az) (oN O b (v:=.d 200) (_,O))<|cN _) (be<|cp gd) dq) lL,?_);refine(_,O,l,_,O,.inl i,_,_,O,O,_,O,?_);rw[bZ ω];exact dI k
end
section
open PySem.MeetsSeq PySem.SeqAt
open PySem.AutoSeq1 (wpAny_loadPart')
abbrev MU(l:V)(a:Array aa)(n:Nat)(x:aa)(e:aa->Bool)(j:Nat):PySem.Spec:=λA R s=>
 s.heap.get? l=U {cls:=.type "list",dict:=Z,data:=.seq a n,slots:=#[]}/\(∀y,y∈a->yt A.in1 s y x (e y))/\R (.ok<|.ret .none) {s with heap:=s.heap.update l<|b_ λb=>b.eraseIdxIfInBounds j}
section
variable{l:V}{its:Array aa}{n:Nat}{x:aa}{e:aa->Bool}{j:Nat}
def WE(r:j<its.size)(g:e its[j]=ae)(o:its.size<=bG)(k:Nat):∀i:Nat,j-i=k->i<=j->(∀m(t:m<its.size),i<=m->m<j->e its[m]=ao)->Meets (Builtin.«list.remove.loop» ([.ref l,x,dY i],[])) (MU l its n x e j):=by
 induction k with
 |zero=>
  intro i u v p c w A R s h;obtain⟨y,z,C,D,E⟩:=s;obtain⟨d,f,h⟩:=h;obtain rfl:i=j:=ω
  wp_walk using wpAny_loadPart' d
  rw[show its[((i:Nat):Int).toNat]?=U its[i] by simp[r]];refine ag<|f _ (aie r) c w _ _ ?_;rw[g];have G:(its.eraseIdxIfInBounds i).size<=bG+1:=IX<|dE (size_erased its i) o
  wp_walk using (tJ d O (hz:=o) (_hz':=G)),wpAny_loadPart' d
  simpa using h
 |succ k H=>
  intro i u v p c w A R s h;obtain⟨y,z,C,D,E⟩:=s;obtain⟨d,f,h⟩:=h;have q:i<its.size:=ω
  wp_walk using wpAny_loadPart' d
  rw[show its[((i:Nat):Int).toNat]?=U its[i] by simp[q]];refine ag<|f _ (aie q) c w _ _ ?_;rw[p i q (bc _) ω]
  wp_walk
  rw[show((i:Int)+1)=((i+1:Nat):Int) by push_cast;rfl];refine(lp Il _,jj ael ?_);rw[kK Il _];exact H (i+1) ω ω (λm t a b=>p m t ω b) c w A R _ (d,f,h)
def WF(g:j<its.size)(c:e its[j]=ae)(i:∀m(d:m<its.size),m<j->e its[m]=ao)(k:its.size<=bG):Meets (Builtin.«list.remove» ([.ref l,x],[])) (MU l its n x e j):=by
 intro a w A R s h;obtain⟨p,q,r,t,u⟩:=s;obtain⟨f,o,h⟩:=h
 wp_walk using wpAny_loadPart' f
 refine(lp Il _,jj ael ?_);rw[kK Il _];exact WE g c k _ 0 O (dZ _) (λm d _ b=>i m d b) a w A R _ (f,o,h)
end
end
inductive Ld(x:af)(vs:List af)(H:ac)(Q:aL):Prop
 |b:∀l a as pss ps j,(x=.c l)->(vs=[.c a])->(H l=U (.a<|ax af.c as))->(aW H as pss)->(cG H a ps)->(pss[j]?=U ps)->((∀m q,m<j->pss[m]?=U q->q≠ps))->(Q .g<|av H l<|.a<|(as.eraseIdx j).map af.c)->Ld x vs H Q
def Mh{b c:Type}(f:b->c):∀(l:List b)(i:Nat),(l.eraseIdx i).map f=(l.map f).eraseIdx i
 |[],_=>O
 |_::_,0=>O
 |a::r,i+1=>by show f a::(r.eraseIdx i).map f=f a::(r.map f).eraseIdx i;rw[Mh f r i]
section
variable{X:aK}
def Vc(C:X.A.in1.units<cH):sX X "list.remove" Ld:=by
 intro p s σ H x vs v us Q I D E h;obtain⟨l,a,b,d,g,j,rfl,rfl,t,k,G,w,K,q⟩:=h;cases D;obtain⟨u,rfl,L⟩:=E.N;cases L;obtain⟨z,M,n,r,P,e⟩:=I.A4 t;obtain rfl:=mQ r;have R:=k.B;have S:j<d.length:=(cE.mp w).1;have f:∀m(i:m<(b.map Y).toArray.size) q,d[m]?=U q->qS H g ((b.map Y).toArray[m])=aG (q=g):=λm i q T=>by
  have c:m<b.length:=by simpa using i
  obtain⟨q',A,e2⟩:=k.F<|cw c;rw[T] at A;cases A;have:(b.map Y).toArray[m]=.ref b[m]:=by simp
  rw[this];exact EJ e2
 refine nW aes (_,e,O) F.entry_list_remove (F.args_list_remove_2 _ _)
  (WF (e:=qS H g) (j:=j) (by simp;omega) (by rw[f j _ g w];exact bZ O) (λm i o=>?_) (by rw[cz];rw[aA] at z P;omega)) (e,λy hy=>LI I G C k y (by simpa using hy),?_)
 ·have c:m<d.length:=ω
  rw[f m i _<|cw c];exact cf<|K m _ o<|cw c
 ·refine(.g,_,I.B5 (its':=(b.map Y).eraseIdx j) t e ?_ ?_ ?_,O,q)
  ·show(b.map Y).toArray.eraseIdxIfInBounds j=((b.map Y).eraseIdx j).toArray
   rw[List.eraseIdxIfInBounds_toArray]
  ·rw[Mh]
   exact r.A3 j
  ·have:=LJ b j
   rw[aA] at z ⊢;omega
end
def VP{c d:dD}{a b:eO}(f:c.scope=relabel b d)(h:a.names.all (λy=>aG (y.2≠.free)|| decide (b.names.lookup y.1=U .cell)|| decide (b.names.lookup y.1=U .free))=ae):∀y∈a.names,y.2=.free->c.kindOf y.1=U .cell\/c.kindOf y.1=U .free:=by
 intro y i e;have:=kN.mp h y i;simp only[RI,ii] at this;have g:b.names.lookup y.1=U .free\/b.names.lookup y.1=U .cell:=by
  rcases this with (q|q)|q
  ·exact aZ e q
  ·exact .inr q
  ·exact .inl q
 have:=Ek (scope:=b) (env:=d) g;unfold CW;rw[f];rcases this with q|q
 ·exact .inr q
 ·exact .inl q
section
variable{P:aU}{w:aO}{K:aH}{mg:al->Option aa}{base:aI}
def NC{q:List V}{l:Ξ}{Q:aL}{p:List Int->Bool}{u:eB}{c:List (Option af)}(s:∀(o:V)(i:List Int)(H:ac)(R:Bool->ac->Prop),aQ g H->cG H o i->i∈l->(∀w,aQ H w->R (p i) w)->u (U (.c o)::c) H R)(M:bx K g L (q.map af.c))(y:aW g q l)(hz:l.length<=1000)(A:g D=Z)(k:∀b e,aQ g b->b D=U (.a<|e.map af.c)->aW b e (l.filter p)->Q (.c D) b):fg (im K L) (eA 0) u (bz 0) (Z::c) g D Q:=by
 have t:=y.B;refine jX (xs:=q.map af.c) (λj r m b=>∃(v:Option af)(e:List V),r=v::c/\aQ g b/\b D=U (.a m)/\m=e.map af.c/\aW b e ((l.take j).filter p)) ?_ ?_ ?_ ?_
 ·exact(Z,[],O,aQ.B A,aD,O,.nil)
 ·rintro j r m b ⟨v,e,rfl,f,d,rfl,_⟩
  exact f.W M
 ·rintro j r m b x P C E ⟨v,e,rfl,f,d,rfl,n⟩
  obtain⟨o,S,rfl⟩:=fY P;obtain⟨i,h,G⟩:=y.F S;have T:(q.map af.c).length<=bG:=by rw[aA];exact dN ω
  refine s o i b _ f (f.N G) (dy h) λH4 a=>?_;cases I:p i
  ·refine cZ<|sQ C E (_,e,O,f.F a,a _ _ d,O,?_)
   rw[di h,kj,wf (by rw[I];simp),qy,lG];exact a.J n
  ·refine dI (_,O,gG T C E (a _ _ d) (_,e++[o],O,(f.F a).A0 A,aD,by rw[cv];rfl,?_))
   rw[di h,kj,yR I];exact kD (aW.J (a.J n)<|(f.F a).N G) (a _ _ d) (by intro X z;cases z)
 ·rintro r m b ⟨v,e,rfl,f,d,rfl,n⟩
  rw[aA,t,gb<|bc _] at n;exact k b e f d n
end
abbrev Bd:bV:=de 67
def γ(h:tF a b=ae):a.length<=b.length:=by
 rw[tE] at h;rcases oh b.length a.length with c|c
 ·exfalso
  have:co (mD b) (mD a)=ae:=by
   show co ((b.length:Int)::b) ((a.length:Int)::a)=ae;rw[ib,au ω];exact bZ ω
  rw[this] at h;cases h
 ·exact c
def ON:∀{b:List V}{a:Ξ}(n:Nat),aW H b a->aW H (b.eraseIdx n) (a.eraseIdx n)
 |_,_,_,.nil=>.nil
 |_,_,0,.cons _ t=>t
 |_,_,n+1,.cons r t=>.cons r (ON n t)
def OC{b:Type}:∀{l:List b}{j:Nat}{x:b},l[j]?=U x->l.Perm (x::l.eraseIdx j)
 |[],_,_,h=>by simp at h
 |a::r,0,x,h=>by
  have e:a=x:=by simpa using h
  subst e;exact wl _
 |a::r,j+1,x,h=>((OC (l:=r) (j:=j) (by simpa using h)).cons a).trans (List.Perm.swap x a _)
structure GN(pss f l:Ξ):Prop where
 b:(f++l).Perm (cW pss)
 a:l.Sublist (cW pss)
 c:dU f
def mB(f:Ξ)(p:List Int):Bool:=aG<|((cq p).filter λq=>!aG (q∈f)).length=0
def OM:mB f p=ae↔∀q∈cq p,q∈f:=by
 unfold mB;rw[ii,aha,ahh];refine(λh q a=>?_,λh q a=>?_)
 ·have:=h q a
  cases e:aG (q∈f) with
  |true=>exact iE e
  |false=>rw[e] at this;exact aZ O this
 ·rw[bZ<|h q a];decide
section
variable{pss f l:Ξ}(hw:gj pss=ae)(g:GN pss f l)
include hw g
theorem GN.B{p q:List Int}(b:p∈cW pss)(c:q∈cq p):q∈f\/q∈l:=by
 obtain⟨n,k,d,e⟩:=vt.mp c;obtain⟨h,i⟩:=GV d e;have j:q≠[]:=λz=>by
  rw[z] at e;have:=gD aF e;rw[dz,eF,mK,nB] at this;have:=ag9.mpr (nt.mp<|G' hw b).1;omega
 have:q∈cW pss:=by
  obtain⟨_,t,m,a⟩:=OZ.mp b;exact OZ.mpr (j,t,m,h.trans a)
 exact gB.mp<|g.b.mem_iff.mpr this
theorem GN.J{a:List Int}{r:Ξ}(e:l=a::r):mB f a=ae:=by
 subst e;refine OM.mpr λq c=>?_;have d:a∈cW pss:=g.a.subset dC;rcases GN.B hw g d c with h|h
 ·exact h
 ·exfalso
  obtain⟨m,k,i,e⟩:=vt.mp c;have b:=(GV i e).2;rcases ci.mp h with z|z
  ·rw[z] at b;omega
  ·have j:=(G_ pss).sublist g.a
   have:=γ<|(Do.mp j).1 q z;omega
theorem GN.F{j:Nat}(d:l[j]?=U p)(e:mB f p=ae):GN pss (f++[p]) (l.eraseIdx j):=by
 have a:p∈l:=dy d;have b:p∈cW pss:=g.a.subset a;have c:(f++l).Nodup:=g.b.nodup_iff.mpr<|tD pss;refine(?_,(List.eraseIdx_sublist _ _).trans g.a,GW g.c<|rE.mpr (G' hw b,λh=>?_,OM.mp e))
 ·rw[ut]
  exact(List.Perm.append_left f (OC d).symm).trans g.b
 ·exact(mI.mp c).2.2 p h p a O
end
def Δ{l:Ξ}(c:l.Nodup){p:List Int}(d:p∈l):∃j:Nat,l[j]?=U p/\∀m q,m<j->l[m]?=U q->q≠p:=by
 obtain⟨j,e⟩:=jO.mp d;refine(j,e,λm q f g z=>?_);subst z;have a:=(cE.mp e);have b:=(cE.mp g);have:=ul.mp (v_.mp c) m j b.1 a.1 f;exact this (by rw[b.2,a.2])
abbrev Og:List al:=["box","known","left","found","able","piece"]
abbrev Xg(K:aH):bb:=qH (LW K<|qI o_ [] oY<|cT (bz 0) e_) [Z,U 1] (eA 0) (jF<|dW (uK ae K) (bz 0)<|bz 1)<|bz 0
abbrev Xi(K:aH):eB:=jF<|dW qJ (oD (Bp K)<|cT (Xg K) e_)<|dK<|.d 0
section
variable{P:aU}{w:aO}{K:aH}{mg:al->Option aa}{base:aI}
def Yx{g e:List V}{Q:aL}(j:bx K b L (g.map af.c))(l:aW b g f)(m:bx K b d (e.map af.c))(n:aW b e a)(q:f.length<=1000)(r:b D=Z)(k:∀(c:ac)(h:List V),aQ b c->c D=U (.a<|h.map af.c)->aW c h (f.filter λw=>!aG (w∈a))->Q (.c D) c):fg (im K L) (eA 0) (jF<|dW (uK ae K) (bz 0)<|bz 1) (bz 0) [Z,U<|.c d] b D Q:=by
 refine NC (p:=λw=>!aG (w∈a)) (λo s t R i u _ v=>(_,O,_,O,o,d,s,e,a,O,O,u,i.W m,i.J n,_,O,?_)) j l q r k;rw[aB O];exact v t<|aQ.A3 _
inductive FE(K:aH)(vs:List af)(H:ac)(Q:aL)(E':bK):Prop
 |a:∀p l as pss,(vs=[.c p,.c l])->(fR H p)->(bx K H l<|as.map af.c)->(H l=U (.a<|as.map af.c))->(aW H as<|cW pss)->(gj pss=ae)->(∀D H' bs qss,gi p H H'->fR H' p->H' D=U (.a<|bs.map af.c)->aW H' bs qss->dU qss->qss.Perm (cW pss)->Q (.c D) H')->FE K vs H Q E'
def xu:cQ Og ["box","known"] (bB Bd):=(O,O,O,δ,O,δ,δ)
def Zc(F:bF K "_law_order" "_law_order" Bd f fd)(g6:eC mg)(Ct:bO P w K mg base aX "_law_take" ["box","most"] 1 ti)(Cr:bO P w K mg base aX "_law_rims" ["piece"] 1 o_):bD P w K mg base aX 2 f fd ["box","known"] (FE K):=by
 refine F.B xu (λvs H Q E h=>?_) (λf9 A d8 s H vs Q E hr h=>?_)
 ·obtain⟨p,l,as,a3,rfl,_⟩:=h;rfl
 ·obtain⟨p,l,as,a3,rfl,hb,hl,g0,ht,hw,k⟩:=h
  have M:=hr.units;refine(_,aY (cJ (i:=2) xu.a O (ak O)<|ik qT O g6.b mz<|aj (ah 1) az)
   (aY (cJ (i:=3) xu.a O (aq O)<|eR az)
   (aY (Lm iL (cV (Ez M) (ah 2) (eR az)<|cN _)
    (aY (zK (i:=4) xu.a O (ak O) Og ["piece","found"] [Z,U 3] (eG<|ah 2) (λcl C g u ex=>cB (i:=0) (eI ["piece","found"]) O<|ak O)
     (λcl C g u ex=>oE (cV jT (eH gW O g6.a fZ (aj (fE ["piece","found"] ["rim","found"] [Z,U 1] (eG<|bN Cr hr O ce<|aj (ah 0) az) (λcl C g u ex=>cB (i:=0) (eI ["rim","found"]) O<|ak O)
      (λcl C g u ex=>oE<|cV (r:=uK ae K) (UT<|LV M) (ah 0) (ah 1) (by with_unfolding_all rfl)) (λcl C g u ex=>ah 0) (hfr:=VP O δ) (tc:=jF<|dW (uK ae K) (bz 0)<|bz 1)) az)) aV<|cN _))
     (λcl C g u ex=>ah 0) (hfr:=iQ (bB Bd) δ) (tc:=Xi K))
    (aY (cJ (i:=5) xu.a O (ak O)<|dG jr (ah 4) (bN Ct hr O ce<|aj (ah 0)<|aj (eH gW O g6.a fZ<|aj (ah 4) az) az) (λ_ _=>O))
    (aY (eW<|oO rR CR Ip wI (ah 3)<|aj (ah 5) az)
   <|be<|eW<|oO rR aes PySem.F.type_list_remove (Vc<|LV M) (ah 2)<|aj (ah 5) az))))
  <|be<|cp<|ah 3)),?_)
  obtain⟨_,_,_,c1⟩:=qb hw;rw[<-vu] at c1;refine(_,O,l,_,O,.inl hl,λLF b2=>(cg O,λG a4=>?_));have sL:=aQ.B (o:=.a<|as.map af.c) b2;have sF:=aQ.B (o:=.a []) a4;have s2:=sL.F sF;have c2:=sF _ _<|aD (H:=H) (a:=LF) (o:=.a<|as.map af.c);have c3:LF≠G:=dH (aD (H:=H) (a:=LF) (o:=.a<|as.map af.c)) a4;have c4:LF≠p:=by obtain⟨x,y,h,_⟩:=hb;exact dB<|dH h b2
  have c5:G≠p:=by obtain⟨x,y,h,_⟩:=hb.B sL;exact dB<|dH h a4
  have c6:H G=Z:=sL.A2 a4;refine(λm σ H3=>∃(ls L:List V)(c d:Ξ)(v4 v5:Option af),m=c.length/\σ=[U<|.c p,U<|.c l,U<|.c LF,U<|.c G,v4,v5]/\gi p H H3/\fR H3 p/\H3 LF=U (.a<|ls.map af.c)/\aW H3 ls c/\H3 G=U (.a<|L.map af.c)/\aW H3 L d/\GN a3 d c,
   (_,as,[],cW a3,[],Z,Z,O,O,λb o _ e=>s2 _ _ e,hb.B s2,c2,s2.J ht,aD,.nil,(wl _,Jo _,GX)),?_)
  rintro m σ H3 ⟨ls,L,c,d,v4,v5,rfl,rfl,d9,e0,c7,b3,e1,c8,og⟩;have g1:=b3.B;have g2:=c8.B;have e2:=og.b.length_eq;rw[dz] at e2;refine(_,O,cg O,λT hT=>.inr (LF,T,ls,[],c,[],O,O,bx.B<|(aQ.B hT) _ _ c7,(aQ.B hT).J b3,bx.B aD,.nil,_,O,?_));have sT:=aQ.B (o:=.a []) hT;have b4:gi p H _:=λb o v e=>sT _ _<|d9 b o v e;have b5:=e0.B sT;have a5:=sT _ _ c7;have b6:=sT.J b3;have a6:=sT _ _ e1;have a7:=sT.J c8;generalize av H3 T (.a [])=H4 at sT b4 b5 a5 b6 a6 a7;rw[aB O];cases a8:c with
  |nil=>
   rw[bZ O];refine cZ (_,O,k G H4 L d b4 b5 a6 a7 og.c ?_);have:=og.b;rw[a8,lG] at this;exact this
  |cons a0 r0=>
   rw[cf (by simp),<-a8];refine dI (_,λg3 H' h=>h,?_);refine(_,O,LF,O,(_,bx.B a5),λD hD=>fc<|NC (p:=mB d) (λo os H' R sm ho c9 hR=>?_) (bx.B a5) b6 ω hD λH5 cs s5 b7 d0=>?_)
   ·have e3:os.length<=5:=(nt.mp<|G' hw<|og.a.subset c9).2.1
    refine(_,O,o,os,O,ho,e3,λRL S rs s6 _ d1 e4=>(RL,O,(_,bx.B d1),λD7 e5=>fc<|Yx (bx.B d1) e4 (bx.B<|(sm.F s6) _ _ a6) ((sm.F s6).J a7) (dE (nR _) ω) e5 λH7 bs s7 d2 a9=>(D7,_,O,.inl<|bx.B d2,O,_,O,?_)));have e6:=a9.B;have:=hR H7<|s6.F s7;rw[aA,e6];have e:aG (af.d ((((cq os).filter λq=>!aG (q∈d)).length:Nat):Int)=af.d 0)=mB d os:=by
     unfold mB;rw[qA,ii,ii];exact(λh=>by injection h with h;omega,λh=>by rw[h];rfl)
    rw[e];exact this
   have e7:=d0.B;have g4:0<(c.filter<|mB d).length:=List.length_pos_of_mem<|nA.mpr (by rw[a8];exact dC,GN.J hw og a8);have f8:=qw (mB d) c;have X:=b5.B s5;refine(_,O,_,O,_,O,D,_,O,.inl<|bx.B b7,?_);refine(p,_,O,X,by rw[aA];omega,by rw[aA];omega,λr6 S e8 e9 I f0=>?_);rw[aA,e7] at e9;obtain⟨n,rfl⟩:=wo e8;have hn:n<(c.filter<|mB d).length:=ω
   have en:(c.filter<|mB d)[n]?=U (c.filter<|mB d)[n]:=cw hn;have b8:cs[n]?=U (cs[n]'ω):=cw ω;have hq:=lE hn;generalize (c.filter<|mB d)[n]=q at en hq;generalize cs[n]'ω=t at b8;obtain⟨f1,f2⟩:=nA.mp hq;have f3:D≠p:=X.F b7;have g5:=sT.F s5;refine(D,_,_,.c t,O,O,bx.B<|I _ _ f3 b7,kW (by rw[cm,b8];rfl),?_);have d3:cG H5 t q:=qM d0 n t q b8 en;have b9:cG S t q:=I _ _ (X.J d3) d3;have a1:=I _ _ c5<|s5 _ _ a6;have f4:=I.B X<|s5.J a7;have f5:=I _ _ c4<|s5 _ _ a5;have f6:=I.B X<|s5.J b6;have d4:gi p H S:=λb o v e=>I b o v<|s5 _ _<|b4 b o v e;refine(_,O,.inl (O,_,bx.B a1),_,O,G,_,.c t,O,O,a1,by rw[aA];exact li ω,?_);have d5:=aD (H:=S) (a:=G) (o:=.a<|L.map af.c++[.c t]);have a2:av S G (.a<|L.map af.c++[.c t]) LF=U (.a<|ls.map af.c):=by rw[a_ c3];exact f5
   have c0:aW (av S G<|.a<|L.map af.c++[.c t]) ls c:=kD f6 a1 (by intro xs z;cases z);have d6:aW (av S G<|.a<|L.map af.c++[.c t]) (L++[t]) (d++[q]):=kD (aW.J f4 b9) a1 (by intro xs z;cases z);have d7:cG (av S G<|.a<|L.map af.c++[.c t]) t q:=by
    show av S G _ t=_;rw[a_<|fL b9 a1 (by intro z;cases z)];exact b9
   have a9:=f0.N (o:=.a<|L.map af.c++[.c t]) c5;have b1:gi p H (av S G<|.a<|L.map af.c++[.c t]):=λb o v e=>by rw[a_<|dH e c6];exact d4 b o v e
   generalize av S G (.a<|L.map af.c++[.c t])=H7 at d5 a2 c0 d6 d7 a9 b1;have f7:c.Nodup:=(tD a3).sublist og.a;obtain⟨j,ej,b0⟩:=Δ f7 f1;refine(_,O,.inl (O,_,bx.B a2),_,O,LF,t,ls,c,q,j,O,O,a2,c0,d7,ej,b0,?_);refine(_,?_,ls.eraseIdx j,L++[t],c.eraseIdx j,d++[q],_,_,O,O,λb o v e=>by rw[a_<|dH e b2];exact b1 b o v e,a9.N c4,aD,kD (ON j c0) a2 (by intro xs z;cases z),by rw[a_<|dB c3,d5,cv];rfl,kD d6 a2 (by intro xs z;cases z),GN.F hw og ej f2);have hj:=(cE.mp ej).1;rw[List.length_eraseIdx_of_lt hj];omega
end
abbrev jd:Type:=List Int×List Int
def sV(H:ac)(t:V)(x:jd):Prop:=∃a b,H t=U (.b [.c a,.c b])/\cG H a x.1/\cG H b x.2
def qZ(H:ac)(a:List V)(b:List jd):Prop:=dA (sV H) a b
def sV.F{t:V}(h:sV H t x)(s:aQ H c):sV c t x:=let ⟨a,b,e,p,q⟩:=h;(a,b,s _ _ e,s.N p,s.N q)
def qZ.N(h:qZ H b c)(s:aQ H a):qZ a b c:=il h λ_ _ q=>q.F s
def qZ.W(h:qZ H a b):a.length=b.length:=hZ h
def sV.B{d t:V}{o i:cP}(h:sV H t x)(k:H d=U i)(l:∀m,i≠.b m):sV (av H d o) t x:=by
 obtain⟨a,b,e,p,q⟩:=h;have f:∀{c:V}{g:List af},H c=U (.b g)->av H d o c=U (.b g):=λ{c g} j=>by rw[a_<|fL j k λz=>l _ z.symm];exact j
 exact(a,b,f e,f<|show H a=U _ from p,f<|show H b=U _ from q)
def qZ.F(h:qZ H c a)(e:H d=U b)(f:∀a,b≠.b a):qZ (av H d o) c a:=il h λ_ _ q=>q.B e f
def qZ.J{t:V}(h:qZ H a b)(q:sV H t x):qZ H (a++[t]) (b++[x]):=tX h q
def qZ.B:∀{a:List V}{b:List jd}{i:Nat}{t:V},qZ H a b->a[i]?=U t->∃x,b[i]?=U x/\sV H t x
 |_,_,0,_,.cons h _,e=>by cases e;exact(_,O,h)
 |_,_,i+1,_,.cons _ t,e=>qZ.B (i:=i) t (by simpa using e)
def TC{e:List V}(h:aW H e b)(f:H d=U c)(g:∀i,c≠.b i):aW (av H d o) e b:=
 il h λa j z=>by show av H d o a=_;rw[a_<|fL (show H a=U _ from z) f λy=>g _ y.symm];exact z
def jH(S:List jd)(r:List Int):Ξ:=(S.filter λx=>aG<|x.1=r).map (·.2)
def Mt(S T:List jd)(r:List Int):jH (S++T) r=jH S r++jH T r:=by unfold jH;rw[kj,cv]
def Ms(x:jd)(r:List Int):jH [x] r=if x.1=r then [x.2] else []:=by
 unfold jH
 by_cases h:x.1=r<;>simp[h]
def Wj(S:List jd)(r:List Int):(jH S r).length<=S.length:=by unfold jH;rw[aA];exact qw _ _
def Wi{S:List jd}{r:List Int}(h:r∉S.map (·.1)):jH S r=[]:=by
 unfold jH;rw[ahh.mpr λx a=>by rw[cf λz=>h<|bq.mpr (x,a,z)];decide]
 rfl
abbrev jI:Type:=List Int×V×List V
def jG(a:List jI):List (List aN×af):=a.map λe=>(adc ((e.1.map bd:List aN)) (af.c e.2.1))
def wM{p q:List Int}:(p.map bd:List aN)=q.map bd↔p=q:=(λz=>(uq (f:=(bd:Int->aN)) (λx y h=>vC h)).mp z,λz=>by rw[z])
def Ku:∀{tab:List jI}{p:List Int},p∉tab.map (·.1)->fJ (jG tab) (p.map bd)=Z
 |[],_,_=>O
 |e::r,p,h=>by
  have b:e.1≠p:=λz=>h (by rw[<-z];exact dC);have a:=Ku (tab:=r) (p:=p) λz=>h<|d_ _ z;unfold fJ jG at a ⊢;rw[df,lF,cf (λz=>b<|wM.mp z)];exact a
def Kv:∀{tab:List jI},(tab.map (·.1)).Nodup->∀e∈tab,fJ (jG tab) (e.1.map bd)=U (.c e.2.1)
 |[],_,e,c=>nomatch c
 |x::r,d,e,c=>by
  have a:(x.1::r.map (·.1)).Nodup:=d;rw[iB] at a;unfold fJ jG;rw[df,lF];rcases ci.mp c with rfl|b
  ·rw[bZ O];rfl
  ·have f:x.1≠e.1:=λz=>a.1 (by rw[z];exact bq.mpr (e,b,O))
   rw[cf (λz=>f<|wM.mp z)];exact Kv (tab:=r) a.2 e b
def Us{a:List jI}{f:List Int}(h:f∉a.map (·.1)):eQ (jG a) (f.map bd) (.c L)=jG (a++[(adc f (adc L d))]):=by
 unfold eQ;have:((jG a).any λc=>aG<|c.1=f.map bd)=ao:=by
  rw[Jn];intro c b;obtain⟨e,g,rfl⟩:=bq.mp b;rw[ii];exact λz=>h (by rw[<-wM.mp z];exact bq.mpr (e,g,O))
 rw[this];unfold jG;rw[cv]
 rfl
def pO(f:List Int)(L:V)(b:List V)(a:List jI):List jI:=a.map λe=>if e.1=f then(adc f (adc L b)) else e
def KS(f:List Int)(L:V)(b:List V)(a:List jI):(pO f L b a).map (·.1)=a.map (·.1):=by
 unfold pO;rw[bY];refine gC λe _=>?_;show(if e.1=f then(adc f (adc L b)) else e).1=e.1
 by_cases h:e.1=f
 ·rw[aB h];exact h.symm
 ·rw[au h]
def zG{x:jI}(h:x∈pO f L b a):(x=(adc f (adc L b))/\f∈a.map (·.1))\/(x∈a/\x.1≠f):=by
 obtain⟨e,c,rfl⟩:=bq.mp h
 by_cases g:e.1=f
 ·rw[aB g];exact .inl (O,bq.mpr (e,c,g))
 ·rw[au g];exact .inr (c,g)
def Ur{a:List jI}{f:List Int}(h:f∈a.map (·.1)):eQ (jG a) (f.map bd) (.c L)=jG (pO f L b a):=by
 unfold eQ;have:((jG a).any λc=>aG<|c.1=f.map bd)=ae:=by
  obtain⟨e,d,rfl⟩:=bq.mp h;exact uu.mpr (_,bq.mpr (e,d,O),bZ O)
 rw[this,aB O];unfold jG pO;rw[bY,bY];refine gC λe _=>?_;show(if(e.1.map bd:List aN)=f.map bd then(adc ((e.1.map bd:List aN)) (af.c L)) else _)=_
 by_cases g:e.1=f
 ·rw[aB<|wM.mpr g]
  show _=(adc (((if e.1=f then(adc f (adc L b)) else e).1.map bd:List aN)) (af.c (if e.1=f then(adc f (adc L b)) else e).2.1));rw[aB g,g]
 ·rw[au λz=>g<|wM.mp z]
  show _=(adc (((if e.1=f then(adc f (adc L b)) else e).1.map bd:List aN)) (af.c (if e.1=f then(adc f (adc L b)) else e).2.1));rw[au g]
structure oX(H0 H:ac)(d:V)(S:List jd)(tab:List jI):Prop where
 hd:H d=U (.c<|jG tab)
 a:(tab.map (·.1)).Nodup
 c:(tab.map (·.2.1)).Nodup
 ls:∀e∈tab,H e.2.1=U (.a<|e.2.2.map af.c)/\aW H e.2.2 (jH S e.1)/\H0 e.2.1=Z
 ks:∀r,r∈tab.map (·.1)↔r∈S.map (·.1)
 b:tab.length<=S.length
def oX.B{c H f:ac}{a:List jI}(o:oX c H d S a)(s:aQ H f):oX c f d S a:=
 (s _ _ o.hd,o.a,o.c,λe b=>(s _ _ (o.ls e b).1,s.J (o.ls e b).2.1,(o.ls e b).2.2),o.ks,o.b)
def oX.N{a H:ac}(h:H d=U (.c [])):oX a H d [] []:=(h,lD,lD,(λe b=>nomatch b),(λr=>Iff.rfl),bc _)
def oX.F{i H:ac}{d a:V}{b:List jI}(o:oX i H d S b)(j:cG H a p):(p∈S.map (·.1)/\∃A c,hJ H d (.c a) (U<|.c A)/\H A=U (.a<|c.map af.c)/\aW H c (jH S p))\/(p∉S.map (·.1)/\hJ H d (.c a) Z):=by
 have f:H a=U (.b<|(p.map bd:List aN).map dM):=by rw[bY];exact j
 by_cases h:p∈S.map (·.1)
 ·obtain⟨e,g,rfl⟩:=bq.mp<|(o.ks p).mpr h
  obtain⟨k,l,_⟩:=o.ls e g;exact .inl (h,e.2.1,e.2.2,.inr (_,_,a,.inl o.hd,O,f,(Kv o.a e g).symm),k,l)
 ·exact .inr (h,.inr (_,_,a,.inl o.hd,O,f,(Ku λz=>h<|(o.ks p).mp z).symm))
def oX.J{a:List jI}{f ps:List Int}{as:List V}(o:oX C H d S a)(T:H L=U (.a<|as.map af.c))(X:aW H as (jH S f++[ps]))(hn:L∉a.map (·.2.1))(h0:C L=Z):∃i,oX C (av H d<|.c<|eQ (jG a) (f.map bd)<|.c L) d (S++[(adc f ps)]) i/\∀x,x∉a.map (·.2.1)->x≠L->x∉i.map (·.2.1):=by
 have v:∀{A:V}{w:List af},H A=U (.a w)->av H d (.c<|eQ (jG a) (f.map bd)<|.c L) A=U (.a w):=λ{A w} e=>by rw[a_<|fL e o.hd (by intro z;cases z)];exact e
 have c:∀{bs:List V}{qs:Ξ},aW H bs qs->aW (av H d<|.c<|eQ (jG a) (f.map bd)<|.c L) bs qs:=λh=>TC h o.hd (by intro w z;cases z);have j:∀r,r≠f->jH (S++[(adc f ps)]) r=jH S r:=λr hr=>by rw[Mt,Ms,au (λz=>hr z.symm),lG]
 have k:jH (S++[(adc f ps)]) f=jH S f++[ps]:=by rw[Mt,Ms,aB O]
 by_cases s:f∈a.map (·.1)
 ·refine(pO f L as a,(by rw[aD,Ur s],by rw[KS];exact o.a,?_,λe D=>?_,λr=>?_,?_),λx m n z=>?_)
  ·have E:∀{t:List jI},(t.map (·.1)).Nodup->(t.map (·.2.1)).Nodup->L∉t.map (·.2.1)->((pO f L as t).map (·.2.1)).Nodup:=by
    intro t
    induction t with
    |nil=>intro _ _ _;exact lD
    |cons e r ih=>
     intro hk ha G;have p:(e.1::r.map (·.1)).Nodup:=hk;have q:(e.2.1::r.map (·.2.1)).Nodup:=ha;rw[iB] at p q;have I:=ih p.2 q.2 (λz=>G<|d_ _ z);show(((if e.1=f then(adc f (adc L as)) else e).2.1)::(pO f L as r).map (·.2.1)).Nodup;rw[iB];refine(λz=>?_,I);obtain⟨y,l,u⟩:=bq.mp z
     by_cases g:e.1=f
     ·rw[aB g] at u
      rcases zG l with ⟨rfl,K⟩|⟨b,_⟩
      ·exact p.1 (by rw[g];exact K)
      ·exact G<|d_ _ (by rw[show L=y.2.1 from u.symm];exact bq.mpr (y,b,O))
     ·rw[au g] at u
      rcases zG l with ⟨rfl,_⟩|⟨b,_⟩
      ·exact G (by rw[show L=e.2.1 from u];exact dC)
      ·exact q.1 (by rw[<-u];exact bq.mpr (y,b,O))
   exact E o.a o.c hn
  ·rcases zG D with ⟨rfl,_⟩|⟨b,M⟩
   ·exact(v T,by rw[k];exact c X,h0)
   ·obtain⟨P,Q,R⟩:=o.ls e b
    exact(v P,by rw[j _ M];exact c Q,R)
  ·rw[KS,cv,gB,o.ks]
   refine(.inl,λz=>z.elim id λz=>?_);have:r=f:=by simpa using z
   rw[this];exact(o.ks f).mp s
  ·unfold pO
   rw[aA,dz];have:=o.b;omega
  ·obtain⟨y,l,rfl⟩:=bq.mp z
   rcases zG l with ⟨rfl,_⟩|⟨b,_⟩
   ·exact n O
   ·exact m<|bq.mpr (y,b,O)
 ·refine(a++[(adc f (adc L as))],(by rw[aD,Us s],?_,?_,λe D=>?_,λr=>?_,?_),λx m n z=>?_)
  ·rw[cv,mI]
   refine(o.a,by simp,λx m y l z=>s ?_);have:y=f:=by simpa using l
   rw[<-this,<-z];exact m
  ·rw[cv,mI]
   refine(o.c,by simp,λx m y l z=>hn ?_);have:y=L:=by simpa using l
   rw[<-this,<-z];exact m
  ·rcases gB.mp D with b|b
   ·obtain⟨P,Q,R⟩:=o.ls e b
    exact(v P,by rw[j _ (λz=>s (by rw[<-z];exact bq.mpr (e,b,O)))];exact c Q,R)
   ·have:e=(adc f (adc L as)):=by simpa using b
    subst this;exact(v T,by rw[k];exact c X,h0)
  ·rw[cv,cv,gB,gB,o.ks]
   simp
  ·rw[dz,dz]
   have:=o.b;simp;omega
  ·rw[cv] at z
   rcases gB.mp z with z|z
   ·exact m z
   ·exact n (by simpa using z)
abbrev Gc:bV:=de 66
def k_(a:Ξ):List jd:=a.flatMap λq=>(cq q).map λr=>(adc r q)
def Yw{kn:Ξ}(h:∀p∈kn,p.length<=5):(k_ kn).length<=5*kn.length:=by
 unfold k_
 induction kn with
 |nil=>simp
 |cons q r a=>
  rw[ot,dz,aA,dP];have c:=nR q;have d:=h q dC;have e:=a λp b=>h p<|d_ _ b;omega
def Yv{a:Ξ}{i:Nat}(h:a[i]?=U q):k_ (a.take<|i+1)=k_ (a.take i)++(cq q).map λr=>(adc r q):=by
 unfold k_;rw[di h,Du];simp
section
variable{P:aU}{w:aO}{K:aH}{mg:al->Option aa}{base:aI}
inductive Az(K:aH)(vs:List af)(H:ac)(Q:aL)(E':bK):Prop
 |a:∀l as kn,(vs=[.c l])->(bx K H l<|as.map af.c)->(aW H as kn)->((∀p∈kn,p.length<=5))->(kn.length<64)->(∀d H' tab,aQ H H'->H d=Z->oX H H' d (k_ kn) tab->Q (.c d) H')->Az K vs H Q E'
def AL:cQ ["known","found","piece","rim"] ["known"] (bB Gc):=(O,O,O,δ,O,δ,δ)
def ζ(h:cG H b a):H b=U (.b<|(a.map bd:List aN).map dM):=by rw[bY];exact h
def YQ(F:bF K "_law_over" "_law_over" Gc f fd)(d7:eC mg)(Fr:bF K "_law_rims" "_law_rims" xF fr a4)(br:eT K a4 ["piece"] [])(mr:mg "_law_rims"=U (.ref fr)):bD P w K mg base aX 2 f fd ["known"] (Az K):=by
 have Gr:bD P w K mg base aX 1 fr a4 ["piece"] o_:=Ob Fr d7;refine F.B AL (λvs H Q E h=>?_) (λd2 A b9 s H vs Q E hr h=>?_)
 ·obtain⟨l,as,t,rfl,_⟩:=h;rfl
 ·obtain⟨l,as,t,rfl,hl,ht,h5,d3,k⟩:=h
  have hu:=jb hr;refine(_,aY (cJ (i:=1) AL.a O (ak O) ml)
   (aY (iF iL O (eG<|ah 0) (cB (i:=2) AL.a O<|ak O)
    (be (iF iL O (eG<|kr Gr hr O mr Fr.a br .nil ce<|aj (ah 2) az) (cB (i:=3) AL.a O<|ak O)
    <|be<|oG hu (ah 1) (ah 3) (cA kT (Lv hu (ah 1) (ah 3) (eR az) (O,O,O,O))<|eR<|aj (ah 2) az) O)))
  <|be<|cp<|ah 1),?_)
  intro d hd;have c0:=ht.B;refine(_,O,l,O,(_,(aQ.B hd).W hl),mm (K:=K) (a:=l) (xs:=as.map af.c) (λi R H2=>∃(v T:Option af)(n:List jI),R=[U<|.c l,U<|.c d,v,T]/\aQ H H2/\oX H H2 d (k_<|t.take i) n)
   (Z,Z,[],O,aQ.B hd,by rw[vY];exact oX.N aD) (λi R H2 _ (_,_,_,_,sm,_)=>sm.W hl) ?_ ?_)
  ·rintro i x R H2 hx ⟨v,T,n,rfl,sm,ov⟩
   obtain⟨a,ea,rfl⟩:=fY hx;obtain⟨ps,a5,a9⟩:=ht.F ea;have b0:=h5 ps<|dy a5;have hi:i<t.length:=(cE.mp a5).1;refine(_,O,a,ps,O,sm.N a9,b0,λD H3 cs b1 c1 hD b2=>(D,O,(_,bx.B hD),?_));have c2:=b2.B;have c3:=ov.B b1;have c4:D∉n.map (·.2.1):=λz=>by
    obtain⟨e,he,ee⟩:=bq.mp z;have:=(ov.ls e he).1;rw[show e.2.1=D from ee,c1] at this;cases this
   refine mm (K:=K) (a:=D) (xs:=cs.map af.c) (λj R M=>∃(T:Option af)(b:List jI),R=[U<|.c l,U<|.c d,U<|.c a,T]/\aQ H M/\M D=U (.a<|cs.map af.c)/\aW M cs (cq ps)/\D∉b.map (·.2.1)/\oX H M d (k_ (t.take i)++((cq ps).take j).map λr=>(adc r ps)) b)
    (_,n,O,sm.F b1,hD,b2,c4,by rw[vY,yK,lG];exact c3) (λj R M _ (_,_,_,_,q,_)=>bx.B q) ?_ ?_
   ·rintro j x R M hx ⟨T,b,rfl,u,X,C,a3,m⟩
    obtain⟨c,ec,rfl⟩:=fY hx;obtain⟨g,eg,hg⟩:=C.F ec;have c5:(k_ (t.take i)++((cq ps).take j).map λr=>(adc r ps)).length<=400:=by
     have h1:=Yw (kn:=t.take i) λp hp=>h5 p<|wa hp;have h2:=nR ps;rw[eF] at h1;rw[dz,aA,eF];omega
    have b3:(jG b).length<bG:=by
     have:=m.b;unfold jG;rw[aA];exact li ω
    have b4:(k_ (t.take i)++((cq ps).take<|j+1).map λr=>(adc r ps))=(k_ (t.take i)++((cq ps).take j).map λr=>(adc r ps))++[(adc g ps)]:=by rw[di eg,cv,ut];rfl
    generalize hS:k_ (t.take i)++((cq ps).take j).map (λr=>(adc r ps))=S at m c5 b4;refine(_,O,d,O,.inr (_,.inl m.hd),_,O,cg O,λL0 c6=>?_);have s5:=aQ.B (o:=.a []) c6;have a6:=m.B s5;have b5:∀(A':V)(bs:List V),av M L0 (.a []) A'=U (.a<|bs.map af.c)->aW (av M L0<|.a []) bs (jH S g)->
      (KE<|cT (bz 2) e_) [U<|.c l,U<|.c d,U<|.c a,U<|.c c] (av M L0<|.a []) λy H6=>Es (.c A') y H6 λz H7=>(bz 1) [U<|.c l,U<|.c d,U<|.c a,U<|.c c] H7 λx H8=>(bz 3) [U<|.c l,U<|.c d,U<|.c a,U<|.c c] H8 λy H9=>∃a' G,x=.c a'/\xf H9 a' y z G/\∃(T:Option af)(b:List jI),[U<|.c l,U<|.c d,U<|.c a,U<|.c c]=[U<|.c l,U<|.c d,U<|.c a,T]/\aQ H G/\G D=U (.a<|cs.map af.c)/\aW G cs (cq ps)/\D∉b.map (·.2.1)/\oX H G d (k_ (t.take i)++((cq ps).take<|j+1).map λr=>(adc r ps)) b:=by
     intro A' bs a7 a0;have d4:=a0.B;have d5:=Wj S g;refine(_,O,cg O,λL1 c7=>?_);have s6:=aQ.B (o:=.a [.c a]) c7;refine(A',L1,_,_,O,O,s6 _ _ a7,aD,by rw[aA];exact dN (by simp;omega),λL2 a1=>?_);have s7:=aQ.B (o:=.a<|bs.map af.c++[.c a]) a1;have a2:=s6.F s7;have b6:=a6.B a2;have b7:L2∉b.map (·.2.1):=λz=>by
      obtain⟨e,he,ee⟩:=bq.mp z;have:=((a6.B s6).ls e he).1;rw[show e.2.1=L2 from ee,a1] at this;cases this
     have c8:H L2=Z:=(u.F<|s5.F s6).A2 a1;obtain⟨b8,c9,d0⟩:=b6.J (f:=g) (ps:=ps) (as:=bs++[a]) (L:=L2) (by rw[aD,cv];rfl) (aW.J (a2.J a0)<|(u.F<|s5.F a2).N a9) b7 c8;have I:=s5.F a2;have a8:=b6.hd;refine(_,O,_,O,d,_,O,xf.t (k:=g.map bd) a8 (ζ<|I.N hg) b3,(_,b8,O,(u.F I).A0 hd,?_,kD (I.J C) a8 (by intro xs z;cases z),d0 D a3<|dH (s6 _ _<|s5 _ _ X) a1,by rw[b4];exact c9));rw[a_<|fL (I _ _ X) a8 (by intro z;cases z)];exact I _ _ X
    rcases a6.F (s5.N hg) with ⟨d6,A',bs,dg,a7,a0⟩|⟨d1,dg⟩
    ·exact(_,dg,b5 A' bs a7 a0)
    ·exact(_,dg,b5 L0 [] aD (by rw[Wi d1];exact .nil))
   ·rintro R M ⟨T,b,rfl,u,X,C,a3,m⟩
    refine(_,_,b,O,u,?_);rw[aA,c2,iI] at m;rw[Yv a5];exact m
  ·rintro R H2 ⟨v,T,n,rfl,sm,ov⟩
   rw[aA,c0,iI] at ov;exact(_,O,k d H2 n sm hd ov)
end
def vw(x l:List Int):Prop:=l=[96,97]\/l=x\/l=[3,2]\/l=[100]\/l=[0,1,2,3,4,5]\/l=[-1]
def aa8{a:Ξ}(c:vw x l)(d:x∈a)(b:[96]∉a):nr a l=ao:=by
 rw[<-ah6];intro z;obtain⟨e,f,g⟩:=rE.mp z;rcases c with rfl|rfl|rfl|rfl|rfl|rfl
 ·exact b<|g [96] ξ
 ·exact f d
 all_goals exact aZ e ξ
def Pd{a:Ξ}(c:vw x l)(d:x∈a)(b:[96]∉a):¬dU (a++[l]):=λz=>by
 have:=z a.length l (by simp);rw[agy O,aa8 c d b] at this;cases this
def Pc{a:Ξ}(b:vw x l):¬dU (l::x::a):=λz=>by
 have c:=z 0 l O;have d:=z 1 x O
 by_cases e:l=x
 ·subst e
  exact(rE.mp d).2.1 (by simp)
 ·obtain⟨f,_,g⟩:=rE.mp c
  rcases b with rfl|rfl|rfl|rfl|rfl|rfl
  ·exact aZ (g [96] ξ) (by simp)
  ·exact e O
  all_goals exact aZ f ξ
def abe{a:Ξ}{x q:List Int}(h:dU (x::a))(c:q∈x::a)(b:x∈cq q):¬dU a:=λz=>by
 have d:=BM h;have f:q∈a:=by
  rcases ci.mp c with e|e
  ·subst e
   obtain⟨g,k,i,e⟩:=vt.mp b;have:=gD aF e;rw[dz,eF,mK] at this;omega
  ·exact e
 exact(iB.mp d).1<|(tC z f).2 x b
def GY:List (List Int)->List (List Int)->Bool
 |_,[]=>ae
 |a,p::r=>nr a p&&GY (a++[p]) r
def OY:∀{l met:Ξ},dU met->GY met l=ae->dU (met++l)
 |[],met,h,_=>by rw[lG];exact h
 |p::r,met,h,e=>by
  unfold GY at e;obtain⟨a,b⟩:=Bool.and_eq_true_iff.mp e;have:=OY (l:=r) (GW h a) b
  rwa [ut] at this
def GZ:Ξ:=(dk 100).map (λk:Nat=>[(k:Int)])++(dk 99).map (λk:Nat=>[(k:Int),k+1])++[[0,2]]
def aba:GZ.length=200:=δ
def aa9:dU GZ:=OY (met:=[]) GX δ
section
variable{K:aH}{PO PY:V}
def GA{i:bb}{c:aM}{st:String}{ws:List Int}{Q:aL}(f:∀n∈ws,∀(a:ac)(R:aL),dX PO PY H a->(∀g,dX PO PY a g->R (.f st) g)->i (U (.d n)::c) a R)(p:bx K H L (ws.map af.d))(s:ws.length<=10)(l:H D=Z)(k:∀a,dX PO PY H a->a D=U (.a<|ws.map λ_=>af.f st)->Q (.c D) a):fg (im K L) (eA 0) ja i (Z::c) H D Q:=by
 refine jX (xs:=ws.map af.d) (λj e d a=>∃v:Option af,e=v::c/\dX PO PY H a/\a D=U (.a d)/\d=(ws.take j).map λ_=>af.f st) ?_ ?_ ?_ ?_
 ·exact(Z,O,.B<|aQ.B l,aD,O)
 ·rintro j e d a ⟨v,rfl,z,b,rfl⟩
  exact z.A2 p
 ·rintro j e d a x m q r ⟨v,rfl,z,b,rfl⟩
  rw[cm] at m;obtain⟨n,o,rfl⟩:=pG.mp m;refine jU<|f n (dy o) a _ z λg h=>?_;refine gG (by rw[aA];exact dN ω) q r (h.J b) (_,O,(z.F h).A0 l<|h.J b,aD,?_);rw[di o,cv];rfl
 ·rintro e d a ⟨v,rfl,z,b,rfl⟩
  rw[aA,iI] at b;exact k a z b
def jf(a:Ξ):hV:=a.map λp=>(adc p ((p.length:Int)))
def Oo(a:Ξ):(jf a).map (·.1)=a:=by
 unfold jf;rw[bY];exact List.map_id _
def Fb{p:List Int}:∀{ps:Ξ},p∈ps->fn (jf ps) p=U (p.length:Int)
 |q::r,h=>by
  unfold fn jf;rw[df,lF]
  by_cases e:q=p
  ·subst e
   rw[bZ O]
   rfl
  ·rw[cf e]
   have:=Fb (ps:=r)<|(ci.mp h).resolve_left λz=>e z.symm;unfold fn jf at this;exact this
def aau{c a:Ξ}(d:c.Perm (cW a))(f:dU c):nh (cW a) (jf c):=by
 refine(by rw[Oo];exact d,λp b r e=>?_);have b:=d.mem_iff.mpr b;rw[Fb b,Fb<|(tC f b).2 r e];obtain⟨g,k,h,rfl⟩:=vt.mp e;show(((p.take k++p.drop (k+1)).length:Nat):Int)<=(p.length:Int);rw[dz,eF,mK];omega
def ZD(h:[99]∉cW a):¬nh (cW a) rz:=λz=>h<|z.1.mem_iff.mp (by simp)
end
def Lk(a l:List (List aN×af)):List (List aN×af):=l.foldl (λb c=>eQ b c.1 c.2) a
def MT(H:ac)(c:List (af×af))(l:List (List aN×af)):Prop:=dA (λ(q:af×af)(a:List aN×af)=>∃b,q=(adc (.c b) a.2)/\H b=U (.b<|a.1.map dM)) c l
section
variable{X:aK}
def Uc{n:aM}{Q:PUnit->ai->Prop}(K:X.A.units<cH)(L:MS v w):∀{l:List (List aN×af)}{d:List (List aN×af)}{H:ac}{s:ai},MT H v l->aw X f n H s->H p=U (.c d)->d.length+l.length<=100-> (∀h m,aw X f n h m->h p=U (.c<|Lk d l)->(∀b,b≠p->h b=H b)->Q ⟨⟩ m)->am (aE X.prog X.w) X.A (Hw p w) Q X.a s:=by
 induction L with
 |nil=>
  intro l d H s i I e x k;cases i;unfold Hw;rw[Jh];exact aC<|k H s I e λ_ _=>O
 |cons r t M=>
  intro l d H s i I e x k;cases i with
  |cons i P=>
  rename_i a R _ _ g l
  obtain⟨b,rfl,y⟩:=i;obtain⟨S,w2⟩:=R;obtain⟨T,r2⟩:=r;cases(show S=Y b from T);obtain⟨z,hd,xs,j,dd⟩:=EK I.b e;have o:=hZ j;unfold Hw;rw[Ds];refine ag<|ag<|PL (hsz:=by rw[<-o];exact z) (knd:=kG<|fH X.prog X.w) K (pP I.b y) dd λh' u hs=>aC ?_;obtain⟨A,es,ep,C,h2,h3,h4,_,h5⟩:=u;have a0:=zS d g.1 g.2;rw[dP] at x;have I2:aw X f n (av H p<|.c<|eQ d g.1 g.2) {s with heap:=h',toks:=s.toks+(kG<|fH X.prog X.w).draws g.1}:=by
   refine wQ I (by rw[e];exact vB) hs (A,C) (by rw[jx];omega,hd,_,(js.J j g.1 y r2).B λc ys D=>?_,A,es,ep,C,h2,h3,h4,h5);rw[a_<|fL D e (λz=>nomatch z)];exact D
  refine M (l:=l) (il P λq a1 (c,e1,E)=>(c,e1,?_)) I2 aD ω λh m I' e' ho=>k h m I' e' λc G=>by rw[ho c G,a_ G]
  rw[a_<|fL E e (λz=>nomatch z)];exact E
def KG(a:List (bb×bb)):bb:=λe H Q=>∀p,H p=Z->zq a e (av H p<|.c []) λf c=>∃l,MT c f l/\c p=U (.c [])/\l.length<=100/\∀d,d p=U (.c<|Lk [] l)->(∀b,b≠p->d b=c b)->Q (.c p) d
def UK(D:X.A.units+1<cH)(h:Aa X c b g d)(m:b.all (·.isSome)=ae:=by rfl)(n:b.length=g.length:=by rfl)(p:b≠[]:=by simp)(i:b.length<=15:=by simp):bA X (.Dict b g c) (KG d):=by
 intro f s r H Q I q;have t:=I.b.B<|bc s⁻¹;have u:=I.F (a:=s⁻¹) (o:=.c []) (h':=s.heap.push {cls:=.type "dict",data:=.dict #[]}) (t':=s.toks) (λ_ _ q=>bJ _ q) (bc _)<|EL s.heap I.B4;refine wpAny_Dict_any m n p i<|bI (h f _ r _ _ u<|q _ t) λE G (K,L,v,j,l,w,e,x,y)=>?_;exact Uc ω j w v e (by simpa using x) λk M z A C=>(.c s⁻¹,k,z,O,y k A C)
end
abbrev eX:bV:=de 72
abbrev lh:List al:=["script","box","web","order","last","bad","way","prime","worths","none","ones","great"]
def mx:cQ lh ["script"] (bB eX):=(O,O,O,δ,O,δ,δ)
structure pg(PO PY:V)(H:ac)(W OR:V)(as os:List V)(pss qss:Ξ):Prop where
 b:mC PO PY H
 c:H W=U (.a<|as.map af.c)
 hw:aW H as pss
 a:H OR=U (.a<|os.map af.c)
 ho:aW H os qss
def pg.B{c d:V}{H e:ac}{i f:V}{a b:Ξ}(z:pg c d H i f g h a b)(x:dX c d H e):pg c d e i f g h a b:=(x.tab z.b,x.J z.c,x.N z.hw,x.J z.a,x.N z.ho)
structure xQ(pss qss:Ξ):Prop where
 e:gj pss=ae
 b:(cW pss).length<=56
 c:qss.Perm (cW pss)
 a:dU qss
 d:qss≠[]
 f:∀p∈cW pss,∀x∈p,x<=32
def aaz(n:Nat)(p t:Int)(a:Ξ)(b:String):Prop:=
 (¬dU a/\b="order")\/(dU a/\a.length<=60/\((n<5/\¬gM p)\/(3<=n/\gM p/\¬xh t a))/\b="number")\/(dU a/\a.length<=60/\a≠[]/\gM p/\xh t a/\b="told")
abbrev XZ(K:aH):List af->ac->aL->Prop:=En K
abbrev Ff(K:aH)(i:Nat):bb:=oD (XZ K)<|cT (bz i) e_
abbrev Ap(K:aH)(i:Nat):bb:=oD (Bp K)<|cT (bz i) e_
abbrev Ao(K:aH)(a b c e f:V)(l d:bb)(p:Int)(t:bb):bb:=qI (nN K a b c e f) [] oY<|cT (bz 0)<|cT l<|cT d<|cT (dK<|.d p)<|cT t e_
section
variable{P:aU}{w:aO}{K:aH}{mg:al->Option aa}{base:aI}{PO PY fW fO fN:V}
def Bs{c:List V}{m:Int}{n:Nat}{p t:Int}{R:aL}{st:String}(i:mC PO PY H)(j:bx K H l (c.map af.c))(o:aW H c a)(e:a.length<=61)(q:m=(n:Int))(r:n<6)(s:aaz n p t a st)(k:∀g,dX PO PY H g->R (.f st) g):nN K PO PY fW fO fN [.d m,.c l,.c d,.d p,.d t] H R oY:=by
 subst q;refine(n,l,d,p,t,O,i,.inl (r,c,a,j,o,e,?_));rcases s with ⟨h,rfl⟩|⟨h,b,u,rfl⟩|⟨h,b,v,w,f,rfl⟩
 ·exact .inl (h,"order",.inr<|.inl (O,O),k)
 ·exact .inr<|.inl (h,b,u,"number",.inr<|.inr (O,O),k)
 ·exact .inr<|.inr (h,b,v,w,f,k)
def NM{h:ac}{n:Nat}{s:Int}{c:List (Option af)}{g:Nat->List Int}{t:bb}{Q:aL}(m:∀(j:Nat)(H:ac)(R:aL),j<n->(∀a o,aQ H o->cG o a (g j)->R (.c a) o)->t (U (.d<|s+j)::c) H R)(A:n<=100)(u:h D=Z)(k:∀b d,aQ h b->b D=U (.a<|ax af.c d)->aW b d ((dk n).map g)->Q (.c D) b):fg (mV s n) (eA 0) ja t (Z::c) h D Q:=by
 refine wS (λj p i b=>∃(v:Option af)(d:List V),p=v::c/\aQ h b/\b D=U (.a i)/\i=d.map af.c/\aW b d (((dk n).map g).take j)) ?_ ?_ ?_
 ·exact(Z,[],O,aQ.B u,aD,O,.nil)
 ·rintro j p i b q w ⟨v,d,rfl,r,e,rfl,l⟩
  have x:((dk n).map g)[j]?=U (g j):=by rw[cm,yN q];rfl
  refine jU<|m j b _ q λa C f y=>?_;refine gG (dN ω) q w (f _ _ e) (_,d++[a],O,(r.F f).A0 u,aD,by rw[cv];rfl,?_);rw[di x];exact kD (aW.J (f.J l) y) (f _ _ e) (by intro E z;cases z)
 ·rintro p i b ⟨v,d,rfl,r,e,rfl,l⟩
  rw[gb (by simp)] at l;exact k b d r e l
def ZH{i:bb}{b:aM}{st:String}{n:Nat}{Q:aL}(e:∀j,j<n->∀(a:ac)(R:aL),dX PO PY H a->(∀f,dX PO PY a f->R (.f st) f)->i (U (.d<|0+(j:Int))::b) a R)(p:n<=10)(l:H D=Z)(k:∀a,dX PO PY H a->a D=U (.a<|jA n<|af.f st)->Q (.c D) a):fg (mV 0 n) (eA 0) ja i (Z::b) H D Q:=by
 refine wS (λj g d a=>∃v:Option af,g=v::b/\dX PO PY H a/\a D=U (.a d)/\d=jA j (af.f st)) ?_ ?_ ?_
 ·exact(Z,O,.B<|aQ.B l,aD,O)
 ·rintro j g d a m o ⟨v,rfl,z,c,rfl⟩
  refine jU<|e j m a _ z λf h=>?_;refine gG (dN ω) m o (h.J c) (_,O,(z.F h).A0 l<|h.J c,aD,?_);rw[List.replicate_succ']
 ·rintro g d a ⟨v,rfl,z,c,rfl⟩
  exact k a z c
variable{f:V}{cdv:aa}{A:bg}{outer:List dD}{s:ai}{H:ac}{E:bK}{Q:aL}
def ZQ(hr:eJ 12 (A.deeper<|iY "law" (bB eX) s⁻¹ f cdv))(b4:eC mg)(Cm:bO P w K mg base aX "_law_met" ["way","order","worths","prime","time"] 12 (nN K PO PY fW fO fN))(Ci:bO P w K mg base aX "is_order" ["order"] 2 (λvs H Q E=>pX K vs H Q E\/tj K vs H Q E)):∃tr,g_ (iG aX P w K mg base lh "law" (bB eX) f cdv A outer s H E).F (jB 14<|gf eX) tr/\
   ∀(a p b5 I:V)(as os:List V)(v m:Ξ)(v4 v5 v6 v7 v8 v9:Option af)(H2:ac),pg PO PY H2 b5 I as os v m->xQ v m->(∀H',Q (.e ae) H')->
    tr {a:=λ_ H'=>Q .g H',b:=Q} [U<|.c a,U<|.c p,U<|.c b5,U<|.c I,v4,v5,v6,v7,v8,v9,Z,Z] H2:=by
 have S:=hr.units;refine(_,aY (zK (i:=10) mx.a O (ak O) lh ["k"] [Z] (qK O b4.c<|aj aV az) (λr C c e u=>cB (i:=0) (eI ["k"]) O<|ak O) (λr C c e u=>gE)
   (λr C c e u=>ij<|aj (ah 0) az) (hfr:=lN δ) (te:=ko<|cT (bz 0) e_))
  (aY (cJ (i:=11) mx.a O (ak O) (cA kT (cA kT (ah 10) (fE lh ["k"] [Z] (qK O b4.c<|aj aV az) (λr C c e u=>cB (i:=0) (eI ["k"]) O<|ak O) (λr C c e u=>gE)
   (λr C c e u=>ij<|aj (ah 0)<|aj (cA lM (ah 0) aV) az) (hfr:=lN δ) (te:=ko<|cT (bz 0)<|cT (dW (jq λi j=>.d<|i+j) (bz 0)<|dK<|.d 1) e_)))<|eR<|aj (ij<|aj aV<|aj aV az) az))
  (aY (dh (sW.B<|sH (cV Ly (bN Ci hr O ce<|aj (ah 11) az) gd<|cN _)<|sG<|cV Ly (bN Ci hr O ce<|aj (cA kT (ah 11)<|eR<|aj (ij<|aj aV<|aj aV az) az) az) gd<|cN _) (be<|cp gd) dq)
  (be (cp (wG (UY S) (fE lh ["way","order"] [Z,U 3] (qK O b4.c<|aj aV az) (λr C c e u=>cB (i:=0) (eI ["way","order"]) O<|ak O) (λr C c e u=>gE)
   (λr C c e u=>bN Cm hr O ce<|aj (ah 0)<|aj (ik qT O b4.b mz<|aj (ah 1) az)<|aj ml<|aj aV<|aj (cA uM (eH gW O b4.a fZ<|aj (ah 1) az) aV) az) (hfr:=iQ (bB eX) δ) (te:=Ao K PO PY fW fO fN (Ff K 1) zt 5<|dW (jq λi j=>.d<|i-j) (Ap K 1)<|dK<|.d 1))
   (cA US (eR<|aj dF az) aV)<|cN _))))),?_)
 intro a p b5 I as os v m v4 v5 v6 v7 v8 v9 H2 z o k;have b3:m.length<=56:=by rw[o.c.length_eq];exact o.b
 have T:=z.ho.B;refine(100,O,ξ,ξ,λD hD=>fc<|NM (g:=λj:Nat=>[(j:Int)]) (λj H3 R hj X=>(_,O,cg O,λt ht=>X t _ (aQ.B ht) (by show av H3 t _ t=_;rw[aD,aht];rfl))) ξ hD λH3 h s3 a5 a0=>?_);refine(_,O,99,O,ξ,ξ,λD4 a6=>fc<|NM (g:=λj:Nat=>[(j:Int),j+1]) (λj H4 R hj X=>(_,O,_,O,_,_,O,O,cg O,λt ht=>X t _ (aQ.B ht) (by show av H4 t _ t=_;rw[aD,aht];rfl))) ξ a6 λH4 l s4 a1 a2=>?_);have l1:h.length=100:=by rw[a0.B,aA,lZ];rfl
 have l2:l.length=99:=by rw[a2.B,aA,lZ];rfl
 refine(D,D4,_,_,O,O,s4 _ _ a5,a1,by rw[aA,aA,l1,l2];exact dN ξ,λC hC=>(cg O,λt ht=>(cg O,λL y=>?_)));have u1:=aQ.B (o:=.a<|h.map af.c++l.map af.c) hC;have u2:=aQ.B (o:=.b [.d 0,.d 2]) ht;have u3:=aQ.B (o:=.a [.c t]) y;refine(C,L,_,_,O,O,u3 _ _<|u2 _ _ aD,aD,by rw[dz,aA,aA,l1,l2];exact dN (by show 200<=100000;decide),λG hG=>?_);have u4:=aQ.B (o:=.a<|h.map af.c++l.map af.c++[.c t]) hG;have us:=u1.F<|u2.F<|u3.F u4;have q:=aD (a:=G) (o:=.a<|h.map af.c++l.map af.c++[.c t]) (H:=av (av (av H4 C<|.a<|h.map af.c++l.map af.c) t<|.b [.d 0,.d 2]) L<|.a [.c t]);have a3:aW _ (h++l++[t]) GZ:=aW.J (aW.N ((s4.F us).J a0)<|us.J a2)<|u4 _ _<|u3 _ _<|aD (a:=t) (o:=.b [.d 0,.d 2]);have s5:=(s3.F s4).F us;generalize av (av (av (av H4 C<|.a<|h.map af.c++l.map af.c) t<|.b [.d 0,.d 2]) L<|.a [.c t]) G (.a<|h.map af.c++l.map af.c++[.c t])=H5 at q a3 s5;rw[show h.map af.c++l.map af.c++[.c t]=(h++l++[t]).map af.c by simp] at q;refine(_,O,.inl (G,_,_,O,bx.B q,a3,yG aba,λb H6 hb s6=>(_,_,O,O,_,O,?_)));obtain rfl:=hb.mpr aa9;refine cZ (_,O,cg O,λt7 a7=>(cg O,λL7 a8=>?_));have w1:=aQ.B (o:=.b [.d 0,.d 3]) a7;have w2:=aQ.B (o:=.a [.c t7]) a8;refine(G,L7,_,_,O,O,w2 _ _<|w1 _ _<|s6 _ _ q,aD,by simp[l1,l2];exact dN ξ,λG8 a9=>?_);have w3:=aQ.B (o:=.a<|(h++l++[t]).map af.c++[.c t7]) a9;refine .inr (G8,_,O,bx.B aD,by simp[l1,l2],_,_,O,O,_,O,cZ ?_);have z8:=z.B<|.B<|(s5.F s6).F<|(w1.F w2).F w3;generalize av (av (av H6 t7<|.b [.d 0,.d 3]) L7<|.a [.c t7]) G8 (.a<|(h++l++[t]).map af.c++[.c t7])=H8 at z8;refine(6,O,ξ,ξ,λD9 b0=>fc<|ZH (PO:=PO) (PY:=PY) (st:="told") (n:=6) (λj hj H9 R s9 X=>?_) ξ b0 λH9 s9 a4=>?_)
 ·have z9:=z8.B s9
  refine(_,O,_,O,I,_,O,.inl<|bx.B z9.a,λL y d hd=>(_,O,I,os.map af.c,O,.inl ?_,_,_,O,O,?_))
  ·exact bx.B<|(aQ.B hd) _ _<|(aQ.B y) _ _ z9.a
  ·have x:=(aQ.B (o:=.a<|os.map af.c) y).F<|aQ.B (o:=.c []) hd
   refine Bs (n:=j) ((dX.B x).tab z9.b) (bx.B<|(aQ.B hd) _ _ aD) (x.J z9.ho) ω ω hj (.inr<|.inr (o.a,ω,o.d,.inr<|.inr<|.inl O,(?_,?_),O)) λH1 s1=>X H1<|.F (.B x) s1
   ·have:=ag9.mpr o.d
    rw[aA,T];omega
   ·rw[aA,T];omega
 ·refine(cg O,λL y=>(L,6,_,O,O,aD,ξ,ξ,by simp[jx],λM hM=>?_))
  refine(.list<|jA 6<|.str "told",.list<|jA 6<|.str "told",.c (bx.B<|(aQ.B hM) _ _<|(aQ.B y) _ _ a4) ?_,.c (bx.B aD) ?_,δ,δ,δ,?_)
  ·exact .a (.a _)<|.a (.a _)<|.a (.a _)<|.a (.a _)<|.a (.a _)<|.a (.a _) .c
  ·exact .a (.a _)<|.a (.a _)<|.a (.a _)<|.a (.a _)<|.a (.a _)<|.a (.a _) .c
  ·exact k _
end
def aaq:ig "dict"=U (.type "dict"):=δ
def aay(K:aH)(H:ac)(n:Nat)(l d:V)(p:Int)(b:String):Prop:=
 (GQ K H l/\b="web")\/(∃c a,ni K H l d c a rz/\¬nh (cW a) rz/\b="order")\/(n=6/\∃c a e,ni K H l d c a e/\nh (cW a) e/\((¬gM p/\b="number")\/(gM p/\b="told")))
def BD(H:ac)(t:V)(a:List aN×af):Prop:=∃b,H t=U (.b [.c b,a.2])/\H b=U (.b<|a.1.map dM)
def Ox{d:Type}[DecidableEq d]:∀(b a:List (d×af)),((a++b).map (·.1)).Nodup->b.foldl (λa c=>eQ a c.1 c.2) a=a++b
 |[],a,_=>by simp
 |c::b,a,h=>by
  rw[pH];have e:fJ a c.1=Z:=by
   unfold fJ;rw[Option.map_eq_none_iff,RA];intro x f z;rw[ii] at z;rw[cv,mI] at h;exact h.2.2 x.1 (bq.mpr (x,f,O)) c.1 (by simp) z
  rw[Ut _ e,Ox b (a++[(adc c.1 c.2)]) (by simpa using h)];simp
def χ{a:Ξ}(b:a.Nodup):wP (iT<|jf a)=iT (jf a):=by
 unfold wP;rw[Ox _ _ ?_]
 ·rfl
 ·unfold iT jf
  rw[ag5,bY,bY,v_,jN];exact(v_.mp b).imp λh z=>h<|(uq (f:=(bd:Int->aN)) (λx y e=>vC e)).mp z
def OI{a:Ξ}:gj ([1,0]::a)=ao/\(([1,0]::a).all gl=ae->(bh<|([1,0]::a).flatMap cy).length<64):=by
 have:([1,0]::a).all gl=ao:=by rw[wj];rfl
 refine(?_,λz=>by rw[this] at z;cases z);unfold gj;rw[this,pJ,sf,sf]
section
variable{P:aU}{w:aO}{K:aH}{mg:al->Option aa}{base:aI}{PO PY fW fO fN:V}
def Bt{m:Int}{n:Nat}{p t:Int}{R:aL}(o:mC PO PY H)(q:m=(n:Int))(r:n=6\/n=7\/n=8)(s:aay K H n l d p g)(k:∀i,dX PO PY H i->R (.f g) i):nN K PO PY fW fO fN [.d m,.c l,.c d,.d p,.d t] H R oY:=by
 subst q;refine(n,l,d,p,t,O,o,.inr (r,?_));rcases s with ⟨h,rfl⟩|⟨b,a,h,c,rfl⟩|⟨e,b,a,j,h,c,⟨f,rfl⟩|⟨f,rfl⟩⟩
 ·exact .inl (h,"web",.inl (O,O),k)
 ·exact .inr<|.inl (b,a,h,c,"order",.inr<|.inl (O,O),k)
 ·exact .inr<|.inr (e,b,a,j,h,c,.inl (f,"number",.inr<|.inr (O,O),k))
 ·exact .inr<|.inr (e,b,a,j,h,c,.inr (f,k))
def ZL{i:ac}{r:List V}{n:Ξ}{Q:aL}(S:bx K i L (r.map af.c))(H:aW i r n)(hz:n.length<=64)(I:i D=Z)(k:∀(a:ac)(d:List V),aQ i a->a D=U (.a<|d.map af.c)->dA (BD a) d (iT<|jf n)->Q (.c D) a):fg (im K L) (eA 0) ja (ko<|cT (bz 0)<|cT (Ap K 0) e_) [Z] i D Q:=by
 have T:=H.B;refine jX (xs:=r.map af.c) (λj s p a=>∃(v:Option af)(d:List V),s=[v]/\aQ i a/\a D=U (.a p)/\p=d.map af.c/\dA (BD a) d ((iT<|jf n).take j)) ?_ ?_ ?_ ?_
 ·exact(Z,[],O,aQ.B I,aD,O,by rw[vY];exact .nil)
 ·rintro j s p a ⟨v,d,rfl,g,f,rfl,_⟩
  exact g.W S
 ·rintro j s p a x X hj hy ⟨v,d,rfl,g,f,rfl,u⟩
  obtain⟨o,eo,rfl⟩:=fY X;obtain⟨q,eq,M⟩:=H.F eo;have A:(r.map af.c).length<=bG:=by rw[aA];exact dN ω
  have e:(iT<|jf n)[j]?=U (adc ((q.map bd:List aN)) (af.d (q.length:Int))):=by unfold iT jf;rw[cm,cm,eq];rfl
  refine jU (_,O,_,O,o,_,O,.inr<|fm.B<|g.N M,cg O,λt C=>?_);rw[show((q.map af.d).length:Int)=(q.length:Int) by rw[aA]];have m:=aQ.B (o:=.b [.c o,.d (q.length:Int)]) C;have h:=m _ _ f;have P:av a t (.b [.c o,.d (q.length:Int)]) t=U (.b [.c o,.d (q.length:Int)]):=aD;generalize av a t (.b [.c o,.d (q.length:Int)])=E at m h P;have R:∀{b G},E b=U (.b G)->b≠D:=λ{b G} e z=>by rw[z,h] at e;cases e
  refine gG A hj hy h (_,d++[t],O,(g.F m).A0 I,aD,by rw[cv];rfl,?_);rw[di e];refine il (tX (il u λb l (c,w,y)=>(show BD E b l from(c,m _ _ w,m _ _ y)))<|show BD E t (adc ((q.map bd:List aN)) (af.d (q.length:Int))) from(o,P,by rw[bY];exact m.N<|g.N M)) λb l (c,w,y)=>?_;exact(c,by rw[a_<|R w];exact w,by rw[a_<|R y];exact y)
 ·rintro s p a ⟨v,d,rfl,g,f,rfl,u⟩
  rw[gb (by unfold iT jf;rw[aA,aA,aA];omega)] at u;exact k a d g f u
def vd{H:ac}(h:H D=U (.a b))(e:b=[.f a,.f a,.f a]):pV K H (.c D) (.list [.str a,.str a,.str a]):=by
 subst e;exact .c (bx.B h)<|.a (.a _)<|.a (.a _)<|.a (.a _) .c
variable{f:V}{cdv:aa}{A:bg}{outer:List dD}{s:ai}{H:ac}{E:bK}{Q:aL}
def ZR(M:eJ 12 (A.deeper<|iY "law" (bB eX) s⁻¹ f cdv))(c7:eC mg)(Cm:bO P w K mg base aX "_law_met" ["way","order","worths","prime","time"] 12 (nN K PO PY fW fO fN))(Ci:bO P w K mg base aX "is_order" ["order"] 2 (λvs H Q E=>pX K vs H Q E\/tj K vs H Q E)):∃tr,g_ (iG aX P w K mg base lh "law" (bB eX) f cdv A outer s H E).F (jB 10<|gf eX) tr/\
   ∀(a p c8 OR S:V)(j os:List V)(c g:Ξ)(pr:Int)(v4 v5 v6:Option af)(X:ac),pg PO PY X c8 OR j os c g->xQ c g->¬gM pr->bX X S (.c<|iT<|jf g)->(∀x,Q (.e ae) x)->
    tr {a:=λ_ x=>Q .g x,b:=Q} [U<|.c a,U<|.c p,U<|.c c8,U<|.c OR,v4,v5,v6,U<|.d pr,U<|.c S,Z,Z,Z] X:=by
 have I:=M.units;have hu:=jb M;obtain⟨c6,b3,y⟩:=ZQ (f:=f) (cdv:=cdv) (A:=A) (outer:=outer) (s:=s) (H:=H) (Q:=Q) (E:=E) M c7 Cm Ci;refine(_,aY (cJ (i:=9) mx.a O (aq O)<|cA kT (eR<|aj (ij<|aj aV<|aj aV az) az)<|ah 2)
  (aY (dh (cV (EA I) (fE lh ["way","none"] [Z,U 9] (eG<|eR<|aj aV<|aj aV<|aj aV az) (λcl C q r ex=>cB (i:=0) (eI ["way","none"]) O<|ak O) (λcl C q r ex=>gE)
   (λcl C q r ex=>bN Cm M O ce<|aj (ah 0)<|aj (ah 1)<|aj ml<|aj aV<|aj aV az) (hfr:=iQ (bB eX) δ) (te:=Ao K PO PY fW fO fN (bz 1) zt 4<|dK<|.d 0))
   (eR<|aj dF<|aj dF<|aj dF az)<|cN _) (be<|cp gd) dq)
  (aY (dh (cV (EA I) (fE lh ["way","web"] [Z,U 2] (eG<|eR<|aj aV<|aj aV<|aj aV az) (λcl C q r ex=>cB (i:=0) (eI ["way","web"]) O<|ak O) (λcl C q r ex=>gE)
   (λcl C q r ex=>bN Cm M O ce<|aj (ah 0)<|aj (ik qT O c7.b mz<|aj (ah 1) az)<|aj (UK hu<|Lq (ij<|aj aV az) aV Lp)<|aj aV<|aj aV az) (hfr:=iQ (bB eX) δ) (te:=Ao K PO PY fW fO fN (Ff K 1) (KG [(adc (ko<|cT (dK<|.d 99) e_) (dK<|.d 1))]) 4<|dK<|.d 0))
   (eR<|aj dF<|aj dF<|aj dF az)<|cN _) (be<|cp gd) dq)
  (aY (dh (sW.B (sH (cV qO (bN Cm M O ce<|aj aV<|aj (ik qT O c7.b mz<|aj (ah 2) az)<|aj (ah 8)<|aj (ah 7)<|aj aV az) dF<|cN _)
  <|sG<|cV qO (bN Cm M O ce<|aj aV<|aj (ik qT O c7.b mz<|aj (ah 2) az)<|aj (ah 8)<|aj aV<|aj aV az) dF<|cN _)) (be<|cp gd) dq)
  b3))),?_)
 intro a p c8 OR S j os c g pr v4 v5 v6 X z o b4 hd k;have b5:[99]∉cW c:=λh=>by have:=o.f _ h 99 (by simp);omega
 refine(cg O,λt ht=>(cg O,λL hL=>(_,O,L,c8,_,j.map af.c,O,O,aD,?_,?_,λNN hN=>?_)))
 ·exact(aQ.B hL) _ _<|(aQ.B ht) _ _ z.c
 ·have:=z.hw.B
  have:=(qb o.e).1;simp only[dP,nB,aA];exact dN ω
 have u1:=aQ.B (o:=.b [.d 1,.d 0]) ht;have u2:=aQ.B (o:=.a [.c t]) hL;have u3:=aQ.B (o:=.a<|[af.c t]++j.map af.c) hN;have us:=u1.F<|u2.F u3;have a0:av (av (av X t<|.b [.d 1,.d 0]) L<|.a [.c t]) NN (.a<|[af.c t]++j.map af.c) NN=U (.a<|(t::j).map af.c):=aD;have a1:aW _ (t::j) ([1,0]::c):=.cons (u3 _ _<|u2 _ _<|aD (a:=t) (o:=.b [.d 1,.d 0]))<|us.J z.hw;have z3:=z.B<|.B us;have a2:=hd.B us;generalize av (av (av X t<|.b [.d 1,.d 0]) L<|.a [.c t]) NN (.a<|[af.c t]++j.map af.c)=H3 at us a0 a1 z3 a2;refine(cg O,λL4 a3=>(L4,O,(_,bx.B aD),λD hD=>fc<|GA (K:=K) (PO:=PO) (PY:=PY) (st:="web") (ws:=[6,7,8]) (λn hn H5 R s5 kk=>?_) (bx.B aD) ξ hD λH5 s5 b6=>?_))
 ·have v:=(dX.B<|aQ.B a3).F s5
  refine(_,O,_,O,λd hd=>?_);have T:=aQ.B (o:=.c []) hd;obtain⟨m,em,hm⟩:∃m:Nat,n=(m:Int)/\(m=6\/m=7\/m=8):=by
   simp only[ci,on,nE] at hn;exact(n.toNat,ω,ω)
  exact Bt ((v.F<|.B T).tab z3.b) em hm (.inl ((t::j,_,T.W<|v.A2<|bx.B a0,T.J<|v.N a1,OI.2,OI.1),O)) λH1 s1=>kk H1<|.F (.B T) s1
 have v:=(dX.B<|aQ.B a3).F s5;have z5:=z3.B v;have b7:=v.a a2;refine(cg O,λL6 a4=>(_,_,vd ((aQ.B a4) _ _ b6) O,vd aD O,δ,δ,δ,_,O,cZ ?_));have T:=dX.B (PO:=PO) (PY:=PY)<|aQ.B (o:=.a [af.f "web",af.f "web",af.f "web"]) a4;have z6:=z5.B T;have a5:=T.a b7;generalize av H5 L6 (.a [af.f "web",af.f "web",af.f "web"])=H6 at z6 a5;refine(cg O,λL7 a6=>(L7,O,(_,bx.B aD),λD7 b8=>fc<|GA (K:=K) (PO:=PO) (PY:=PY) (st:="order") (ws:=[6,7,8]) (λn hn H8 R s8 kk=>?_) (bx.B aD) ξ b8 λH8 s8 b9=>?_))
 ·have z8:=z6.B<|(dX.B<|aQ.B a6).F s8
  refine(_,O,_,O,c8,_,O,.inl<|bx.B z8.c,λL9 G d hd=>(cg O,λt9 a7=>([(adc ([bd 99]) (.d 1))],.cons (t9,O,aD) .nil,(aQ.B a7) _ _ aD,ξ,λx e' ho=>?_)));have s9:=aQ.B (o:=.a<|j.map af.c) G;have a8:aQ (av H8 L9<|.a<|j.map af.c) x:=λb u e=>by
   have nd:b≠d:=dH e hd;rw[ho b nd];refine(aQ.B a7) _ _ ?_;rw[a_ nd];exact e
  have s:=s9.F a8;obtain⟨m,em,hm⟩:∃m:Nat,n=(m:Int)/\(m=6\/m=7\/m=8):=by
   simp only[ci,on,nE] at hn;exact(n.toNat,ω,ω)
  exact Bt ((dX.B s).tab z8.b) em hm (.inr<|.inl (j,c,(bx.B<|a8 _ _ aD,s.J z8.hw,(o.e,by have:=o.b;omega),o.b,.inl e',ξ,ξ),ZD b5,O)) λH1 s1=>kk H1<|.F (.B s) s1
 have a9:=(dX.B<|aQ.B a6).F s8;have z8:=z6.B a9;have c0:=a9.a a5;refine(cg O,λL9 G=>(_,_,vd ((aQ.B G) _ _ b9) O,vd aD O,δ,δ,δ,_,O,cZ ?_));have s9:=dX.B (PO:=PO) (PY:=PY)<|aQ.B (o:=.a [af.f "order",af.f "order",af.f "order"]) G;have z9:=z8.B s9;have b0:=s9.a c0;generalize av H8 L9 (.a [af.f "order",af.f "order",af.f "order"])=H9 at z9 b0;have b1:∀(x:ac)(l:V),pg PO PY x c8 OR j os c g->bX x S (.c<|iT<|jf g)->x l=U (.a<|j.map af.c)->ni K x l S j c (jf g):=λx l z' c1 hl=>by
  have:=o.b;exact(bx.B hl,z'.hw,(o.e,ω),o.b,c1,by rw[Oo];exact BM o.a,by unfold jf;rw[aA,o.c.length_eq];omega)
 have ar:=aau o.c o.a;refine(_,O,c8,_,O,.inl<|bx.B z9.c,λLA c2=>(.c S,O,.d pr,O,?_));have sA:=dX.B (PO:=PO) (PY:=PY)<|aQ.B (o:=.a<|j.map af.c) c2;have zA:=z9.B sA;have b2:=sA.a b0;dsimp only[cT,e_,dK];refine Bt (n:=6) zA.b O (.inl O) (.inr<|.inr (O,j,c,jf g,b1 _ LA zA b2 aD,ar,.inl (b4,O))) λHB sB=>(O,_,O,?_);rw[bZ O];have zB:=zA.B sB;have c3:=sB.a b2;refine cZ (_,O,c8,_,O,.inl<|bx.B zB.c,λLC c4=>(.c S,O,?_));have sC:=dX.B (PO:=PO) (PY:=PY)<|aQ.B (o:=.a<|j.map af.c) c4;have zC:=zB.B sC;have c5:=sC.a c3;dsimp only[cT,e_,dK];refine Bt (n:=6) zC.b O (.inl O) (.inr<|.inr (O,j,c,jf g,b1 _ LC zC c5 aD,ar,.inr (.inl O,O))) λHD sD=>(O,_,O,?_);rw[bZ O];exact cZ<|y a p c8 OR j os c g v4 v5 v6 _ _ _ HD (zC.B sD) o k
end
structure nj(X:aK)(es:List bf)(t:ff):Prop where
 h:je X es t
def tz:nj X [] e_:=⟨az⟩
def NW{e:bf}{t:ff}(c:bA X e b)(h:nj X a t)(d:eM (e::a) X.env=(adc ao (dO e X.env))::eM a X.env:=by rfl):nj X (e::a) (cT b t):=⟨aj c h.h d⟩
def jZ{j:Nat}{t:ff}(h:nj X b t):nj X (.Constant (.int a) j p::b) (cT (dK<|.d a) t):=⟨aj aV h.h⟩
def NV{j:Nat}{t:ff}(h:nj X b t):nj X (.UnaryOp .USub (.Constant (.int a) j p) c::b) (cT (wB (sE λi=>.d<|-i)<|dK<|.d a) t):=⟨aj (uL uH aV) h.h⟩
def xJ{k:Nat}{t u:ff}(c:nj X a u)(h:nj X b t):nj X (.Tuple a k q::b) (cT (ko u) t):=⟨aj (ij c.h) h.h⟩
def NR:List bf:=match jB 6 (gf eX) with
 |.Assign _ (.Subscript (.List E _) _ _) _::_=>E
 |_=>[]
def Yl:bf:=match jB 6 (gf eX) with
 |.Assign _ (.Subscript _ x _) _::_=>x
 |_=>.List [] (0,0,0,0)
def WS:jB 6 (gf eX)=.Assign [.Name "prime" (339,4,339,9)] (.Subscript (.List NR (339,12,339,48)) Yl (339,12,339,67)) (339,4,339,67)::jB 7 (gf eX):=O
abbrev Xh:bb:=dW (jq λi j=>.d<|i-j) (dK<|.d 2)<|dW (mj EZ λi j=>.d<|i ^ j.toNat) (dK<|.d 10)<|dK<|.d 9
def Ym:nj X NR (cT (dK<|.d 4)<|cT (dK<|.d 1)<|cT (dK<|.d 0)<|cT (wB (sE λi=>.d<|-i)<|dK<|.d 2)<|cT (dK<|.d 11)<|cT Xh<|cT (dK<|.d 9)<|cT (dK<|.d 8) e_):=
 jZ<|jZ<|jZ<|NV<|jZ<|NW (cA uM aV<|cA zM aV aV)<|jZ<|jZ tz
def aas{ns:List Int}{r:Int}(a:0<=r)(b:r<ns.length):∃z,z∈ns/\lP (ns.map af.d) r=U (.d z):=by
 obtain⟨n,rfl⟩:=wo a;have e:ns[n]?=U ns[n]:=cw ω;exact(ns[n],lE _,kW (by rw[cm,e];rfl))
abbrev Gv:List Int:=[4,1,0,-2,11,2-10 ^ 9,9,8]
def Yn{p:Int}(h:p∈Gv):¬gM p:=by
 simp only[ci,on,nE] at h;unfold gM;omega
def Nn(t:gX H P a q)(b:gi p H h)(j:fR H p):gX h P a q:=by
 obtain⟨x,y,e,_⟩:=j;have i:P≠p:=λz=>by rw[z] at t;rcases t with d|⟨_,d,_⟩<;>(rw[e] at d;cases d)
 rcases t with f|⟨c,f,k,l,m,g,r⟩
 ·exact .inl<|b _ _ i f
 ·exact .inr (c,b _ _ i f,k,l,m,b _ _ (λz=>by rw[z,e] at g;cases g) g,r)
def Aj(t:mC a b H)(d:gi p H c)(e:fR H p):mC a b c:=(t.a,Nn t.o d e,Nn t.y d e)
def pg.F{e f p:V}{k h:V}{i j:List V}{a b:Ξ}(z:pg e f H k h i j a b)(c:gi p H g)(d:fR H p):pg e f g k h i j a b:=
 (Aj z.b c d,c _ _ (d.F z.c) z.c,c.B d z.hw,c _ _ (d.F z.a) z.a,c.B d z.ho)
section
variable{P:aU}{w:aO}{K:aH}{mg:al->Option aa}{base:aI}{PO PY fW fO fN:V}
variable{f:V}{cdv:aa}{A:bg}{outer:List dD}{s:ai}{H:ac}{E:bK}{Q:aL}
def ZN(S:eJ 12 (A.deeper<|iY "law" (bB eX) s⁻¹ f cdv))(b8:eC mg)(a2:mg "dict"=Z)(Cm:bO P w K mg base aX "_law_met" ["way","order","worths","prime","time"] 12 (nN K PO PY fW fO fN))(Ci:bO P w K mg base aX "is_order" ["order"] 2 (λvs H Q E=>pX K vs H Q E\/tj K vs H Q E))(Ct:bO P w K mg base aX "_law_take" ["box","most"] 1 ti):∃tr,g_ (iG aX P w K mg base lh "law" (bB eX) f cdv A outer s H E).F (jB 6<|gf eX) tr/\
   ∀(a p b9 j:V)(as v:List V)(l e:Ξ)(v4 v5 t:Option af)(H2:ac),pg PO PY H2 b9 j as v l e->fR H2 p->xQ l e->(∀H',Q (.e ae) H')->
    tr {a:=λ_ H'=>Q .g H',b:=Q} [U<|.c a,U<|.c p,U<|.c b9,U<|.c j,v4,v5,t,Z,Z,Z,Z,Z] H2:=by
 have u:=S.units;obtain⟨b5,a3,q⟩:=ZR (f:=f) (cdv:=cdv) (A:=A) (outer:=outer) (s:=s) (H:=H) (Q:=Q) (E:=E) S b8 Cm Ci;rw[WS];refine(_,aY (cJ (i:=7) mx.a O (ak O)<|dG jr (eR Ym.h) (bN Ct S O ce<|aj (ah 1)<|aj aV az) (λ_ _=>O))
  (aY (iF iL O (qK O b8.c<|aj aV az) (cB (i:=6) mx.a O<|ak O)
  <|be<|dh (cV qO (bN Cm S O ce<|aj (ah 6)<|aj (ik qT O b8.b mz<|aj (ah 3) az)<|aj ml<|aj (ah 7)<|aj (uL uH aV) az) dF<|cN _) (be<|cp gd) dq)
  (aY (dh (cV (EA u) (fE lh ["way","order"] [Z,U 3] (eG<|eR<|aj aV<|aj aV<|aj aV az) (λT C b c X=>cB (i:=0) (eI ["way","order"]) O<|ak O) (λT C b c X=>gE)
   (λT C b c X=>bN Cm S O ce<|aj (ah 0)<|aj (ik qT O b8.b mz<|aj (ah 1) az)<|aj ml<|aj aV<|aj (eH gW O b8.a fZ<|aj (ah 1) az) az) (hfr:=iQ (bB eX) δ) (te:=Ao K PO PY fW fO fN (Ff K 1) zt 7<|Ap K 1))
   (eR<|aj dF<|aj dF<|aj dF az)<|cN _) (be<|cp gd) dq)
  (aY (cJ (i:=8) mx.a O (ak O) (ik (Wy O u) O a2 aaq (aj (fE lh ["piece"] [Z] (eG<|ah 3) (λT C b c X=>cB (i:=0) (eI ["piece"]) O<|ak O) (λT C b c X=>gE)
   (λT C b c X=>ij<|aj (ah 0)<|aj (eH gW O b8.a fZ<|aj (ah 0) az) az) (hfr:=lN δ) (te:=ko<|cT (bz 0)<|cT (Ap K 0) e_)) az)))
  a3))),?_)
 intro a p b9 j as v l e v4 v5 t H2 z hb o k;have b6:e.length<=56:=by rw[o.c.length_eq];exact o.b
 have a4:=z.ho.B;refine(_,O,_,_,O,O,(ξ,ξ,ξ),_,_,O,O,cg O,λL hL=>?_);have s3:=aQ.B (o:=.a<|Gv.map af.d) hL;have nL:L≠p:=by obtain⟨x,y,h,_⟩:=hb;exact dB<|dH h hL
 refine(_,O,p,8,O,hb.B s3,ξ,ξ,λr4 H4 a5 a6 a0 b7=>?_);obtain⟨pr,a7,a8⟩:=aas (ns:=Gv) a5 a6;refine(L,_,_,_,O,O,bx.B<|a0 _ _ nL aD,a8,?_);have hn:=Yn a7;have a9:=hb.B s3;have z3:=z.B<|.B s3;have z4:=z3.F a0 a9;refine(5,O,ξ,ξ,Mc (lo:=0) (n:=5) (λi σ H5=>∃t:Option af,σ=[U<|.c a,U<|.c p,U<|.c b9,U<|.c j,v4,v5,t,U<|.d pr,Z,Z,Z,Z]/\dX PO PY H4 H5) (t,O,.B<|aQ.A3 _) ?_ ?_)
 ·rintro i σ H5 hi ⟨t,rfl,s5⟩
  have G:=z4.B s5;refine(_,O,_,O,j,v.map af.c,O,.inl<|bx.B G.a,λL6 r d I=>(_,O,_,O,?_));have s6:=(aQ.B (o:=.a<|v.map af.c) r).F<|aQ.B (o:=.c []) I;dsimp only[cT,e_,dK];refine Bs (n:=i) (st:="number") ((dX.B s6).tab G.b) (bx.B<|(aQ.B I) _ _ aD) (s6.J G.ho) ω ω ω (.inr<|.inl (o.a,ω,.inl (hi,hn),O)) λH7 s7=>(O,_,O,?_);rw[bZ O];exact cZ (_,O,s5.F<|(dX.B s6).F s7)
 rintro σ H5 ⟨t,rfl,s5⟩;have G:=z4.B s5;refine(cg O,λL6 r=>(L6,O,(_,bx.B aD),λD hD=>fc<|GA (K:=K) (PO:=PO) (PY:=PY) (st:="number") (ws:=[3,4,5]) (λn b0 H7 R s7 kk=>?_) (bx.B aD) ξ hD λH7 s7 b1=>?_))
 ·have M:=G.B<|(dX.B<|aQ.B r).F s7
  refine(_,O,_,O,j,_,O,.inl<|bx.B M.a,λL8 g d I=>(_,O,j,v.map af.c,O,.inl ?_,?_))
  ·exact bx.B<|(aQ.B I) _ _<|(aQ.B g) _ _ M.a
  ·have s8:=(aQ.B (o:=.a<|v.map af.c) g).F<|aQ.B (o:=.c []) I
   obtain⟨m,em,hm⟩:∃m:Nat,n=(m:Int)/\(3<=m/\m<6):=by
    simp only[ci,on,nE] at b0;exact(n.toNat,ω,ω)
   refine Bs (n:=m) ((dX.B s8).tab M.b) (bx.B<|(aQ.B I) _ _ aD) (s8.J M.ho) ω em ω (.inr<|.inl (o.a,ω,.inr (hm.1,.inr<|.inr<|.inr O,λz=>?_),O)) λH1 s1=>kk H1<|.F (.B s8) s1;have:=z.2;rw[aA,a4] at this;omega
 have M:=G.B<|(dX.B<|aQ.B r).F s7;refine(cg O,λL8 g=>(_,_,vd ((aQ.B g) _ _ b1) O,vd aD O,δ,δ,δ,_,O,cZ ?_));have z8:=M.B<|dX.B<|aQ.B (o:=.a [af.f "number",af.f "number",af.f "number"]) g;generalize av H7 L8 (.a [af.f "number",af.f "number",af.f "number"])=H8 at z8;refine(_,O,j,O,(_,bx.B z8.a),λD9 b2=>fc<|ZL (bx.B z8.a) z8.ho ω b2 λH9 ts s9 a1 b3=>(D9,ts,_,O,bx.B a1,b3,λWD b4=>?_));rw[χ<|BM o.a];exact q a p b9 j WD as v l e pr v4 v5 t _ (z8.B<|.B<|s9.F<|aQ.B b4) o hn (.inl aD) k
end
def Op:List bf:=match jB 3 (gf eX) with
 |.Assign _ (.Subscript (.List E _) _ _) _::_=>E
 |_=>[]
def ZS:bf:=match jB 3 (gf eX) with
 |.Assign _ (.Subscript _ x _) _::_=>x
 |_=>.List [] (0,0,0,0)
def WV:jB 3 (gf eX)=.Assign [.Name "last" (333,4,333,8)] (.Subscript (.List Op (333,11,333,74)) ZS (333,11,333,93)) (333,4,333,93)::jB 4 (gf eX):=O
def Ol:List bV:=match jB 5 (gf eX) with
 |.If _ b _ _::_=>b
 |_=>[]
def ZJ:bf:=match jB 5 (gf eX) with
 |.If c _ _ _::_=>c
 |_=>.List [] (0,0,0,0)
def WU:∃p,jB 5 (gf eX)=.If ZJ Ol [] p::jB 6 (gf eX):=(_,O)
def OT(a b:Ξ)(l:List Int):Prop:=b=a++[l]\/b=l::a\/b=a.drop 1
def WX{a b c d e f:V}{p q r s t u:List Int}(g:cG H a p)(h:cG H b q)(i:cG H c r)(j:cG H d s)(k:cG H e t)(l:cG H f u):aW H [a,b,c,d,e,f] [p,q,r,s,t,u]:=.cons g<|.cons h<|.cons i<|.cons j<|.cons k<|.cons l .nil
def aak(d:fR H p)(z:dX b c H a):fR a p:=by
 obtain⟨x,y,e,r⟩:=d;exact(x,y,z.J e,r)
def Yu{x:List Int}(h:x∈(k_ a).map (·.1)):∃q∈a,x∈cq q:=by
 obtain⟨y,b,rfl⟩:=bq.mp h;unfold k_ at b;obtain⟨q,c,d⟩:=ki.mp b;obtain⟨r,e,rfl⟩:=bq.mp d;exact(q,c,e)
section
variable{P:aU}{w:aO}{K:aH}{mg:al->Option aa}{base:aI}{PO PY fW fO fN:V}
variable{f:V}{cdv:aa}{A:bg}{outer:List dD}{s:ai}{H:ac}{E:bK}{Q:aL}
def ZO(I:eJ 12 (A.deeper<|iY "law" (bB eX) s⁻¹ f cdv))(a0:eC mg)(L:bO P w K mg base aX "_law_met" ["way","order","worths","prime","time"] 12 (nN K PO PY fW fO fN)):∃C,g_ (iG aX P w K mg base lh "law" (bB eX) f cdv A outer s H E).F Ol C/\
   ∀(c:kz)(l m p q r a:Option af)(g:V)(j:List V)(b:Ξ)(e:ac),mC PO PY e->e g=U (.a<|j.map af.c)->aW e j b->b.length<=61->¬dU b->
    (∀a D,dX PO PY e D->c.a [l,m,p,q,r,U<|.c g,a,Z,Z,Z,Z,Z] D)->C c [l,m,p,q,r,U<|.c g,a,Z,Z,Z,Z,Z] e:=by
 refine(_,be (iF iL O (qK O a0.c<|aj aV az) (cB (i:=6) mx.a O<|ak O)
  <|be<|dh (cV qO (bN L I O ce<|aj (ah 6)<|aj (ik qT O a0.b mz<|aj (ah 5) az)<|aj ml<|aj aV<|aj (uL uH aV) az) dF<|cN _) (be<|cp gd) dq),?_)
 intro c l m p q r a g j b e M Q R u v k;refine(6,O,ξ,ξ,Mc (lo:=0) (n:=6) (λi x t=>∃a:Option af,x=[l,m,p,q,r,U<|.c g,a,Z,Z,Z,Z,Z]/\dX PO PY e t) (a,O,.B<|aQ.A3 _) ?_ ?_)
 ·rintro i x t S ⟨a,rfl,h⟩
  refine(_,O,_,O,g,j.map af.c,O,.inl<|bx.B<|h.J Q,λX y d G=>(_,O,?_));have z:=(aQ.B (o:=.a<|j.map af.c) y).F<|aQ.B (o:=.c []) G;dsimp only[cT,e_,dK];refine Bs (n:=i) (st:="order") ((h.F<|.B z).tab M) (bx.B<|(aQ.B G) _ _ aD) (z.J<|h.N R) u ω S (.inl (v,O)) λH7 T=>(O,_,O,?_);rw[bZ O];exact cZ (_,O,h.F<|(dX.B z).F T)
 ·rintro x t ⟨a,rfl,h⟩
  exact k a t h
def ZP(hr:eJ 12 (A.deeper<|iY "law" (bB eX) s⁻¹ f cdv))(g9:eC mg)(d8:mg "dict"=Z)(Cm:bO P w K mg base aX "_law_met" ["way","order","worths","prime","time"] 12 (nN K PO PY fW fO fN))(Ci:bO P w K mg base aX "is_order" ["order"] 2 (λvs H Q E=>pX K vs H Q E\/tj K vs H Q E))(Ct:bO P w K mg base aX "_law_take" ["box","most"] 1 ti)(Co:bO P w K mg base aX "_law_over" ["known"] 2 (Az K)):∃tr,g_ (iG aX P w K mg base lh "law" (bB eX) f cdv A outer s H E).F (jB 3<|gf eX) tr/\
   ∀(a p h0 D:V)(as os:List V)(u g:Ξ)(M:ac),pg PO PY M h0 D as os u g->fR M p->xQ u g->(∀G,Q (.e ae) G)->
    tr {a:=λ_ G=>Q .g G,b:=Q} [U<|.c a,U<|.c p,U<|.c h0,U<|.c D,Z,Z,Z,Z,Z,Z,Z,Z] M:=by
 have c0:=hr.units;have hu:=jb hr;obtain⟨c1,p6,a7⟩:=ZN (f:=f) (cdv:=cdv) (A:=A) (outer:=outer) (s:=s) (H:=H) (Q:=Q) (E:=E) hr g9 d8 Cm Ci Ct;obtain⟨d9,p5,a8⟩:=ZO (f:=f) (cdv:=cdv) (A:=A) (outer:=outer) (s:=s) (H:=H) (E:=E) hr g9 Cm;have S5:∃tr,g_ (iG aX P w K mg base lh "law" (bB eX) f cdv A outer s H E).F (jB 5<|gf eX) tr/\
   ∀(a p h0 D X x0:V)(as os bs:List V)(u g t:Ξ)(x l:List Int)(v4:Option af)(M:ac),pg PO PY M h0 D as os u g->fR M p->xQ u g->(∀G,Q (.e ae) G)->g.head?=U x->vw x l->M X=U (.a<|bs.map af.c)->aW M bs t->OT g t l->
    tr {a:=λ_ G=>Q .g G,b:=Q} [U<|.c a,U<|.c p,U<|.c h0,U<|.c D,v4,U<|.c X,Z,Z,Z,Z,Z,Z] M:=by
  obtain⟨g0,e5⟩:=WU;rw[e5];refine(_,aY (dh (sW.B<|sH (Et<|Ey hu (dG jr (ah 3) aV (λ_ _=>O))<|bN Co hr O ce<|aj (ah 3) az)<|sG<|cV (Ez c0) (ah 5) (oM zy (ah 3) (oH aV) oJ)<|cN _) p5 dq) p6,?_);intro a p h0 D X x0 as os bs u g t x l v4 M z hb o k hx hl c2 c3 a0;have a6:g.length<=56:=by rw[o.c.length_eq];exact o.b
  have a1:=z.ho.B;obtain⟨I,rfl⟩:∃I,g=x::I:=by
   cases g with
   |nil=>cases hx
   |cons y I=>exact(I,by rw[ca hx])
  have h5:∀q∈x::I,q.length<=5:=λq hq=>(nt.mp (tC o.a hq).1).2.1;have c4:[96]∉x::I:=λh=>by have:=o.f _ (o.c.mem_iff.mp h) 96 (by simp);omega
  have e0:t.length<=61:=by
   rcases a0 with rfl|rfl|rfl
   ·rw[dz,Dr];omega
   ·rw[dP];omega
   ·rw[dP] at a6;omega
  obtain⟨c,b,rfl⟩:∃c b,os=c::b:=by
   cases os with
   |nil=>cases a1
   |cons y r=>exact(y,r,O)
  have a9:cG M c x:=by
   have:=z.ho;cases this with
   |cons h _=>exact h
  have c5:∀v6 G,dX PO PY M G->c1 {a:=λ_ G=>Q .g G,b:=Q} [U<|.c a,U<|.c p,U<|.c h0,U<|.c D,v4,U<|.c X,v6,Z,Z,Z,Z,Z] G:=λv6 G s'=>
   a7 a p h0 D as (c::b) u (x::I) v4 _ v6 G (z.B s') (aak hb s') o k
  have GO:∀H3,aQ M H3->¬dU t->d9 {a:=c1 {a:=λ_ G=>Q .g G,b:=Q},b:=Q} [U<|.c a,U<|.c p,U<|.c h0,U<|.c D,v4,U<|.c X,Z,Z,Z,Z,Z,Z] H3:=λH3 s3 c6=>
   a8 _ _ _ _ _ _ _ X bs t H3 ((dX.B s3).tab z.b) (s3 _ _ c2) (s3.J c3) e0 c6 λv6 G s'=>c5 v6 G<|(dX.B s3).F s'
  refine(_,O,D,_,_,.c c,O,O,bx.B z.a,kW (j:=0) O,_,O,D,_,_,O,bx.B z.a,z.ho,h5,ω,λd H3 g7 s3 hd ov=>?_);rcases ov.F (s3.N a9) with ⟨e6,A',cs,dg,_,_⟩|⟨c6,dg⟩
  ·refine(d,_,O,dg,_,O,dI<|dI<|GO H3 s3 ?_)
   obtain⟨q,hq,e7⟩:=Yu e6;rcases a0 with rfl|rfl|rfl
   ·exact Pd hl dC c4
   ·exact Pc hl
   ·exact abe o.a hq e7
  ·refine(d,_,O,dg,_,O,cZ (_,O,_,O,_,O,D,_,O,bx.B<|s3 _ _ z.a,λC hC=>?_))
   have s4:=aQ.B (o:=.a<|iR ((c::b).map af.c) (U 1) Z) hC;have e4:iR ((c::b).map af.c) (U 1) Z=b.map af.c:=Bz ((c::b).map af.c) 1 (by simp);have c7:=aD (H:=H3) (a:=C) (o:=.a<|iR ((c::b).map af.c) (U 1) Z);rw[e4] at s4 c7 ⊢;have s:=s3.F s4;have e8:aW (av H3 C<|.a<|b.map af.c) b I:=by
    have:=s.J z.ho;cases this with
    |cons _ h=>exact h
   refine .inr (X,C,bs,b,t,I,O,O,bx.B<|s _ _ c2,s.J c3,bx.B c7,e8,_,O,?_);rw[aB O]
   by_cases e:t=I
   ·rw[bZ e]
    exact cZ<|c5 _ _<|.B s
   ·rw[cf e]
    refine dI<|GO _ s ?_;rcases a0 with rfl|rfl|rfl
    ·exact Pd hl dC c4
    ·exact Pc hl
    ·exact aZ O e
 obtain⟨g2,e9,a4⟩:=S5;rw[WV];have f0:nj (iG aX P w K mg base lh "law" (bB eX) f cdv A outer s H E).F Op _:=xJ (jZ<|jZ tz)<|NW (dG jr (ah 3) aV (λ_ _=>O))<|xJ (jZ<|jZ tz)<|xJ (jZ tz)<|xJ (jZ<|jZ<|jZ<|jZ<|jZ<|jZ tz)<|xJ (NV tz) tz;refine(_,aY (cJ (i:=4) mx.a O (ak O)<|dG jr (eR f0.h) (bN Ct hr O ce<|aj (ah 1)<|aj aV az) (λ_ _=>O))
  (aY (cJ (i:=5) mx.a O (ak O)<|dG jr (eR<|aj (cA kT (ah 3)<|eR<|aj (ah 4) az)<|aj (cA kT (eR<|aj (ah 4) az)<|ah 3)<|aj (oM zy (ah 3) (oH aV) oJ) az) (bN Ct hr O ce<|aj (ah 1)<|aj aV az) (λ_ _=>O))
  e9),?_)
 intro a p h0 D as os u g M z hb o k;have a6:g.length<=56:=by rw[o.c.length_eq];exact o.b
 have a1:=z.ho.B;obtain⟨x,I,rfl⟩:∃x I,g=x::I:=by
  cases g with
  |nil=>exact aZ O o.d
  |cons y I=>exact(y,I,O)
 obtain⟨c,b,rfl⟩:∃c b,os=c::b:=by
  cases os with
  |nil=>cases a1
  |cons y r=>exact(y,r,O)
 have a9:cG M c x:=by
  have:=z.ho;cases this with
  |cons h _=>exact h
 refine(cg O,λt1 g1=>?_);have s1:=aQ.B (o:=.b [.d 96,.d 97]) g1;refine(_,O,D,_,_,.c c,O,O,bx.B<|s1 _ _ z.a,kW (j:=0) O,cg O,λt3 g3=>(cg O,λt4 g4=>(cg O,λt5 g5=>(_,O,cg O,λt6 g6=>(cg O,λL hL=>?_)))));have s3:=aQ.B (o:=.b [.d 3,.d 2]) g3;have s4:=aQ.B (o:=.b [.d 100]) g4;have s5:=aQ.B (o:=.b [.d 0,.d 1,.d 2,.d 3,.d 4,.d 5]) g5;have s6:=aQ.B (o:=.b [.d<|-1]) g6;have s7:=aQ.B (o:=.a [.c t1,.c c,.c t3,.c t4,.c t5,.c t6]) hL;have b0:=s5.F<|s6.F s7;have b1:=s3.F<|s4.F b0;have ht:aW _ [t1,c,t3,t4,t5,t6] [[96,97],x,[3,2],[100],[0,1,2,3,4,5],[-1]]:=WX (b1 _ _<|aD (a:=t1) (o:=.b [.d 96,.d 97])) ((s1.F b1).N a9) ((s4.F b0) _ _<|aD (a:=t3) (o:=.b [.d 3,.d 2])) (b0 _ _<|aD (a:=t4) (o:=.b [.d 100]))
  ((s6.F s7) _ _<|aD (a:=t5) (o:=.b [.d 0,.d 1,.d 2,.d 3,.d 4,.d 5]))<|s7 _ _<|aD (a:=t6) (o:=.b [.d<|-1])
 have b2:av _ L (.a [.c t1,.c c,.c t3,.c t4,.c t5,.c t6]) L=U (.a<|[t1,c,t3,t4,t5,t6].map af.c):=aD (H:=av (av (av (av (av M t1<|.b [.d 96,.d 97]) t3<|.b [.d 3,.d 2]) t4<|.b [.d 100]) t5<|.b [.d 0,.d 1,.d 2,.d 3,.d 4,.d 5]) t6<|.b [.d<|-1]);have sA:=s1.F b1;have zA:=z.B<|.B sA;have a2:=hb.B sA;generalize av (av (av (av (av (av M t1<|.b [.d 96,.d 97]) t3<|.b [.d 3,.d 2]) t4<|.b [.d 100]) t5<|.b [.d 0,.d 1,.d 2,.d 3,.d 4,.d 5]) t6<|.b [.d<|-1]) L (.a [.c t1,.c c,.c t3,.c t4,.c t5,.c t6])=HA at ht b2 sA zA a2;refine(_,O,p,6,O,a2,ξ,ξ,λr HB r0 r1 b3 f1=>?_);have zB:=zA.F b3 a2;obtain⟨n,rfl⟩:=wo r0;have en:[t1,c,t3,t4,t5,t6][n]?=U ([t1,c,t3,t4,t5,t6][n]'(by simp;omega)):=cw _;obtain⟨lv,f2,c8⟩:=(b3.B a2 ht).F en;generalize [t1,c,t3,t4,t5,t6][n]'(by simp;omega)=v at en c8;have hl:vw x lv:=by
  have:=dy f2
  simpa[vw] using this
 refine(L,_,_,.c v,O,O,bx.B<|b3 _ _ (a2.F b2) b2,kW (by rw[cm,en];rfl),?_);have g8:=zB.ho.B;refine(_,O,_,O,cg O,λA1 c9=>(D,A1,(c::b).map af.c,_,O,O,(aQ.B c9) _ _ zB.a,aD,?_,λB1 f3=>?_))
 ·rw[aA,a1,Dr];exact dN ω
 have u1:=aQ.B (o:=.a [.c v]) c9;have u2:=aQ.B (o:=.a<|(c::b).map af.c++[.c v]) f3;have a5:=u1.F u2;have k1:av (av HB A1<|.a [.c v]) B1 (.a<|(c::b).map af.c++[.c v]) B1=U (.a<|(c::b++[v]).map af.c):=by rw[aD,cv];rfl
 have zC:=zB.B<|.B a5;have d0:=f1.B a5;have d1:=a5.N c8;generalize av (av HB A1<|.a [.c v]) B1 (.a<|(c::b).map af.c++[.c v])=HC at a5 k1 zC d0 d1;refine(_,O,cg O,λA2 d2=>(_,O,A2,D,_,(c::b).map af.c,O,O,aD,(aQ.B d2) _ _ zC.a,?_,λB2 f4=>?_))
 ·rw[aA,a1,Dr];exact dN ω
 have u3:=aQ.B (o:=.a [.c v]) d2;have u4:=aQ.B (o:=.a<|[.c v]++(c::b).map af.c) f4;have a3:=u3.F u4;have k2:av (av HC A2<|.a [.c v]) B2 (.a<|[.c v]++(c::b).map af.c) B2=U (.a<|(v::c::b).map af.c):=aD;have zD:=zC.B<|.B a3;have d3:=d0.B a3;have d4:=a3.N d1;have d5:=a3 _ _ k1;generalize av (av HC A2<|.a [.c v]) B2 (.a<|[.c v]++(c::b).map af.c)=HD at a3 k2 zD d3 d4 d5;refine(_,O,_,O,D,_,O,bx.B zD.a,λB3 f5=>(cg O,λL2 d6=>?_));have e4:iR ((c::b).map af.c) (U 1) Z=b.map af.c:=Bz ((c::b).map af.c) 1 (by simp);rw[e4] at d6 ⊢;have u5:=aQ.B (o:=.a<|b.map af.c) f5;have u6:=aQ.B (o:=.a [.c B1,.c B2,.c B3]) d6;have S:=u5.F u6;have k3:=u6 _ _<|aD (H:=HD) (a:=B3) (o:=.a<|b.map af.c);have kL:av (av HD B3<|.a<|b.map af.c) L2 (.a [.c B1,.c B2,.c B3]) L2=U (.a<|[B1,B2,B3].map af.c):=aD;have zE:=zD.B<|.B S;have R:=d3.B S;have b4:=S.N d4;have b5:=S _ _ d5;have b6:=S _ _ k2;generalize av (av HD B3<|.a<|b.map af.c) L2 (.a [.c B1,.c B2,.c B3])=HE at S k3 kL zE R b4 b5 b6;refine(_,O,p,3,O,R,ξ,ξ,λr2 HF q0 q1 T f6=>?_);have zF:=zE.F T R;have d7:cG HF v lv:=T _ _ (R.J b4) b4;have f7:=T _ _ (R.F b5) b5;have f8:=T _ _ (R.F b6) b6;have f9:=T _ _ (R.F k3) k3;have b7:=T _ _ (R.F kL) kL;have b8:=zF.ho;have b9:∀(X:V)(bs:List V)(t:Ξ),HF X=U (.a<|bs.map af.c)->aW HF bs t->OT (x::I) t lv->_:=λX bs t e1 e2 e3=>
  a4 a p h0 D X c as (c::b) bs u (x::I) t x lv (U<|.c v) HF zF f6 o k O hl e1 e2 e3
 obtain⟨m,rfl⟩:=wo q0;have hm:m=0\/m=1\/m=2:=ω
 rcases hm with rfl|rfl|rfl
 ·exact(L2,_,_,.c B1,O,O,bx.B b7,O,b9 B1 (c::b++[v]) _ f7 (aW.J b8 d7)<|.inl O)
 ·exact(L2,_,_,.c B2,O,O,bx.B b7,O,b9 B2 (v::c::b) _ f8 (.cons d7 b8)<|.inr<|.inl O)
 ·refine(L2,_,_,.c B3,O,O,bx.B b7,O,b9 B3 b I f9 ?_<|.inr<|.inr O)
  cases b8 with
  |cons _ h=>exact h
end
def ZZ:∀n,n<19->my (1+n)≠[]:=δ
def aae(h:BF q):∀p∈cW q,∀x∈p,x<=32:=λp d x a=>by
 obtain⟨b,f,g,e,n,o,s,u,i⟩:=h;obtain⟨t,j,c⟩:=ki.mp<|qc.mp d;obtain⟨r,k,rfl⟩:=bq.mp<|i.mem_iff.mp j;have a:=(nu.mp c).2.subset a;unfold gK at a;obtain⟨y,l,rfl⟩:=bq.mp a;have:=((OH e).2.2.1 r k).2.2.2 y l;have m:g=1\/g=2\/g=3:=ω
 rcases m with rfl|rfl|rfl<;>omega
section
variable{P:aU}{w:aO}{K:aH}{mg:al->Option aa}{base:aI}{PO PY fW fO fN:V}{f:V}{fd:cr}
def AE(K:aH)(PO PY:V):ia:=λc H Q _=>∃(a:V)(b:List Int),c=[.c a]/\bx K H a (b.map af.d)/\b.length<=63/\H PO=U (.d #[])/\H PY=U (.d #[])/\PO≠PY/\∀d,Q (.e ae) d
def Ze(F:bF K "law" "law" eX f fd)(d5:eC mg)(a2:mg "dict"=Z)(Cc:bO P w K mg base aX "_law_cell_at" ["script","k"] 1 (FI K))(a3:bO P w K mg base aX "_law_box" ["cell"] 1 FM)(Ct:bO P w K mg base aX "_law_take" ["box","most"] 1 ti)(Ck:bO P w K mg base aX "_law_known" ["number"] 1 FF)(Cn:bO P w K mg base aX "_law_named" ["box","web"] 2 FA)(Cp:bO P w K mg base aX "_law_pieces" ["web"] 2 (ve K))(a4:bO P w K mg base aX "_law_order" ["box","known"] 2 (FE K))(Co:bO P w K mg base aX "_law_over" ["known"] 2 (Az K))(Cm:bO P w K mg base aX "_law_met" ["way","order","worths","prime","time"] 12 (nN K PO PY fW fO fN))(Ci:bO P w K mg base aX "is_order" ["order"] 2 (λvs H Q E=>pX K vs H Q E\/tj K vs H Q E)):bD P w K mg base aX 13 f fd ["script"] (AE K PO PY):=by
 refine F.B mx (λvs H Q E h=>?_) (λM A d s H vs Q E j h=>?_)
 ·obtain⟨a,ns,rfl,_⟩:=h;rfl
 ·obtain⟨a,nn,rfl,hS,hn,a5,a6,t,k⟩:=h
  obtain⟨c9,p3,u⟩:=ZP (f:=f) (cdv:=M) (A:=A) (outer:=d) (s:=s) (H:=H) (Q:=Q) (E:=E) j d5 a2 Cm Ci Ct Co;refine(_,aY (cJ (i:=1) mx.a O (ak O)<|bN a3 j O ce<|aj (bN Cc j O ce<|aj (ah 0)<|aj aV az) az)
   (aY (cJ (i:=2) mx.a O (aq O)<|bN Cn j O ce<|aj (ah 1)<|aj (bN Ck j O ce<|aj (cA lM aV<|bN Ct j O ce<|aj (ah 1)<|aj aV az) az) az)
  <|aY (cJ (i:=3) mx.a O (aq O)<|bN a4 j O ce<|aj (ah 1)<|aj (bN Cp j O ce<|aj (ah 2) az) az) p3),?_)
  refine(_,O,a,nn,O,hS,λn=>(n,O,λp x y hp a7=>?_));have sp:=aQ.B (o:=.a [.d x,.d y]) hp;have v:fR (av H p<|.a [.d x,.d y]) p:=(x,y,aD,a7);have R:mC PO PY (av H p<|.a [.d x,.d y]):=(t,gX.B (.inl a5) sp,gX.B (.inl a6) sp);generalize av H p (.a [.d x,.d y])=H0 at sp v R;refine(_,O,_,O,p,19,O,v,ξ,ξ,λr H1 r0 r1 a8 a9=>(_,_,O,O,?_));obtain⟨m,rfl⟩:=wo r0;have b0:=Aj R a8 v;have hm:m<19:=ω
  refine(1+m,by show [af.d<|1+(m:Int)]=[af.d ((1+m:Nat):Int)];rw[Int.natCast_add];rfl,ω,λD as H2 s2 d0 b1 b2=>?_);have S:=a9.B s2;obtain⟨kl,ks⟩:=ZX (1+m) ω;refine(p,D,as,my<|1+m,O,S,b1,b2,kl,λps b3=>dE (ks ps b3).2 ξ,λd6 bs b c C H3 b4 b5 d1 T X f0 f1 g0 g1 G=>?_);have b6:=Aj (dX.tab (.B s2) b0) b4 S;have I:BF b:=(my<|1+m,c,C,.inl (1+m,ω,O),f0,f1,g0,g1,G);obtain⟨hw,d2,c7⟩:=aac I;obtain⟨d3,d4,h5,c8⟩:=qb hw;have b7:(cW b).length<=56:=by rw[vu];exact aad I
  refine(_,O,_,O,d6,bs,b,O,bx.B T,X,h5,ω,by rw[<-vu];omega,λKN H4 q4 t4=>?_);obtain⟨b8,s4,_,a0,b9⟩:=Nk t4;have g:=b5.B s4;refine(p,KN,b8,b,O,g,bx.B a0,a0,b9,hw,λOR H5 os c0 L c1 c2 c3 c4 l=>?_);have c5:=Aj (dX.tab (.B s4) b6) L g;have a1:=s4 _ _ T;refine u a p d6 OR bs os b c0 H5 (c5,L _ _ (g.F a1) a1,L.B g<|s4.J X,c2,c3) c1 (hw,b7,l,c4,λz=>?_,aae I) k;have t:=ZZ m hm;subst z;have e0:cW b=[]:=l.nil_eq.symm;cases e:my (1+m) with
  |nil=>exact t e
  |cons q r=>
   have hq:=(ks q (by rw[e];exact dC)).1;rw[e,df] at G;have c6:gK c C q∈b:=G.mem_iff.mpr dC;have:gK c C q∈cW b:=qc.mpr<|ki.mpr (_,c6,nu.mpr (λz=>hq (by unfold gK at z;exact ag8.mp z),Jo _));rw[e0] at this;cases this
end
def Ed{K:aH}{h i:aa}{j k:Option V}{b d:Array (Option aa)}{e:cr}(a:CC K ji x=U (U<|.ref f))(l:K.lookup f=U (h,j,.func e,b))(n:e.code=.ref c)(m:K.lookup c=U (i,k,.fields g,d))(o:(g[11]?:Option aa)=U (.ref P)):nX K x=U (adc c P):=by
 unfold nX;rw[a];simp only[l,n,m,o]
def Mu{K:aH}{e:bV}(F:bF K x x e f d)(a:CC K ji x=U (U<|.ref f))(t:nX K x=U (adc c P)):d.code=.ref c:=by
 obtain⟨k,l,m,g,n,o,b,p,h,rfl,i,j⟩:=F.b;unfold nX at t;rw[a] at t;simp only[i] at t;cases b with
 |ref q=>
  simp only at t;split at t
  ·split at t
   ·cases t;rfl
   ·cases t
  ·cases t
 |_=>cases t
def ZG{K:aH}{C h i j k l m:V}{n o p:Bool}(a:nY K (.ref C) "__getattribute__"=U (U<|.builtin "BaseException.__getattribute__"))(b:nY K (.ref C) "__getattr__"=U Z)(q:jK K C kU "ValueError.__new__"=ae)(c:nY K (.ref C) "__class__"=U (U<|.builtin "object.__class__"))(d:HQ K (.builtin "object.__class__") "__get__"=U (U<|.builtin "getset_descriptor.__get__"))(e:HP K (.builtin "object.__class__")=U ae)(f:tS K C (.type "object")=U ae)(g:tS K C (.type "BaseException")=U ae)(r:lq K (.ref C) (.ref h)=U n)(s:lq K (.ref C) (.ref i)=U ao)(t:lq K (.ref C) (.ref j)=U ao)(u:lq K (.ref C) (.ref k)=U o)(v:lq K (.ref C) (.ref l)=U p)(w:lq K (.ref C) (.ref m)=U ao)(x:lq K (.ref C) (.type "ValueError")=U ae):rC K C h i j k l m n o p:=(Tk a b q c d e f g,r,s,t,u,v,w,x)
def Yk{K:aH}{t:V}{b:Option V}{a:Array (Option aa)}{c d e f:ga}{n:Nat}(l:K.lookup t=U (.type "tuple",b,.seq #[.int 2 c,.int 3 d,.int 5 e,.int 7 f] n,a)):∀H,fm K H t [.d 2,.d 3,.d 5,.d 7]:=
 λH=>.inr (_,_,_,l,O,O,by show 4<=bG;rw[jx];decide,.cons (_,O)<|.cons (_,O)<|.cons (_,O)<|.cons (_,O) .nil)
def aav{l:yj}{K:aH}{tp tq tr ts:ga}(X:K.In h)(G:h.Ns ji o)(p9:o "law"=U (.ref fa))(hT:nX K "order_by"=U (adc cO PO))(hY:nX K "youngest_of"=U (adc cY PY))(d1:cU K "is_piece" AY f1)(d2:cU K "parts_of" vg f2)(d3:cU K "rims_of" xz f3)(d4:cU K "order_key" vi f4)(d5:cU K "in_order" xC f5)(d6:cU K "all_parts" xI f6)(d7:cU K "greatest_of" AT f7)(d8:cU K "is_web" Be f8)(d9:cU K "must_be_web" xD f9)(q0:cU K "pieces" AX k8)(q1:cU K "points" Gb k9)(q2:cU K "seam_of" F' l0)(q3:cU K "seam_terms" xy l1)(q4:cU K "sum_of" AW l2)(q5:cU K "is_order" xH l3)(q6:cU K "must_be_order" Bb l4)(q7:cU K "must_be_time" Gd l5)(a0:cU K "order_by" AZ l6)(q8:cU K "are_worths" Bk l7)(q9:cU K "is_above_rims" Bm l8)(r0:cU K "worths_by_points" FZ l9)(r1:cU K "web_at" FY m0)(r2:cU K "must_be_prime" Ba n0)(r3:cU K "bars" Bi n1)(r4:cU K "paper" xB n2)(r5:cU K "times_of" F_ n3)(r6:cU K "worked_off" FX n4)(a1:cU K "youngest_of" FW n5)(r7:cU K "taken_by" AU n6)(r8:cU K "times_into" Bg n7)(r9:cU K "less_by" Bc n8)(s0:cU K "is_paper" Bf n9)(s1:cU K "alive" Bl o0)(s2:cU K "lasting" vh o1)(s3:cU K "bars_by" Bh o2)(s4:cU K "bar_key" Bj o3)(s5:cU K "_law_cell_at" Gh o4)(s6:cU K "_law_box" Gn o5)(s7:cU K "_law_take" AV o6)(s8:cU K "_law_parts" xG o7)(s9:cU K "_law_pieces" Gf o8)(t0:cU K "_law_known" Gg o9)(t1:cU K "_law_named" A_ p0)(t2:cU K "_law_rims" xF p1)(t3:cU K "_law_over" Gc p2)(t4:cU K "_law_order" Bd p3)(t5:cU K "_law_which" AS p4)(t6:cU K "_law_called" Gj p5)(t7:cU K "_law_by_worths" Gl p6)(t8:cU K "_law_met" Ge p7)(a2:cU K "law" eX p8)(gp:fM K "MOST_POINTS" (U<|.int 5 tp))(gq:fM K "LAST_POINT" (U<|.int 99 tq))(gr:fM K "MOST_HANDED" (U<|.int 20 tr))(gs:fM K "MOST_PIECES" (U<|.int 200 ts))(a3:fM K "NoWeb" (U<|.ref q))(t9:fM K "NoPiece" (U<|.ref e1))(u0:fM K "NoPush" (U<|.ref e2))(f:fM K "NoOrder" (U<|.ref e3))(g:fM K "NoNumber" (U<|.ref r))(u1:fM K "NoChain" (U<|.ref e5))(u2:fM K "SeamError" (U<|.ref eS))(a4:fM K "PRIMES" (U<|.ref aP))(hP:∀H,fm K H aP [.d 2,.d 3,.d 5,.d 7])(u3:jK K q kU "ValueError.__new__"=ae)(t:jK K e3 kU "ValueError.__new__"=ae)(u:jK K r kU "ValueError.__new__"=ae)(M0:rC K q q e1 e2 e3 r e5 ae ao ao)(M3:rC K e3 q e1 e2 e3 r e5 ao ae ao)(M4:rC K r q e1 e2 e3 r e5 ao ao ae)(S0:qW K q eS)(S3:qW K e3 eS)(S4:qW K r eS)(z1:fM K "len" Z)(z2:fM K "all" Z)(z3:fM K "zip" Z)(z4:fM K "sorted" Z)(z5:fM K "set" Z)(z6:fM K "list" Z)(z7:fM K "tuple" Z)(z8:fM K "range" Z)(z9:fM K "enumerate" Z)(u4:fM K "int" Z)(u5:fM K "isinstance" Z)(u6:fM K "reversed" Z)(u7:fM K "bool" Z)(u8:fM K "dict" Z)(u9:fM K "max" Z)(v0:fM K "ValueError" Z):∃fd:cr,(∀(s:ai)(v:aa),vU s fd ([v],[]) [(adc ("script") v)])/\∀a:aI,K.In a->a.Ns ji o->oZ o a->CG [(adc cO PO),(adc cY PY)] a->bD l.prog w K o a aX 13 fa fd ["script"] (AE K PO PY):=by
 cases p9.symm.trans (a2.m X G);have B:eC o:=(z1.n X G,z2.n X G,z3.n X G,z4.n X G,z5.n X G,z6.n X G,z7.n X G,z8.n X G,z9.n X G,u4.n X G,u5.n X G,u6.n X G,u7.n X G);obtain⟨g1,F1,b1,m1⟩:=d1.B X G "numbers";obtain⟨g2,F2,b2,m2⟩:=d2.B X G "piece";obtain⟨g3,F3,b3,m3⟩:=d3.B X G "piece";obtain⟨g4,F4,b4,m4⟩:=d4.B X G "piece";obtain⟨g5,F5,b5,m5⟩:=d5.B X G "some";obtain⟨g6,F6,b6,m6⟩:=d6.B X G "some";obtain⟨g7,F7,b7,m7⟩:=d7.B X G "every";obtain⟨g8,F8,b8,m8⟩:=d8.B X G "web";obtain⟨g9,F9,b9,m9⟩:=d9.B X G "web";obtain⟨g10,i,a5,a6⟩:=q0.B X G "web";obtain⟨g11,a7,v1,v2⟩:=q1.B X G "web";obtain⟨g12,a8,v3,v4⟩:=q2.B X G "chain";obtain⟨g13,a9,v5,v6⟩:=q3.F X G "piece" "often";obtain⟨g14,x,b0,c0⟩:=q4.B X G "terms";obtain⟨g15,j,c1,c2⟩:=q5.B X G "order";obtain⟨g16,k,c3,c4⟩:=q6.B X G "order";obtain⟨g17,c5,v7,v8⟩:=q7.F X G "order" "time";obtain⟨g18,b,c6,c7⟩:=a0.F X G "web" "worths";obtain⟨g19,c8,v9,w0⟩:=q8.F X G "every" "worths";obtain⟨g20,c9,w1,w2⟩:=q9.F X G "piece" "worths";obtain⟨g21,d0,w3,w4⟩:=r0.F X G "web" "ages";obtain⟨g22,e6,w5,w6⟩:=r1.F X G "order" "time";obtain⟨g23,m,e7,e8⟩:=r2.B X G "prime";obtain⟨g24,c,y,z⟩:=r3.F X G "order" "prime";obtain⟨g25,d,A,C⟩:=r4.F X G "order" "prime";obtain⟨g26,e9,w7,w8⟩:=r5.B X G "order";obtain⟨g27,f0,w9,x0⟩:=r6.J X G "piece" "rows" "times" "prime";obtain⟨g28,D,x1,x2⟩:=a1.F X G "chain" "times";obtain⟨g29,g0,x3,x4⟩:=r7.F X G "chain" "prime";obtain⟨g30,h0,x5,x6⟩:=r8.N X G "weight" "goal" "prime";obtain⟨g31,h1,x7,x8⟩:=r9.J X G "chain" "often" "other" "prime";obtain⟨g32,E,x9,y0⟩:=s0.N X G "order" "prime" "paper";obtain⟨g33,I,y1,y2⟩:=s1.J X G "order" "prime" "high" "time";obtain⟨g34,e,L,M⟩:=s2.W X G "order" "prime" "high" "early" "late";obtain⟨g35,Q,y3,y4⟩:=s3.N X G "web" "worths" "prime";obtain⟨g36,h2,y5,y6⟩:=s4.B X G "bar";obtain⟨g37,h3,y7,y8⟩:=s5.F X G "script" "k";obtain⟨g38,h4,y9,z0⟩:=s6.B X G "cell";obtain⟨g39,R,h5,h6⟩:=s7.F X G "box" "most";obtain⟨g40,F40,b40,m40⟩:=s8.B X G "piece";obtain⟨g41,h7,b41,m41⟩:=s9.B X G "web";obtain⟨g42,h8,b42,m42⟩:=t0.B X G "number";obtain⟨g43,h9,b43,m43⟩:=t1.F X G "box" "web";obtain⟨g44,S,i0,i1⟩:=t2.B X G "piece";obtain⟨g45,i2,b45,m45⟩:=t3.B X G "known";obtain⟨g46,i3,b46,m46⟩:=t4.F X G "box" "known";obtain⟨g47,i4,b47,m47⟩:=t5.B X G "e";obtain⟨g48,i5,b48,m48⟩:=t6.J X G "way" "order" "prime" "time";obtain⟨g49,i6,b49,m49⟩:=t7.J X G "way" "web" "worths" "prime";obtain⟨g50,i7,b50,m50⟩:=t8.W X G "way" "order" "worths" "prime" "time";obtain⟨⟨gL,FL⟩,_⟩:=a2;have hoc:=Mu b a0.a hT;have hoy:=Mu D a1.a hY;refine(gL,?_,λa _ _ i8 i9=>?_)
 ·obtain⟨_,_,_,_,_,_,_,_,_,rfl,_,_⟩:=FL.b;exact λs v=>.of_eq O
 have j0:=Oc (P:=l.prog) (w:=w) (base:=a) F6 B F2 b2 m2 F5 b5 m5 F4 b4 m4;have p:=Zj (P:=l.prog) (w:=w) (base:=a) F8 B (gp.m X G) (gq.m X G) (gr.m X G) (gs.m X G) F1 b1 m1 F6 b6 m6 F2 b2 m2 F5 b5 m5 F4 b4 m4;have Gm:=Y_ F9 F8 b8 m8 p;have j1:=YM i F9 b9 m9 Gm F6 b6 m6 j0;have j2:=dt i a5 a6 j1;have CmB:=dt F9 b9 m9<|YZ F9 (a3.m X G) u3<|dt F8 b8 m8 p;have j3:=uT i a5 a6 j1<|YL i CmB;have Cpt:=dt a7 v1 v2<|YK a7 B j2;have Cwb:=dt d0 w3 w4<|YD d0 B (f.m X G) t j3 Cpt;have Ci:=dt F1 b1 m1<|N_ (P:=l.prog) (w:=w) (base:=a) F1 B (gp.m X G)<|gq.m X G;have Cr:=dt F3 b3 m3<|NZ (P:=l.prog) (w:=w) (base:=a) F3 B;have Clr:=dt S i0 i1<|Ob (P:=l.prog) (w:=w) (base:=a) S B;have Cab:=dt c9 w1 w2<|ZC c9 B Cr;have j4:=dt c8 v9 w0<|Zz c8 B Cab;have j5:=YS b B hoc i9.1 i8 j2 j4;have Cob:=dt b c6 c7 j5;have j6:=uT b c6 c7 j5<|YR b B (f.m X G) t j3 j4;have Gs:=YI (mg:=o) (P:=l.prog) (w:=w) (base:=a) x;have Cs:=dt x b0 c0 Gs;have Gt:=YH (P:=l.prog) (w:=w) (base:=a) a9 B F3 b3 m3;have Cm:=dt a8 v3 v4<|YJ a8 a9 v5 v6 Gt x b0 c0 Gs;have j7:=Zn j B (gs.m X G) Ci Cr;have j8:=dt j c1 c2 j7;have Cil:=dt j c1 c2<|j7.B<|Zm j B<|gs.m X G;have Co:=dt k c3 c4<|YY k j8;have n:=dt k c3 c4<|YX k (f.m X G) t j8;have Cp:=dt m e7 e8<|YW (P:=l.prog) (w:=w) (base:=a) m (a4.m X G) hP;have T:=dt m e7 e8<|YV (P:=l.prog) (w:=w) (base:=a) m (a4.m X G) hP (g.m X G) u;have Cto:=dt e9 w7 w8<|YG (P:=l.prog) (w:=w) (base:=a) e9 B;have Cy:=dt D x1 x2<|Yz (P:=l.prog) (w:=w) (base:=a) D B (u9.n X G) hoy i9.2.1 i8;have j9:=dt g0 x3 x4<|YF (Pt:=PY) g0 Cs;have Cin:=dt h0 x5 x6<|Zo (P:=l.prog) (w:=w) (base:=a) h0 B;have Cle:=dt h1 x7 x8<|Zd h1 B Cs j9;have Cwo:=dt f0 w9 x0<|YA f0 B Cm j9 Cy Cin Cle;have k0:=YP d B Co Cp Cto Cwo Cy;have Cpa:=dt d A C k0;have k1:=YO n T d;have k2:=Zy c Cpa;have k3:=dt c y z k2;have k4:=Zx c<|dt d A C k1;have Cbb:=uT Q y3 y4 (Zw Q B Cob k3 h2 y5 y6<|Zu h2)<|Zv (PY:=PY) Q j6<|dt c y z k4;have k5:=dt c5 v7 v8<|YU (P:=l.prog) (w:=w) (base:=a) c5 B (g.m X G) u;have k6:=Zg e B (g.m X G) u Co Cp k5 k3;have k7:=Zf n T e;have Gal:=ZB I<|dt e L M k6;have GaR:=ZA I<|dt e L M k7;have Cga:=dt F7 b7 m7<|YE F7 Cr<|dt F5 b5 m5<|Oa F5 B F4 b4 m4;have Cwa:=dt e6 w5 w6<|YC e6 n k5 Cga;have Cca:=dt i5 b48 m48<|Zr i5 (uT c y z k2 k4) (uT d A C k0 k1) (uT E x9 y0 (Zl E B Co Cp)<|Zk n T E) (dt I y1 y2<|Gal.B GaR) (dt e L M<|k6.B k7) Cwa;have Cbw:=dt i6 b49 m49<|Zs i6 Cbb j6 Cwb;have Gwh:=YB (P:=l.prog) (w:=w) (base:=a) i4 B.j (v0.n X G) (a3.m X G) (t9.m X G) (u0.m X G) (f.m X G) (g.m X G) (u1.m X G) M0 M3 M4;have Cme:=dt i7 b50 m50<|Y' i7 (u2.m X G) S0 S3 S4 Cca Cbw i4 b47 m47 Gwh;have Ct:=dt R h5 h6<|NY (P:=l.prog) (w:=w) (base:=a) R;have Clo:=dt i3 b46 m46<|Zc i3 B Ct Clr;exact Ze FL B (u8.n X G) (dt h3 y7 y8<|Zq h3 B) (dt h4 y9 z0<|Zt h4) Ct (dt h8 b42 m42<|Zh h8 B) (dt h9 b43 m43<|YT h9 B R h5 h6) (dt h7 b41 m41<|Za h7 B F40 b40 m40) Clo (dt i2 b45 m45<|YQ i2 B S i0 i1) Cme Cil
def WR{l:yj}{c:List al}{L:(al->Option aa)->aI->Prop}{D:aO->aI->Prop}{d:DefRec}{K:Ih->aH}{r g t i:V}(M:l.most=U 63)(v:d.params.defaults=[])(P:∀(w:aO)(h:aI),D w h->(K w.params).In h)(y:∀p,Qv (K p)=ae)(Q:∀p,nX (K p) "order_by"=U (adc r g))(A:∀p,nX (K p) "youngest_of"=U (adc t i))(C:g≠i)(m:((Rf q).find? (λe=>e.name==("order_by":al))).isSome=ae)(j:((Rf q).find? (λe=>e.name==("youngest_of":al))).isSome=ae)(F:∀(w:aO)(o:al->Option aa)(E:V)(h:aI),(K w.params).In h->h.Ns ji o->o d.name=U (.ref E)->
   ∃G:cr,(∀(s:ai)(u:aa),vU s G ([u],[]) [(adc ("script") u)])/\∀b:aI,(K w.params).In b->b.Ns ji o->oZ o b->CG [(adc r g),(adc t i)] b->bD l.prog w (K w.params) o b aX 13 E G ["script"] (AE (K w.params) g i)):
  QA q c L D l.row.toRowW d [] (λf R=>gv f R):=
 Tq (n:=63) (k:=13) (x:="script") (CX:=aX) (sp:=λw=>AE (K w.params) g i) (tabs:=[(adc r g),(adc t i)]) (xs:=["order_by","youngest_of"]) M ξ v (O,ξ,ξ) P y (λp=>by show [nX (K p) "order_by",nX (K p) "youngest_of"]=[U (adc r g),U (adc t i)];rw[Q p,A p]) (λx S=>by
  rcases ci.mp S with h|h
  ·rw[h];exact m
  ·rw[fu.mp h];exact j) F
  (λw H a T X A I=>(a,T,O,A,X,I _ dC,I _<|d_ _ dC,C,λ_=>O)) λ_ _ _ _ z=>z
end
structure PySem.W.Fast:Prop where
 (tw10001208363420109897 tw10018399149423855836 tw10045120939540371632 tw10176323280813949799 tw10209648048524138066 tw10210270480805166799 tw10329732442743657454 tw10333431372173422236 tw10421824929015564938 tw10433671914328851942 tw10437546053322204547 tw10448391518150366176 tw10458680254654645635 tw10520313929746896046 tw10560290633954626269 tw10624457860420702961 tw10793617591427146673 tw10845228740170665828 tw10848211574555057103 tw10869147410229942026 tw108775934081305118 tw10943266104893130789 tw11035653665425950079 tw11206834530063544916 tw11222381581327792032 tw11330047189640506894 tw11371656713107280688 tw11383525104850240284 tw11400350376277650474 tw11427417966732617318 tw11565570839357619889 tw11578406933510833841 tw11591630471571763592 tw11600488887204439711 tw11621816466639638335 tw11622640283611556032 tw11685191819586514174 tw11818528674775954740 tw11862627943542820698 tw11932435733826370674 tw11937607827680693709 tw11942482111087760833 tw11962194852339944789 tw11971217774292473946 tw1197709466563791098 tw12001409868054945797 tw12012725910669139809 tw12071262189637833050 tw12071414986658730899 tw1216919737470065650 tw123176529127425987 tw12351908576062629036 tw12358688738477459051 tw12409536947726091305 tw12477946045369103223 tw12552962672586979430 tw12581052115659882211 tw12674606329257379362 tw12757217143354963439 tw12758460075979365677 tw1281220525486839189 tw1285607653081425379 tw12897409236630038544 tw12917162542982300797 tw12947928133994327359 tw12958211427635962098 tw13024273473136070182 tw13043914779007881297 tw13081736433474165 tw13183728514814118338 tw13192243260630787739 tw13210681496444188559 tw13212336328657551819 tw13281457082561097283 tw13282483760671020387 tw13325426786878277219 tw13406466559071908276 tw13413478432010913781 tw1350742175298300499 tw1350865977114491064 tw13526344356259455357 tw13604591509767542738 tw1361121567373741926 tw13620448178950546709 tw13793099658961389648 tw13805339825267511050 tw13852779927737772216 tw13861385135890335670 tw13943905932900173548 tw13950940563419741051 tw13972341602033912100 tw13984300188235977455 tw13995483701907523335 tw14006910530121879966 tw14010203206295314227 tw14023057615525550252 tw1404405025057979278 tw14049238458426296565 tw14052265195196129068 tw14124701541501608386 tw14239433482326193817 tw14255686082211042126 tw14331283866685276367 tw14351237769608754082 tw1440978352814058223 tw14415387504173657630 tw14419762968504137204 tw1443365189153866577 tw14462211203609246915 tw1452221325817053235 tw14539250746297729998 tw14553031877380450467 tw14589942279831979770 tw14638832561293508485 tw1465433514111243217 tw14684251018166177122 tw14714516067216172757 tw14832070160002351947 tw14874700814789533794 tw14954157703965799465 tw1505501171027461203 tw1508656952841935530 tw1514724999434412530 tw15160034054169131867 tw15171012554500817063 tw15177857623609495338 tw15284695499769637343 tw15287282885378265872 tw15319206409463749339 tw15327441626989740423 tw15363566617746928175 tw15397665376575889633 tw15426534073614304104 tw15498047788162359160 tw15498586404652097121 tw15498902373937927362 tw15505394969503530275 tw15509035814875165995 tw15545870317020367518 tw15551836319342259196 tw15574238796772717187 tw15594761387671883484 tw15649231636403501675 tw15686409753538856662 tw15729517245879006062 tw15777652758421401487 tw15790553473592125664 tw15946407256958384152 tw16016950489392747345 tw16017264747449861425 tw16021064171591735483 tw16048817798348794354 tw16057032535308779157 tw16074614308538374755 tw16079228218334094002 tw16122976702261955909 tw16255303700835438445 tw16257940457992125351 tw16290047448895927294 tw16349231121048869746 tw16369822588938228019 tw16466634872004521447 tw16491386174744426487 tw1657931782895089758 tw16585336183944262782 tw16605950848263701308 tw16648086972360597338 tw16708800988082007252 tw16709982770175361450 tw16746603552962984531 tw16810541264968668358 tw16844348516606248957 tw1685454149794649877 tw16860158903699498047 tw16956145151321031691 tw1700180190126201935 tw17126360880009775862 tw17274053903538421307 tw17285841099687387930 tw17303476985697614443 tw17359879012521517133 tw17370013374568637464 tw17371592984470838506 tw17393460771351204881 tw17491260041458927055 tw17516572489270620720 tw17604458104365143913 tw17625529307822235493 tw17638585563565996488 tw17739786884532857924 tw17766169575426757851 tw1786529224095344652 tw17950643089738718165 tw17989101286094699197 tw1800935527735482175 tw18034176403220739120 tw18048526047925436172 tw18052291551857891596 tw18059264427560503360 tw18069644204599322482 tw18086451961042973924 tw18125489940740950748 tw18162365479043523069 tw18164896831003842154 tw18211487202312248067 tw18305427836474780065 tw18401480228566930889 tw188169936042679783 tw1882051928128680073 tw1920160450752831866 tw1989069318311985207 tw2011434165825450035 tw2060305058283017385 tw2074943153081204790 tw21120965413435946 tw213502714950695806 tw2141311265321730767 tw2157928293949856243 tw2200049241697747494 tw2235633547405826772 tw2263835728473781404 tw2265939328328216323 tw2272526537618463801 tw2401072820394595293 tw2436686156436077378 tw2443187825090095305 tw2445712541144475202 tw2496817107240947786 tw2564448272596053857 tw2576839952282520934 tw2737376928550754525 tw2807109117567266185 tw2834053801033759575 tw2873758930883971794 tw2885371849890615586 tw2958115622601402051 tw2969596884521924805 tw2971591849520209530 tw2976307545591732171 tw2981921543002211449 tw2987374613732279636 tw3014156632055973240 tw3089595637682058029 tw3127602936138091482 tw3136073161894363401 tw3202874019634399493 tw3224522021346351347 tw3226302996087283422 tw3243309489692798484 tw3284587910855506522 tw3340787683355230293 tw3379129252627768161 tw3446618423189184728 tw3475289726533064854 tw3530860985282859769 tw3561357693613645376 tw3594401055027182821 tw3749687309014223898 tw3804332866334908633 tw3815356969859598472 tw3840354014361264597 tw384902127679018267 tw3853036068082456304 tw3877212867744291367 tw390161945610776416 tw3919642717825798136 tw3951025790937667868 tw3963876738627404482 tw3971770862173104979 tw3982724429049539183 tw4077275569349049628 tw409385222717132110 tw4104549985098988727 tw4126463148022047014 tw416660202720708846 tw4175454138683239212 tw4303069263161620140 tw4355946285657465908 tw4357913263084959956 tw4369547933776321509 tw4392886740291209186 tw4461671834737985841 tw4498232696145778606 tw452506640861562413 tw4668111860589772784 tw4669379679908267055 tw4685685456935091142 tw4706591153803119816 tw4762125905621624475 tw4844690913588395664 tw4855096379816952418 tw4900939431146168576 tw4916368367098327222 tw501300685312906891 tw5142092856800988607 tw5163827520231065202 tw5195933706828883632 tw5246258537668986018 tw5297229319877824206 tw5326445840511812951 tw5368187132321953938 tw5384027576857904831 tw5425791342458578092 tw5712126536397981486 tw5723588513638019718 tw5760314768636278327 tw5821481542292532931 tw5834234181009325200 tw5882724156183236734 tw593667670396261091 tw5972811457036410011 tw5986014188831424142 tw601944554828757048 tw6041098740617090199 tw6063807208892794737 tw6131720828578893107 tw6152051159556795771 tw62893901610665862 tw6334825389738605731 tw6368570492209382864 tw6413288454929877101 tw6514484160230654805 tw652816394924458691 tw6597230325300227316 tw6637825586337267621 tw664785199059502508 tw6649043190450004207 tw6658673130241605161 tw6717840289589897955 tw6737686875188037633 tw6796667009375033355 tw6837211542654434493 tw6925068903997977419 tw6932123357829151962 tw6995789108103445061 tw7028907382426575460 tw7029132483440475188 tw7039853850272515069 tw7105876091594824963 tw7158230892931440741 tw7168275877831548686 tw7172412253605713220 tw7183861251879178681 tw7218193303438891165 tw7241179126535172032 tw7255455817549273699 tw7263517013204128117 tw7314430045598846578 tw7381952501035738882 tw740885013287205280 tw7523149534490200783 tw760913635661318572 tw7617406475657298553 tw7630338331908566279 tw7639895260648209682 tw7659617404810703578 tw7962638806988798227 tw7984937711015651280 tw8017105915605801422 tw8036158842839587533 tw8039325014054502849 tw8048684939385713809 tw8077316160654416682 tw8086805279869845085 tw8095509692719581040 tw8097418629273437768 tw8141783802770901331 tw8260160341371425659 tw8337613543534484156 tw8455920402600328533 tw8517204474073158897 tw8532523770750324648 tw8555206946139649589 tw8595577419949769401 tw8642022553870798651 tw8688658502654801635 tw8939956952477365140 tw9041570321916049981 tw9117848120438407262 tw9166247617530585167 tw9207929089029879080 tw9259570681907495726 tw9295680094089049621 tw932011386629321934 tw9363300366746663829 tw9384548895829349115 tw9445601971925147166 tw9474931217115254042 tw9485203396880590324 tw9508623186675947323 tw9528879738470681638 tw954148685842015493 tw9604057527829099415 tw9623064379409476218 tw9676702543081557825 tw9738432735528767909 tw9799847039057667131 tw9821703720485975506 tw9822662609234764270 tw9877484662709631126 tw990564913600825732:True)
set_option maxRecDepth 100000 in
set_option maxHeartbeats 0 in
theorem PySem.Challenge.cw_seamwright_k69_growing_refused_everywher_holds : PySem.Challenge.rw_seamwright_k69_growing_refused_everywher.Holds := by
 w_on; o_law; k_head; (case hw=>w_witness2)
 k_fill
 refine' WR (l:=PySem.Challenge.rw_seamwright_k69_growing_refused_everywher) O O (fun w h Y=>PySem.W.km_in_of Y) (fun _=>by kernel_rfl) ?T ?S ?Dif ?R ?U ?F
 case T=>
  intro p;refine' Ed ?a ?l ?c ?m ?v
  (case a=>k_is)
  (case l=>k_is)
  (case c=>rfl)
  (case m=>k_is)
  (case v=>rfl)
 case S=>
  intro p;refine' Ed ?a ?l ?c ?m ?v
  (case a=>k_is)
  (case l=>k_is)
  (case c=>rfl)
  (case m=>k_is)
  (case v=>rfl)
 case Dif=>decide
 case R=>decide +kernel
 case U=>decide +kernel
 case F=>
  intro w mg fa h KX G hmg;refine' aav KX G hmg ?_ ?_ ?_ ?_ ?_ ?_ ?_ ?_ ?_ ?_ ?_ ?_ ?_ ?_ ?_ ?_ ?_ ?_ ?_ ?_ ?_ ?_ ?_ ?_ ?_ ?_ ?_ ?_ ?_ ?_ ?_ ?_ ?_ ?_ ?_ ?_ ?_ ?_ ?_ ?_ ?_ ?_ ?_ ?_ ?_ ?_ ?_ ?_ ?_ ?_ ?_ ?_ ?_ ?_ ?_ ?_ ?_ ?_ ?_ ?_ ?_ ?_ ?_ ?_ ?_ ?_ ?_ ?_ ?_ ?_ ?_ ?_ ?_ ?_ ?_ ?_ ?_ ?_ ?_ ?_ ?_ ?_ ?_ ?_ ?_ ?_ ?_ ?_ ?_ ?_ ?_
  all_goals try first | (refine' Ed ?a ?l ?c ?m ?v; (case a=>k_is); (case l=>k_is); (case c=>rfl); (case m=>k_is); (case v=>rfl)) | refine' VZ ?_ ?_ ?_ ?_ | refine' fM.mk ?_ | refine' Yk ?_ | refine' ZG ?_ ?_ ?_ ?_ ?_ ?_ ?_ ?_ ?_ ?_ ?_ ?_ ?_ ?_ ?_ | refine' Ua ?_ ?_ ?_
  all_goals try first | k_is | kit_is | k_exc
#print axioms PySem.Challenge.cw_seamwright_k69_growing_refused_everywher_holds
