import PyProof.Rows.All
import Wide.All
import OpenK.AllK
import Wide.FinOn
import Lean
import PyProof.EqAt
import PyProof.EqKinds
import PyProof.TupleCall
import PyProof.Rows.SortRuns
import KE.KSortKey
import KE.KListMore
import KE.KIntText
import KE.KEqDat
import PyProof.Rows.CallKwBuiltin
import PySem.SetTable
import PyProof.Rows.SetFrom
import PyProof.TupleKey
import PyProof.IsRules
import KE.KRevIter
import PyProof.ListRange
import PyProof.TupleOfGen
import PyProof.CollectIter
import PySem.Challenge.RW_seamwright_k49_whole_thin_webs_have_the
import KE.KDictLaws
import PyProof.DictWalks
import PyProof.DictItems
import PyProof.MinMaxWalk
import PyProof.SumAny
import PyProof.SetNew
import PyProof.DictCopy
import PyProof.FactsAll.dict_1
import PyProof.FactsAll.set_2
import PyProof.FactsAll.subtypes_5
import PyProof.AttrMissHeap
import PyProof.StationsW
import PyProof.ExcClass3
import OpenK.KOwn
import PyProof.ExcArgsOwn
import KE.KLam
import KE.KMinKey
import PyProof.DictFindH
import PyProof.NeKinds
import PyProof.DictTruth
set_option linter.all false
set_option compiler.extract_closed false
set_option bootstrap.genMatcherCode false
set_option autoImplicit true
set_option Elab.async false
set_option maxRecDepth 100000
set_option maxHeartbeats 4000000
open Array renaming toList->cm,size->eK,length_toList->gR,push->iT,reverse->jn,getElem?_toList->jB,extract->jL,map->mL,size_map->nL,toList_append->oK,size_extract->qU,setIfInBounds->uv,getElem?_eq_some_iff->uw,getElem?_map->wm,toList_push->zl,eraseIdxIfInBounds->CY,toList_reverse->IX,toList_extract->IY,getElem?_eq_getElem->IZ,getD_eq_getD_getElem?->I_,size_push->Re,perm_iff_toList_perm->Rf,getElem?_eq_none->Rg,toList_map->afg,size_setIfInBounds->afh,replicate->afi,getElem?_setIfInBounds_self_of_lt->afj,getElem?_setIfInBounds_ne->afk,getElem?_extract->afl,getElem?_append_left->afm,getD->afn,forIn_toList->afo,ext_getElem?->afp
open Bool renaming true->af,false->aB,false_eq_true->dD,false_ne_true->dT,and_eq_true->kW,not_true->nK,eq_iff_iff->uu,and_false->zk,or_eq_true->Q_,not_false->Ra,not_eq_true'->Rb,false_and->Rc,and_self->Rd,and_true->aff
open Classical renaming byContradiction->kU,not_imp->QY,not_forall->QZ
open Decidable renaming decide->aC
open Eq renaming trans->db,symm->df
open Exists renaming choose_spec->IW
open False renaming elim->iC
open ForIn renaming forIn->lO
open ForInStep renaming done->dS,yield->hX
open Function renaming comp->ut
open Iff renaming mpr->kl
open Int renaming dvd_zero->fw,toNat->fH,dvd_trans->jX,dvd_sub->mJ,dvd_add->mK,zero_mul->nG,le_trans->nH,le_refl->nI,le_of_lt->nJ,emod_nonneg->qR,emod_lt_of_pos->qS,dvd_mul_right->qT,toNat_natCast->su,sub_zero->uo,natAbs->uq,dvd_mul_left->ur,sub_self->wj,mul_zero->wl,zero_add->zi,dvd_neg->zj,mul_one->CV,mul_add->CW,not_lt->IR,mul_sub->IS,mul_emod->IT,mul_assoc->IU,dvd_of_emod_eq_zero->IV,one_mul->QS,le_of_dvd->QT,eq_ofNat_of_zero_le->QU,emod_eq_zero_of_dvd->QV,add_zero->QW,add_mul->QX,sub_mul->ae8,sub_add_cancel->ae9,neg_mul->afa,mul_le_mul_of_nonneg_left->afb,emod_eq_of_lt->afc,emod_emod->afd,emod_add_mul_ediv->afe
open LawfulBEq renaming eq_of_beq->QR
open List renaming map->am,length->ao,length_map->ax,mem_map->aP,Nodup->bD,map_append->bT,mem_cons->bZ,map_map->cj,length_append->ck,getElem?_eq_some_iff->cr,mem_append->cy,getElem?_map->cB,map_cons->cI,mem_singleton->cJ,length_cons->cO,size_toArray->cT,take->cU,range->cV,mem_of_getElem?->dp,getElem?_eq_getElem->dq,toArray->dG,mem_cons_self->dQ,length_take->dR,filter->eO,mem_cons_of_mem->eV,take_of_length_le->e_,sum->fc,mem_filter->fA,mem_append_left->fR,append_assoc->gd,mem_append_right->gh,mem_range->gB,flatMap->hV,nodup_append->iS,append_nil->jm,sum_cons->jz,nodup_cons->jA,pairwise_map->jK,Perm->jW,mem_flatMap->ki,map_congr_left->kj,pairwise_append->kQ,length_singleton->kR,filter_append->kT,any->lN,mem_iff_getElem?->mD,length_range->mE,length_nil->mF,length_drop->mG,drop_eq_getElem_cons->mH,all->mI,lookup_cons->nD,eq_nil_of_length_eq_zero->nE,drop->nF,mem_iff_getElem->oJ,take_append_drop->pH,not_mem_nil->pI,length_filter_le->pJ,headD->pK,getElem_mem->pL,filter_cons_of_pos->pM,filter_cons_of_neg->pN,all_eq_true->pO,pairwise_cons->qK,nodup_nil->qL,getElem?_range->qM,getElem?_append_right->qN,foldl_cons->qO,foldl_append->qP,find?_cons->qQ,take_zero->sf,lookup->sh,getElem?_eq_none->si,getElem?_append_left->sj,foldl->sn,flatMap_cons->so,pairwise_iff_getElem->uj,mem_of_mem_take->uk,getD_eq_getElem?_getD->ul,filter_sublist->um,range_succ->wf,any_eq_true->wg,take_add_one->yX,tail->yY,sum_append->yZ,nodup_range->y_,nodup_iff_pairwise_ne->zd,length_zip->ze,filter_nil->zf,Pairwise->zh,of_mem_zip->CH,map_nil->CI,map_inj_right->CJ,map_eq_nil_iff->CK,length_pos_iff->CL,flatMap_append->CM,filter_cons->CN,ext_getElem?->CO,contains->CP,zipWith->Io,reverse_cons->Ip,reverse_append->Iq,perm_ext_iff_of_nodup->Ir,mem_reverse->It,mem_of_find?_eq_some->Iu,map_id'->Iv,map_fst_zip->Iw,map_drop->Ix,isEmpty->Iy,getLastD->Iz,getElem?_take_of_lt->IA,getElem?_of_mem->IB,getElem?_cons_succ->IC,forIn_cons->ID,find?_eq_none->IE,filterMap_cons->IF,extract_eq_drop_take->IG,any_eq_false->IH,any_cons->II,Sublist->IK,zip_cons_cons->Qx,perm_append_comm->Qy,nil_sublist->Qz,mem_filterMap->QA,map_take->QB,length_reverse->QC,getElem?_zipIdx->QD,getElem?_toArray->QE,forIn_nil->QF,find?_some->QG,filterMap->QH,eq_nil_or_concat->QI,drop_of_length_le->QJ,drop_eq_nil_of_le->QK,concat_eq_append->QL,any_map->QM,zipIdx_nil->ad9,zipIdx_cons->aea,take_sublist->aeb,sublist_nil->aec,sublist_map_iff->aed,sublist_append_left->aee,reverse_reverse->aef,range'->aeg,perm_middle->aeh,perm_append_singleton->aei,pairwise_singleton->aej,pairwise_lt_range->aek,mem_of_mem_erase->ael,map_snd_zip->aem,length_zipWith->aen,length_zipIdx->aeo,length_take_le'->aep,length_dropLast->aeq,getLastD_eq_getLast?->aer,getElem_take->aes,getElem?_set_self->aet,getElem?_set_ne->aeu,getElem?_inj->aev,getElem?_eq_none_iff->aew,getElem?_drop->aex,filterMap_cons_some->aey,filterMap_cons_none->aez,drop_zero->ae0,drop_length->ae1,drop_drop->ae2,dropLast_concat_getLast->ae3,countP_cons->ae4,cons_ne_nil->ae5
open List.Mem renaming head->eS,tail->fS
open List.Nodup renaming length_le_of_subset->CU
open List.Pairwise renaming nil->IP,imp_of_mem->IQ,of_map->QQ,filterMap->ahk,and_mem->ahl
open List.Perm renaming length_eq->zg,trans->CR,nodup_iff->CS,append_right->CT,mem_iff->IL,cons->IM,append_left->IN,nil->QP
open List.Sublist renaming refl->CQ,map->IJ,slnil->QN,cons_cons->QO,append->ae7
open List.cons renaming injEq->ae6
open List.range renaming loop->CG
open Min renaming min->gc
open MonadExcept renaming tryCatch->Im
open Nat renaming le_refl->aW,le_trans->dg,ne_of_lt->dz,zero_le->eM,lt_of_lt_of_le->iB,ne_of_gt->lL,lt_succ_of_lt->lM,lt_or_ge->nC,lt_irrefl->oH,le_succ->oI,lt_succ_iff->qJ,zero_add->ui,sub_self->yT,le_of_lt->yU,le_add_right->yV,add_zero->yW,pow_succ->CD,lt_trans->CE,add_sub_cancel->CF,succ_pos->HY,pow_le_pow_right->HZ,not_lt_zero->H_,mod_lt->Ia,min_le_right->Ib,min_eq_left->Ie,lt_trichotomy->If,lt_or_eq_of_le->Ig,lt_of_le_of_lt->Ih,le_succ_of_le->Ii,le_of_eq->Il,sub_zero->Qr,mul_comm->Qs,lt_succ_self->Qt,le_of_succ_le->Qu,eq_zero_or_pos->Qv,add_assoc->Qw,succ_le_succ->ad5,min_le_left->ad6,lt_or_gt_of_ne->ad7,le_of_not_lt->ad8
open Ne renaming symm->eA
open Option renaming some->V,none->Z,getD->fG,map->iR,map_some->nB,isSome->oG,getD_some->qI,map_eq_some_iff->r_,isNone->uh,isSome_iff_exists->HX,isSome_map->Qq,getD_none->ad4
open Option.some renaming inj->cH,injEq->rZ
open Or renaming inl->ah,inr->ar,elim->rY,resolve_left->HW
open Prod renaming snd->nA,fst->rX,mk->abd
open Pure renaming pure->aU
open PyProof.Rows renaming Keyed->av,arrOf->aL,SortSt->aY,wpS_bind->bK,wpS_pure->ce,seqObj->cF,pendingOf->dw,wpS->dN,IntsAre->gg,wpS_mono->iP,elem'->iQ,wpS_forRange->kN,SortKind->kO,IsTup->kP,wpS_get->nw,failedOf->ny,mirror->oE,envOfC->oF,AllBare->rW,wpS_modify->ug,wpS_lift->wc,slot_tuple_getitem->wd,get?_update_seq->we,setArr->yP,listUpdate_at->yQ,callWith_type1->yR,size_push'->Cv,reverseSlice'->Cx,ltAt'->Cy,kindOf->Cz,bubble->CA,Call_->CC,subscriptTail->HN,sortRuns'->HO,seqEpoch_at->HP,ne_dataH_same->HQ,mirror_perm->HS,keyLt'->HU,Subscript_->HV,listItems_at->Qn,subscriptTail_builtinR->adq,lt_int->adv,getElem?_mirror_all->adw,getElem?_bubble->adx,entry_tuple_getitem->adz,entry_list_sort->ad0,args_tuple_getitem->ad1,callWith_builtin1->ahj
open PyProof.Rows.F renaming plain_set_update_loop->Qp,entry_set_update_loop->ad2
open PyProof.Rows.IsTup renaming new->Qo
open PyProof.Rows.LSm renaming kept_iter->CB
open PyProof.Rows.SortSt renaming mk'->yS
open PySem renaming Addr->Y,Value->aa,wpAny_bind->aj,Shared->ak,Str->au,wpAny->aA,model->aH,wpAny_pure->aI,Heap->aT,World->aX,Program->bw,Obj->bA,Expr->bB,sizeLine->bQ,Around->bY,Pos->cD,Stmt->cN,FuncData->cS,cLine->c_,tupleKeyHash->di,Paired->du,eval->dC,Sem->dP,starEach->fh,IsTupleKey->ga,Env->gb,bootBuiltins->hC,Scope->hG,wpAny_holding->il,sliceBounds->im,rawInt->iy,compareOp->iz,Tok->iM,cellsFrom->jb,wpAny_field->jv,sysModules->jw,IsPair->jx,call->jJ,wpAny_seqItems->jU,tupleKind->jV,pyNext->kd,wpAny_mono->kL,sizeLine_eq->kM,wpAny_rule->lv,wpAny_call_entry->lC,mainGlobals->lD,codeAny_builtin->lE,codeAny->lF,IsZip->lH,wpAny_letGo->mw,SetTable->mx,NameKind->mB,wpAny_setField_rec->nj,wpAny_newObj_type->no,wpAny_dictEntries->np,plainId_quiet->nq,backTo->nr,DictEntry->oD,wpAny_of_eq->pA,wpAny_callSpecial?_slot->pB,pyIter->pC,mem_of_lookup->pD,getItem->pE,binaryOp->pF,wpAny_tryCatch->qB,wpAny_truthy_bool->qC,intKind->qD,field->qE,argBest->qF,IsPart->qG,setField->rM,foldedSetIterable->rN,call_meets->rO,atKey->rP,KeyKind->rS,wpAny_pyIter_list->tL,wpAny_dictEpoch->tM,wpAny_attempt->tN,hashByValue->tO,codeAny_mono->tP,bindL->tQ,bindC->tR,behindInMarks->tS,CmpOp->uf,wpAny_passesOwn->vN,valueAt->vO,swapsWith->vP,callerA->vQ,assign->vR,Walks->vS,Keyword->vV,Draws->vZ,wpAny_updateSeq->ym,wpAny_typeOf->yn,wpAny_setState_of->yo,wpAny_forIn_list->yp,tupleKind_room_in1->yq,sliceRange->yr,rule->yt,newExc->yu,holding->yv,assignEach->yw,Model->yH,BindsTo->yO,wpAny_setField->BF,wpAny_newList->BG,wpAny_Call_Name_kw->BH,wants->BI,subscripted->BJ,storedH->BK,setRelay->BL,seqItems?->BM,richCompare->BN,pushCells->BO,letOwnedTupleGo->BP,compEnvC->BQ,attributeBase->BR,Result->Ca,ItemsAre->Ce,Fin->Cj,wpAny_typeNameOfWhole_keyiter->GW,wpAny_typeNameOfWhole_itemiter->GX,wpAny_onRaise->GY,wpAny_notOrdered_dict->GZ,wpAny_newTuple->G_,wpAny_isSame_ref_self->G',wpAny_isInstance->Ha,wpAny_fieldsOf->Hb,wpAny_execs_nil->Hc,wpAny_eqBool_tuple->Hd,wpAny_call->He,updateSeq->Hf,typeLookup->Hg,typeIs_str->Hh,size_of_entries->Hi,preSum->Hj,operate->Hk,isTrue->Hl,intText?->Hm,codeAny_of_tree->Hn,call_meetsIn->Ho,builtinsNs->Hp,Params->Hy,GenState->HE,wpAny_updateSeq_pair->OZ,wpAny_throw->O_,wpAny_standAt->O',wpAny_pyIter_zip->Pa,wpAny_pyIter_tuple->Pb,wpAny_pyIter_slot->Pc,wpAny_isOneOf_itemiter->Pd,wpAny_handled->Pe,wpAny_eqBool_int->Pf,wpAny_Name->Pg,strValues->Ph,slot_list_getitem->Pj,setSearchFrom->Pk,seq_tuple_add->Pl,seqIndex_of->Pm,seqIndex_neg->Pn,raiseNew->Po,pushCells_keeps->Pp,ofAClassStatement->Pq,noFill_tuple_add->Ps,newTuple->Pu,keywordEach->Pv,isSubtype_stop->Pw,firstIter->Px,firstAsync->Py,firstArgMember->Pz,entryFor->PA,concat_meets->PB,comprehension->PC,compPost->PE,checkBuiltinCall->PF,carriedByValue->PG,bindArgs->PH,backToKw->PJ,wpAny_storeSet_of->aax,wpAny_specialOf->aay,wpAny_sequenceKey->aaz,wpAny_pyIter_revIter->aa0,wpAny_pyIter_keyiter->aa1,wpAny_pyIter_enum->aa2,wpAny_loadPart'->aa3,wpAny_ite_split->aa4,wpAny_isTrue_Compare1->aa5,wpAny_isOneOf_keyiter->aa6,wpAny_getItem_list_slice->aa7,wpAny_execs_cons->aa8,wpAny_eqIsQuiet_tuple->aa9,wpAny_dictSet_heap->aba,wpAny_assign_Name->abb,wpAny_Dict_empty->abc,wpAny_Call_method0_late->abe,weight_type_call_type->abf,typeLookup_type->abg,searchCouldBeSeen->abh,richCompare_meets_room->abi,getattributeRaised->abo,evalArgs_none->abq,entryFor_of_tree->abr,codeAny_call_builtin->abt,builtinLookup_eq_fast->abv,Within->abx
open PySem.Around renaming under_plainId->nv,under_plain->ado
open PySem.AutoSeq1 renaming sub_tuple_tuple->adn,list_insert_list_int_val_1->ahi
open PySem.Builtin.Builtins renaming bindParams->Qm
open PySem.Builtin.Dict renaming showsAll->yM,samePairs->yN,updateCommon->adl,pairItems->adm,updateFrom->ahb,selfAndRest->ahc,pendingCount->ahd,noArgs->ahe,dictSlotNone->ahf,dictSlotArgs->ahg,addKeywords->ahh
open PySem.Builtin.Dict_items renaming ownsTuple->Cu,pairFromOwner->adi,ownedTupleIsFree->adj,ownedTupleFields->adk,newIterator->ag9,dictOf->aha
open PySem.Builtin.Frozenset renaming updateFrom->ag7,newClass->ag8
open PySem.Builtin.List renaming listTooLong->Ql,listFitsIndex->adh
open PySem.Builtin.Range renaming rangeSize->ag6
open PySem.Builtin.Slice renaming slicePlaces->HM,sliceAdjust->Qk,sliceApplied->adg,slicePartIndex->ag4,sliceFields->ag5
open PySem.Builtin.SmallTypes renaming nextOf->rV,ownedTupleIsFree->HL,ownedTupleHandOut->adf
open PySem.Builtin.Str renaming occurrences->Qj
open PySem.Builtin.Tuple renaming tupleItemsOf->adc,tupleCompareSizes->ade,tupleIsExact->ag2,tupleExact->ag3
open PySem.Calls renaming callWith_builtin->HK,spliced_cons->Qi,spliced_nil->ac8,evalArgs_plain->ac9,call_function_entry->ada,Name_function_global->adb
open PySem.CmpOp renaming NotEq->ue,NotIn->v_,In->wa
open PySem.Code renaming builtin->yL,quiet_builtin->ac7
open PySem.Data renaming seq->da,fields->d_,set->iO,dict->jy,cell->ud
open PySem.DictEntry renaming refKey->Qh,mk->ac6
open PySem.Env renaming kindOf->Qg
open PySem.EqMixed renaming ne_str_int->agu,ne_str_bool->agv,ne_int_str->agw,ne_bool_str->agx,eq_str_int->agy,eq_str_bool->agz,eq_int_str->ag0,eq_bool_str->ag1
open PySem.EqNone renaming ne_str_none->agg,ne_none_str->agh,ne_none_none->agi,ne_none_int->agj,ne_none_bool->agk,ne_int_none->agl,ne_bool_none->agm,eq_str_none->agn,eq_none_str->ago,eq_none_none->agp,eq_none_int->agq,eq_none_bool->agr,eq_int_none->ags,eq_bool_none->agt
open PySem.Expr renaming Name->fQ,ListComp->lJ,Call->lK,Tuple->qH,Subscript->rT,BoolOp->rU,Slice->Cq,Compare->Cs,Constant->HI,Attribute->HJ
open PySem.F renaming plain_max_loop->lI,plainAttrs_list->oC,slot_list_append->ua,called_set->uc,type_list_append->vX,entry_max_loop->vY,slot_dict_itemiterator_next->yK,slot_dict_keyiterator_next->Ck,slot_zip_next->HF,slot_tuple_iterator_next->HG,slot_str_split->HH,slot_tuple_add->P_,slot_list_getattribute->P',slot_list_extend->Qa,slot_dict_get->Qb,entry_tuple_add->Qc,entry_str_split->Qd,args_tuple_add_2->Qe,args_str_split_2->Qf,type_list_extend->acg,slot_list_pop->ach,slot_list_insert->aci,slot_list_count->acj,slot_dict_ne->ack,slot_dict_len->acl,slot_dict_iter->acm,slot_dict_items_iter->acn,slot_dict_items->aco,slot_dict_itemiterator_iter->acp,plain_set_new->acq,plain_max->acr,plainAttrs_dict->acs,kind_max->act,entry_zip_next->acu,entry_type_call->acv,entry_tuple_iterator_next->acw,entry_max->acx,entry_dict_keyiterator_next->acy,entry_dict_itemiterator_next->acz,entry_dict_get->ac0,args_zip_next_1->ac1,args_tuple_iterator_next_1->ac2,args_dict_keyiterator_next_1->ac3,args_dict_itemiterator_next_1->ac4,args_dict_get_3->ac5
open PySem.Flow renaming ret->jd
open PySem.Heap renaming get?_push_of_some->cx,lt_size->cR,get?_push_size->dF,push->eZ,get?->fu,objs->iN,SameBut->jc,update->pG,size_push->t_,size_update->vW,get?_update_self->yI,get?_push_ne->yJ,get?_update_other->Cf,get?_update_ne->HA,get?_push_at->HB,ExtBut->PZ,IsTuple->ace
open PySem.Heap.DictOf renaming new->agf
open PySem.Heap.IsSliceOf renaming new->acf
open PySem.Heap.IsTuple renaming push->age
open PySem.Heap.SameBut renaming update->mC,refl->HC
open PySem.NameKind renaming free->bX,cell->cE
open PySem.Obj renaming mapSeq->de,data_mapFields->Hz,putSet->PY,mapFields->aca,isFreed_of_fields->acb,cls_mapFields->acd
open PySem.Paired renaming nil->aN,cons->bL,length->fP,snoc->tZ
open PySem.PassesOwn renaming never->eL
open PySem.PyData renaming int->gQ,tuple->hJ,list->nu,depth->yG,canLay0->Cd,strOk->PV,depthAll->PW,canLayAll0->PX
open PySem.ScopeKind renaming function->jl
open PySem.SeqAt renaming shaped->tY,noMix_of_shape->yF,EqAt->Hx
open PySem.SeqAt.EqAt renaming int_int->PU,str_int->ab7,int_str->ab8
open PySem.SetTable renaming runEnd->f_,insertAt->gA,below->gP,fresh->kg,bits->kh,turns->lG,leap->rR,grown->BY,Probe->B_,sizeAbove->Hu,probe->ab5,fill->ab6
open PySem.SetTable.Met renaming empty->B',candidate->Hw
open PySem.SetTable.Probe renaming dummy->BZ
open PySem.SetTable.Slot renaming live->tX,empty->yE,dummy->Hv
open PySem.SetTable.below renaming go->yD
open PySem.SetTable.layClean renaming free->BX
open PySem.SetTable.probe renaming go->tW
open PySem.Shared renaming TypeIs->yC,heap->PT
open PySem.Spec renaming same->nt,sameAll->yB
open PySem.Spec.Shape renaming has->tV,tuples->vU,list->BW
open PySem.Stmt renaming Assign->vT,FunctionDef->PS
open PySem.Str renaming ofString->kf
open PySem.Txt renaming split->BV
open PySem.Value renaming ref->ab,type->aK,int->bz,none->cA,builtin->eJ,bool->fm,str->tU,ellipsis->yA,isInt->Ht,notImplemented->ab2,isStrOf->ab3,isInt_shape->ab4
open PySem.W renaming Frag->aR,fnOf->tT,mg_of->yx,OpenLaw->yy,keepIn->BS,cellsFrom_some->BU,ke_sameAll->Hq,codeIn->Hr,nsIn->PM,methodObj->PN,lookIn->PO,kdl_call->PP,instObj->PQ,WalkO->PR,plainGet->aby,ke_depthAll->abz,ke_carried->ab0,ke_canLayAll0->ab1
open PySem.W.KIN renaming call_text->afz
open PySem.W.WData renaming int->Hs
open PySem.Walks renaming list->rQ
open PySem.argBest renaming eq_2->PK,eq_1->abw
open Std.Legacy.Range renaming size->afx,forIn_eq_forIn_range'->afy
open Sum renaming inl->aQ,inr->ni
open Sum.inl renaming inj->GV
open ToString renaming toString->yl
open True renaming intro->vM
open PySem PySem.Spec PyProof.Rows PySem.W
def O{α:Sort _}{a:α}:a=a:=rfl
def ap:=@if_neg
def az:=@if_pos
noncomputable def bu:=@absurd
def cn:=@decide_eq_true
def cK:=@decide_eq_false
def dc:=@if_false
def dU:=@if_true
def eW:=@congrArg
def hY:=@getElem?_pos
def io:=@of_decide_eq_true
def iD:=@decide_eq_true_eq
def nM:=@of_decide_eq_false
def oM:=@or_false
def δ{p:Prop}(h:p:=by decide +kernel):p:=h
def ω{p:Prop}(h:p:=by omega):p:=h
def ß{a:Nat}:a≤a:=Nat.le_refl _
def à:=@Nat.le_trans
def â{a p q:Nat}(h:a≤p)(k:p.ble q=true:=by rfl):a≤q:=Nat.le_trans h (Nat.le_of_ble_eq_true k)
def ã{a p q:Nat}(h:q≤a)(k:p.ble q=true:=by rfl):p≤a:=Nat.le_trans (Nat.le_of_ble_eq_true k) h
def å:=@Nat.le_of_eq
def æ{a b:Nat}(h:a=b):b≤a:=Nat.le_of_eq h.symm
def è{a b c:Nat}(h:a+c≤b):a≤b:=Nat.le_of_add_right_le h
def ê{a b c:Nat}(h:a+c<b):a<b:=Nat.lt_of_le_of_lt (Nat.le_add_right _ _) h
def ì:=@Nat.le_of_lt
def í{a b c:Nat}(h:a≤b):a≤b+c:=Nat.le_add_right_of_le h
def ï:=@Nat.succ_le_succ
def ð{a b c:Nat}(h:a≤b):a+c≤b+c:=Nat.add_le_add_right h c
def ñ{a b c:Nat}(h:a≤b):c+a≤c+b:=Nat.add_le_add_left h c
def ò:=@Nat.le_of_succ_le_succ
def ó{a b:Nat}(h:¬a≤b):b<a:=Nat.lt_of_not_le h
def ô{a b:Nat}(h:¬a<b):b≤a:=Nat.le_of_not_lt h
def õ:=@Nat.ne_of_lt
def ö{a b:Nat}(h:b<a):a≠b:=Nat.ne_of_gt h
def ø{a b:Nat}(h:b<a):¬a≤b:=Nat.not_le_of_gt h
def ù{a b:Nat}(h:b≤a):¬a<b:=Nat.not_lt_of_le h
def ú{a:Nat}:0≤a:=Nat.zero_le _
def û:=@Nat.le_antisymm
def ü{a c:Nat}:a≤a+c:=Nat.le_add_right _ _
def ý{a c:Nat}:a≤c+a:=Nat.le_add_left _ _
def þ:=@Nat.lt_of_le_of_ne
def ÿ{a b:Nat}(h:a≤b)(k:b≠a):a<b:=Nat.lt_of_le_of_ne h fun z=>k z.symm
def ξ{p:Prop}(h:p:=by decide):p:=h
abbrev Ω:=PySem.Value->PySem.Shared->Prop
abbrev Ξ:=List (List Int)
abbrev Ψ:=List (PySem.Addr×PySem.Obj)
local macro_rules|`($s⁻¹)=>`(($s).heap.objs.size)
section
local macro_rules|`(tactic|omega)=>`(tactic|first|lia|omega (config:={}))
local macro_rules|`(($a,$b,$c,*))=>`(⟨$a,$b,$c,*⟩)|`(($a,$b))=>`(⟨$a,$b⟩)
abbrev aV:=Sum Int au
noncomputable def uO:aV->aa->Bool
 |.inl k,v=>Ht k v
 |.inr x,v=>ab3 x v
noncomputable def UM(w:aX):aV->Int
 |.inl k=>hashInt k
 |.inr x=>hashStr w x
def oV:∀{a:aV}{b:aa},uO a b=af->(∃i t,a=aQ i/\b=bz i t)\/(∃c t,a=ni c/\b=tU c t)
 |.inl i,b,h=>by
  obtain⟨t,e⟩:=ab4 (k:=i) (v:=b) h;exact .inl (i,t,O,e)
 |.inr c,b,h=>by
  obtain⟨t,e⟩:=Value.isStrOf_shape (x:=c) (v:=b) h;exact .inr (c,t,O,e)
def UL(i:Int)(t:iM):uO (.inl i) (.int i t)=af:=by simp[uO,Ht]
def UK(x:au)(t:iM):uO (.inr x) (.str x t)=af:=by simp[uO,ab3]
def UJ(a b:Int):aC ((aQ a:aV)=aQ b)=(a==b):=by
 by_cases e:a=b
 ·subst e;simp
 ·have h:¬(aQ a:aV)=aQ b:=λq=>e<|GV q
  rw[cK h];exact(beq_eq_false_iff_ne.mpr e).symm
def UG(a b:au):aC ((ni a:aV)=ni b)=aC (a=b):=by
 by_cases e:a=b
 ·subst e;simp
 ·have h:¬(ni a:aV)=ni b:=λq=>e<|Sum.inr.inj q
  rw[cK h,cK e]
def UI(a:Int)(b:au):aC ((aQ a:aV)=ni b)=aB:=cK (λq=>nomatch q)
def UH(a:au)(b:Int):aC ((ni a:aV)=aQ b)=aB:=cK (λq=>nomatch q)
noncomputable def fW(c:bw)(w:aX):rS c w aV where
 is:=uO
 hash:=UM w
 inj:=λv a b g f=>by
  rcases oV g with ⟨i,t,rfl,rfl⟩|⟨x,t,rfl,rfl⟩
  ·rcases oV f with ⟨j,u,rfl,e⟩|⟨y,u,rfl,e⟩
   ·injection e with e1 _;rw[e1]
   ·exact nomatch e
  ·rcases oV f with ⟨j,u,rfl,e⟩|⟨y,u,rfl,e⟩
   ·exact nomatch e
   ·injection e with e1 _;rw[e1]
 byValue:=λk v h=>by
  rcases oV h with ⟨i,t,rfl,rfl⟩|⟨x,t,rfl,rfl⟩<;>rfl
 pyHash:=λd h=>by
  rcases oV d with ⟨i,t,rfl,rfl⟩|⟨x,t,rfl,rfl⟩
  ·exact wpAny_pyHash_int h
  ·exact wpAny_pyHash_str h
 eqBool:=λl d h=>by
  rcases oV l with ⟨i,t,rfl,rfl⟩|⟨x,t,rfl,rfl⟩
  ·rcases oV d with ⟨j,u,rfl,rfl⟩|⟨y,u,rfl,rfl⟩
   ·rw[UJ] at h;exact Pf h
   ·rw[UI] at h;exact ab8 i t y u _ _ _ _ h
  ·rcases oV d with ⟨j,u,rfl,rfl⟩|⟨y,u,rfl,rfl⟩
   ·rw[UH] at h;exact ab7 x t j u _ _ _ _ h
   ·rw[UG] at h;exact wpAny_eqBool_str h
 «strs»:=λk x t v h=>by
  rcases oV h with ⟨i,u,rfl,e⟩|⟨y,u,rfl,e⟩
  ·exact nomatch e
  ·injection e with e1 _
   subst e1;cases v<;>rfl
def Ee(a:bw)(w:aX)(i:Int)(t:iM):(fW a w).is (.inl i) (.int i t)=af:=UL i t
def UB(a:bw)(w:aX)(x:au)(t:iM):(fW a w).is (.inr x) (.str x t)=af:=UK x t
inductive ag where
 |g|e (b:Bool)|d (i:Int)|f (x:au)|h (b:Array UInt8)|j (b:UInt64)|c (a:Y)|k (n:String)
 deriving DecidableEq
def co:ag->aa->Prop
 |.g,u=>u=cA
 |.e b,u=>u=fm b
 |.d i,u=>∃t,u=bz i t
 |.f x,u=>∃t,u=tU x t
 |.h b,u=>∃t,u=Value.bytes b t
 |.j b,u=>∃t,u=Value.float b t
 |.c a,u=>u=ab a
 |.k n,u=>u=aK n
abbrev cw:List ag->List aa->Prop:=du co
noncomputable def cw.j{b:List aa}(r:cw a b):a.length=b.length:=fP r
def cw.q:∀{a:List ag}{b:List aa}{i:Nat}{x:ag},cw a b->a[i]?=V x->∃u,b[i]?=V u/\co x u
 |_,_,_,_,.nil,e=>by simp at e
 |_,_,0,_,.cons r _,e=>by simp at e;subst e;exact(_,O,r)
 |_,_,i+1,x,.cons _ t,e=>by
  obtain⟨u,c,d⟩:=cw.q (i:=i) (x:=x) t (by simpa using e);exact(u,by simpa using c,d)
def cw.A0(r:co x u):∀{a:List ag}{b:List aa}(i:Nat),cw a b->cw (a.set i x) (b.set i u)
 |_,_,_,.nil=>.nil
 |_,_,0,.cons _ t=>.cons r t
 |_,_,i+1,.cons q t=>.cons q (cw.A0 r i t)
noncomputable def cw.B{a b:List ag}(h:cw a c)(g:cw b d):cw (a++b) (c++d):=by
 induction h with
 |nil=>exact g
 |cons r _ e=>exact .cons r e
def cw.J:∀{a:List ag}{b:List aa}(n:Nat),cw a b->cw (a.take n) (b.take n)
 |_,_,0,_=>.nil
 |_,_,_+1,.nil=>.nil
 |_,_,n+1,.cons r t=>.cons r (cw.J n t)
def cw.M:∀{a:List ag}{b:List aa}(n:Nat),cw a b->cw (a.drop n) (b.drop n)
 |_,_,0,r=>r
 |_,_,_+1,.nil=>.nil
 |_,_,n+1,.cons _ t=>cw.M n t
def ro:Option ag->Option aa->Prop
 |some v,V u=>co v u
 |none,Z=>True
 |_,_=>False
def ky{a:Type}:List (a×ag)->List (a×aa)->Prop:=du λ(p:a×ag)(q:a×aa)=>p.1=q.1/\co p.2 q.2
noncomputable def dr:aV->ag
 |.inl i=>.d i
 |.inr x=>.f x
inductive dh where
 |a (xs:List ag)
 |b (xs:List ag)
 |e (kvs:List (aV×ag))|c (kvs:List (List aV×ag))
 |k (S:Int->Bool) (n:Nat)
 |j (C dx:Y) (fs:List (au×ag))
 |g (x:Y)
 |m (fs:List (au×ag))
 |p (f x:Y)
 |l (lo hi:Int)
 |d (o:bA) (u:dh)
 |h (ps:Array aa)
 |i (φ:aT->Prop)
abbrev ae:=Y->Option dh
noncomputable def aw(H:ae)(a:Y)(o:dh):ae:=λb=>if b=a then V o else H b
def ay:aw H a o a=V o:=by unfold aw;rw[az O]
def bG{a b:Y}(h:b≠a):aw H a o b=H b:=by unfold aw;rw[ap h]
def SX:aw (aw H a o) a u=aw H a u:=by
 funext b;unfold aw;split<;>rfl
def ir{H:ae}{a b:Y}(h:H a=V o)(c:H b=V u)(d:o≠u):a≠b:=by
 intro e;subst e;rw[h] at c;exact d<|cH c
def dJ{H:ae}{a b:Y}(h:H a=V o)(c:H b=Z):a≠b:=by
 intro e;subst e;rw[h] at c;cases c
section
variable(P:bw)(w:aX)
def dt(H:ae)(h:aT)(a:Y):dh->Prop
 |.a d=>d.length<=bQ/\∃(b:List aa)(n:Nat),cw d b/\h.get? a=V {cls:=.type "list",data:=.seq b.toArray n}
 |.b d=>d.length<=bQ/\∃b:List aa,cw d b/\kP h a b.toArray
 |.e c=>c.length<=bQ/\(a==jw)=aB/\∃k,ky c k/\h.DictOf (fW P w) a k
 |.c c=>c.length<=bQ/\(a==jw)=aB/\∃d:List (List aV×Y×aa),
   du (λ(p:List aV×ag)(q:List aV×Y×aa)=>p.1=q.1/\H q.2.1=V (.b<|p.1.map dr)/\co p.2 q.2.2) c d/\
   ∃o l s,h.get? a=V o/\o.ExactDict/\o.data=.dict l s/\l.toList=d.map (entryOfKey<|jV<|fW P w)/\(d.map (·.1)).Nodup
 |.k S n=>h.SetOf (qD P w) a S n
 |.j C i g=>H i=V (.g a)/\g.length<=1000/\i≠a/\h.get? a=V (PQ C i)/\
   ∃e,h.Ns1 i e/\(∀f,ro (g.lookup f) (e f))/\abx e (g.map (·.1))
 |.g _=>∃o,h.get? a=V o
 |.m g=>∃e,h.Ns1 a e/\∀f,ro (g.lookup f) (e f)
 |.l y z=>∃t u v,h.get? a=V {cls:=.type "range",data:=.fields #[.int y t,.int z u,.int 1 v]}
 |.d o u=>h.get? a=V o/\dt H h a u
 |.h A=>h.get? a=V {cls:=.none,data:=.fields A}
 |.p f x=>h.get? a=V (PN (.ref f)<|.ref x)
 |.i j=>j h/\(∃o,h.get? a=V o)/\∀m r:aT,j m->(∀o,m.get? a=V o->r.get? a=V o)->j r
def gF(H:ae)(h:aT):Prop:=∀a o,H a=V o->dt P w H h a o
end
section
variable{P:bw}{w:aX}{H H':ae}{h h':aT}{a:Y}{o:dh}
noncomputable def dt.B(x:dt P w H h a o):a<h.objs.size:=by
 cases o with
 |a c=>obtain⟨_,_,_,_,e⟩:=x;exact cR e
 |b c=>obtain⟨_,_,_,p⟩:=x;exact p.lt
 |e b=>obtain⟨_,_,_,_,o,_,_,e,_⟩:=x;exact cR e
 |c b=>obtain⟨_,_,_,_,o,_,_,e,_⟩:=x;exact cR e
 |k S n=>obtain⟨o,_,_,_,e,_⟩:=x;exact cR e
 |j C g d=>obtain⟨_,_,_,e,_⟩:=x;exact cR e
 |g y=>obtain⟨_,e⟩:=x;exact cR e
 |m d=>obtain⟨_,⟨_,_,_,e,_⟩,_⟩:=x;exact cR e
 |l i j=>obtain⟨_,_,_,e⟩:=x;exact cR e
 |d k u=>obtain⟨e,_⟩:=x;exact cR e
 |h l=>exact cR<|show h.get? a=V _ from x
 |p f y=>exact cR<|show h.get? a=V _ from x
 |i m=>obtain⟨_,⟨_,e⟩,_⟩:=x;exact cR e
def gf{e g:Type}{F G:e->g->Prop}{c:List e}{d:List g}(h:du F c d)(f:∀a b,F a b->G a b):du G c d:=by
 induction h with
 |nil=>exact .nil
 |cons r _ i=>exact .cons (f _ _ r) i
noncomputable def dt.j(x:dt P w H h a o)(k:∀b u,(b=a\/H b=V (.g a))->h.get? b=V u->h'.get? b=V u)(I:∀b,H b=V (.g a)->H' b=V (.g a))(K:∀b m,H b=V (.b m)->H' b=V (.b m)):dt P w H' h' a o:=by
 induction o with
 |a m=>obtain⟨z,l,n,r,e⟩:=x;exact(z,l,n,r,k _ _ (.inl O) e)
 |b m=>obtain⟨z,l,r,g,e,c⟩:=x;exact(z,l,r,g,k _ _ (.inl O) e,c)
 |e s=>obtain⟨z,y,L,r,g,i,j,e,c⟩:=x;exact(z,y,L,r,g,i,j,k _ _ (.inl O) e,c)
 |c s=>
  obtain⟨z,y,m,r,g,i,j,e,c⟩:=x;exact(z,y,m,gf r λp q z=>(z.1,K _ _ z.2.1,z.2.2),g,i,j,k _ _ (.inl O) e,c)
 |k S n=>obtain⟨g,i,j,t,e,c⟩:=x;exact(g,i,j,t,k _ _ (.inl O) e,c)
 |j C U M=>
  obtain⟨d,z,Q,e,A,⟨D,i,j,R,c⟩,r⟩:=x;exact(I _ d,z,Q,k _ _ (.inl O) e,A,(D,i,j,k _ _ (.inr d) R,c),r)
 |g y=>obtain⟨g,e⟩:=x;exact(g,k _ _ (.inl O) e)
 |m M=>obtain⟨A,⟨D,i,j,e,c⟩,r⟩:=x;exact(A,(D,i,j,k _ _ (.inl O) e,c),r)
 |l X hi=>obtain⟨t,u,v,e⟩:=x;exact(t,u,v,k _ _ (.inl O) e)
 |d g u T=>obtain⟨e,q⟩:=x;exact(k _ _ (.inl O) e,T q)
 |h E=>
  have e:h.get? a=V {cls:=.none,data:=.fields E}:=x;show h'.get? a=V {cls:=.none,data:=.fields E};exact k a _ (.inl O) e
 |p f y=>
  have e:h.get? a=V (PN (.ref f)<|.ref y):=x;show h'.get? a=V (PN (.ref f)<|.ref y);exact k a _ (.inl O) e
 |i φ=>obtain⟨p,⟨o,e⟩,G⟩:=x;exact(G _ _ p λo q=>k _ _ (.inl O) q,(o,k _ _ (.inl O) e),G)
noncomputable def gF.F(x:gF P w H h)(e:H a=V o):a<h.objs.size:=(x a o e).B
noncomputable def gF.j(x:gF P w H h)(e:h.objs.size<=a):H a=Z:=by
 cases q:H a with
 |none=>rfl
 |some u=>exact bu (iB (x.F q) e)<|oH _
def gF.q(x:gF P w H h)(k:∀b u,h.get? b=V u->h'.get? b=V u):gF P w H h':=λa o e=>
 (x a o e).j (λb u _ q=>k b u q) (λ_ q=>q) λ_ _ q=>q
noncomputable def gF.B(x:gF P w H h)(k:∀b u,h.get? b=V u->h'.get? b=V u)(i:h.objs.size<=a)(d:dt P w (aw H a o) h' a o):gF P w (aw H a o) h':=λb u e=>by
 have f:=x.j i
 by_cases g:b=a
 ·subst g;rw[ay] at e;cases e;exact d
 ·rw[bG g] at e
  exact(x b u e).j (λc v _ q=>k c v q) (λc q=>by rw[bG<|dJ q f];exact q) λc j q=>by rw[bG<|dJ q f];exact q
end
def iY(H:ae)(a:Y)(u:dh):Prop:=H a=V u\/∃o,H a=V (.d o u)
noncomputable def iY.B{H:ae}(h:H a=V u):iY H a u:=.inl h
noncomputable def iY.j(r:iY H a u)(x:gF P w H h):dt P w H h a u:=by
 rcases r with r|⟨o,r⟩
 ·exact x a u r
 ·obtain⟨_,q⟩:=x a _ r
  exact q
def xa:Option dh->Prop
 |some (.a _)=>True
 |some (.e _)=>True
 |some (.c _)=>True
 |some (.k _ _)=>True
 |some (.j _ _ _)=>True
 |some (.i _)=>True
 |_=>False
section
variable{P:bw}{w:aX}{H:ae}{h h':aT}{x e:Y}{o':dh}
def gF.J(s:gF P w H h)(g:xa (H x))(o:e=x\/H e=V (.g x))(k:∀b u,b≠e->h.get? b=V u->h'.get? b=V u)(m:∃u,h'.get? e=V u)(n:dt P w (aw H x o') h' x o'):gF P w (aw H x o') h':=λb u q=>by
 have d:∀c y,H c=V (.g y)->c≠x:=λc y r z=>by subst z;rw[r] at g;exact g
 have f:∀c i,H c=V (.b i)->c≠x:=λc i r z=>by subst z;rw[r] at g;exact g
 by_cases j:b=x
 ·subst j;rw[ay] at q;cases q;exact n
 ·rw[bG j] at q
  by_cases a:b=e
  ·have p:H b=V (.g x):=by
    rcases o with z|z
    ·exact bu (a.trans z) j
    ·rw[a];exact z
   rw[q] at p;cases p;obtain⟨v,t⟩:=m;exact(v,by rw[a];exact t)
  ·refine(s b u q).j (λc v l r=>k c v ?_ r) (λc r=>by rw[bG<|d c b r];exact r) λc i r=>by rw[bG<|f c i r];exact r
   rcases l with rfl|l
   ·exact a
   ·rintro rfl
    rcases o with z|z
    ·exact d c b l z
    ·rw[l] at z;cases z;exact j O
end
structure n_(fs ex:List Y)(H H':ae)(h h':aT):Prop where
 c:∀b o,h.get? b=V o->H b=Z->b∉fs->b∉ex->h'.get? b=V o
 d:∀b o,h.get? b=V o->H b=Z->b∈fs->b∉ex->∃sl,h'.get? b=V {o with slots:=sl}
 a:∀b o,h.get? b=V o->H b=Z->b∉ex->H' b=Z
 f:∀b o,h.get? b=V o->b∉ex->∃o',h'.get? b=V o'
 g:∀b xs,H b=V (.b xs)->H' b=V (.b xs)
 e:∀b o u,H b=V (.d o u)->H' b=V (.d o u)
 i:∀b ps,H b=V (.h ps)->∃more,H' b=V (.h<|ps++more)
section
variable{fs fs' ex ex':List Y}{H H1 H2:ae}{h h1 h2 h':aT}{a x e:Y}{o:dh}
def n_.q(u:n_ fs ex H H1 h h1){b:Y}{a:bA}(q:h.get? b=V a)(n:H b=Z)(c:b∉ex):∃e,h1.get? b=V {a with slots:=e}:=by
 by_cases d:b∈fs
 ·exact u.d b a q n d c
 ·exact(a.slots,u.c b a q n d c)
noncomputable def n_.j(k:∀b u,h.get? b=V u->h'.get? b=V u):n_ fs ex H H h h':=
 (λb a q _ _ _=>k b a q,λb a q _ _ _=>(a.slots,k b a q),λ_ _ _ n _=>n,λb a q _=>(a,k b a q),λ_ _ q=>q,λ_ _ _ q=>q,λ_ c q=>(#[],by rw[q];simp))
def n_.J:n_ fs ex H H h h:=n_.j λ_ _ q=>q
noncomputable def n_.B(k:∀b u,h.get? b=V u->h'.get? b=V u)(d:h.objs.size<=a)(c:H a=Z):n_ fs ex H (aw H a o) h h' where
 c:=λb u q _ _ _=>k b u q
 d:=λb u q _ _ _=>(u.slots,k b u q)
 a:=λb u q n _=>by rw[bG<|dz<|iB (cR q) d];exact n
 f:=λb u q _=>(u,k b u q)
 g:=λb e q=>by rw[bG<|dJ q c];exact q
 e:=λb u e q=>by rw[bG<|dJ q c];exact q
 i:=λb f q=>(#[],by rw[bG<|dJ q c,q];simp)
noncomputable def n_.F(c:xa (H x))(j:e=x\/H e=V (.g x))(k:∀b u,b≠e->h.get? b=V u->h'.get? b=V u)(d:∃u,h'.get? e=V u):n_ fs ex H (aw H x o) h h':=by
 have g:∀b,H b=Z->b≠x:=λb n z=>by subst z;rw[n] at c;exact c
 have i:∀b,H b=Z->b≠e:=λb n z=>by
  subst z;rcases j with r|r
  ·exact g b n r
  ·rw[n] at r;cases r
 have f:∀b u,H b=V u->¬xa (V u)->b≠x:=λb u q l z=>by subst z;rw[q] at c;exact l c
 refine(λb u q n _ _=>k b u (i b n) q,λb u q n _ _=>(u.slots,k b u (i b n) q),λb u q n _=>by rw[bG<|g b n];exact n,λb u q _=>?_,
  λb m q=>by rw[bG<|f b _ q λz=>z];exact q,λb u m q=>by rw[bG<|f b _ q λz=>z];exact q,λb p q=>(#[],by rw[bG<|f b _ q λz=>z,q];simp))
 by_cases a:b=e
 ·subst a;exact d
 ·exact(u,k b u a q)
end
noncomputable def zL(h:aT)(H:ae):List Y:=(cV h.objs.size).filter λa=>(H a).isSome
noncomputable def qa(h:aT)(H:ae):aT:=PySem.W.hideAll h<|zL h H
def UZ(h:aT)(H:ae):(qa h H).objs.size=h.objs.size:=PySem.W.hideAll_size _ _
def U_{h:aT}{H:ae}{b:Y}(e:h.get? b=V o)(n:H b=Z):(qa h H).get? b=V o:=
 PySem.W.hideAll_get _ e λa=>by
  have q:(H b).isSome=af:=(fA.mp a).2;rw[n] at q;simp at q
def Ut{b:Y}(e:(qa h H).get? b=V o):h.get? b=V o/\H b=Z:=by
 have a:h.get? b=V o:=PySem.W.of_hideAll (zL h H) e;refine(a,?_);cases q:H b with
 |none=>rfl
 |some x=>
  have c:b∈zL h H:=fA.mpr (gB.mpr<|cR a,by simp[q]);have z:(qa h H).get? b=Z:=PySem.W.hideAll_none (zL h H) c;rw[z] at e;cases e
structure An(K:aR)(mg:au->Option aa)(base:aT):Prop where
 a:K.In base
 b:base.Ns lD mg
 d:∃mb,base.Ns Hp mb/\∀x:au,x≠"__name__"->mb x=hC x
 c:base.NoLimit
structure bf where
 prog:bw
 w:aX
 K:aR
 c:au->Option aa
 base:aT
 A:bY
 N:List au
 d:ak
 i:ae
 env:gb
 outer:List gb
 e:List gb
 g:List Y
 f:au->Bool
 b:Bool
 h:Ψ
 a:Ω
noncomputable def li(l:List gb):List Y:=l.filterMap (·.frame)
noncomputable abbrev bf.j(X:bf):List Y:=li X.outer
def Ai(a:hG)(x:au):Prop:=a.names.lookup x=V .local\/a.names.lookup x=V .cell\/a.names.lookup x=V .free
def rp(a:hG)(x:au):Prop:=a.names.lookup x=V .local\/a.names.lookup x=V .cell
def VL(a:gb)(h:aT)(m:au->Option aa)(x:au)(u:aa):Prop:=
 (a.kindOf x=V .local/\m x=V u)\/((a.kindOf x=V .cell\/a.kindOf x=V .free)/\∃c,a.cells.lookup x=V c/\h.IsCell c (V u))
structure bf.q(X:bf):Prop where
 e:An X.K X.c X.base
 d:X.env.scope.kind=.function
 j:X.env.globals=lD
 l:X.env.builtins=Hp
 f:X.d⁻¹<=X.env.locals
 n:∀x y c,X.env.cells.lookup x=V c->X.env.cells.lookup y=V c->x=y
 has:∀x,(X.env.kindOf x=V .cell\/X.env.kindOf x=V .free)->∃c,X.env.cells.lookup x=V c
 k:∀x c,X.f x=af->X.env.cells.lookup x=V c->X.d⁻¹<=c
 a:X.b=af->X.A.handled=Z
 r:X.A.frames=V X.e
 q:X.e=X.outer\/(X.e=X.env::X.outer/\X.env.frame=V X.env.locals)
 s:∀b∈X.g,b≠X.env.locals/\∀x c,X.env.cells.lookup x=V c->c≠b
 bs:∀b o,X.base.get? b=V o->X.d.heap.get? b=V o/\X.i b=Z
 g:X.base.objs.size<=X.d⁻¹
 i:∀b o,X.base.get? b=V o->b∉X.g
 p:∀b∈X.g,b∉X.j
 h:X.d.heap.FunFrames X.base X.outer
 m:∀b∈X.j,X.i b=Z
structure aE(X:bf)(pins:Ψ)(σ:List (Option ag))(H:ae)(s:ak):Prop where
 b:X.q
 l:s.os=X.d.os
 f:rW s.gens
 base:n_ X.j X.g X.i H X.d.heap s.heap
 d:∃m,s.heap.Ns X.env.locals m/\∀(i:Nat)(x:au)(v:ag),X.N[i]?=V x->σ[i]?=V (V v)->Ai X.env.scope x->∃u,co v u/\VL X.env s.heap m x u
 g:∀x c,X.env.cells.lookup x=V c->∃v,s.heap.IsCell c v
 h:H X.env.locals=Z
 k:∀x c,X.env.cells.lookup x=V c->H c=Z
 e:∀p∈X.h++pins,s.heap.get? p.1=V p.2/\H p.1=Z/\p.1≠X.env.locals/\p.1∉X.j/\∀v,p.2.data≠.cell v
 a:gF X.prog X.w H s.heap
 n:σ.length=X.N.length
section
variable{X:bf}{pins:Ψ}{σ:List (Option ag)}{H H':ae}{s:ak}{h':aT}
noncomputable def bf.q.B(a:X.q){b:Y}(e:X.base.get? b=V o):b∉X.j:=λc=>by
 have:=(a.h.mem c).1;rw[e] at this;cases this
def aE.bs(I:aE X pins σ H s):∀b o,X.base.get? b=V o->s.heap.get? b=V o/\H b=Z:=λb o e=>
 (I.base.c b o (I.b.bs b o e).1 (I.b.bs b o e).2 (I.b.B e)<|I.b.i b o e,I.base.a b o (I.b.bs b o e).1 (I.b.bs b o e).2<|I.b.i b o e)
def aE.bk(I:aE X pins σ H s):∀b o,X.base.get? b=V o->s.heap.get? b=V o:=λb o e=>(I.bs b o e).1
def aE.A8(I:aE X pins σ H s):An X.K X.c X.base:=I.b.e
def aE.A1(I:aE X pins σ H s):X.K.In s.heap:=I.b.e.a.keeps I.bk
def aE.D2(I:aE X pins σ H s):s.heap.NoLimit:=I.b.e.c.keeps I.bk
def aE.lt(I:aE X pins σ H s):X.env.locals<s⁻¹:=let ⟨_,a,_⟩:=I.d;a.lt
def aE.sz(I:aE X pins σ H s):X.d⁻¹<=s⁻¹:=dg I.b.f<|yU I.lt
def aE.C5(I:aE X pins σ H s){a:Y}(h:s⁻¹<=a):a∉X.j:=λb=>by
 obtain⟨_,o,c,_⟩:=I.b.h.mem b;exact bu (iB (cR c)<|dg I.sz h)<|oH _
def aE.B4(I:aE X pins σ H s):∀x c,X.env.cells.lookup x=V c->c≠X.env.locals:=λx c e z=>by
 obtain⟨v,o,d,f⟩:=I.g x c e;obtain⟨m,⟨g,h,i,a,b,_⟩,_⟩:=I.d;rw[z,a] at d;cases d;rw[b] at f;cases f
def aE.B8(I:aE X pins σ H s):s.heap.FunFrames X.base X.outer:=by
 have a:∀(l:List gb),(∀b∈li l,b∈X.j)->X.d.heap.FunFrames X.base l->s.heap.FunFrames X.base l:=by
  intro l
  induction l with
  |nil=>intro _ _;trivial
  |cons h r i=>
   intro g j;obtain⟨k,⟨L,o,c,m,n,p⟩,q⟩:=j;have d:L∈X.j:=g L (by unfold li;rw[IF,c];exact dQ);obtain⟨t,e⟩:=I.base.d L o n (I.b.m L d) d λz=>I.b.p L z d;exact(k,(L,_,c,m,e,p),i (λb f=>g b (by unfold li;rw[IF,c];exact eV _ f)) q)
 exact a X.outer (λ_ f=>f) I.b.h
def aE.B2(I:aE X pins σ H s):s.heap.FunFrames X.base X.e:=by
 rcases I.b.q with e|⟨e,a⟩
 ·rw[e];exact I.B8
 ·rw[e]
  obtain⟨m,b,_⟩:=I.d;refine .cons (by rw[I.b.d];decide) a b ?_ I.B8;exact Heap.get?_none_of_le<|dg I.b.g I.b.f
def aE.A3(I:aE X pins σ H s):∀b∈li X.e,b∈X.env.locals::X.j:=λb a=>by
 rcases I.b.q with e|⟨e,c⟩
 ·rw[e] at a;exact eV _ a
 ·rw[e] at a
  unfold li at a;rw[IF,c] at a;exact a
def aE.C0(I:aE X pins σ H s):∀b∈li X.e,H b=Z:=λb a=>by
 rcases bZ.mp (I.A3 b a) with e|a
 ·rw[e];exact I.h
 ·obtain⟨_,o,c,_⟩:=I.b.h.mem a
  exact I.base.a b o c (I.b.m b a) λz=>I.b.p b z a
def aE.step{t':Nat}{d':Drawn}{ch:List Y}(I:aE X pins σ H s)(g:∀b∈ch,(b∈X.g\/X.d⁻¹<=b)/\b≠X.env.locals/\(∀x c,X.env.cells.lookup x=V c->c≠b)/\∀p∈X.h++pins,p.1≠b)(h:∀b o,b≠X.env.locals->b∉X.j->b∉ch->s.heap.get? b=V o->H b=Z->h'.get? b=V o)(A:∀b o,b≠X.env.locals->b∈X.j->b∉ch->s.heap.get? b=V o->H b=Z->∃U,h'.get? b=V {o with slots:=U})(f:∀b o,b∉ch->s.heap.get? b=V o->H b=Z->H' b=Z)(D:∀b o,b∉ch->s.heap.get? b=V o->∃K,h'.get? b=V K)(L:∀b C,H b=V (.b C)->H' b=V (.b C))(M:∀b o u,H b=V (.d o u)->H' b=V (.d o u))(P:∀b T,H b=V (.h T)->∃Q,H' b=V (.h<|T++Q))(ns:∀m,s.heap.Ns X.env.locals m->h'.Ns X.env.locals m)(a0:gF X.prog X.w H' h')(hg:rW g'):aE X pins σ H' {s with heap:=h',gens:=g',drawn:=d',toks:=t'}:=by
 have R:∀b o,X.d.heap.get? b=V o->b≠X.env.locals:=λb o e=>dz<|iB (cR e) I.b.f;have w:∀b o,X.d.heap.get? b=V o->b∉X.g->b∉ch:=λb o e a E=>by
  rcases(g b E).1 with z|z
  ·exact a z
  ·exact bu (iB (cR e) z)<|oH _
 have j:∀x c,X.env.cells.lookup x=V c->∀v,s.heap.IsCell c v->h'.IsCell c v:=λx c e v (o,G,hd)=>by
  have t:c∉ch:=λz=>(g c z).2.2.1 x c e O
  by_cases hc:c∈X.j
  ·obtain⟨U,q⟩:=A c o (I.B4 x c e) hc t G<|I.k x c e
   exact(_,q,hd)
  ·exact(o,h c o (I.B4 x c e) hc t G<|I.k x c e,hd)
 refine(I.b,I.l,hg,(λb o e n E a=>?_,λb o e n E a=>?_,λb o e n a=>?_,λb o e a=>?_,λb C e=>L b C<|I.base.g b C e,λb o C e=>M b o C<|I.base.e b o C e,λb T e=>?_),?_,λx c e=>?_,?_,λx c e=>?_,λp hp=>?_,a0,I.n)
 ·exact h b o (R b o e) E (w b o e a) (I.base.c b o e n E a)<|I.base.a b o e n a
 ·obtain⟨U,y⟩:=I.base.d b o e n E a
  obtain⟨a1,S⟩:=A b _ (R b o e) E (w b o e a) y<|I.base.a b o e n a;exact(a1,S)
 ·obtain⟨K,y⟩:=I.base.f b o e a
  exact f b K (w b o e a) y<|I.base.a b o e n a
 ·obtain⟨K,y⟩:=I.base.f b o e a
  exact D b K (w b o e a) y
 ·obtain⟨m1,y⟩:=I.base.i b T e
  obtain⟨m2,S⟩:=P b _ y;exact(m1++m2,by rw[S,Array.append_assoc])
 ·obtain⟨m,hn,hl⟩:=I.d
  refine(m,ns m hn,λi x v y S e3=>?_);obtain⟨u,r,l⟩:=hl i x v y S e3;refine(u,r,?_);rcases l with l|⟨k,c,e,z⟩
  ·exact .inl l
  ·exact .inr (k,c,e,j x c e _ z)
 ·obtain⟨v,z⟩:=I.g x c e
  exact(v,j x c e v z)
 ·obtain⟨m,⟨o,_,_,G,_⟩,_⟩:=I.d
  exact f _ o (λz=>(g _ z).2.1 O) G I.h
 ·obtain⟨v,o,G,hd⟩:=I.g x c e
  exact f c o (λz=>(g c z).2.2.1 x c e O) G<|I.k x c e
 ·obtain⟨e,n,ne,nf,d⟩:=I.e p hp
  have t:p.1∉ch:=λz=>(g p.1 z).2.2.2 p hp O;exact(h p.1 p.2 ne nf t e n,f p.1 p.2 t e n,ne,nf,d)
def aE.un{t':Nat}(I:aE X pins σ H s)(u:n_ X.j [] H H' s.heap h')(c:gF X.prog X.w H' h'):aE X pins σ H' {s with heap:=h',toks:=t'}:=by
 obtain⟨m,⟨o,l,p,h,r⟩,_⟩:=id I.d;obtain⟨q,i⟩:=u.q h I.h (by simp);exact I.step (g':=s.gens) (d':=s.drawn) (ch:=[]) (λ_ z=>nomatch z) (λb o _ d _ e n=>u.c b o e n d (by simp)) (λb o _ d _ e n=>u.d b o e n d (by simp)) (λb o _ e n=>u.a b o e n (by simp)) (λb o _ e=>u.f b o e (by simp)) u.g u.e u.i (λt j=>by
  obtain⟨v,f,g,a,k⟩:=j;rw[h] at a;cases a;exact(_,f,g,i,k)) c I.f
def aE.C2{t':Nat}{d':Drawn}(I:aE X pins σ H s)(u:n_ (li X.e) ch H H' s.heap h')(g:gF X.prog X.w H' h')(l:rW g')(d:∀b∈ch,(b∈X.g\/X.d⁻¹<=b)/\b≠X.env.locals/\(∀x c,X.env.cells.lookup x=V c->c≠b)/\∀p∈X.h++pins,p.1≠b):aE X pins σ H' {s with heap:=h',gens:=g',drawn:=d',toks:=t'}:=by
 obtain⟨m,⟨o,w,y,k,r⟩,_⟩:=id I.d;obtain⟨A,h⟩:=u.q k I.h λz=>(d _ z).2.1 O;exact I.step (ch:=ch) d (λb o h q a e n=>u.c b o e n (λz=>(bZ.mp<|I.A3 b z).elim h q) a) (λb o _ _ a e n=>u.q e n a) (λb o a e n=>u.a b o e n a) (λb o a e=>u.f b o e a) u.g u.e u.i (λC t=>by
  obtain⟨D,i,j,f,v⟩:=t;rw[k] at f;cases f;exact(_,i,j,h,v)) g l
def aE.S{t':Nat}{a:Y}(I:aE X pins σ H s)(k:∀b o,b≠a->s.heap.get? b=V o->h'.get? b=V o)(h:H a=Z)(g:a≠X.env.locals)(i:a∈X.g\/X.d⁻¹<=a)(j:∀x c,X.env.cells.lookup x=V c->c≠a)(l:∀p∈X.h++pins,p.1≠a):aE X pins σ H {s with heap:=h',toks:=t'}:=by
 have f:∀b u,H b=V u->b≠a:=λb u e z=>by rw[z,h] at e;cases e
 refine I.step (g':=s.gens) (d':=s.drawn) (ch:=[a]) (λb t=>?_) (λb o _ _ d e _=>k b o (λz=>d (by simp[z])) e) (λb o _ _ d e _=>(o.slots,k b o (λz=>d (by simp[z])) e)) (λ_ _ _ _ n=>n)
  (λb o d e=>(o,k b o (λz=>d (by simp[z])) e)) (λ_ _ e=>e) (λ_ _ _ e=>e) (λb D e=>(#[],by rw[e];simp)) (λm w=>?_) (λb u e=>?_) I.f
 ·have e:b=a:=by simpa using t
  subst e;exact(i,g,j,l)
 ·obtain⟨o,y,A,C,r⟩:=w
  exact(o,y,A,k _ o (eA g) C,r)
 ·refine(I.a b u e).j (λc v d q=>k c v ?_ q) (λ_ q=>q) λ_ _ q=>q
  rcases d with z|z
  ·rw[z];exact f b u e
  ·exact f c _ z
def aE.J(I:aE X pins σ H s)(t:Nat):aE X pins σ H {s with toks:=t}:=I.un (h':=s.heap) (t':=t) n_.J I.a
noncomputable def aE.B{t':Nat}(I:aE X pins σ H s)(k:∀b u,s.heap.get? b=V u->h'.get? b=V u):aE X pins σ H {s with heap:=h',toks:=t'}:=I.un (n_.j k)<|I.a.q k
noncomputable def aE.F{a:Y}{t':Nat}(I:aE X pins σ H s)(k:∀b u,s.heap.get? b=V u->h'.get? b=V u)(c:s⁻¹<=a)(d:dt X.prog X.w (aw H a o) h' a o):aE X pins σ (aw H a o) {s with heap:=h',toks:=t'}:=I.un (n_.B k c<|I.a.j c)<|I.a.B k c d
def aE.B1{x e:Y}{g:Nat}(I:aE X pins σ H s)(d:xa (H x))(f:e=x\/H e=V (.g x))(k:∀b u,b≠e->s.heap.get? b=V u->h'.get? b=V u)(a:∃u,h'.get? e=V u)(c:dt X.prog X.w (aw H x o) h' x o):aE X pins σ (aw H x o) {s with heap:=h',toks:=g}:=I.un (n_.F d f k a)<|I.a.J d f k a c
def aE.B6{a:Ψ}(I:aE X pins σ H s)(h:∀p∈a,s.heap.get? p.1=V p.2/\H p.1=Z/\p.1≠X.env.locals/\p.1∉X.j/\∀v,p.2.data≠.cell v):aE X a σ H s:=
 (I.b,I.l,I.f,I.base,I.d,I.g,I.h,I.k,λp b=>(cy.mp b).elim (λz=>I.e p<|fR _ z)<|h p,I.a,I.n)
def KT{h:List au}(c:h.Nodup){i j:Nat}(a:h[i]?=V x)(b:h[j]?=V x):i=j:=by
 obtain⟨f,d⟩:=cr.mp a;obtain⟨g,e⟩:=cr.mp b;exact(List.getElem_inj c).mp<|d.trans e.symm
def J'{M:yH}{i:Nat}{Q:Unit->ak->Prop}(I:aE X pins σ H s)(hN:X.N.Nodup)(T:X.N[i]?=V x)(w:rp X.env.scope x)(r:co v u)(h:∀s',aE X pins (σ.set i<|V v) H s'->(∃a,jc a s.heap s'.heap/\(a=X.env.locals\/X.env.cells.lookup x=V a))->Q () s')(hf:X.f x=af\/X.env.scope.names.lookup x=V .local:=by first|exact .inl rfl|exact .inr rfl|assumption):aA M A (storeName X.env x u) Q E s:=by
 obtain⟨m,hn,hl⟩:=id I.d;have U:(X.env.scope.kind==.class|| (X.env.scope.kind==.module&&X.env.locals != X.env.globals))=aB:=by rw[I.b.d];rfl
 have G:i<σ.length:=by rw[I.n];exact(cr.mp T).1
 have L:=I.B4;have g:∀{a:Y}{h':aT},(∃o,s.heap.get? a=V o/\H a=Z)->jc a s.heap h'->gF X.prog X.w H h':=λ{a h'} ha f b ob e=>by
  obtain⟨_,_,C⟩:=ha;refine(I.a b ob e).j (λc w' t q=>(f.2 c ?_).trans q) (λ_ q=>q) λ_ _ q=>q;rintro rfl;rcases t with rfl|t
  ·rw[C] at e;cases e
  ·rw[C] at t;cases t
 rcases w with K|K
 ·refine wpAny_storeName_local K hn (λh' a4 f=>?_) U
  obtain⟨oL,_,_,a5,_⟩:=id hn;refine h _ (I.b,I.l,I.f,(λb o e n P w=>?_,λb o e n P w=>?_,I.base.a,λb o e w=>?_,I.base.g,I.base.e,I.base.i),(_,a4,λj y v' l D e3=>?_),λy c e=>?_,I.h,I.k,λp hp=>?_,g (oL,a5,I.h) f,by simpa using I.n) (_,f,.inl O)
  ·exact(f.2 b<|dz<|iB (cR e) I.b.f).trans<|I.base.c b o e n P w
  ·obtain⟨sl,l⟩:=I.base.d b o e n P w
   exact(sl,(f.2 b<|dz<|iB (cR e) I.b.f).trans l)
  ·obtain⟨o',l⟩:=I.base.f b o e w
   exact(o',(f.2 b<|dz<|iB (cR e) I.b.f).trans l)
  ·by_cases R:j=i
   ·subst R
    rw[T] at l;cases l;rw[aet G] at D;cases D;exact(u,r,.inl (K,by simp))
   ·rw[aeu<|eA R] at D
    obtain⟨u',r',q⟩:=hl j y v' l D e3;refine(u',r',?_);rcases q with ⟨k,e⟩|⟨k,c,e,z⟩
    ·refine .inl (k,?_)
     have:y≠x:=λe=>R<|KT hN l<|e▸T;simp[this,e]
    ·exact .inr (k,c,e,z.sameBut f<|L y c e)
  ·obtain⟨w',z⟩:=I.g y c e
   exact(w',z.sameBut f<|L y c e)
  ·obtain⟨e,n,ne,nf,d⟩:=I.e p hp
   exact((f.2 p.1 ne).trans e,n,ne,nf,d)
 ·have S:X.f x=af:=by
   rcases hf with z|z
   ·exact z
   ·rw[z] at K;cases K
  obtain⟨c,t⟩:=I.b.has x<|.inl K;obtain⟨w',z⟩:=I.g x c t;refine wpAny_storeName_cell I.b.d K t z (λh' a0 f=>?_);obtain⟨oc,a1,a2⟩:=id z;refine h {s with heap:=h'} (I.b,I.l,I.f,(λb o e n P w=>?_,λb o e n P w=>?_,I.base.a,λb o e w=>?_,I.base.g,I.base.e,I.base.i),(m,hn.sameBut f<|eA<|L x c t,λj y v' l D e3=>?_),λy c' e=>?_,I.h,I.k,λp hp=>?_,g (oc,a1,I.k x c t) f,by simpa using I.n) (c,f,.inr t)
  ·exact(f.2 b<|dz<|iB (cR e)<|I.b.k x c S t).trans<|I.base.c b o e n P w
  ·obtain⟨sl,l⟩:=I.base.d b o e n P w
   exact(sl,(f.2 b<|dz<|iB (cR e)<|I.b.k x c S t).trans l)
  ·obtain⟨o',l⟩:=I.base.f b o e w
   exact(o',(f.2 b<|dz<|iB (cR e)<|I.b.k x c S t).trans l)
  ·by_cases R:j=i
   ·subst R
    rw[T] at l;cases l;rw[aet G] at D;cases D;exact(u,r,.inr (.inl K,c,t,a0))
   ·rw[aeu<|eA R] at D
    obtain⟨u',r',q⟩:=hl j y v' l D e3;refine(u',r',?_);rcases q with q|⟨k,c',e,z'⟩
    ·exact .inl q
    ·refine .inr (k,c',e,z'.sameBut f ?_)
     rintro rfl;exact R<|KT hN l<|I.b.n _ _ _ e t▸T
  ·by_cases a3:c'=c
   ·subst a3;exact(_,a0)
   ·obtain⟨w2,z2⟩:=I.g y c' e
    exact(w2,z2.sameBut f a3)
  ·obtain⟨e,n,ne,nf,d⟩:=I.e p hp
   refine((f.2 p.1 ?_).trans e,n,ne,nf,d);intro q;rw[q,a1] at e;have q':oc=p.2:=cH e;exact d w' (by rw[<-q'];exact a2)
def Ka{M:yH}{i:Nat}{Q:Unit->ak->Prop}(I:aE X pins σ H s)(b:X.N.Nodup)(c:X.N[i]?=V x)(d:rp X.env.scope x)(r:co v u)(h:∀a,aE X pins (σ.set i<|V v) H a->Q () a)(e:X.f x=af\/X.env.scope.names.lookup x=V .local:=by first|exact .inl rfl|exact .inr rfl|assumption):aA M A (storeName X.env x u) Q E s:=
 J' I b c d r (λa f _=>h a f) e
def aE.B3{s':ak}(I:aE X pins σ H s)(f:s'.os=s.os)(u:n_ (li X.e) ch H H' s.heap s'.heap)(a:gF X.prog X.w H' s'.heap)(g:rW s'.gens)(d:∀b∈ch,(b∈X.g\/X.d⁻¹<=b)/\b≠X.env.locals/\(∀x c,X.env.cells.lookup x=V c->c≠b)/\∀p∈X.h++pins,p.1≠b):aE X pins σ H' s':=by
 obtain⟨h',g',d',t',h⟩:=s';have e:h=s.os:=f;subst e;exact I.C2 (g':=g') (t':=t') (d':=d') u a g d
end
abbrev cZ:=aa->Option Y->ae->Prop
abbrev aO:=List<|Option ag
abbrev aS:=ag->ae->Prop
abbrev a_:=aO->ae->aS->Prop
abbrev eG:=aO->ae->(Bool->ae->Prop)->Prop
abbrev fX:=aO->ae->(List ag->ae->Prop)->Prop
structure og where
 a:aO->ae->Prop
 d:aS
 c:aO->ae->Prop:=λ_ _=>False
 b:aO->ae->Prop:=λ_ _=>False
abbrev gi:=og->aO->ae->Prop
def jj(X:bf)(a:Ψ)(c:aO)(Q:aS)(u:aa)(d:ak):Prop:=∃v b,aE X a c b d/\co v u/\Q v b
def Ex(X:bf)(a:Ψ)(d:aO)(Q:Bool->ae->Prop)(b:Bool)(e:ak):Prop:=∃c,aE X a d c e/\Q b c
def VP(X:bf)(a:Ψ)(d:aO)(Q:List ag->ae->Prop)(e:List aa)(f:ak):Prop:=∃b c,aE X a d c f/\cw b e/\Q b c
def w_(X:bf)(b:Ψ)(D:og)(f:Flow)(d:ak):Prop:=
 match f with
 |.next=>∃a c,aE X b a c d/\D.a a c
 |.brk=>∃a c,aE X b a c d/\D.c a c
 |.cont=>∃a c,aE X b a c d/\D.b a c
 |.ret u=>∃v a c,aE X b a c d/\co v u/\D.d v c
def bJ(X:bf)(e:bB)(t:a_):Prop:=
 ∀(a:Ψ)(s:ak)(b:aO)(H:ae)(Q:aS),aE X a b H s->t b H Q->aA (aH X.prog X.w) X.A (dC e X.env) (jj X a b Q) X.a s
def ku(X:bf)(e:bB)(t:eG):Prop:=
 ∀(a:Ψ)(s:ak)(b:aO)(H:ae)(Q:Bool->ae->Prop),aE X a b H s->t b H Q->aA (aH X.prog X.w) X.A (Hl e X.env<|dC e X.env) (Ex X a b Q) X.a s
def sP(X:bf)(e:bB)(t:eG):Prop:=
 ∀(b:dP aa)(a:Ψ)(s:ak)(c:aO)(H:ae)(Q:Bool->ae->Prop),aE X a c H s->t c H Q->aA (aH X.prog X.w) X.A (Hl e X.env b) (Ex X a c Q) X.a s
noncomputable def sP.j{t:eG}(h:sP X e t):ku X e t:=h _
def jR(X:bf)(d:List bB)(t:fX):Prop:=
 ∀(b:cD)(a:Ψ)(s:ak)(c:aO)(H:ae)(Q:List ag->ae->Prop),aE X a c H s->t c H Q->aA (aH X.prog X.w) X.A (spliced<|nr b<|fh d X.env) (VP X a c Q) X.a s
def kw(X:bf)(c:cN)(t:gi):Prop:=
 ∀(a:Ψ)(s:ak)(b:aO)(H:ae)(D:og),aE X a b H s->t D b H->aA (aH X.prog X.w) X.A (exec c X.env) (w_ X a D) X.a s
def ka(X:bf)(c:List cN)(t:gi):Prop:=
 ∀(a:Ψ)(s:ak)(b:aO)(H:ae)(D:og),aE X a b H s->t D b H->aA (aH X.prog X.w) X.A (execs c X.env) (w_ X a D) X.a s
def bM{b:Type}{t:dP b}{Q c:b->ak->Prop}{M:yH}{A:bY}{E:Ω}{s:ak}(h:aA M A t Q E s)(d:∀a s,Q a s->c a s):aA M A t c E s:=kL h d λ_ _ x=>x
section
variable{X:bf}
inductive bH(i:Nat)(σ:aO)(H:ae)(Q:aS):Prop
 |a:∀v,(σ[i]?=V (V v))->(Q v H)->bH i σ H Q
def gW(v:ag):a_:=λ_ H Q=>Q v H
def Uc{i:Nat}(o:X.N[i]?=V x)(p:Ai X.env.scope x)(j:(x==("__debug__":au))=aB:=by decide)(k:(x==("__classdict__":au))=aB:=by decide):bJ X (.Name x g) (bH i):=by
 intro f s q H Q I h;obtain⟨v,e,h⟩:=h;obtain⟨m,t,w⟩:=I.d;obtain⟨u,r,l⟩:=w i x v o e p;have b:jj X f q Q u s:=(v,H,I,r,h);rcases l with ⟨d,y⟩|⟨d,c,n,a⟩
 ·exact Pg (wpAny_loadName_local I.b.d d t y b) j
 ·rcases d with d|d
  ·exact Pg (wpAny_loadName_cell I.b.d d n a b) j
  ·exact Pg (wpAny_loadName_free I.b.d d n a b k) j
def bg{i j a}:bJ X (.Constant (.int i) j a) (gW<|.d i):=λ_ _ _ H _ I h=>wpAny_Constant_int (.d i,H,I.J _,(_,O),h)
def kr{b j a}:bJ X (.Constant (.bool b) j a) (gW<|.e b):=λ_ _ _ H _ I h=>Constant_bool (.e b,H,I,O,h)
def KL{j a}:bJ X (.Constant .none j a) (gW .g):=λ_ _ _ H _ I h=>Constant_none (.g,H,I,O,h)
def ic{x j a}:bJ X (.Constant (.str x) j a) (gW<|.f x):=λ_ _ _ H _ I h=>Calls.Constant_str (.f x,H,I.J _,(_,O),h)
def kC(X:bf)(x:au):Prop:=X.env.kindOf x=V .globalImplicit
def Ei{b:cD}{Q:Ω}(I:aE X a c H s)(d:kC X x)(e:X.c x=V u)(h:Q u s)(f:(x==("__debug__":au))=aB:=by decide):aA (aH X.prog X.w) X.A (dC (.Name x b) X.env) Q E s:=
 adb I.b.d d (Calls.loadGlobal_global (by rw[I.b.j];exact I.A8.b.keeps I.bk) e h) f
def pZ{b:cD}{Q:Ω}(I:aE X a c H s)(d:kC X x)(e:X.c x=Z)(f:hC x=V u)(h:Q u s)(g:x≠"__name__":=by decide)(i:(x==("__debug__":au))=aB:=by decide):aA (aH X.prog X.w) X.A (dC (.Name x b) X.env) Q E s:=by
 obtain⟨l,j,k⟩:=I.A8.d;exact adb I.b.d d (Calls.loadGlobal_builtin (by rw[I.b.j];exact I.A8.b.keeps I.bk) e (by rw[I.b.l];exact j.keeps I.bk) ((k x g).trans f) h) i
def zY(b:kC X x)(c:X.c x=V u)(r:co v u)(d:(x==("__debug__":au))=aB:=by decide):bJ X (.Name x a) (gW v):=
 λ_ _ _ H _ I h=>Ei I b c (v,H,I,r,h) d
variable{a b:bB}{ta tb:a_}{pos:cD}
def Am(X:bf)(g:uf)(a b:bB)(t:a_):Prop:=
 ∀(c:Ψ)(s:ak)(f:aO)(H:ae)(Q:aS),aE X c f H s->t f H Q->
  aA (aH X.prog X.w) X.A (dC a X.env) (λv d=>aA (aH X.prog X.w) X.A (dC b X.env) (λu e=>aA (aH X.prog X.w) X.A (iz g v u) (jj X c f Q) X.a e) X.a d) X.a s
def KU(b:bB){a:uf}(h:a≠.In)(c:a≠.NotIn):tS a b=aB:=by
 have d:(a==wa)=aB:=by cases a<;>first|rfl|exact bu O h
 have e:(a==v_)=aB:=by cases a<;>first|rfl|exact bu O c
 cases b<;>simp[tS,d,e]
def DP(t:a_):eG:=λa H Q=>t a H λx b=>∃c,x=.e c/\Q c b
def Ea{t:a_}(h:Am X d a b t)(e:tS d b=aB:=by first|exact KU _ ξ ξ|rfl):bJ X (.Compare a [d] [b] pos) t:=λc s f H Q I g=>wpAny_Compare1 (h c s f H Q I g) e
def zU{t:a_}(h:Am X f a b t)(g:tS f b=aB:=by first|exact KU _ ξ ξ|rfl):ku X (.Compare a [f] [b] pos) (DP t):=by
 intro e s i H Q I j;refine aa5 (bM (h e s i H _ I j) λv p g=>bM g λu r k=>bM k λc w (x,l,m,n,o)=>?_) g;obtain⟨d,rfl,q⟩:=o;cases n;exact qC (l,m,q)
def uK{t:a_}(h:bJ X e t)(c:∀a,Hl e X.env a=(do let v <-a;standAt e.pos;yv [v] (truthy v)):=by intro _;rfl):ku X e (DP t):=by
 intro b s f H Q I g;refine isTrue_plain (bM (h b s f H _ I g) λv m (x,i,j,k,l)=>?_)<|c _;obtain⟨d,rfl,q⟩:=l;cases k;exact qC (i,j,q)
variable{tA tB':eG}{rest:List bB}
def TD(t u:eG):eG:=λa H Q=>t a H λc b=>if c=af then u a b Q else Q aB b
def Tj(t u:eG):eG:=λa H Q=>t a H λc b=>if c=af then Q af b else u a b Q
def Tk(t:eG):eG:=λa H Q=>t a H λc b=>Q (!c) b
def Kx(d:ku X a tA):sP X (.BoolOp .And [a] pos) tA:=by
 intro g b s f H Q I h;refine isTrue_and<|bM (d b s f H Q I h) λc i e=>?_;cases c with
 |true=>exact isTrue_and_nil e
 |false=>exact e
def DW(d:ku X a tA):sP X (.BoolOp .Or [a] pos) tA:=by
 intro g b s f H Q I h;refine isTrue_or<|bM (d b s f H Q I h) λc i e=>?_;cases c with
 |false=>exact isTrue_or_nil e
 |true=>exact e
def Ky(j:ku X a tA)(k:sP X (.BoolOp .And (b::rest) pos) tB'):sP X (.BoolOp .And (a::b::rest) pos) (TD tA tB'):=by
 intro l d s e H Q I h;refine isTrue_and<|bM (j d s e H _ I h) λc m (f,g,i)=>?_;cases c with
 |true=>exact k l d m e f Q g i
 |false=>exact(f,g,i)
def DX(j:ku X a tA)(k:sP X (.BoolOp .Or (b::rest) pos) tB'):sP X (.BoolOp .Or (a::b::rest) pos) (Tj tA tB'):=by
 intro l d s e H Q I h;refine isTrue_or<|bM (j d s e H _ I h) λc m (f,g,i)=>?_;cases c with
 |true=>exact(f,g,i)
 |false=>exact k l d m e f Q g i
def zT(d:ku X a tA):ku X (.UnaryOp .Not a pos) (Tk tA):=by
 intro b s e H Q I h;exact isTrue_not<|d b s e H (λc f=>Q (!c) f) I h
def TC(ta tb:a_):a_:=λa H Q=>ta a H λx b=>∃c,x=.e c/\if c=af then tb a b Q else Q (.e aB) b
def Ue{c}{t:a_}(h:bJ X a t):bJ X (.BoolOp c [a] pos) t:=λb s d H Q I e=>BoolOp_one<|h b s d H Q I e
def Ul(j:bJ X a ta)(k:bJ X (.BoolOp .And (b::rest) pos) tb):bJ X (.BoolOp .And (a::b::rest) pos) (TC ta tb):=by
 intro d s f H Q I h;refine BoolOp_and<|bM (j d s f H _ I h) λv l (x,g,i,m,e)=>?_;obtain⟨c,rfl,e⟩:=e;cases m;refine qC ?_;cases c with
 |true=>exact k d l f g Q i e
 |false=>exact(.e aB,g,i,O,e)
def JX(t:eG)(ta tb:a_):a_:=λa H Q=>t a H λc b=>if c=af then ta a b Q else tb a b Q
def Uh(l:ku X c tA)(m:bJ X a ta)(n:bJ X b tb):bJ X (.IfExp c a b pos) (JX tA ta tb):=by
 intro e s f H Q I h;refine wpAny_IfExp<|bM (l e s f H _ I h) λd g (i,j,k)=>?_;cases d with
 |true=>exact m e g f i Q j k
 |false=>exact n e g f i Q j k
end
def bP(K:aR)(H:ae)(a:Y)(c:List ag):Prop:=
 iY H a (.a c) \/
  ∃(o:bA)(b:Array aa)(n:Nat),K.lookup a=V o/\o.cls=.type "list"/\o.dict=Z/\o.data=.seq b n/\b.size<=bQ/\cw c b.toList
def fM(K:aR)(H:ae)(a:Y)(c:List ag):Prop:=
 iY H a (.b c) \/
  ∃(o:bA)(b:Array aa)(n:Nat),K.lookup a=V o/\o.cls=.type "tuple"/\o.data=.seq b n/\b.size<=bQ/\cw c b.toList
noncomputable def VH:aa->Option ag
 |.none=>V .g
 |.bool b=>V (.e b)
 |.int i _=>V (.d i)
 |.str x _=>V (.f x)
 |.bytes b _=>V (.h b)
 |.float b _=>V (.j b)
 |.ref a=>V (.c a)
 |.type n=>V (.k n)
 |_=>Z
noncomputable def co.j(r:co x u):VH u=V x:=by
 cases x with
 |g=>cases r;rfl
 |e _=>cases r;rfl
 |d _=>obtain⟨t,rfl⟩:=r;rfl
 |f _=>obtain⟨t,rfl⟩:=r;rfl
 |h _=>obtain⟨t,rfl⟩:=r;rfl
 |j _=>obtain⟨t,rfl⟩:=r;rfl
 |c _=>cases r;rfl
 |k _=>cases r;rfl
def co.q(r:co x u)(q:co y u):x=y:=cH<|r.j.symm.trans q.j
def cw.S{b a:List ag}(h:cw b c)(g:cw a c):b=a:=by
 induction h generalizing a with
 |nil=>cases g;rfl
 |cons r t d=>cases g with|cons e f=>rw[r.q e,d f]
section
variable{X:bf}{pins:Ψ}{σ:aO}{H:ae}{s:ak}{a:Y}{xs ys:List ag}
noncomputable def bP.j{K:aR}(h:H a=V (.a xs)):bP K H a xs:=.inl<|.inl h
noncomputable def fM.j{K:aR}(h:H a=V (.b xs)):fM K H a xs:=.inl<|.inl h
noncomputable def aE.j(I:aE X pins σ H s)(h:bP X.K H a xs):∃b:List aa,cw xs b/\PlainL s.heap a b.toArray/\xs.length<=bQ:=by
 rcases h with h|⟨o,b,n,c,d,f,g,i,r⟩
 ·obtain⟨z,b,n,r,e⟩:=h.j I.a
  exact(b,r,(_,n,e,O,O,O),z)
 ·refine(b.toList,r,(o,n,I.A1 a o c,d,f,by simpa using g),?_)
  have e:=r.j;simp only[gR] at e;exact à (å e) i
def aE.q(I:aE X pins σ H s)(h:fM X.K H a xs):∃b:List aa,cw xs b/\kP s.heap a b.toArray/\xs.length<=bQ:=by
 rcases h with h|⟨o,b,n,c,d,f,g,r⟩
 ·obtain⟨z,b,r,p⟩:=h.j I.a
  exact(b,r,p,z)
 ·refine(b.toList,r,(o,I.A1 a o c,d,n,by simpa using f),?_)
  have e:=r.j;simp only[gR] at e;exact à (å e) g
def aE.A5(I:aE X pins σ H s)(h:bP X.K H a xs)(i:bP X.K H a ys):xs=ys:=by
 obtain⟨c,r,⟨o,n,e,_,_,d⟩,_⟩:=I.j h;obtain⟨b,j,⟨k,l,f,_,_,g⟩,_⟩:=I.j i;rw[e] at f;cases f;rw[d] at g;injection g with d1 _
 have:c=b:=by simpa using eW cm d1
 subst this;exact r.S j
def aE.A2(I:aE X pins σ H s)(h:fM X.K H a xs)(i:fM X.K H a ys):xs=ys:=by
 obtain⟨c,r,⟨o,e,_,n,d⟩,_⟩:=I.q h;obtain⟨b,j,⟨k,f,_,l,g⟩,_⟩:=I.q i;rw[e] at f;cases f;rw[d] at g;injection g with d1 _
 have:c=b:=by simpa using eW cm d1
 subst this;exact r.S j
end
noncomputable abbrev bf.B(X:bf)(E:Ω):bf:={X with a:=E}
noncomputable abbrev bf.F(X:bf):bf:=X.B λ_ _=>False
noncomputable def bf.q.F{X:bf}(a:X.q)(E:Ω):(X.B E).q:=
 (a.e,a.d,a.j,a.l,a.f,a.n,a.has,a.k,a.a,a.r,a.q,a.s,a.bs,a.g,a.i,a.p,a.h,a.m)
def bf.q.J{X:bf}(a:(X.B E).q):X.q:=
 (a.e,a.d,a.j,a.l,a.f,a.n,a.has,a.k,a.a,a.r,a.q,a.s,a.bs,a.g,a.i,a.p,a.h,a.m)
section
variable{X:bf}{pins:Ψ}{σ:aO}{H:ae}{s:ak}{E:Ω}
def aE.C9(I:aE X pins σ H s)(E:Ω):aE (X.B E) pins σ H s:=(I.b.F E,I.l,I.f,I.base,I.d,I.g,I.h,I.k,I.e,I.a,I.n)
def aE.A6(I:aE (X.B E) pins σ H s):aE X pins σ H s:=(I.b.J,I.l,I.f,I.base,I.d,I.g,I.h,I.k,I.e,I.a,I.n)
noncomputable def w_.j(h:w_ (X.B E) pins D f c):w_ X pins D f c:=by
 cases f with
 |next=>obtain⟨a,b,I,q⟩:=h;exact(a,b,I.A6,q)
 |brk=>obtain⟨a,b,I,q⟩:=h;exact(a,b,I.A6,q)
 |cont=>obtain⟨a,b,I,q⟩:=h;exact(a,b,I.A6,q)
 |ret u=>obtain⟨v,a,b,I,r,q⟩:=h;exact(v,a,b,I.A6,r,q)
noncomputable def ka.j{t:gi}(h:ka X.F a t):ka X a t:=λpins s σ H D I b=>
 kL (h pins s σ H D (I.C9 _) b) (λ_ _ q=>q.j) λ_ _ z=>iC z
end
section
variable{X:bf}{st:cN}{rest:List cN}{t u:gi}{e:bB}{te:a_}{pos:cD}
def Tl:gi:=λD a H=>D.a a H
def JW(t u:gi):gi:=λD a H=>t {D with a:=u D} a H
def fV:ka X [] Tl:=λ_ _ a H _ I h=>Hc (a,H,I,h)
def bx(c:kw X st t)(d:ka X rest u):ka X (st::rest) (JW t u):=by
 intro a s e H D I h;refine aa8<|bM (c a s e H {D with a:=u D} I h) λf g q=>?_;cases f with
 |next=>
  obtain⟨b,i,j,q⟩:=q;exact d a g b i D j q
 |ret v=>exact q
 |brk=>exact q
 |cont=>exact q
def bF(b:kw X st t):ka X [st] t:=by
 intro a s c H D I h;refine aa8<|bM (b a s c H D I h) λf d q=>?_;cases f with
 |next=>exact Hc q
 |ret v=>exact q
 |brk=>exact q
 |cont=>exact q
def Tz:gi:=λD a H=>D.b a H
def TU:kw X (.Continue pos) Tz:=λ_ _ a H _ I h=>wpAny_Continue (a,H,I,h)
def aE.C8{a:Ψ}{b:aO}(I:aE X a b H s):interactive X.env=aB:=by simp[interactive,I.b.d]
def Tu(te:a_):gi:=λD a H=>te a H λ_ b=>D.a a b
def nR(c:bJ X e te)(d:vP e Z pos.line X.env=aU aB:=by rfl):kw X (.Expr e pos) (Tu te):=by
 intro a s b H D I h;exact wpAny_Expr_any (bM (c a s b H _ I h) λv j (x,f,g,k,i)=>(b,f,g,i)) I.C8 d
def Ti(te:a_):gi:=λD a H=>te a H D.d
def cY(c:bJ X e te):kw X (.Return (V e) pos) (Ti te):=by
 intro a s b H D I h;exact wpAny_Return_some<|bM (c a s b H _ I h) λv j (x,d,f,g,i)=>(x,b,d,f,g,i)
def Tr(c:eG)(t u:gi):gi:=λD a H=>c a H λb d=>if b=af then t D a d else u D a d
def fJ{a b:List cN}(m:ku X c g)(n:ka X a t)(o:ka X b u):kw X (.If c a b pos) (Tr g t u):=by
 intro e s f H D I h;refine wpAny_If<|bM (m e s f H _ I h) λd i (j,k,l)=>?_;cases d with
 |true=>exact n e i f j D k l
 |false=>exact o e i f j D k l
def Tn:gi:=λ_ _ _=>False
def zV:ka X a Tn:=λ_ _ _ _ _ _ h=>h.elim
end
abbrev gj:=ag->aO->ae->(aO->ae->Prop)->Prop
abbrev sO:=List ag->aO->ae->(aO->ae->Prop)->Prop
def kx(X:bf)(a:bB)(t:gj):Prop:=
 ∀(b:Ψ)(s:ak)(d:aO)(H:ae)(v:ag)(u:aa)(Q:aO->ae->Prop),aE X b d H s->co v u->t v d H Q->
  aA (aH X.prog X.w) X.A (vR a X.env u) (λ_ f=>∃c e,aE X b c e f/\Q c e) X.a s
def Al(X:bf)(g:List bB)(t:sO):Prop:=
 ∀(a:Ψ)(s:ak)(c:aO)(H:ae)(d:List ag)(e:List aa)(Q:aO->ae->Prop),aE X a c H s->cw d e->t d c H Q->
  aA (aH X.prog X.w) X.A (assignInOrder ((yw g X.env).map (·.2)) e) (λ_ h=>∃b f,aE X a b f h/\Q b f) X.a s
abbrev Ew:=ag->ag->ag->ae->(ae->Prop)->Prop
def Mb(X:bf)(t:Ew):Prop:=
 ∀(a:Ψ)(s:ak)(b:aO)(H:ae)(o i v:ag)(c d u:aa)(Q:ae->Prop),aE X a b H s->co o c->co i d->co v u->t o i v H Q->
  aA (aH X.prog X.w) X.A (setItem c d u) (λ_ f=>∃e,aE X a b e f/\Q e) X.a s
section
variable{X:bf}{pos:cD}
def dk(i:Nat):gj:=λv a H Q=>Q (a.set i<|V v) H
def ca{i:Nat}(b:X.N.Nodup)(c:X.N[i]?=V x)(d:rp X.env.scope x)(e:X.f x=af\/X.env.scope.names.lookup x=V .local:=by first|exact .inl rfl|exact .inr rfl|assumption):kx X (.Name x pos) (dk i):=by
 intro a s g H v u Q I r h;exact abb<|Ka I b c d r (λj f=>(_,H,f,h)) e
def uT:sO:=λa b H Q=>a=[]/\Q b H
def nY(t:gj)(u:sO):sO:=λb c H Q=>∃v r,b=v::r/\t v c H λa d=>u r a d Q
def sG:Al X [] uT:=by
 intro a s b H c d Q I r h;obtain⟨e,h⟩:=h;subst e;cases r;exact assignInOrder_nil (b,H,I,h)
def k_{b:List bB}{t:gj}(d:kx X e t)(f:Al X b u)(g:(yw (e::b) X.env).map (·.2)=vR e X.env::(yw b X.env).map (·.2):=by rfl):Al X (e::b) (nY t u):=by
 intro a s i H p q Q I r h;obtain⟨v,w,j,h⟩:=h;subst j;cases r with
 |cons r k=>
  rw[g];refine assignInOrder_cons<|bM (d a s i H _ _ _ I r h) λ_ l (c,m,n,o)=>?_;exact f a l c m _ _ Q n k o
def uS(K:aR)(n:Nat)(t:sO):gj:=λv c H Q=>∃a b,v=.c a/\fM K H a b/\b.length=n/\t b c H Q
def sH{k:Nat}{t:sO}{n:Nat}(l:X.b=af)(h:Al X d t)(m:(yw d X.env).length=n:=by rfl)(f:(yw d X.env).findIdx? (·.1)=Z:=by rfl):kx X (.Tuple d k pos) (uS X.K n t):=by
 intro c s i H v u Q I r g;obtain⟨a,p,q,w,x,g⟩:=g;subst q;cases r;obtain⟨y,j,z,E⟩:=I.q w;refine assign_Tuple_tuple (I.b.a l) z (by simp[m,<-x,j.j]) f λA C=>?_;have D:aE X c i H {s with heap:=A}:=I.B (t':=s.toks) λb o e=>C b o (dz<|cR e) e;exact h c _ i H p _ Q D (by simpa using j) g
def Vb(b c:a_)(t:Ew):gj:=λv a H Q=>b a H λo d=>c a d λi e=>t o i v e λf=>Q a f
def KI{o i:bB}{t:Ew}(g:bJ X o e)(j:bJ X i f)(k:Mb X t)(l:∀v,vR (.Subscript o i pos) X.env v=(do
   let b <-yv [v] (dC o X.env)
   let c <-yv [v,b] (dC i X.env)
   standAt pos
   yv [v,b,c] (setItem b c v)
   release [v,b,c] []):=by intro _;rfl):kx X (.Subscript o i pos) (Vb e f t):=by
 intro a s d H v u Q I r h;rw[l];refine aj<|il<|bM (g a s d H _ I h) λb m (x,n,p,q,w)=>?_;refine aj<|il<|bM (j a m d n _ p w) λc z (y,A,C,D,E)=>?_;refine aj<|O'<|aj<|il<|bM (k a z d A x y v b c u _ C q D r E) λ_ M (G,K,L)=>?_;exact wpAny_release (d,G,K,L)
def uJ(b:a_)(g:gj):gi:=λD a H=>b a H λx c=>g x a c D.a
def KC{b e:bB}(f:bJ X e c)(i:kx X b g)(j:swapsWithSole [b] e pos.line X.env=aU aB:=by rfl)(hw:swappedStores [b] e X.env=aU Z:=by rfl)(k:(yw [b] X.env).map (·.2)=[vR b X.env]:=by rfl):kw X (.Assign [b] e pos) (uJ c g):=by
 intro a s d H D I h;refine wpAny_Assign_stores (bM (f a s d H _ I h) λv l (x,m,n,o,p)=>?_) j hw;rw[k];exact bM (i a l d m x v _ n o p) λ_ r q=>q
def cu{i:Nat}(d:X.N.Nodup)(f:X.N[i]?=V x)(g:rp X.env.scope x)(j:bJ X e c)(k:vP e (V<|.Name x a) pos.line X.env=aU aB:=by rfl)(l:X.f x=af\/X.env.scope.names.lookup x=V .local:=by first|exact .inl rfl|exact .inr rfl|assumption):kw X (.Assign [.Name x a] e pos) (uJ c<|dk i):=by
 intro b s m H D I h;refine wpAny_Assign_Name (bM (j b s m H _ I h) λv t (y,n,o,p,q)=>?_) k;exact Ka o d f g p (λu r=>(_,n,r,q)) l
end
section
variable{X:bf}{pos:cD}
def Tf(c:eG)(h:gi):gi:=λD a H=>∃i:Nat->aO->ae->Prop,(∃m,i m a H)/\∀m a H,i m a H->
 c a H λb e=>if b=af then ∃j:aO->ae->Prop,(∀d f,j d f->∃g,g<m/\i g d f)/\h {D with a:=j,b:=j,c:=D.a} a e else D.a a e
def DZ{body:List cN}{t:eG}(w:PassesOwn (aH X.prog X.w) X.A X.env X.a)(E:ku X c t)(G:ka X body u):kw X (.While c body [] pos) (Tf t u):=by
 intro a s K H D I h;obtain⟨a0,⟨L,M⟩,g⟩:=h;refine wpAny_While<|codeAny_whileLoop (λn P=>∃i x,aE X a i x P/\a0 n i x) ?_ L (K,H,I,M);rintro n Q ⟨e,y,R,S⟩;refine vN w<|bM (E a Q e y _ R<|g n e y S) λb T (z,A,k)=>?_;cases b with
 |true=>
  obtain⟨a1,C,k⟩:=k;rw[az O];refine vN w<|bM (G a T e z _ A k) λf U l=>?_;cases f with
  |next=>
   obtain⟨d,j,m,o⟩:=l;obtain⟨p,q,r⟩:=C d j o;exact(p,q,d,j,m,r)
  |cont=>
   obtain⟨d,j,m,o⟩:=l;obtain⟨p,q,r⟩:=C d j o;exact(p,q,d,j,m,r)
  |brk=>exact l
  |ret v=>exact l
 |false=>
  rw[ap dT];exact Hc (e,z,A,k)
end
structure iZ where
 a:Nat->ae->Prop
 c:Nat->ae->ag->ae->Prop
 b:Nat->ae->Prop
def gl(X:bf)(a:Ψ)(H:ae)(b:Y):Prop:=
 H b=Z/\b≠X.env.locals/\b∉X.j/\(b∈X.g\/X.d⁻¹<=b)/\(∀x c,X.env.cells.lookup x=V c->c≠b)/\∀p∈X.h++a,p.1≠b
def aE.M{a:Ψ}{g:aO}{H f:ae}{b:Y}(I:aE X a g H s)(d:s⁻¹<=b)(h:f b=Z):gl X a f b:=by
 refine(h,lL<|iB I.lt d,I.C5 d,.inr<|dg I.sz d,λx c e z=>?_,λp i z=>?_)
 ·obtain⟨v,q⟩:=I.g x c e
  exact bu (iB q.lt (by rw[z];exact d))<|oH _
 ·exact bu (iB (cR (I.e p i).1) (by rw[z];exact d))<|oH _
structure oe(P:bw)(w:aX)(K:aR)(tg:bB)(J:iZ)(fp:List Y)(it:Y)(tn:Nat->aT->Prop):Prop where
 f:it∈fp
 a:∀i h,tn i h->∀b∈fp,∃o,h.get? b=V o/\∀v,o.data≠.cell v
 c:∀i h h',tn i h->(∀b∈fp,∀o,h.get? b=V o->h'.get? b=V o)->tn i h'
 d:∀(X:bf),X.prog=P->X.w=w->X.K=K->X.b=af->∀(i:Nat)(pins:Ψ)(s:ak)(σ:aO)(H:ae)(E:Ω),aE X pins σ H s->(∀b∈fp,gl X pins H b)->tn i s.heap->J.a i H->
  aA (aH P w) X.A (kd<|.ref it) (λr s1=>∃u,r=V u/\
   aA (aH P w) X.A (BP tg (.ref it) u) (λ_ s2=>∃x H',aE X pins σ H' s2/\co x u/\J.c i H x H'/\tn (i+1) s2.heap/\∀b∈fp,H' b=Z) E s1) E s
 done:∀(X:bf),X.prog=P->X.w=w->X.K=K->X.b=af->∀(i:Nat)(pins:Ψ)(s:ak)(σ:aO)(H:ae)(E:Ω),aE X pins σ H s->(∀b∈fp,gl X pins H b)->tn i s.heap->J.b i H->
  aA (aH P w) X.A (kd<|.ref it) (λr s1=>r=Z/\aE X pins σ H s1) E s
 e:∀(A:bY)(i:Nat)(s:ak)(Q:Ω)(E:Ω),tn i s.heap->Q (.ref it) s->aA (aH P w) A (pC<|.ref it) Q E s
abbrev ji:=aO->ae->(iZ->ae->Prop)->Prop
def Ez(X:bf)(a:Ψ)(i:aO)(j:bB)(R:iZ->ae->Prop)(c:aa)(e:ak):Prop:=
 ∃(f:Y)(g:List Y)(h:Nat->aT->Prop)(k:iZ)(d:ae),c=.ref f/\aE X a i d e/\oe X.prog X.w X.K j k g f h/\h 0 e.heap/\(∀b∈g,gl X a d b)/\R k d
def jp(X:bf)(d b:bB)(e:ji):Prop:=
 ∀(a:Ψ)(s:ak)(c:aO)(H:ae)(R:iZ->ae->Prop),aE X a c H s->e c H R->
  aA (aH X.prog X.w) X.A (dC b X.env) (λv f=>aA (aH X.prog X.w) X.A (pC v) (Ez X a c d R) X.a f) X.a s
def uR{M:yH}{s:ak}{b:bB}{n:String}{Q:Unit->ak->Prop}(e:s.heap.get? c=V o)(f:o.cls=.type n)(g:o.data=.fields d)(i:["enumerate","zip","dict_itemiterator","dict_reverseitemiterator","odict_iterator","itertools.zip_longest","itertools.pairwise"].contains n=aB)(a:Q () s):aA M A (BP b (.ref c) u) Q E s:=by
 unfold BP;cases b<;>first
  |exact aI a
  |(cases u<;>first
    |exact aI a
    |(refine aj<|wpAny_load e ?_;rw[f,g];show aA M A (if(["enumerate","zip","dict_itemiterator","dict_reverseitemiterator","odict_iterator","itertools.zip_longest","itertools.pairwise"].contains n&&d[0]?==V (iy _))=af then _ else _) Q E s;rw[ap (by intro h;rw[i,Rc] at h;cases h)];exact aI a))
noncomputable def gY(K:aR)(a:Y):iZ:=
 (λi H=>∃b x,bP K H a b/\b[i]?=V x,λi H x c=>c=H/\∀b,bP K H a b->b[i]?=V x,λi H=>∃b,bP K H a b/\b.length<=i)
noncomputable def rq(K:aR)(a:Y):iZ:=
 (λi H=>∃b x,fM K H a b/\b[i]?=V x,λi H x c=>c=H/\∀b,fM K H a b->b[i]?=V x,λi H=>∃b,fM K H a b/\b.length<=i)
noncomputable def kB(a:Int)(n:Nat):iZ:=(λi _=>i<n,λi H x b=>b=H/\x=.d (a+i),λi _=>n<=i)
def Tb{K:aR}(a j:Y):oe P w K tg (gY K a) [j] j (λi h=>h.IsListIter j a i) where
 f:=by simp
 a:=λi h f b l=>by
  have e:b=j:=by simpa using l
  subst e;obtain⟨o,e,c,d⟩:=f;exact(o,e,λv z=>by rw[d] at z;cases z)
 c:=λi h n f k=>f.at λo e=>k j (by simp) o e
 d:=by
  intro X t y A U i g s σ H E I q f C;subst t y A;obtain⟨xs,x,r,D⟩:=C;obtain⟨G,L,p,hz⟩:=I.j r;obtain⟨u,hu,ru⟩:=L.q D;obtain⟨M,Q,f2,R,S,T⟩:=q j (by simp);refine wpAny_pyNext_list_item f p.isList (x:=u) (by simpa using hu) λn m sb=>?_;have I1:aE X g σ H {s with heap:=n}:=I.S (t':=s.toks) (λb o l e=>(sb.2 b l).trans e) M Q R S T;obtain⟨o,e,c,d⟩:=id m;exact(u,O,uR (s:={s with heap:=n}) e c d ξ (x,H,I1,ru,(O,λys hy=>by rw[I.A5 hy r];exact D),m,λb l=>(q b l).1))
 done:=by
  intro X t y A U i g s σ H E I q f C;subst t y A;obtain⟨xs,r,D⟩:=C;obtain⟨G,L,p,hz⟩:=I.j r;obtain⟨M,Q,f2,R,S,T⟩:=q j (by simp);have hl:=L.j;exact wpAny_pyNext_list_end (I.b.a U) f p.isList (by simp;exact à (æ hl) D) λn eb=>(O,I.S (t':=s.toks) (λb o l e=>eb b o l e) M Q R S T)
 e:=λ_ _ _ _ _ f h=>wpAny_pyIter_listiter f h
def S_{K:aR}(a j:Y):oe P w K tg (rq K a) [j] j (λi h=>h.IsTupleIter j a i) where
 f:=by simp
 a:=λi h f b l=>by
  have e:b=j:=by simpa using l
  subst e;obtain⟨o,e,c,d⟩:=f;exact(o,e,λv z=>by rw[d] at z;cases z)
 c:=λi h q f k=>f.at λo e=>k j (by simp) o e
 d:=by
  intro X y A C U i g s σ H E I r f D;subst y A C;obtain⟨xs,x,t,G⟩:=D;obtain⟨m,L,p,hz⟩:=I.q t;obtain⟨u,hu,ru⟩:=L.q G;obtain⟨M,Q,f2,R,S,T⟩:=r j (by simp);refine wpAny_pyNext_tuple_item f (show s.heap.IsTuple a m.toArray from p) (x:=u) (by simpa using hu) λq n sb=>?_;have I1:aE X g σ H {s with heap:=q}:=I.S (t':=s.toks) (λb o l e=>(sb.2 b l).trans e) M Q R S T;obtain⟨o,e,c,d⟩:=id n;exact(u,O,uR (s:={s with heap:=q}) e c d ξ (x,H,I1,ru,(O,λys hy=>by rw[I.A2 hy t];exact G),n,λb l=>(r b l).1))
 done:=by
  intro X y A C U i g s σ H E I r f D;subst y A C;obtain⟨xs,t,G⟩:=D;obtain⟨m,L,p,hz⟩:=I.q t;obtain⟨M,Q,f2,R,S,T⟩:=r j (by simp);have hl:=L.j;exact wpAny_pyNext_tuple_end (I.b.a U) f (show s.heap.IsTuple a m.toArray from p) (by simp;exact à (æ hl) G) λq eb=>(O,I.S (t':=s.toks) (λb o l e=>eb b o l e) M Q R S T)
 e:=λ_ _ _ _ _ f h=>wpAny_pyIter_tupleiter f h
def Ta{K:aR}(c:Y)(j:Int)(n:Nat):oe P w K Q (kB j n) [c] c (λi h=>IsRangeIter h c (j+(i:Nat)*1) ((n:Int)-(i:Nat)) 1) where
 f:=by simp
 a:=λi h a b f=>by
  have e:b=c:=by simpa using f
  subst e;exact(_,a,λv z=>by
   have R:d_ _=ud v:=z;cases R)
 c:=λi h l a k=>k c (by simp) _ a
 d:=by
  intro X p q r u i d s L H E I m a x;subst p q r;obtain⟨y,A,S,C,D,G⟩:=m c (by simp);have a0:=Walks.range (prog:=X.prog) (w:=X.w) (I.b.a u) c j 1 n;refine a0.item i s _ _ x a λv l M T g U=>?_;obtain⟨t,rfl⟩:=T;have I1:aE X d L H {s with heap:=l,toks:=M}:=I.S (λb o f e=>U b o (by simpa using f) e) y A C D G;refine(_,O,uR (s:={s with heap:=l,toks:=M}) (n:="range_iterator") g O O ξ (.d<|j+i,H,I1,(t,?_),(O,O),g,λb f=>(m b f).1));rw[CV]
 done:=by
  intro X p q r u i d s L H E I m a x;subst p q r;obtain⟨y,A,S,C,D,G⟩:=m c (by simp);exact wpAny_pyNext_range_end (I.b.a u) a (by have:n<=i:=x;omega) λl eb=>(O,I.S (t':=s.toks) (λb o f e=>eb b o f e) y A C D G)
 e:=λ_ _ _ _ _ a h=>wpAny_pyIter_rangeiter a h
section
variable{X:bf}{tg:bB}
inductive LV(K:aR)(x:ag)(R:iZ->ae->Prop)(H:ae):Prop
 |b:∀a,(x=.c a)->(∃xs,bP K H a xs)->R (gY K a) H->LV K x R H
def Ld(K:aR)(a:a_):ji:=λb H R=>a b H λx c=>LV K x R c
def US(K:aR)(c:a_):ji:=λd H R=>c d H λx b=>∃a,x=.c a/\(∃e,fM K b a e)/\R (rq K a) b
def dy(i:bJ X l g):jp X tg l (Ld X.K g):=by
 intro c s j H R I h;refine bM (i c s j H _ I h) λv d (x,k,f,m,n)=>?_;obtain⟨a,e,⟨w,r⟩,q⟩:=n;subst e;cases m;obtain⟨t,y,p,z⟩:=f.j r;refine tL p.isList ?_;refine(d⁻¹,[d⁻¹],_,_,k,O,f.B (t':=d.toks) λb o e=>cx _ e,Tb a _,(_,dF _ O,O,O),λb u=>?_,q);have e:b=d⁻¹:=by simpa using u
 subst e;exact f.M (aW _)<|f.a.j<|aW _
def rg{i:a_}(j:bJ X l i):jp X tg l (US X.K i):=by
 intro c s k H R I h;refine bM (j c s k H _ I h) λv d (x,m,f,n,r)=>?_;obtain⟨a,e,⟨w,t⟩,q⟩:=r;subst e;cases n;obtain⟨g,y,p,z⟩:=f.q t;refine Pb (show d.heap.IsTuple a g.toArray from p) ?_;refine(d⁻¹,[d⁻¹],_,_,m,O,f.B (t':=d.toks) λb o e=>cx _ e,S_ a _,(_,dF _ O,O,O),λb u=>?_,q);have e:b=d⁻¹:=by simpa using u
 subst e;exact f.M (aW _)<|f.a.j<|aW _
def Kj{R:iZ->ae->Prop}{a c:Int}{t u v:iM}{g:Nat}(I:aE X d f H s)(i:-(2 ^ 62)<=a)(j:a<2 ^ 62)(k:-(2 ^ 62)<=c)(l:c<2 ^ 62)(q:R (kB a (c-a).toNat) H):aA (aH X.prog X.w) X.A (pC<|.ref s⁻¹) (Ez X d f tg R) E {s with heap:=s.heap.push {cls:=.type "range",data:=.fields #[.int a t,.int c u,.int 1 v]},toks:=g}:=by
 refine wpAny_pyIter_range (IsRange.new ..) (small_one i j k l) ?_;have h:aE X d f H {s with heap:=s.heap.push {cls:=.type "range",data:=.fields #[.int a t,.int c u,.int 1 v]},toks:=g}:=I.B λb o e=>cx _ e;refine((s.heap.push {cls:=.type "range",data:=.fields #[.int a t,.int c u,.int 1 v]}).objs.size,[(s.heap.push {cls:=.type "range",data:=.fields #[.int a t,.int c u,.int 1 v]}).objs.size],_,_,H,O,
  h.B (t':=g) λb o e=>cx _ e,Ta _ a (c-a).toNat,?_,λb m=>?_,q)
 ·have n:a+((0:Nat):Int)*1=a:=by simp
  have p:(((c-a).toNat:Nat):Int)-((0:Nat):Int)=ag6 a c 1:=by rw[rangeSize_one];split<;>omega
  show IsRangeIter _ _ (a+((0:Nat):Int)*1) ((((c-a).toNat:Nat):Int)-((0:Nat):Int)) 1;rw[n,p];exact dF _ O
 ·have e:b=(s.heap.push {cls:=.type "range",data:=.fields #[.int a t,.int c u,.int 1 v]}).objs.size:=by simpa using m
  subst e;exact h.M (aW _)<|h.a.j<|aW _
inductive LS(vs:List ag)(R:iZ->ae->Prop)(H:ae):Prop
 |a:∀j:Int,(vs=[.d j])->(-(2 ^ 62)<=j)->(j<2 ^ 62)->R (kB 0 j.toNat) H->LS vs R H
def Lc(a:fX):ji:=λb H R=>a b H λc d=>LS c R d
def UU(a:fX):ji:=λb H R=>a b H λc d=>∃i j:Int,c=[.d i,.d j]/\(-(2 ^ 62)<=i/\i<2 ^ 62/\-(2 ^ 62)<=j/\j<2 ^ 62)/\R (kB i (j-i).toNat) d
def sF{a:bB}{p b:cD}(g:kC X "range")(i:X.c "range"=Z)(k:jR X [a] f)(l:fh [a] X.env=[(abd aB (dC a X.env))]:=by rfl):jp X tg (.Call (.Name "range" p) [a] [] b) (Lc f):=by
 intro c s m H R I h;refine CC<|pZ I g i boot_range<|yR (bM (k b c s m H _ I h) λw x (y,z,n,o,d)=>?_) l O;obtain⟨j,e,d,u,q⟩:=d;subst e;cases o with
 |cons r v=>
  cases v;obtain⟨t,rfl⟩:=r;exact call_range_1<|Kj n ω ω d u (by simpa using q)
def zW{a b:bB}{p c:cD}(m:kC X "range")(n:X.c "range"=Z)(o:jR X [a,b] l)(u:fh [a,b] X.env=[(abd aB (dC a X.env)),(abd aB (dC b X.env))]:=by rfl)(d:fh [b] X.env=[(abd aB (dC b X.env))]:=by rfl):jp X tg (.Call (.Name "range" p) [a,b] [] c) (UU l):=by
 intro f s v H R I h;refine CC<|pZ I m n boot_range<|yR (bM (o c f s v H _ I h) λD E (G,K,w,x,g)=>?_) (by rw[u,d]) (by rw[d];rfl);obtain⟨i,j,e,⟨g,y,z,A⟩,q⟩:=g;subst e;cases x with
 |cons r k=>
  cases k with
  |cons C k=>
   cases k;obtain⟨t,rfl⟩:=r;obtain⟨L,rfl⟩:=C;exact call_range_2<|Kj w g y z A q
def Tt(f:ji)(g:gj)(h:gi):gi:=λD a H=>f a H λl j=>∃n:Nat->Nat->aO->ae->Prop,(∃m,n 0 m a j)/\∀i m a H,n i m a H->
 (l.b i H/\D.a a H)\/(l.a i H/\∃o:aO->ae->Prop,(∀b c,o b c->∃e,e<m/\n (i+1) e b c)/\∀x c,l.c i H x c->g x a c λd k=>h {D with a:=o,b:=o,c:=D.a} d k)
noncomputable def wK(a:List Y)(h:aT):Ψ:=a.filterMap λb=>(h.get? b).map λo=>(abd b o)
def Ab{a:List Y}{h:aT}{b:Y}(c:b∈a)(e:h.get? b=V o):(abd b o)∈wK a h:=QA.mpr (b,c,by rw[e];rfl)
def Us{p:Y×bA}(c:p∈wK a h):p.1∈a/\h.get? p.1=V p.2:=by
 obtain⟨b,d,e⟩:=QA.mp c;cases q:h.get? b with
 |none=>rw[q] at e;cases e
 |some o=>
  rw[q] at e;have f:(abd b o)=p:=cH e;subst f;exact(d,q)
def aE.C4{a:Ψ}{f:aO}{c:List Y}(I:aE X a f H s)(i:∀b∈c,gl X a H b)(j:∀b∈c,∃o,s.heap.get? b=V o/\∀v,o.data≠.cell v):aE X (a++wK c s.heap) f H s:=
 I.B6 λp k=>(cy.mp k).elim (λz=>I.e p<|gh _ z) λz=>by
  obtain⟨g,e⟩:=Us z;obtain⟨l,m,n,_⟩:=i p.1 g;obtain⟨o,h,d⟩:=j p.1 g;rw[e] at h;cases h;exact(e,l,m,n,d)
def aE.A9{a c:Ψ}{b:aO}(I:aE X (a++c) b H s):aE X a b H s:=I.B6 λp d=>I.e p<|gh _<|fR _ d
def eU{j:bB}{body:List cN}(E:PassesOwn (aH X.prog X.w) X.A X.env X.a)(hc:X.b=af)(hi:jp X tg j wi)(hg:kx X tg g)(k:ka X body tb)(hs:∀x,rN j X.env x=aU x:=by intro _;rfl):kw X (.For tg j body [] U) (Tt wi g tb):=by
 intro a s σ H D I h;refine wpAny_For (bM (hi a s σ H _ I h) λv s1 h1=>bM h1 λa4 s2 h2=>?_) hs;obtain⟨it,G,tn,a5,H2,e,I2,T,a0,f2,a6,⟨m0,w0⟩,K⟩:=h2;subst e;have l:∀{z:ae},(∀b∈G,z b=Z)->∀b∈G,gl X a z b:=λhn b k=>(hn b k,(f2 b k).2);refine codeAny_forLoop_any (λn s'=>∃i p z,aE X a p z s'/\tn i s'.heap/\(∀b∈G,z b=Z)/\a6 i n p z) ?_ m0 (0,σ,H2,I2,a0,λb k=>(f2 b k).1,w0);rintro n s3 ⟨i,q,S,I3,L,M,w3⟩;rcases K i n q S w3 with ⟨P,qn⟩|⟨go,a7,hN,Q⟩
 ·refine vN E<|bM (T.done X O O O hc i a s3 q S X.a I3 (l M) L P) λr s4 (hr,I4)=>?_
  subst hr;exact Hc (q,S,I4,qn)
 ·refine vN E<|bM (T.d X O O O hc i a s3 q S X.a I3 (l M) L go) λr s4 (u,hr,h4)=>?_
  subst hr;refine vN E<|bM h4 λ_ s5 (x,H5,I5,r5,y5,C,a1)=>?_;have a2:=I5.C4 (l a1)<|T.a _ _ C;refine vN E<|bM (hg _ s5 q H5 x u _ a2 r5<|Q x H5 y5) λ_ s6 (a3,H6,I6,q6)=>?_;refine vN E<|bM (k _ s6 a3 H6 _ I6 q6) λf s7 A=>?_;have t:∀{c:aO}{w:ae},aE X (a++wK G s5.heap) c w s7->a7 c w->∃m,m<n/\∃i p z,aE X a p z s7/\tn i s7.heap/\(∀b∈G,z b=Z)/\a6 i m p z:=λ{c w} y R=>by
   obtain⟨m',hm,w7⟩:=hN c w R;refine(m',hm,i+1,c,w,y.A9,T.c _ _ _ C λb k o e=>(y.e (abd b o)<|gh _<|gh _<|Ab k e).1,λb k=>?_,w7);obtain⟨o,e,d⟩:=T.a _ _ C b k;exact(y.e (abd b o)<|gh _<|gh _<|Ab k e).2.1
  cases f with
  |next=>obtain⟨c,w,y,R⟩:=A;exact t y R
  |cont=>obtain⟨c,w,y,R⟩:=A;exact t y R
  |brk=>obtain⟨c,w,y,A⟩:=A;exact(c,w,y.A9,A)
  |ret v=>obtain⟨x7,c,w,y,r7,A⟩:=A;exact(x7,c,w,y.A9,r7,A)
end
def iI{K:aR}{xs:List ag}{g:gj}{l:gi}{D:og}{b:aO}(c:Nat->aO->ae->Prop)(o:c 0 b H)(r:∀i b H,i<=xs.length->c i b H->bP K H a xs)(s:∀i x b H,xs[i]?=V x->c i b H->g x b H λd k=>l {D with a:=c<|i+1,b:=c<|i+1,c:=D.a} d k)(t:∀b H,c xs.length b H->D.a b H):∃w:Nat->Nat->aO->ae->Prop,(∃m,w 0 m b H)/\∀i m b H,w i m b H->
   ((gY K a).b i H/\D.a b H)\/((gY K a).a i H/\∃z:aO->ae->Prop,(∀f h,z f h->∃n,n<m/\w (i+1) n f h)/\∀x h,(gY K a).c i H x h->g x b h λd k=>l {D with a:=z,b:=z,c:=D.a} d k):=by
 refine(λi m b H=>m=xs.length-i/\i<=xs.length/\c i b H,(xs.length,by simp,eM _,o),?_);rintro i m b H ⟨rfl,u,p⟩;have q:=r i b H u p
 by_cases j:i<xs.length
 ·refine .inr ((xs,xs[i],q,by simp[j]),c<|i+1,λf h v=>(xs.length-(i+1),ω,O,j,v),λx h y=>?_)
  obtain⟨e,y⟩:=y;subst e;exact s i x b _ (y xs q) p
 ·have e:i=xs.length:=(û u (ô j))
  subst e;exact .inl ((xs,q,aW _),t b H p)
def wS{K:aR}{xs:List ag}{g:gj}{l:gi}{D:og}{b:aO}(c:Nat->aO->ae->Prop)(o:c 0 b H)(r:∀i b H,i<=xs.length->c i b H->fM K H a xs)(s:∀i x b H,xs[i]?=V x->c i b H->g x b H λd k=>l {D with a:=c<|i+1,b:=c<|i+1,c:=D.a} d k)(t:∀b H,c xs.length b H->D.a b H):∃w:Nat->Nat->aO->ae->Prop,(∃m,w 0 m b H)/\∀i m b H,w i m b H->
   ((rq K a).b i H/\D.a b H)\/((rq K a).a i H/\∃z:aO->ae->Prop,(∀f h,z f h->∃n,n<m/\w (i+1) n f h)/\∀x h,(rq K a).c i H x h->g x b h λd k=>l {D with a:=z,b:=z,c:=D.a} d k):=by
 refine(λi m b H=>m=xs.length-i/\i<=xs.length/\c i b H,(xs.length,by simp,eM _,o),?_);rintro i m b H ⟨rfl,u,p⟩;have q:=r i b H u p
 by_cases j:i<xs.length
 ·refine .inr ((xs,xs[i],q,by simp[j]),c<|i+1,λf h v=>(xs.length-(i+1),ω,O,j,v),λx h y=>?_)
  obtain⟨e,y⟩:=y;subst e;exact s i x b _ (y xs q) p
 ·have e:i=xs.length:=(û u (ô j))
  subst e;exact .inl ((xs,q,aW _),t b H p)
def wT{lo:Int}{n:Nat}{g:gj}{k:gi}{D:og}(b:Nat->aO->ae->Prop)(o:b 0 a H)(q:∀i a H,i<n->b i a H->g (.d<|lo+i) a H λc j=>k {D with a:=b<|i+1,b:=b<|i+1,c:=D.a} c j)(r:∀a H,b n a H->D.a a H):∃u:Nat->Nat->aO->ae->Prop,(∃m,u 0 m a H)/\∀i m a H,u i m a H->
   ((kB lo n).b i H/\D.a a H)\/((kB lo n).a i H/\∃v:aO->ae->Prop,(∀d f,v d f->∃l,l<m/\u (i+1) l d f)/\∀x f,(kB lo n).c i H x f->g x a f λc j=>k {D with a:=v,b:=v,c:=D.a} c j):=by
 refine(λi m a H=>m=n-i/\i<=n/\b i a H,(n,by simp,eM _,o),?_);rintro i m a H ⟨rfl,t,p⟩
 by_cases h:i<n
 ·refine .inr (h,b<|i+1,λd f s=>(n-(i+1),ω,O,h,s),λx f y=>?_)
  obtain⟨e,y⟩:=y;subst e y;exact q i a _ h p
 ·have e:i=n:=(û t (ô h))
  subst e;exact .inl (aW _,r a H p)
abbrev lV:=ag->ag->ae->aS->Prop
def fE(X:bf)(f:aa->aa->dP aa)(r:lV):Prop:=
 ∀(a:Ψ)(s:ak)(b:aO)(H:ae)(x y:ag)(v u:aa)(Q:aS),aE X a b H s->co x v->co y u->r x y H Q->
  aA (aH X.prog X.w) X.A (f v u) (jj X a b Q) X.a s
def Ev(X:bf)(f:aa->dP aa)(r:ag->ae->aS->Prop):Prop:=
 ∀(a:Ψ)(s:ak)(b:aO)(H:ae)(x:ag)(v:aa)(Q:aS),aE X a b H s->co x v->r x H Q->
  aA (aH X.prog X.w) X.A (f v) (jj X a b Q) X.a s
def js(X:bf)(f:aa)(r:List ag->ae->aS->Prop):Prop:=
 ∀(a:Ψ)(s:ak)(b:aO)(H:ae)(c:List ag)(d:List aa)(Q:aS),aE X a b H s->cw c d->r c H Q->
  aA (aH X.prog X.w) X.A (jJ f d) (jj X a b Q) X.a s
def eB(r:lV)(b c:a_):a_:=λa H Q=>b a H λx d=>c a d λy e=>r x y e Q
def DK(r:ag->ae->aS->Prop)(a:a_):a_:=λb H Q=>a b H λx c=>r x c Q
inductive kZ(C:Int->Int->Prop)(g:Int->Int->ag)(x:ag)(y:ag)(H:ae)(Q:aS):Prop
 |a:∀i j,(x=.d i)->(y=.d j)->(C i j)->(Q (g i j) H)->kZ C g x y H Q
inductive jN(g:Int->Int->ag)(x:ag)(y:ag)(H:ae)(Q:aS):Prop
 |a:∀i j,(x=.d i)->(y=.d j)->(Q (g i j) H)->jN g x y H Q
inductive wF(g:Int->ag)(x:ag)(H:ae)(Q:aS):Prop
 |a:∀i,(x=.d i)->(Q (g i) H)->wF g x H Q
section
variable{X:bf}{a b c:bB}{ta tb tc:a_}{pos:cD}
def Eu(l:bJ X a ta)(m:bJ X b tb){c:Ψ}{R:ag->ag->ae->Prop}(I:aE X c d H s)(h:ta d H λx k=>tb d k λy e=>R x y e){f:aa->aa->dP aa}(n:∀v u j x y e,aE X c d e j->co x v->co y u->R x y e->aA (aH X.prog X.w) X.A (f v u) Q X.a j):aA (aH X.prog X.w) X.A (dC a X.env) (λv g=>aA (aH X.prog X.w) X.A (dC b X.env) (λu i=>aA (aH X.prog X.w) X.A (f v u) Q X.a i) X.a g) X.a s:=by
 refine bM (l c s d H _ I h) λv o (x,k,p,q,r)=>?_;refine bM (m c o d k _ p r) λu j (y,e,t,w,z)=>?_;exact n v u j x y e t q w z
def cg(e:fE X (pF d) r)(f:bJ X a ta)(g:bJ X b tb):bJ X (.BinOp a d b pos) (eB r ta tb):=by
 intro c s i H Q I h;exact wpAny_BinOp<|Eu f g I h λv u j x y k l m n q=>e c j i k x y v u Q l m n q
def zX{c:UnaryOp}(e:Ev X (unaryOp c) r)(f:bJ X a ta):bJ X (.UnaryOp c a pos) (DK r ta):=by
 intro b s d H Q I h;exact UnaryOp_<|bM (f b s d H _ I h) λv g (x,i,j,k,l)=>e b g d i x v Q j k l
def wO{f:aa->aa->dP aa}{C:Int->Int->Prop}{g:Int->Int->Int}(a:∀(i j:Int)(t u:iM)(s:ak)(Q:Ω)(E:Ω),C i j->Q (.int (g i j) s.toks) {s with toks:=s.toks+1}->aA (aH X.prog X.w) X.A (f (.int i t)<|.int j u) Q E s):fE X f (kZ C λi j=>.d<|g i j):=by
 intro b s l H x y v u Q I c d h;obtain⟨i,j,rfl,rfl,e,q⟩:=h;obtain⟨t,rfl⟩:=c;obtain⟨k,rfl⟩:=d;exact a i j t k s _ _ e (.d<|g i j,H,I.J _,(_,O),q)
def KS{f:aa->aa->dP aa}{g:Int->Int->Int}(a:∀(i j:Int)(t u:iM)(s:ak)(Q:Ω)(E:Ω),Q (.int (g i j) s.toks) {s with toks:=s.toks+1}->aA (aH X.prog X.w) X.A (f (.int i t)<|.int j u) Q E s):fE X f (jN λi j=>.d<|g i j):=by
 intro b s k H x y v u Q I c d h;obtain⟨i,j,rfl,rfl,q⟩:=h;obtain⟨t,rfl⟩:=c;obtain⟨e,rfl⟩:=d;exact a i j t e s _ _ (.d<|g i j,H,I.J _,(_,O),q)
def Aa{f:aa->aa->dP aa}{g:Int->Int->Bool}(a:∀(i j:Int)(t u:iM)(s:ak)(Q:Ω)(E:Ω),Q (.bool<|g i j) s->aA (aH X.prog X.w) X.A (f (.int i t)<|.int j u) Q E s):fE X f (jN λi j=>.e<|g i j):=by
 intro b s k H x y v u Q I c d h;obtain⟨i,j,rfl,rfl,q⟩:=h;obtain⟨t,rfl⟩:=c;obtain⟨e,rfl⟩:=d;exact a i j t e s _ _ (.e<|g i j,H,I,O,q)
def VO(i j:Int):Prop:=0<j/\j<1073741824
def Mg(i j:Int):Prop:=0<=j/\j<=1000000/\i.natAbs<2 ^ 64
def rt(i j:Int):Prop:=(-(2 ^ 64)<i/\i<2 ^ 64)\/(-(2 ^ 64)<j/\j<2 ^ 64)
def rt.q{i j:Int}(h:rt i j):IntMulOk i j:=by
 rcases h with ⟨a,b⟩|⟨a,b⟩
 ·exact .of_left<|intBits_le_64 a b
 ·exact .of_right<|intBits_le_64 a b
def iW:fE X (pF .Add) (jN λi j=>.d<|i+j):=KS λ_ _ _ _ _ _ _ q=>add_int q
def nU:fE X (pF .Sub) (jN λi j=>.d<|i-j):=KS λ_ _ _ _ _ _ _ q=>sub_int q
def lR:fE X (pF .Mult) (kZ rt λi j=>.d<|i*j):=wO λ_ _ _ _ _ _ _ a q=>mul_int q a.q
def KR:fE X (pF .FloorDiv) (kZ VO λi j=>.d<|i / j):=wO λi j _ _ _ _ _ a q=>by
 have b:(0:Int)<j:=a.1;have c:j<1073741824:=a.2;exact floordiv_int ω (by rw[Int.fdiv_eq_ediv_of_nonneg i ω];exact q)<|.inl<|PyProof.noPylong_small ω
def lf:fE X (pF .Mod) (kZ (λ_ j=>0<j) λi j=>.d<|i%j):=wO λi j _ _ _ _ _ a q=>by
 have b:(0:Int)<j:=a;exact mod_int' ω (by rw[Int.fmod_eq_emod_of_nonneg i ω];exact q)
def Eb:fE X (pF .Pow) (kZ Mg λi j=>.d<|i ^ j.toNat):=wO λ_ _ _ _ _ _ _ a q=>pow_int_small a.1 a.2.1 a.2.2 q
def SY{f:aa->dP aa}{g:Int->Int}(a:∀(i:Int)(t:iM)(s:ak)(Q:Ω)(E:Ω),Q (.int (g i) s.toks) {s with toks:=s.toks+1}->aA (aH X.prog X.w) X.A (f<|.int i t) Q E s):Ev X f (wF λi=>.d<|g i):=by
 intro b s d H x v Q I c h;obtain⟨i,rfl,q⟩:=h;obtain⟨t,rfl⟩:=c;exact a i t s _ _ (.d<|g i,H,I.J _,(_,O),q)
def zK:Ev X (unaryOp .USub) (wF λi=>.d<|-i):=SY λ_ _ _ _ _ q=>neg_int q
end
noncomputable def Ke:ag->ag->Bool
 |.g,.g=>af|.g,.d _=>af|.d _,.g=>af|.g,.e _=>af|.e _,.g=>af|.g,.f _=>af|.f _,.g=>af
 |.d _,.d _=>af|.e _,.e _=>af|.f _,.f _=>af|.h _,.h _=>af
 |.d _,.f _=>af|.f _,.d _=>af|.e _,.f _=>af|.f _,.e _=>af
 |_,_=>aB
def wJ:lV:=λx y H Q=>Ke x y=af/\Q (.e<|aC<|x=y) H
def DT:lV:=λx y H Q=>Ke x y=af/\Q (.e<|!aC (x=y)) H
def Ls{i j:Int}:aC (ag.d i=ag.d j)=(i==j):=by
 rw[uu];simp
def Lu{i j:Bool}:aC (ag.e i=ag.e j)=(i==j):=by
 rw[uu];simp
def Lr{i j:au}:aC (ag.f i=ag.f j)=(i==j):=by
 rw[uu];simp
def Lt{i j:Array UInt8}:aC (ag.h i=ag.h j)=(i.toList==j.toList):=by
 rw[uu];cases i;cases j;simp
section
variable{X:bf}{a b c:bB}{ta tb tc:a_}{pos:cD}
def fC{a:Ψ}{b:aO}{Q:aS}{k c:Bool}(I:aE X a b H s)(q:Q (.e k) H)(e:k=c):jj X a b Q (.bool c) s:=by
 subst e;exact(.e k,H,I,O,q)
def nV:fE X (iz .Eq) wJ:=by
 intro e s f H x y v u Q I d a h;obtain⟨c,q⟩:=h;cases x with
 |g=>
  cases d;cases y with
  |g=>cases a;exact agp<|fC I q (by simp)
  |e j=>cases a;exact agr<|fC I q (by simp)
  |d j=>obtain⟨b,rfl⟩:=a;exact agq<|fC I q (by simp)
  |f j=>obtain⟨b,rfl⟩:=a;exact ago<|fC I q (by simp)
  |_=>exact bu (show aB=af from c) dT
 |e i=>
  cases d;cases y with
  |g=>cases a;exact agt<|fC I q (by simp)
  |e j=>cases a;exact eq_bool<|fC I q Lu
  |f j=>obtain⟨b,rfl⟩:=a;exact ag1<|fC I q (by simp)
  |_=>exact bu (show aB=af from c) dT
 |d i=>
  obtain⟨t,rfl⟩:=d;cases y with
  |g=>cases a;exact ags<|fC I q (by simp)
  |d j=>obtain⟨b,rfl⟩:=a;exact eq_int<|fC I q Ls
  |f j=>obtain⟨b,rfl⟩:=a;exact ag0<|fC I q (by simp)
  |_=>exact bu (show aB=af from c) dT
 |f i=>
  obtain⟨t,rfl⟩:=d;cases y with
  |g=>cases a;exact agn<|fC I q (by simp)
  |e j=>cases a;exact agz<|fC I q (by simp)
  |d j=>obtain⟨b,rfl⟩:=a;exact agy<|fC I q (by simp)
  |f j=>obtain⟨b,rfl⟩:=a;exact eq_str<|fC I q Lr
  |_=>exact bu (show aB=af from c) dT
 |h i=>
  obtain⟨t,rfl⟩:=d;cases y with
  |h j=>obtain⟨b,rfl⟩:=a;exact PySem.W.eq_bytes<|fC I q Lt
  |_=>exact bu (show aB=af from c) dT
 |_=>cases y<;>exact bu (show aB=af from c) dT
def uM:fE X (iz .NotEq) DT:=by
 intro e s f H x y v u Q I d a h;obtain⟨c,q⟩:=h;cases x with
 |g=>
  cases d;cases y with
  |g=>cases a;exact agi<|fC I q (by simp)
  |e j=>cases a;exact agk<|fC I q (by simp)
  |d j=>obtain⟨b,rfl⟩:=a;exact agj<|fC I q (by simp)
  |f j=>obtain⟨b,rfl⟩:=a;exact agh<|fC I q (by simp)
  |_=>exact bu (show aB=af from c) dT
 |e i=>
  cases d;cases y with
  |g=>cases a;exact agm<|fC I q (by simp)
  |e j=>cases a;exact ne_bool<|fC I q<|eW not Lu
  |f j=>obtain⟨b,rfl⟩:=a;exact agx<|fC I q (by simp)
  |_=>exact bu (show aB=af from c) dT
 |d i=>
  obtain⟨t,rfl⟩:=d;cases y with
  |g=>cases a;exact agl<|fC I q (by simp)
  |d j=>obtain⟨b,rfl⟩:=a;exact ne_int<|fC I q<|eW not Ls
  |f j=>obtain⟨b,rfl⟩:=a;exact agw<|fC I q (by simp)
  |_=>exact bu (show aB=af from c) dT
 |f i=>
  obtain⟨t,rfl⟩:=d;cases y with
  |g=>cases a;exact agg<|fC I q (by simp)
  |e j=>cases a;exact agv<|fC I q (by simp)
  |d j=>obtain⟨b,rfl⟩:=a;exact agu<|fC I q (by simp)
  |f j=>obtain⟨b,rfl⟩:=a;exact ne_str<|fC I q<|eW not Lr
  |_=>exact bu (show aB=af from c) dT
 |h i=>
  obtain⟨t,rfl⟩:=d;cases y with
  |h j=>obtain⟨b,rfl⟩:=a;exact PySem.W.ne_bytes<|fC I q<|eW not Lt
  |_=>exact bu (show aB=af from c) dT
 |_=>cases y<;>exact bu (show aB=af from c) dT
def wN:fE X (iz .Lt) (jN λi j=>.e<|aC<|i<j):=Aa λ_ _ _ _ _ _ _ q=>adv q
def Ed:fE X (iz .LtE) (jN λi j=>.e<|aC<|i<=j):=Aa λ_ _ _ _ _ _ _ q=>le_int q
def pX:fE X (iz .Gt) (jN λi j=>.e<|aC<|j<i):=Aa λ_ _ _ _ _ _ _ q=>gt_int q
def Uq:fE X (iz .GtE) (jN λi j=>.e<|aC<|j<=i):=Aa λ_ _ _ _ _ _ _ q=>ge_int q
def Um:fE X (iz .IsNot) (λx y H Q=>y=.g/\Q (.e<|!aC (x=.g)) H):=by
 intro a s d H x y v u Q I b c h;obtain⟨rfl,q⟩:=h;cases c;refine isnot_none_gen<|fC I q ?_;cases x<;>first
  |(cases b;rfl)
  |(obtain⟨t,rfl⟩:=b;rfl)
def dI(b:bB){a:uf}(h:a≠.In:=by decide)(c:a≠.NotIn:=by decide):tS a b=aB:=by
 have d:(a==wa)=aB:=by cases a<;>first|rfl|exact bu O h
 have e:(a==v_)=aB:=by cases a<;>first|rfl|exact bu O c
 cases b<;>simp[tS,d,e]
def wL(e:fE X (iz d) r)(f:bJ X a ta)(g:bJ X b tb)(i:tS d b=aB):bJ X (.Compare a [d] [b] pos) (eB r ta tb):=by
 intro c s j H Q I h;exact wpAny_Compare1 (Eu f g I h λv u k x y l m n o q=>e c k j l x y v u Q m n o q) i
inductive LR(x:ag)(Q:Bool->ae->Prop)(H:ae):Prop
 |a:∀k,(x=.e k)->(Q k H)->LR x Q H
def mN(t:a_):eG:=λa H Q=>t a H λx b=>LR x Q b
def dW(i:fE X (iz f) r)(j:bJ X a ta)(l:bJ X b tb)(m:tS f b=aB):ku X (.Compare a [f] [b] pos) (mN<|eB r ta tb):=by
 intro d s g H Q I h;refine aa5 (bM (j d s g H _ I h) λv n (x,o,p,q,t)=>bM (l d n g o _ p t) λu w (y,A,C,D,E)=>
  bM (i d w g A x y v u _ C q D E) λc P (z,G,K,L,k,e,M)=>?_) m
 subst e;cases L;exact qC (G,K,M)
def TA(r c:lV)(ta tb tc:a_):a_:=λa H Q=>ta a H λx d=>tb a d λy e=>r x y e λz b=>∃k,z=.e k/\
 (if k=af then tc a b λf g=>c y f g Q else Q (.e aB) b)
def TR{j g:uf}{r m:lV}(t:fE X (iz j) r)(l:fE X (iz g) m)(w:bJ X a ta)(A:bJ X b tb)(C:bJ X c tc)(D:lastMarks [j,g] [b,c]=aB:=by with_unfolding_all rfl):ku X (.Compare a [j,g] [b,c] pos) (mN<|TA r m ta tb tc):=by
 intro f s i H Q I h;refine isTrue_chain (bM (w f s i H _ I h) λv E (x,G,K,L,M)=>test_link (bM (A f E i G _ K M) λu P (y,R,S,n,T)=>
  bM (t f P i R x y v u _ S L n T) λd U (z,o,p,r3,k,e,q)=>?_)) D
 subst e;cases r3;refine qC ?_;cases k with
 |false=>
  obtain⟨k',e',q'⟩:=q;cases e';exact ite_ff (o,p,q')
 |true=>
  refine ite_tt<|test_last<|bM (C f U i o _ p q) λw' s4 (z',H4,I4,r4,q4)=>bM (l f s4 i H4 y z' u w' _ I4 n r4 q4) λd' s5 (z2,H5,I5,r5,k2,e2,q5)=>?_;subst e2;cases r5;exact qC (H5,I5,q5)
def Ac:(bQ:Nat)<2 ^ 63:=by rw[kM];decide
def iF{x:ag}{a:List aa}(r:cw [x] a):∃u,a=[u]/\co x u:=by
 cases r with
 |cons b c=>cases c;exact(_,O,b)
def JR{x y:ag}{a:List aa}(r:cw [x,y] a):∃u b,a=[u,b]/\co x u/\co y b:=by
 cases r with
 |cons c d=>
  cases d with
  |cons e f=>cases f;exact(_,_,O,c,e)
end
structure Mc(h:aT)(x dx C:Y)(mA:au->Option aa):Prop where
 a:h.get? x=V (PQ C dx)
 b:h.Ns1 dx mA
 c:dx≠x
def UE{h:aT}(n:h.Ns1 d f):∃g,h.get? d=V g/\∀b,PO b g=V (f b):=by
 obtain⟨o,i,s,j,k,l,_,m⟩:=n;refine(o,j,λb=>?_);have e:=m b;unfold nsFind findBy at e;rw[<-Array.find?_toList] at e;unfold PO;rw[k];dsimp only;split
 ·rename_i y q
  rw[q] at e;exact eW V e
 ·rename_i q
  rw[q] at e;have a:i.toList.any (·.refKey)=aB:=by
   rw[IH];intro y p;obtain⟨z,t,c⟩:=l y<|Array.mem_toList_iff.mp p;simp[Qh,c]
  have r:¬i.toList.any (·.refKey)=af:=by rw[a];exact dT
  rw[ap r];exact eW V e
noncomputable def Mc.j{x c C:Y}(I:Mc h x c C d):∃b,PySem.W.InstAt h x (PQ C c) C (V b)/\∀a,PO a b=V (d a):=
 let ⟨b,e,f⟩:=UE I.b
 (b,(I.a,O,O,e),f)
def ro.q(r:ro (V v) o):∃u,o=V u/\co v u:=by
 cases o with
 |none=>exact(show False from r).elim
 |some u=>exact(u,O,r)
section
variable{P:bw}{w:aX}{H H':ae}{h h':aT}{a C dx:Y}{fs fs':List (au×ag)}
def afq(c:gF P w H h)(e:H a=V (.j C dx fs)):∃b,Mc h a dx C b/\(∀f,ro (fs.lookup f) (b f))/\abx b (fs.map (·.1))/\fs.length<=1000/\H dx=V (.g a):=by
 obtain⟨d,z,g,i,b,n,r,q⟩:=(show dt P w H h a (.j C dx fs) from c a _ e);exact(b,(i,n,g),r,q,z,d)
end
structure VM(K:aR)(C:Y):Prop where
 a:aby K C Str.empty=af
 d:PySem.W.hasDictIn K C=af
 b:PySem.W.plainOver K C=af
 c:PySem.W.findIn K (.ref C) "__setattr__"=V (V<|.builtin "object.__setattr__")
noncomputable def VM.j{K:aR}(c:VM K C)(f:au):aby K C f=af:=c.a
structure eQ(k:Nat)(A:bY):Prop where
 b:A.handled=Z
 a:A.depth+3*k+5<recursionLimit
 un:A.units+16*k+200<c_
noncomputable def eQ.j{j k:Nat}(r:eQ k A)(h:j<=k):eQ j A:=(r.b,by have:=r.a;omega,by have:=r.un;omega)
noncomputable def eQ.B{k:Nat}(r:eQ (k+1) A)(a:gb):eQ k (A.deeper a):=
 (r.b,by have:=r.a;show A.depth+1+3*k+5<_;omega,by have:=r.un;show A.units+3+16*k+200<_;omega)
def eQ.q{k:Nat}(r:eQ (k+1) A):eQ k A.in1:=
 (r.b,by have:=r.a;show A.depth+3*k+5<_;omega,by have:=r.un;show A.units+1+16*k+200<_;omega)
noncomputable def eQ.F{k:Nat}(r:eQ k A):A.depth<recursionLimit:=by have:=r.a;exact ê (ê this)
def eQ.units{k:Nat}(r:eQ k A):A.units+64<c_:=by have:=r.un;omega
def fI:fX:=λ_ H Q=>Q [] H
def dE(b:a_)(c:fX):fX:=λa H Q=>b a H λx d=>c a d λe f=>Q (x::e) f
section
variable{X:bf}{e:bB}{es:List bB}{te:a_}{t:fX}{pos:cD}
def aD:jR X [] fI:=λ_ _ _ _ H Q I h=>ac8 ([],H,I,.nil,h)
def aq(c:bJ X e te)(d:jR X es t)(f:fh (e::es) X.env=(abd aB (dC e X.env))::fh es X.env:=by rfl):jR X (e::es) (dE te t):=by
 intro pos a s b H Q I h;rw[f];show aA _ _ (spliced<|(abd aB (dC e X.env))::nr pos (fh es X.env)) _ _ s;refine Qi<|bM (c a s b H _ I h) λu g (x,i,j,k,l)=>?_;exact bM (d pos a g b i _ j l) λr v (m,n,o,p,q)=>(x::m,n,o,.cons k p,q)
def kq(t:fX):a_:=λc H Q=>t c H λa b=>a.length<=bQ/\∀p,b p=Z->Q (.c p) (aw b p<|.b a)
def Tp(t:fX):a_:=λc H Q=>t c H λa b=>a.length<=bQ/\∀p,b p=Z->Q (.c p) (aw b p<|.a a)
def iG{g}(h:jR X es t):bJ X (.Tuple es g pos) (kq t):=by
 intro a s i H Q I j;refine wpAny_Tuple_spliced<|bM (h pos a s i H _ I j) λk c (l,d,f,r,z,q)=>(by rw[<-r.j];exact z,?_);have m:d c⁻¹=Z:=f.a.j<|aW _;refine(.c c⁻¹,aw d c⁻¹<|.b l,f.F (t':=c.toks) (λb u e=>cx _ e) (aW _) ?_,O,q _ m);exact(z,k,r,(_,dF _ O,O,_,O))
def iH(h:jR X es t):bJ X (.List es pos) (Tp t):=by
 intro a s g H Q I i;refine wpAny_List_spliced<|bM (h pos a s g H _ I i) λj c (k,d,f,r,z,q)=>(by rw[<-r.j];exact z,?_);have l:d c⁻¹=Z:=f.a.j<|aW _;refine(.c c⁻¹,aw d c⁻¹<|.a k,f.F (t':=c.toks) (λb u e=>cx _ e) (aW _) ?_,O,q _ l);exact(z,j,0,r,dF _ O)
end
abbrev lj:=List ag->ae->aS->cZ->Prop
abbrev ll:=List gb->ae->ak->cZ->Ω
structure uZ(P:bw)(w:aX)(K:aR)(mg:au->Option aa)(base:aT)(A:bY)(outer:List gb)(s:ak)(H:ae):Prop where
 g:A.frames=V outer
 c:An K mg base
 bs:∀b o,base.get? b=V o->s.heap.get? b=V o/\H b=Z
 e:base.objs.size<=s⁻¹
 h:s.heap.FunFrames base outer
 f:∀b∈li outer,H b=Z
 a:gF P w H s.heap
 d:rW s.gens
def EI(a:List gb)(P:bw)(w:aX)(H:ae)(s:ak)(Q:aS)(u:aa)(b:ak):Prop:=
 ∃v c,b.os=s.os/\rW b.gens/\n_ (li a) [] H c s.heap b.heap/\gF P w c b.heap/\co v u/\Q v c
def VN(c:ll)(a:List gb)(P:bw)(w:aX)(H:ae)(s:ak)(Q:aS)(E:cZ)(r:Ca)(b:ak):Prop:=
 match r with
 |.ok (.ret u)=>EI a P w H s Q u b
 |.ok _=>False
 |.error e=>c a H s E e b
structure bO(P:bw)(w:aX)(K:aR)(mg:au->Option aa)(base:aT)(CX:ll)(k:Nat)(f:Y)(fd:cS)(ps:List au)(sp:lj):Prop where
 b:∀vs H Q E,sp vs H Q E->vs.length=ps.length
 a:∀(A:bY)(outer:List gb)(s:ak)(H:ae)(args:Args)(us:List aa)(vs:List ag)(Q:aS)(E:cZ),eQ k A->uZ P w K mg base A outer s H->yO s fd args (ps.zip us)->cw vs us->sp vs H Q E->
  lF (aH P w) A (.call (.ref f) args) (VN CX outer P w H s Q E) s
noncomputable def uZ.j{K:aR}{c:au->Option aa}{b:aT}{a:List gb}(e:uZ P w K c b A a s H):uZ P w K c b A.in1 a s H:=(e.g,e.c,e.bs,e.e,e.h,e.f,e.a,e.d)
section
variable{X:bf}{pins:Ψ}{σ:aO}{H:ae}{s s':ak}
def aE.C3(I:aE X pins σ H s):uZ X.prog X.w X.K X.c X.base X.A X.e s H:=
 (I.b.r,I.b.e,I.bs,dg I.b.g I.sz,I.B2,I.C0,I.a,I.f)
def aE.C7(I:aE X pins σ H s)(h:EI X.e X.prog X.w H s Q u s'):jj X pins σ Q u s':=by
 obtain⟨v,f,i,a,j,c,r,q⟩:=h;obtain⟨k,g,d,t,e⟩:=s';obtain rfl:e=s.os:=i;exact(v,f,I.C2 (h':=k) (g':=g) (d':=d) (t':=t) (ch:=[]) j c a (λb z=>bu z (by simp)),r,q)
end
def sE(b:lj)(a:List ag)(E:cZ)(t:fX):a_:=λc H Q=>t c H λd e=>b (d++a) e Q E
def cQ(K:aR)(d:cS)(b:List au)(c:List aa):Prop:=
 ∀(s:ak)(a:List aa),K.In s.heap->(a++c).length=b.length->yO s d (a,[]) (b.zip<|a++c)
def cQ.all{K:aR}{b:List au}(h:∀a:List aa,a.length=b.length->PH c (a,[])=aU (b.zip a)):cQ K c b []:=λs a _ d=>by
 rw[jm] at d ⊢;exact .of_eq<|h a d
def Ak(c:ll)(X:bf)(E:cZ):Prop:=∀(a:Ψ)(d:aO)(H:ae)(s:ak)(e:aa)(b:ak),aE X a d H s->c X.e H s E e b->X.a e b
section
variable{X:bf}{CX:ll}{k:Nat}{f C:Y}{fd:cS}{ps:List au}{sp:lj}{dvs:List ag}{ds:List aa}{E:cZ}{x m:au}{p pos apos:cD}{e o:bB}{es:List bB}{ta:a_}{t:fX}
def TP{b:List aa}(F:bO X.prog X.w X.K X.c X.base CX k f fd ps sp)(j:eQ k X.A)(l:cQ X.K fd ps ds)(m:cw dvs ds)(n:Ak CX X E)(I:aE X a g H s)(r:cw d b)(h:sp (d++dvs) H Q E):aA (aH X.prog X.w) X.A (jJ (.ref f) b) (jj X a g Q) X.a s:=by
 have i:cw (d++dvs) (b++ds):=r.B m;have o:(b++ds).length=ps.length:=by rw[<-i.j];exact F.b _ _ _ _ h
 refine He<|tP (F.a X.A X.e s H (b,[]) (b++ds) (d++dvs) Q E j I.C3 (l s b I.A1 o) i h) λr p c=>?_;cases r with
 |error e=>exact n a g H s e p I c
 |ok q=>
  cases q with
  |ret u=>exact I.C7 c
  |next=>exact iC c
  |brk=>exact iC c
  |cont=>exact iC c
def dj(F:bO X.prog X.w X.K X.c X.base CX k f fd ps sp)(g:eQ k X.A)(i:kC X x)(j:X.c x=V (.ref f))(l:BS X.K (.ref f)=af)(m:cQ X.K fd ps ds)(n:cw dvs ds)(o:Ak CX X E)(u:jR X (e::es) t)(b:(x==("__debug__":au))=aB:=by decide)(v:fh (e::es) X.env=(abd aB (dC e X.env))::fh es X.env:=by rfl)(c:(nr pos<|fh es X.env).any (·.1)=aB:=by rfl):bJ X (.Call (.Name x p) (e::es) [] pos) (sE sp dvs E t):=by
 intro a s w H Q I h;refine BH<|Ei I i j ?_ b;refine PySem.W.callWith_K (h₀:=X.base) I.b.e.a l (bM (u pos a s w H _ I h) λy z (A,C,d,r,q)=>(d.A1,?_)) v c;exact TP F g m n o d r q
end
structure dK(N P:List au)(sc:hG):Prop where
 d:sc.kind=.function
 g:sc.isCoroutine=aB
 e:sc.isGenerator=aB
 a:N.Nodup
 b:N.take P.length=P
 c:∀x∈P,sc.names.lookup x=V .local\/sc.names.lookup x=V .cell
 f:∀y∈sc.names,y.2≠.free
def LK{b:au->Option mB}:∀{a:List (au×aa)}{m:au->Option aa},(∀v,(abd x v)∉a)->tQ b a m x=m x
 |[],_,_=>O
 |(abd n v)::r,m,h=>by
  unfold tQ;rw[LK λw c=>h w<|eV _ c];split
  ·have:x≠n:=by rintro rfl;exact h v dQ
   simp[this]
  ·rfl
def LN{b:au->Option mB}:∀{a:List (au×aa)}{m:au->Option aa},(∀v,(abd x v)∉a)->tR b a m x=m x
 |[],_,_=>O
 |(abd n v)::r,m,h=>by
  unfold tR;rw[LN λw c=>h w<|eV _ c];split
  ·rfl
  ·have:x≠n:=by rintro rfl;exact h v dQ
   simp[this]
def LM{a:au->Option mB}:∀{P:List au}{b:List aa}{i:Nat}{m:au->Option aa},P.Nodup->P[i]?=V x->b[i]?=V v->a x=V .local->
  tQ a (P.zip b) m x=V v
 |[],_,_,_,_,h,_,_=>by simp at h
 |_::_,[],_,_,_,_,h,_=>by simp at h
 |p::P,w::b,0,m,e,c,d,f=>by
  simp at c d;subst c;subst d;show tQ a ((abd p w)::P.zip b) m p=_;unfold tQ;rw[LK λv g=>(jA.mp e).1 (CH g).1,az f];simp
 |p::P,w::b,i+1,m,e,c,d,f=>by
  show tQ a ((abd p w)::P.zip b) m x=_;unfold tQ;exact LM (i:=i) (jA.mp e).2 (by simpa using c) (by simpa using d) f
def LO{a:au->Option mB}:∀{P:List au}{b:List aa}{i:Nat}{m:au->Option aa},P.Nodup->P[i]?=V x->b[i]?=V v->a x≠V .local->
  tR a (P.zip b) m x=V v
 |[],_,_,_,_,h,_,_=>by simp at h
 |_::_,[],_,_,_,_,h,_=>by simp at h
 |p::P,w::b,0,m,e,c,d,f=>by
  simp at c d;subst c;subst d;show tR a ((abd p w)::P.zip b) m p=_;unfold tR;rw[LN λv g=>(jA.mp e).1 (CH g).1,ap f];simp
 |p::P,w::b,i+1,m,e,c,d,f=>by
  show tR a ((abd p w)::P.zip b) m x=_;unfold tR;exact LO (i:=i) (jA.mp e).2 (by simpa using c) (by simpa using d) f
noncomputable def re(b:List au)(a:List ag):aO:=a.map V++List.replicate (b.length-a.length) Z
noncomputable def qc(i:ll)(P:bw)(w:aX)(K:aR)(j:au->Option aa)(g:aT)(m:List au)(c:au)(a:hG)(f:Y)(h:aa)(A:bY)(b:List gb)(s:ak)(H:ae)(E:cZ):bf where
 prog:=P
 w:=w
 K:=K
 c:=j
 base:=g
 A:=A.deeper<|oF c a s⁻¹ f h
 N:=m
 d:=s
 i:=H
 env:=oF c a s⁻¹ f h
 outer:=b
 e:=oF c a s⁻¹ f h::b
 g:=[]
 b:=af
 f:=λ_=>af
 h:=[]
 a:=λe k=>aA (aH P w) (A.deeper<|oF c a s⁻¹ f h) (leaving (oF c a s⁻¹ f h) e) (λ_ d=>i b H s E e d) (λl d=>i b H s E l d) k
def LG{a:hG}{n:Nat}(h:a.names.lookup x=V .cell):∃c,(jb n a.names []).lookup x=V c:=by
 have q:=BU a.names n []<|.inl h;exact HX.mp q
def UP{K:aR}{m:aT}{a1 t:List au}{j:au}{M:aa}{A:bY}{C:List ag}(S:dK a1 t d)(hd:A.handled=Z)(o:uZ P w K T m A g s H)(hl:C.length=t.length)(r:cw C U)(x:InCallC s s⁻¹ (tQ (oF j d s⁻¹ f M).kindOf (t.zip U) λ_=>Z) (jb (s⁻¹+1) d.names []) (tR (oF j d s⁻¹ f M).kindOf (t.zip U) λ_=>Z) s1):aE (qc X P w K T m a1 j d f M A g s H E) [] (re a1 C) H s1:=by
 have a0:t.length<=a1.length:=by have:=eW ao S.b;rw[dR] at this;omega
 obtain⟨Q,tk,rfl,hk⟩:=x.done;have D:∀b:Y,b∉(qc X P w K T m a1 j d f M A g s H E).g:=λb z=>bu (show b∈([]:List Y) from z) (by simp);refine((o.c,S.d,O,O,aW _,λy z c Q l=>?_,λy G=>?_,λy c _ h=>?_,λ_=>hd,Around.frames_deeper o.g,.inr (O,O),λb z=>bu z<|D b,o.bs,o.e,λb _ _=>D b,λb z=>bu z<|D b,o.h,o.f),
  O,o.d,n_.j hk,(_,x.toInCall.ns,λi y v Q l h3=>?_),λy c h=>(_,x.cell y c h),o.a.j<|aW _,λy c h=>?_,λp I=>bu (show p∈([]:Ψ) from I) (by simp),o.a.q hk,?_)
 ·exact name_of_addr x.apart (pD Q)<|pD l
 ·have G:d.names.lookup y=V .cell\/d.names.lookup y=V .free:=G
  rcases G with G|G
  ·exact LG G
  ·exact bu O<|S.f _<|pD G
 ·exact yU<|x.above y c<|pD h
 ·have R:i<C.length:=by
   unfold re at l
   by_cases R:i<C.length
   ·exact R
   ·rw[qN (by simpa using R)] at l
    rw[List.getElem?_replicate] at l;split at l<;>cases l
  have ha:C[i]?=V v:=by
   unfold re at l;rw[sj (by simpa using R),cB] at l;cases e:C[i]? with
   |none=>rw[e] at l;cases l
   |some a=>rw[e] at l;cases l;rfl
  obtain⟨u,hu,rv⟩:=r.q ha;have I:t[i]?=V y:=by
   rw[<-S.b,IA (à R (å hl))];exact Q
  have L:t.Nodup:=by rw[<-S.b];exact S.a.sublist<|aeb _ _
  refine(u,rv,?_);rcases S.c y (dp I) with k|k
  ·exact .inl (k,LM L I hu k)
  ·obtain⟨c,e⟩:=LG (n:=s⁻¹+1) k
   refine .inr (.inl k,c,e,?_);have q:=x.cell y c e;rw[LO L I hu (by show d.names.lookup y≠_;rw[k];decide)] at q;exact q
 ·exact o.a.j<|yU<|x.above y c<|pD h
 ·unfold re
  show _=a1.length;rw[ck,ax,List.length_replicate];omega
def Vh{U:ll}{P:bw}{w:aX}{K:aR}{X:au->Option aa}{h:aT}{k:Nat}{m d:au}{i:Arguments}{body:List cN}{a:hG}{dV kV G pm g ct oc:aa}{an od:Option Y}{a0:Array (Option aa)}{sp:lj}(lk:K.lookup f=V (oc,od,.func<|tT m d i body a dV kV G pm an g ct,a0))(a1:Hr K g d=af)(S:dK a5 ps a)(L:∀j H Q E,sp j H Q E->j.length=ps.length)(z:∀(A:bY)(c:List gb)(s:ak)(H:ae)(j:List ag)(Q:aS)(E:cZ),eQ k (A.deeper<|oF d a s⁻¹ f g)->sp j H Q E->
   ∃t,ka (qc U P w K X h a5 d a f g A c s H E) body t/\t {a:=λ_ p=>Q .g p,d:=Q} (re a5 j) H):
  bO P w K X h U (k+1) f (tT m d i body a dV kV G pm an g ct) ps sp:=by
 refine(L,λA c s H a3 us j Q E hr M hb r R=>?_);have hl:=L _ _ _ _ R;have KX:K.In s.heap:=M.c.a.keeps λb o e=>(M.bs b o e).1;have a2:s.heap.NoLimit:=M.c.c.keeps λb o e=>(M.bs b o e).1;have C:∀y∈ps.zip us,a.names.lookup y.1=V .local\/(a.names.lookup y.1=V .cell/\((jb (s⁻¹+1) a.names []).lookup y.1).isSome=af):=λ(n,v) hy=>by
  rcases S.c n (CH hy).1 with q|q
  ·exact .inl q
  ·exact .inr (q,BU _ _ _<|.inl q)
 refine codeAny_call_function hr.F (KX _ _ lk) O S.g S.e O (PySem.W.codeRec_of KX a1)<|hb _ _ _ _ ?_;refine wpAny_newFunctionEnv_cells S.d C λa4 he s1 x=>?_;subst he;refine(a2.keeps x.toInCall.keep,codeAny_func ?_);obtain⟨t,ht,hq⟩:=z A c s H j Q E (hr.B _) R;have I:aE (qc U P w K X h a5 d a f g A c s H E) [] (re a5 j) H s1:=UP S hr.b M hl r x;refine kL (ht [] s1 (re a5 j) H _ I hq) (λfl s' D=>?_) λe s' D=>D;have T:∀{l:aO}{p:ae}{v:ag}{u:aa},aE (qc U P w K X h a5 d a f g A c s H E) [] l p s'->co v u->Q v p->EI c P w H s Q u s':=
  λ{l p v u} a6 rv q=>(v,p,a6.l,a6.f,a6.base,a6.a,rv,q)
 cases fl with
 |ret u=>
  obtain⟨v,l,p,a6,rv,q⟩:=D;exact T a6 rv q
 |next=>
  obtain⟨l,p,a6,q⟩:=D;exact T (v:=ag.g) (u:=cA) a6 O q
 |brk=>
  obtain⟨_,_,_,q⟩:=D;exact iC q
 |cont=>
  obtain⟨_,_,_,q⟩:=D;exact iC q
section
variable{X:bf}{x:au}{p pos:cD}{e:bB}{es:List bB}{t:fX}{id T:String}{r:List ag->ae->aS->Prop}
def oU(r:List ag->ae->aS->Prop)(t:fX):a_:=λa H Q=>t a H λb c=>r b c Q
def eC(f:js X (.builtin id) r)(g:kC X x)(i:X.c x=Z)(j:hC x=V (.builtin id))(k:jR X (e::es) t)(l:x≠"__name__":=by decide)(b:(x==("__debug__":au))=aB:=by decide)
  (m:fh (e::es) X.env=(abd aB (dC e X.env))::fh es X.env:=by rfl) (c:(nr pos<|fh es X.env).any (·.1)=aB:=by rfl):bJ X (.Call (.Name x p) (e::es) [] pos) (oU r t):=by
 intro a s d H Q I h;refine BH<|pZ I g i j ?_ l b;exact ahj (bM (k pos a s d H _ I h) λn o (q,u,v,w,y)=>f a o d u q n Q v w y) m c
def fg(f:js X (.type T) r)(g:kC X x)(i:X.c x=Z)(j:hC x=V (.type T))(k:jR X (e::es) t)(l:x≠"__name__":=by decide)(b:(x==("__debug__":au))=aB:=by decide)
  (m:fh (e::es) X.env=(abd aB (dC e X.env))::fh es X.env:=by rfl) (c:(nr pos<|fh es X.env).any (·.1)=aB:=by rfl):bJ X (.Call (.Name x p) (e::es) [] pos) (oU r t):=by
 intro a s d H Q I h;refine BH<|pZ I g i j ?_ l b;exact yR (bM (k pos a s d H _ I h) λn o (q,u,v,w,y)=>f a o d u q n Q v w y) m c
end
noncomputable def bV:List Int->List Int->Bool
 |[],[]=>aB
 |[],_::_=>af
 |_::_,[]=>aB
 |x::a,y::b=>if x=y then bV a b else aC (x<y)
def mf(x y:Int)(a b:List Int):bV (x::a) (y::b)=if x=y then bV a b else aC (x<y):=O
def Os:bV [] []=aB:=O
def yd(y:Int)(a:List Int):bV [] (y::a)=af:=O
def Ot(x:Int)(a:List Int):bV (x::a) []=aB:=O
def Z_(A:bY)(s:ak)(a:Int)(t:iM)(c:Int)(u:iM):∃e,Hx A s (.int a t) (.int c u) e/\(e=af↔a=c):=
 ((a==c),PU a t c u,by simp)
def ZU(A:bY)(s:ak)(a:Int)(t:iM)(c:Int)(u:iM)(b:bw)(w:aX)(E:Ω)(Q:Ω)(h:Q (.bool<|aC<|a<c) s):aA (aH b w) A (BN .Lt (.int a t)<|.int c u) Q E s:=
 (adv h:aA (aH b w) A (iz .Lt (.int a t)<|.int c u) Q E s)
section
open PySem.SeqAt
open PySem.AutoSeq1 (wpAny_loadPart')
open PySem.MeetsSeq PySem.MeetsSeq2 PySem.MeetsSeq3
def ZS(l b:Y)(i f:Array aa)(n n2:Nat)(dd T:Option Y)(sl U:Array (Option aa))(I K:List Int)(hi:gg i.toList I)(hj:gg f.toList K):Meets (Builtin.«tuple.__lt__» ([.ref l,.ref b],[]))
   (λ_ R s=>s.heap.get? l=V {cls:=.type "tuple",dict:=dd,data:=.seq i n,slots:=sl}/\s.heap.get? b=V {cls:=.type "tuple",dict:=T,data:=.seq f n2,slots:=U}/\
    R (.ok<|.ret<|.bool<|bV I K) s):=
 .of_wp λr w A R s h=>by
  obtain⟨L,g,d,M,P⟩:=s;obtain⟨hl,hb,h⟩:=h;have f2:=adn;have z1:i.size=I.length:=by rw[<-hi.length];simp
  have z2:f.size=K.length:=by rw[<-hj.length];simp
  wp_walk using wpAny_loadPart' hl,wpAny_loadPart' hb,yp _ (λv b X=>b.1=Z/\X=(L,g,d,M,P)/\∃(Q S:List aa)(k m:List Int),v=Q.zip S/\
   gg Q k/\gg S m/\k.length+f.size=m.length+i.size/\R (.ok<|.ret<|.bool<|bV k m) (L,g,d,M,P)) _
  case turn=>
   rintro⟨y,x⟩ v b X ⟨D,rfl,Q,S,k,m,o,E,p,j,z⟩;cases E with
   |nil=>rw[List.zip_nil_left] at o;cases o
   |cons a t G=>
    cases p with
    |nil=>rw[List.zip_nil_right] at o;cases o
    |cons c u H=>
     rw[Qx] at o;injection o with hyx hrest
     injection hyx with hy hx
     subst hy hx;rw[mf] at z;simp only[cO] at j;obtain⟨e,he,C⟩:=Z_ A.in1 (L,g,d,M,P) a t c u;refine aj<|he r w _ _ ?_;cases e with
     |true=>
      rw[az<|C.mp O] at z
      wp_walk
      exact(O,O,_,_,_,_,hrest,G,H,ω,z)
     |false=>
      rw[ap (λq=>bu (C.mpr q) dT)] at z;have a0:=ZU A.in1 (L,g,d,M,P) a t c u r w
      wp_walk using a0
      exact(_,O,by simpa using z)
  case fin=>
   rintro⟨b1,b2⟩ X ⟨D,rfl,Q,S,k,m,o,E,p,j,z⟩;simp only at D;subst D;have hv:bV k m=aC (i.size<f.size):=by
    cases E with
    |nil=>
     cases p with
     |nil=>
      simp only[mF] at j;rw[Os];exact(cK ω).symm
     |cons c u hw=>
      simp only[mF,cO] at j;rw[yd];exact(cn ω).symm
    |cons a t hv=>
     cases p with
     |nil=>
      simp only[mF,cO] at j;rw[Ot];exact(cK ω).symm
     |cons c u hw=>
      rw[Qx] at o;cases o
   rw[hv] at z
   wp_walk
   exact(_,O,by simpa[ade] using z)
  case h=>
   exact(O,O,i.toList,f.toList,I,K,O,hi,hj,ω,h)
end
section
variable{prog:bw}{w:aX}{A:bY}{E:Ω}{s:ak}
def ZX{l b:Y}{Q:Ω}(u:kP s.heap l c)(v:kP s.heap b a)(y:gg c.toList d)(z:gg a.toList e)(C:A.units<c_)(h:Q (.bool<|bV d e) s):aA (aH prog w) A (iz .Lt (.ref l)<|.ref b) Q E s:=by
 obtain⟨⟨D,G,o,H⟩,p,q,n,r⟩:=id u;obtain⟨⟨t,j,k,m⟩,f,g,I,i⟩:=id v;simp only at q r g i;subst q r g i;exact abi (op:=.Lt) (_,p,O) (_,f,O) PySem.F.slot_tuple_lt PySem.F.entry_tuple_lt (PySem.F.args_tuple_lt_2 _ _) (ZS l b c a n I G j H m d e y z)
  (p,f,show fm (bV d e)≠ab2/\Q (.bool<|bV d e) s from((λx=>nomatch x),h)) C
def Z'{t b:Y}{d a:List aa}{Q:Ω}(z:kP s.heap t d.toArray)(C:kP s.heap b a.toArray)(o:d≠[])(D:a=[]->Q (.ref t) s)(G:a≠[]->Q (.ref s⁻¹) {s with heap:=s.heap.push {cls:=.type "tuple",data:=.seq (d++a).toArray}})(l:d.length+a.length<=bQ):aA (aH prog w) A (pF .Add (.ref t)<|.ref b) Q E s:=by
 obtain⟨⟨H,p,q,r⟩,j,u,n,v⟩:=id z;obtain⟨⟨x,f,m,g⟩,c,h,y,i⟩:=id C;simp only at u v h i;subst u v h i;have e:d.toArray++a.toArray=(d++a).toArray:=by simp
 by_cases k:a=[]
 ·exact PB (_,j,O) (_,c,O) Ps Pl P_ Qc (Qe _ _)
   (tuple_addW1 t b d.toArray a.toArray n y p f r g (by simpa using o) (by simp[k])) (j,c,D k)
 ·refine PB (_,j,O) (_,c,O) Ps Pl P_ Qc (Qe _ _)
   (tuple_addW2 t b d.toArray a.toArray n y p f r g (by simpa using o) (by simpa using k) (by rw[cT,cT];exact l)) (j,c,?_)
  rw[e];exact G k
noncomputable def cz(n d:Nat):Option Int->Nat
 |none=>d
 |some v=>if v<0 then(v+(n:Int)).toNat else gc v.toNat n
def Bz(n d:Nat):cz n d Z=d:=O
def yb(n d k:Nat):cz n d (V (k:Int))=gc k n:=by
 show(if(k:Int)<0 then((k:Int)+(n:Int)).toNat else gc (k:Int).toNat n)=gc k n;rw[ap ω,su]
def ZT(n d:Nat)(b:d<=n)(o:Option Int):cz n d o<=n:=by
 cases o with
 |none=>exact b
 |some v=>
  show(if v<0 then(v+(n:Int)).toNat else gc v.toNat n)<=n
  by_cases a:v<0
  ·rw[az a];omega
  ·rw[ap a];exact Ib _ _
def Ou(v:Int)(n d:Nat):(if v<0 then max (v+(n:Int)) 0 else gc v (n:Int))=((cz n d (V v):Nat):Int):=by
 show(if v<0 then max (v+(n:Int)) 0 else gc v (n:Int))=(((if v<0 then(v+(n:Int)).toNat else gc v.toNat n):Nat):Int)
 by_cases a:v<0
 ·simp only[az a];omega
 ·simp only[ap a];omega
def γ(a b:Option Int)(n:Nat):Qk a b 1 (n:Int)=(abd (((cz n 0 a:Nat):Int)) (((cz n n b:Nat):Int))):=by
 have c:¬((1:Int)<0):=ω
 unfold Qk;simp only[c,dc];refine Prod.ext ?_ ?_
 ·cases a with
  |none=>rfl
  |some v=>exact Ou v n 0
 ·cases b with
  |none=>rfl
  |some v=>exact Ou v n n
def ZV(i j:Nat):HM (i:Int) (j:Int) 1=j-i:=by
 unfold HM;have a:(1:Int)>0:=ω
 simp only[a,dU,Int.ediv_one];split<;>omega
def Op{Q:Option Int->ak->Prop}(p:qG v o)(h:Q o s):aA (aH prog w) A (ag4 v) Q E s:=by
 cases p with
 |none=>exact slicePart_none h
 |int i t=>exact slicePart_int h
def Oq{a b:Option Int}{n:Nat}{Q:Int×Int×Nat->ak->Prop}(i:s.heap.IsSliceOf g e f .none)(j:qG e a)(k:qG f b)(h:Q (abd (((cz n 0 a:Nat):Int)) (abd 1 (cz n n b-cz n 0 a))) s):aA (aH prog w) A (adg (.ref g)<|aU (n:Int)) Q E s:=by
 obtain⟨m,c,l,d⟩:=id i;unfold adg ag5;refine aj<|aj<|jv c d (x:=e) O<|aj<|jv c d (x:=f) O<|aj<|jv c d (x:=.none) O<|aI ?_;refine aj<|slicePart_none ?_;show aA _ _ (if((1:Int)==0)=af then _ else _) _ _ s;rw[ap ξ];refine aj<|Op j<|aj<|Op k<|aj<|aI ?_;show aA _ _ (match Qk a b 1 (n:Int) with|(a,b)=>aU (abd a (abd ((1:Int)) (HM a b 1)))) _ _ s;rw[γ a b n];show aA _ _ (aU (abd (((cz n 0 a:Nat):Int)) (abd ((1:Int)) (HM ((cz n 0 a:Nat):Int) ((cz n n b:Nat):Int) 1)))) _ _ s;rw[ZV];exact aI h
def ZW(a:Array aa)(i k:Nat):((cV k).filterMap λ(m:Nat)=>a[((i:Int)+(m:Int)*1).toNat]?).toArray=((a.toList.drop i).take k).toArray:=by
 have e:(λ(m:Nat)=>a[((i:Int)+(m:Int)*1).toNat]?)=λm=>a[i+m]?:=by
  funext m
  have:((i:Int)+(m:Int)*1).toNat=i+m:=ω
  rw[this]
 rw[e];have:=pick_run a i k;rw[List.filterMap_map] at this;have b:((λx=>a[x]?) ∘ λx=>i+x)=λm=>a[i+m]?:=O;rw[b] at this;rw[this]
def ZZ{t f:Y}{l n:aa}{Q:Ω}(e:kP s.heap t a)(o:s.heap.IsSliceOf f l n .none)(p:qG l c)(r:qG n d)(hw:¬(cz a.size 0 c=0/\cz a.size a.size d=a.size))(h:Q (.ref s⁻¹) {s with heap:=s.heap.push {cls:=.type "tuple",data:=.seq ((a.toList.drop<|cz a.size 0 c).take<|cz a.size a.size d-cz a.size 0 c).toArray}})(u:a.size<=bQ):aA (aH prog w) A (pE (.ref t)<|.ref f) Q E s:=by
 have b:sizeOk (.seq ((a.toList.drop<|cz a.size 0 c).take<|cz a.size a.size d-cz a.size 0 c).toArray):=by
  show((a.toList.drop<|cz a.size 0 c).take<|cz a.size a.size d-cz a.size 0 c).toArray.size<=bQ;rw[cT,dR,mG,gR];omega
 have y:cz a.size a.size d<=a.size:=ZT _ _ (aW _) d;obtain⟨v,g,i,x⟩:=id o;have j:s.TypeIs (.ref f) "slice":=(v,g,i);unfold pE
 try with_reducible refine il ?_
 first|refine aj<|aI ?_|skip
 refine aj<|aaz e.typeIs ξ ?_;refine aj (pB (name:=kf "__getitem__") e.typeIs wd
 <|lC wd e.typeIs adz ?_<|ad1 _ _)
 show aA _ _ (adc (.ref t) >>= _) _ _ s;refine aj<|tupleItemsOf_ e ?_;refine aj<|yn j ?_;rw[az ξ];refine aj<|Oq o p r ?_;have k:¬((((cz a.size 0 c:Nat):Int)==0&&(1:Int)==1&&(cz a.size a.size d-cz a.size 0 c)==a.size)=af):=by
  intro q;rw[kW,kW] at q;have z:((cz a.size 0 c:Nat):Int)=0:=QR q.1.1;have C:cz a.size a.size d-cz a.size 0 c=a.size:=QR q.2;exact hw (ω,ω)
 show aA _ _ (if(((cz a.size 0 c:Nat):Int)==0&&(1:Int)==1&&(cz a.size a.size d-cz a.size 0 c)==a.size)=af then _ else _) _ _ s;rw[ap k,ZW]
 first
  |exact aj (m:=ag3 _)<|no (aI (_,O,aI h)) b
  |exact wpAny_bind (m:=Builtin.Tuple.tupleExact _)<|wpAny_newObj_type (wpAny_bind<|wpAny_pure<|wpAny_pure (_,rfl,wpAny_pure h)) b
  |exact wpAny_bind<|wpAny_bind (m:=Builtin.Tuple.tupleExact _)<|wpAny_newObj_type (wpAny_pure<|wpAny_pure (_,rfl,wpAny_pure h)) b
  |exact wpAny_bind<|wpAny_bind (m:=Builtin.Tuple.tupleExact _)<|wpAny_newObj_type (wpAny_pure (_,rfl,wpAny_pure h)) b
end
abbrev sN:=aO->ae->(Option Int->ae->Prop)->Prop
def sQ(X:bf)(e:Option bB)(t:sN):Prop:=
 ∀(a:Ψ)(s:ak)(b:aO)(H:ae)(Q:Option Int->ae->Prop),aE X a b H s->t b H Q->
  aA (aH X.prog X.w) X.A (evalPart e X.env) (λu d=>∃o c,aE X a b c d/\qG u o/\Q o c) X.a s
def DO:sN:=λ_ H Q=>Q Z H
inductive LU(x:ag)(Q:Option Int->ae->Prop)(H:ae):Prop
 |a:∀i,(x=.d i)->Q (V i) H->LU x Q H
def DM(t:a_):sN:=λa H Q=>t a H λx b=>LU x Q b
def oW{a:List Int}:∀{b:List aa},cw (a.map ag.d) b->gg b a:=by
 induction a with
 |nil=>intro b r;rw[CI] at r;cases r;exact .nil
 |cons n a c=>
  intro b r;rw[cI] at r;cases r with
  |cons d f=>
   obtain⟨t,e⟩:=d;subst e;exact .cons n t<|c f
section
variable{X:bf}{e:bB}{te:a_}{lo hi:Option bB}{tl th:sN}{pos p2:cD}
def pV:sQ X Z DO:=by
 intro a s b H Q I h;rw[evalPart_none];exact aI (Z,H,I,.none,h)
def pU(h:bJ X e te):sQ X (V e) (DM te):=by
 intro a s b H Q I c;rw[evalPart_some];refine bM (h a s b H _ I c) λu k (x,d,f,g,j)=>?_;obtain⟨i,rfl,q⟩:=j;obtain⟨t,rfl⟩:=g;exact(V i,d,f,.int i t,q)
def Aj(X:bf)(r:ag->Option Int->Option Int->ae->aS->Prop):Prop:=
 ∀(a:Ψ)(s:ak)(b:aO)(H:ae)(x:ag)(v c d:aa)(lo hi:Option Int)(e:Y)(Q:aS),aE X a b H s->co x v->s.heap.IsSliceOf e c d .none->qG c lo->qG d hi->r x lo hi H Q->
  ∃T f,Hg (.type T) "__getitem__"=aU (V<|.builtin f)/\s.TypeIs v T/\aA (aH X.prog X.w) X.A (pE v<|.ref e) (jj X a b Q) X.a s
def DL(r:ag->Option Int->Option Int->ae->aS->Prop)(te:a_)(tl th:sN):a_:=λa H Q=>te a H λx b=>tl a b λl c=>th a c λu d=>r x l u d Q
def uL(j:Aj X r)(k:bJ X e te)(m:sQ X lo tl)(n:sQ X hi th):bJ X (.Subscript e (.Slice lo hi Z p2) pos) (DL r te tl th):=by
 intro a s d H Q I h;refine HV<|bM (k a s d H _ I h) λv o (x,p,t,w,y)=>?_;refine wpAny_Slice<|bM (m a o d p _ t y) λf z (l,A,C,D,E)=>bM (n a z d A _ C E) λg c (u,i,G,K,L)=>?_;rw[evalPart_none];refine aI ?_;have M:aE X a d i {c with heap:=c.heap.push {cls:=.type "slice",data:=.fields #[f,g,.none]}}:=G.B (t':=c.toks) λb U q=>cx _ q;obtain⟨T,id,P,R,S⟩:=j a {c with heap:=c.heap.push {cls:=.type "slice",data:=.fields #[f,g,.none]}} d i x v f g l u c⁻¹ Q M w (acf ..) D K L;show aA (aH X.prog X.w) X.A (HN e (.Slice lo hi Z p2) v<|.ref c⁻¹) (jj X a d Q) X.a {c with heap:=c.heap.push {cls:=.type "slice",data:=.fields #[f,g,.none]}};exact tail_any (ops:=[.ref c⁻¹,v]) R P S (by with_unfolding_all rfl)
noncomputable def kt(a:List ag)(lo hi:Option Int):List ag:=(a.drop<|cz a.length 0 lo).take<|cz a.length a.length hi-cz a.length 0 lo
def Lw(a:List ag)(lo hi:Option Int):(kt a lo hi).length<=a.length:=by
 unfold kt;rw[dR,mG];omega
inductive Kl(K:aR)(x:ag)(lo:Option Int)(hi:Option Int)(H:ae)(Q:aS):Prop
 |b:∀a xs,(x=.c a)->(fM K H a xs)->(¬(cz xs.length 0 lo=0/\cz xs.length xs.length hi=xs.length))->(∀p,H p=Z->Q (.c p) (aw H p<|.b<|kt xs lo hi))->Kl K x lo hi H Q
def Kb:Aj X (Kl X.K):=by
 intro f s t H x v u w lo hi y Q I j k l m h;obtain⟨a,d,rfl,n,p,q⟩:=h;cases j;obtain⟨e,r,g,i⟩:=I.q n;have c:e.toArray.size=d.length:=by rw[cT];exact r.j.symm
 refine("tuple",_,wd.lookup,g.typeIs,?_);refine ZZ g k l m (by rw[c];exact p) ?_ (by rw[c];exact i);rw[c];refine(.c s⁻¹,_,I.F (t':=s.toks) (o:=.b<|kt d lo hi) (λb z q=>cx _ q) (aW _) ?_,O,q _<|I.a.j<|aW _);exact(dg (Lw d lo hi) i,_,(r.M<|cz d.length 0 lo).J<|cz d.length d.length hi-cz d.length 0 lo,Qo _ _)
def cw.N{b:List aa}(r:cw a b):b=[]↔a=[]:=by
 cases r with
 |nil=>simp
 |cons _ _=>simp
end
noncomputable def p_(n:Nat)(i:Int):Option Nat:=if 0<=i then(if i<n then V i.toNat else Z) else if -(n:Int)<=i then V (i+n).toNat else Z
noncomputable def j_{a:Type}(b:List a)(i:Int):Option a:=(p_ b.length i).bind λj=>b[j]?
def K'{n:Nat}{i:Int}{j:Nat}(h:p_ n i=V j):seqIndex? i n=V j/\j<n/\-(n:Int)<=i/\i<n:=by
 unfold p_ at h
 by_cases b:0<=i
 ·rw[az b] at h
  by_cases a:i<n
  ·rw[az a] at h
   have e:i.toNat=j:=cH h;exact(by rw[Pm b a,e],ω,ω,a)
  ·rw[ap a] at h;cases h
 ·rw[ap b] at h
  by_cases a:-(n:Int)<=i
  ·rw[az a] at h
   have e:(i+n).toNat=j:=cH h;exact(by rw[Pn ω a,e],ω,a,ω)
  ·rw[ap a] at h;cases h
def LY{b:Type}{a:List b}{i:Int}{v:b}(h:j_ a i=V v):∃j,seqIndex? i a.length=V j/\a[j]?=V v/\j<a.length/\-(a.length:Int)<=i/\i<a.length:=by
 unfold j_ at h;cases e:p_ a.length i with
 |none=>rw[e] at h;cases h
 |some j=>
  rw[e] at h;obtain⟨c,d,f,g⟩:=K' e;exact(j,c,h,d,f,g)
def ge{b:Type}{a:List b}{j:Nat}{v:b}(h:a[j]?=V v):j_ a (j:Int)=V v:=by
 have c:j<a.length:=(cr.mp h).1;have e:p_ a.length (j:Int)=V j:=by
  unfold p_;rw[az ω,az ω];simp
 unfold j_;rw[e];exact h
def LX{b:Type}(a:List b)(v:b):j_ (a++[v]) (-1)=V v:=by
 have c:(a++[v]).length=a.length+1:=by simp
 have e:p_ (a++[v]).length (-1)=V a.length:=by
  unfold p_;rw[c,ap ξ,az ω]
  congr 1
  omega
 unfold j_;rw[e];show(a++[v])[a.length]?=V v;simp
def VJ(b:bB):Prop:=∀o i,BJ b aB o i=Hk [o,i] (pE o i)
def EC(X:bf)(r:lV):Prop:=
 ∀(c a:bB)(b:Ψ)(s:ak)(d:aO)(H:ae)(x y:ag)(v u:aa)(Q:aS),aE X b d H s->co x v->co y u->r x y H Q->
  BJ a aB v u=Hk [v,u] (pE v u)->aA (aH X.prog X.w) X.A (HN c a v u) (jj X b d Q) X.a s
def EB(X:bf)(e:String)(r:ag->List ag->ae->aS->Prop):Prop:=
 ∀(a:Ψ)(s:ak)(b:aO)(H:ae)(x:ag)(c:List ag)(v:aa)(d:List aa)(Q:aS),aE X a b H s->co x v->cw c d->r x c H Q->
  aA (aH X.prog X.w) X.A (jJ (.builtin e)<|v::d) (jj X a b Q) X.a s
section
variable{X:bf}{a b:bB}{ta tb:a_}{pos:cD}
def eX(d:EC X r)(e:bJ X a ta)(f:bJ X b tb)(g:VJ b):bJ X (.Subscript a b pos) (eB r ta tb):=by
 intro c s i H Q I h;exact HV<|Eu e f I h λv u j x y k l m n q=>d a b c j i k x y v u Q l m n q<|g _ _
inductive Ks(K:aR)(x:ag)(y:ag)(H:ae)(Q:aS):Prop
 |a:∀p xs i v,(x=.c p)->(y=.d i)->(bP K H p xs)->(j_ xs i=V v)->(Q v H)->Ks K x y H Q
inductive rf(K:aR)(x:ag)(y:ag)(H:ae)(Q:aS):Prop
 |a:∀p xs i v,(x=.c p)->(y=.d i)->(fM K H p xs)->(j_ xs i=V v)->(Q v H)->rf K x y H Q
def lg:EC X (Ks X.K):=by
 intro d e a s m H x y v u Q I C D h n;obtain⟨p,S,i,z,rfl,rfl,E,G,q⟩:=h;cases C;obtain⟨t,rfl⟩:=D;obtain⟨f,r,g,T⟩:=I.j E;obtain⟨j,c,K,U,L,M⟩:=LY G;obtain⟨w,o,k⟩:=r.q K;have P:=r.j;have hn:=Ac;have b:jj X a m Q w s:=(z,H,I,k,q)
 by_cases A:0<=i
 ·have l:i.toNat=j:=by
   rw[Pm A M] at c;exact cH c
  exact item_listR g.isList A ω (by rw[l];simpa using o) b n
 ·have l:(i+(f.toArray.size:Int)).toNat=j:=by
   rw[Pn ω L] at c;rw[cT,<-P];exact cH c
  exact adq (x:=w) g.isList.typeIs Pj.lookup
   (wpAny_getItem_list_neg (Q:=λr R=>r=w/\jj X a m Q r R) g.isList ω (by rw[cT]<;>omega) ω (by rw[l];simpa using o) (O,b)) n
def jf:EC X (rf X.K):=by
 intro b c a s f H U y v u Q I k l h m;obtain⟨p,L,i,z,rfl,rfl,n,o,q⟩:=h;cases k;obtain⟨t,rfl⟩:=l;obtain⟨A,r,g,M⟩:=I.q n;obtain⟨j,C,D,P,R,S⟩:=LY o;obtain⟨w,E,d⟩:=r.q D;have G:=r.j;have T:=Ac;have e:jj X a f Q w s:=(z,H,I,d,q);exact adq (x:=w) g.typeIs wd.lookup
  (getItem_tuple (j:=j) (Q:=λr K=>r=w/\jj X a f Q r K) g ω ω (by rw[cT,<-G];exact C) (by simpa using E) (O,e)) m
def UD(a:List aa)(n j:Nat)(u:aa):de (·.setIfInBounds j u) {cls:=.type "list",data:=.seq a.toArray n}={cls:=.type "list",data:=.seq (a.set j u).toArray n}:=by
 simp[de]
def aE.C6{b:Ψ}{d:aO}(I:aE X b d H s)(h:H p=V (.a c)):∃(a:List aa)(n:Nat),cw c a/\s.heap.get? p=V {cls:=.type "list",data:=.seq a.toArray n}/\c.length<=bQ:=by
 obtain⟨z,a,n,r,e⟩:=I.a p _ h;exact(a,n,r,e,z)
def aE.D0{j:aO}{l g:List ag}{d a:List aa}{n i:Nat}{f:bA->bA}(I:aE X c j H s)(h:H p=V (.a l))(m:s.heap.get? p=V {cls:=.type "list",data:=.seq d.toArray n})(k:f {cls:=.type "list",data:=.seq d.toArray n}={cls:=.type "list",data:=.seq a.toArray i})(r:cw g a)(o:g.length<=bQ)(t:Nat):aE X c j (aw H p<|.a g) {s with heap:=s.heap.update p f,toks:=t}:=by
 have e:(s.heap.update p f).get? p=V {cls:=.type "list",data:=.seq a.toArray i}:=by
  rw[yI f m (by rw[k]<;>rfl),k]
 refine I.B1 (x:=p) (e:=p) (by rw[h];trivial) (.inl O) (λb u v q=>(Cf _ _<|eA v).trans q) (_,e) ?_;exact(o,a,i,r,e)
inductive Kn(o:ag)(i:ag)(v:ag)(H:ae)(Q:ae->Prop):Prop
 |a:∀p xs k j,(o=.c p)->(i=.d k)->(H p=V (.a xs))->(p_ xs.length k=V j)->(Q<|aw H p<|.a<|xs.set j v)->Kn o i v H Q
def Kd:Mb X Kn:=by
 intro a s y H o i v K L u Q I z A C h;obtain⟨p,D,k,j,rfl,rfl,g,E,q⟩:=h;cases z;obtain⟨t,rfl⟩:=A;obtain⟨b,n,r,d,G⟩:=I.C6 g;obtain⟨c,M,l,m⟩:=K' E;have e:=r.j;have P:=Ac;have w:aE X a y (aw H p<|.a<|D.set j v) {s with heap:=s.heap.update p (de (·.setIfInBounds j u))}:=
  I.D0 g d (UD b n j u) (r.A0 C j) (by rw[List.length_set];exact G) s.toks
 by_cases x:0<=k
 ·have f:k.toNat=j:=by
   rw[Pm x m] at c;exact cH c
  exact PySem.W.ki_setAt d x ω (by rw[cT,<-e];exact m) (by rw[f];exact(_,w,q))
 ·have f:(k+(b.toArray.size:Int)).toNat=j:=by
   rw[Pn ω l] at c;rw[cT,<-e];exact cH c
  exact PySem.W.ki_setBack d ω (by rw[cT,<-e];exact l) ω (by rw[f];exact(_,w,q))
def TK(a b:Option Int)(n:Nat):(im a b Z n).1=((cz n 0 a:Nat):Int)/\(im a b Z n).2.1=((cz n n b:Nat):Int)/\(im a b Z n).2.2=1:=by
 refine(?_,?_,O)
 ·cases a with
  |none=>simp[im,cz]
  |some i=>
   simp only[im,cz,ad4,show(1:Int)>0 from ξ,dU]
   by_cases h:i<0
   ·simp only[h,dU]<;>omega
   ·simp only[h,dc]<;>omega
 ·cases b with
  |none=>simp[im,cz]
  |some i=>
   simp only[im,cz,ad4,show(1:Int)>0 from ξ,dU]
   by_cases h:i<0
   ·simp only[h,dU]<;>omega
   ·simp only[h,dc]<;>omega
def TL(a:List aa)(b c:Option Int):slicePick a.toArray b c Z=((a.drop<|cz a.length 0 b).take<|cz a.length a.length c-cz a.length 0 b).toArray:=by
 obtain⟨d,e,f⟩:=TK b c a.toArray.size;unfold slicePick;rw[d,e,f];simp only[sliceRange_one,pick_run,cT]<;>rfl
inductive Km(K:aR)(x:ag)(lo:Option Int)(hi:Option Int)(H:ae)(Q:aS):Prop
 |b:∀a xs,(x=.c a)->(bP K H a xs)->(∀p,H p=Z->Q (.c p) (aw H p<|.a<|kt xs lo hi))->Km K x lo hi H Q
def TM:Aj X (Km X.K):=by
 intro g s u H x v w y e f z Q I j k l m h;obtain⟨a,c,rfl,n,q⟩:=h;cases j;obtain⟨p,r,i,t⟩:=I.j n;have d:=r.j;refine("list",_,Pj.lookup,i.isList.typeIs,?_);refine aa7 i.isList k l m .none (by simp) ?_ (by rw[cT]<;>exact à (æ d) t);rw[TL,<-d];refine(.c s⁻¹,_,I.F (t':=s.toks) (o:=.a<|kt c e f) (λb A q=>cx _ q) (aW _) ?_,O,q _<|I.a.j<|aW _);exact(dg (Lw c e f) t,_,0,(r.M<|cz c.length 0 e).J<|cz c.length c.length f-cz c.length 0 e,dF _ O)
noncomputable def Lk:ag->Bool
 |.g=>af
 |.e _=>af
 |.d _=>af
 |.f _=>af
 |_=>aB
noncomputable def Vj:ag->ag->Bool
 |.g,.g=>af
 |.e a,.e b=>a==b
 |.e a,.d b=>(if a then 1 else 0)==b
 |.d a,.e b=>a==(if b then 1 else 0)
 |.d a,.d b=>a==b
 |.f a,.f b=>a==b
 |_,_=>aB
def Vl(e:co y u)(c:co x v)(g:Lk y=af)(f:Lk x=af):Hx A s u v (Vj y x):=by
 cases y with
 |g=>
  cases e;cases x with
  |g=>cases c;exact SeqAt.EqAt.same _
  |e b=>cases c;exact SeqAt.EqAt.none_bool b
  |d b=>obtain⟨t,rfl⟩:=c;exact SeqAt.EqAt.none_int b t
  |f b=>obtain⟨t,rfl⟩:=c;exact SeqAt.EqAt.none_str b t
  |_=>exact bu (show aB=af from f) dT
 |e a=>
  cases e;cases x with
  |g=>cases c;exact SeqAt.EqAt.bool_none a
  |e b=>cases c;exact SeqAt.EqAt.bool_bool a b
  |d b=>obtain⟨t,rfl⟩:=c;exact SeqAt.EqAt.bool_int a b t
  |f b=>obtain⟨t,rfl⟩:=c;exact SeqAt.EqAt.bool_str a b t
  |_=>exact bu (show aB=af from f) dT
 |d a=>
  obtain⟨d,rfl⟩:=e;cases x with
  |g=>cases c;exact SeqAt.EqAt.int_none a d
  |e b=>cases c;exact SeqAt.EqAt.int_bool a d b
  |d b=>obtain⟨t,rfl⟩:=c;exact PU a d b t
  |f b=>obtain⟨t,rfl⟩:=c;exact ab8 a d b t
  |_=>exact bu (show aB=af from f) dT
 |f a=>
  obtain⟨d,rfl⟩:=e;cases x with
  |g=>cases c;exact SeqAt.EqAt.str_none a d
  |e b=>cases c;exact SeqAt.EqAt.str_bool a d b
  |d b=>obtain⟨t,rfl⟩:=c;exact ab7 a d b t
  |f b=>obtain⟨t,rfl⟩:=c;exact SeqAt.EqAt.str_str a d b t
  |_=>exact bu (show aB=af from f) dT
 |_=>exact bu (show aB=af from g) dT
inductive wG(K:aR)(xs:List ag)(H:ae)(Q:aS):Prop
 |a:∀p ys,(xs=[.c p])->(bP K H p ys\/fM K H p ys)->Q (.d ys.length) H->wG K xs H Q
def ie:js X (.builtin "len") (wG X.K):=by
 intro f s k H l m Q I r h;obtain⟨p,g,rfl,b,q⟩:=h;obtain⟨u,rfl,i⟩:=iF r;cases i;have n:=Ac;rcases b with b|b
 ·obtain⟨c,d,e,j⟩:=I.j b
  have a:=d.j;exact Calls.call_len_list e.isList (by simp only[cT]<;>omega) (.d g.length,H,I.J _,(s.toks+1,by rw[cT,a]),q)
 ·obtain⟨c,d,e,j⟩:=I.q b
  have a:=d.j;exact len_tuple e (by simp only[cT]<;>omega) (.d g.length,H,I.J _,(s.toks+1,by rw[cT,a]),q)
inductive Kr(K:aR)(xs:List ag)(H:ae)(Q:aS):Prop
 |a:∀p ys,(xs=[.c p])->(bP K H p ys\/fM K H p ys)->(∀l,H l=Z->Q (.c l) (aw H l<|.a ys))->Kr K xs H Q
def sM:js X (.type "list") (Kr X.K):=by
 intro g s A H D E Q I r h;obtain⟨p,t,rfl,i,q⟩:=h;obtain⟨u,rfl,C⟩:=iF r;cases C;have j:∀(a:List aa),cw t a->t.length<=bQ->∀(c:aT)(d:Nat),(∀b z,s.heap.get? b=V z->c.get? b=V z)->
   c.get? s⁻¹=V {cls:=.type "list",dict:=Z,data:=.seq a.toArray d,slots:=#[]}->jj X g A Q (.ref s⁻¹) {s with heap:=c}:=λa f k c d l e=>
  (.c s⁻¹,_,I.F (t':=s.toks) l (aW _)<|show dt X.prog X.w _ c _ (.a t) from(k,a,d,f,e),O,q _<|I.a.j<|aW _)
 rcases i with i|i
 ·obtain⟨a,f,v,k⟩:=I.j i
  have m:=f.j;obtain⟨o,w,x,n,y⟩:=v.isList;exact call_list_seq p (.inl O) w x y (λc d l e=>j a f k c d l e) (by simp only[cT]<;>exact à (æ m) k)
 ·obtain⟨a,f,v,k⟩:=I.q i
  have m:=f.j;obtain⟨o,w,x,n,y⟩:=v;exact call_list_seq p (.inr O) w x y (λc d l e=>j a f k c d l e) (by simp only[cT]<;>exact à (æ m) k)
def Ah:js X (.type "tuple") (λk H Q=>∃p d,k=[.c p]/\((bP X.K H p d/\∀l,H l=Z->Q (.c l) (aw H l<|.b d))\/(fM X.K H p d/\Q (.c p) H))):=by
 intro a s m H k z Q I r h;obtain⟨p,d,rfl,h⟩:=h;obtain⟨u,rfl,w⟩:=iF r;cases w;rcases h with ⟨g,q⟩|⟨g,q⟩
 ·obtain⟨c,i,j,n⟩:=I.j g
  have t:=i.j;refine call_tuple_list j.isList (λf x=>?_) (by simp only[cT]<;>exact à (æ t) n);have v:aE X a m H {s with heap:=f}:=I.B (t':=s.toks) x;have y:aE X a m (aw H f.objs.size<|.b d) {s with heap:=f.push {cls:=.type "tuple",data:=.seq c.toArray}}:=
   v.F (t':=s.toks) (λb o e=>cx _ e) (aW _)<|show dt X.prog X.w _ _ _ (.b d) from(n,c,i,Qo _ _)
  exact(.c f.objs.size,_,y,O,q _<|v.a.j<|aW _)
 ·obtain⟨c,i,j,n⟩:=I.q g
  exact call_tuple_same j (.c p,H,I,O,q)
def DJ(K:aR)(T:String)(x:ag)(H:ae):Prop:=match x with
 |.f _=>T="str"
 |.d _=>T="int"
 |.c p=>(T="list"/\∃b,bP K H p b)\/(T="tuple"/\∃o,K.lookup p=V o/\o.cls=.type "tuple"/\o.dict=Z) \/
   (T="dict"/\((∃a,H p=V (.e a))\/∃a,H p=V (.c a)))\/(T="set"/\∃S n,H p=V (.k S n))
 |_=>False
def JS{q:aO}(I:aE X f q H s)(r:co x v)(g:DJ X.K T x H):s.TypeIs v T/\∀a,v=.ref a->∃l,s.heap.get? a=V l/\l.dict=Z:=by
 cases x with
 |f z=>
  obtain⟨t,rfl⟩:=r;cases(show T="str" from g);exact(Hh s z t,λ_ e=>nomatch e)
 |d i=>
  obtain⟨t,rfl⟩:=r;cases(show T="int" from g);exact(typeIs_int s i t,λ_ e=>nomatch e)
 |c p=>
  cases r;rcases g with ⟨rfl,A,u⟩|⟨rfl,o,b,w,h⟩|⟨rfl,b⟩|⟨rfl,S,n,b⟩
  ·obtain⟨y,_,m,_⟩:=I.j u
   refine(m.isList.typeIs,λa e=>?_);cases e;obtain⟨o,n,e,c,h,_⟩:=m;exact(o,e,h)
  ·refine((o,I.A1 p o b,w),λa e=>?_)
   cases e;exact(o,I.A1 _ o b,h)
  ·have z:∃o,s.heap.get? p=V o/\o.ExactDict:=by
    rcases b with ⟨j,b⟩|⟨j,b⟩
    ·obtain⟨_,_,_,_,o,_,_,e,d,_⟩:=I.a p _ b
     exact(o,e,d)
    ·obtain⟨_,_,_,_,o,_,_,e,d,_⟩:=I.a p _ b
     exact(o,e,d)
   obtain⟨o,e,d⟩:=z;refine((o,e,d.1),λa k=>?_);cases k;exact(o,e,d.2.1)
  ·obtain⟨o,_,_,_,e,d,_⟩:=I.a p _ b
   refine((o,e,d.1),λa k=>?_);cases k;exact(o,e,d.2.1)
 |_=>exact iC g
def TB(K:aR)(T:String)(r:ag->List ag->ae->aS->Prop)(b:a_):a_:=λc H Q=>b c H λx a=>DJ K T x a/\r x [] a Q
def J_(K:aR)(T:String)(r:ag->List ag->ae->aS->Prop)(c:a_)(t:fX):a_:=λa H Q=>c a H λx b=>DJ K T x b/\t a b λd e=>r x d e Q
variable{o e:bB}{es:List bB}{to:a_}{t:fX}{name:au}{apos cpos:cD}{T id:String}{r:ag->List ag->ae->aS->Prop}
def Uk(j:PlainAttrs T)(d:Slot T name id)(e:typeOf (.builtin id)=aU (.type "method_descriptor"))(k:EB X id r)(l:bJ X o to)(b:BR o name X.env (dC o X.env)=dC o X.env:=by rfl)(c:(apos.endLine==cpos.line)=af:=by rfl):bJ X (.Call (.Attribute o name apos) [] [] cpos) (TB X.K T r to):=by
 intro a s f H Q I h;refine abe b c<|bM (l a s f H _ I h) λv m (x,n,g,i,p,q)=>?_;obtain⟨t,u⟩:=JS g i p;exact(T,id,j,d,e,t,u,HK O<|abq<|k a m f n x [] v [] Q g i .nil q)
def mP(n:PlainAttrs T)(f:Slot T name id)(i:typeOf (.builtin id)=aU (.type "method_descriptor"))(p:EB X id r)(q:bJ X o to)(u:jR X (e::es) t)(c:BR o name X.env (dC o X.env)=dC o X.env:=by rfl)
  (g:((nr cpos<|fh (e::es) X.env).all (λx=>!x.1)&&(PJ cpos<|Pv [] X.env).all (λx=>x.1.isSome)
   && aC ((e::es).length+([]:List vV).length+(if([]:List vV).isEmpty then 0 else 1)<30))=af:=by rfl)
  (d:(apos.endLine==cpos.line)=af:=by rfl) (w:fh (e::es) X.env=(abd aB (dC e X.env))::fh es X.env:=by rfl) (b:(nr cpos<|fh es X.env).any (·.1)=aB:=by rfl) :
  bJ X (.Call (.Attribute o name apos) (e::es) [] cpos) (J_ X.K T r to t):=by
 intro a s j H Q I h;refine wpAny_Call_method_late c g d O<|bM (q a s j H _ I h) λv y (x,z,k,l,A,C)=>?_;obtain⟨D,E⟩:=JS k l A;refine(T,id,n,f,i,D,E,?_);have m:=u cpos a y j z _ k C;rw[w] at m ⊢;refine HK (by show(aB|| (nr cpos<|fh es X.env).any (·.1))=aB;rw[b]<;>rfl)<|ac9 ?_;exact bM m λG K (L,M,P,R,S)=>p a K j M x L v G Q P l R S
end
def uX(X:bf)(e:String)(r:ag->List ag->ae->aS->Prop):Prop:=
 ∀(a:Ψ)(s:ak)(b:aO)(H:ae)(x:ag)(c:List ag)(v:aa)(d:List aa)(Q:aS),aE X a b H s->co x v->cw c d->r x c H Q->
  aA (aH X.prog X.w) X.A (jJ (.builtin e)<|v::d) (jj X a b Q) X.a s
noncomputable def cw.F{x:ag}(h:cw [x] a):∃u,a=[u]/\co x u:=by
 cases h with|cons r t=>cases t;exact(_,O,r)
def cw.A1{x y:ag}(h:cw [x,y] a):∃u v,a=[u,v]/\co x u/\co y v:=by
 cases h with|cons r t=>obtain⟨v,rfl,q⟩:=cw.F t;exact(_,_,O,r,q)
def cw.W:∀{a:List aa},cw [] a->a=[]
 |_,.nil=>O
def cw.A3{b:List aa}(h:cw a b):cw a.dropLast b.dropLast:=by
 induction h with
 |nil=>exact .nil
 |cons r t c=>
  cases t with
  |nil=>exact .nil
  |cons q d=>exact .cons r c
def cw.A2:∀{a:List ag}{b:List aa}(i:Nat),cw a b->cw (a.eraseIdx i) (b.eraseIdx i)
 |_,_,_,.nil=>.nil
 |_,_,0,.cons _ t=>t
 |_,_,i+1,.cons r t=>.cons r (cw.A2 i t)
def cw.A4{b:List aa}(h:cw a b):cw a.reverse b.reverse:=by
 induction h with
 |nil=>exact .nil
 |cons r t c=>rw[Ip,Ip];exact cw.B c<|.cons r .nil
def Vi{c:Type}(l:List c):l.eraseIdx (l.length-1)=l.dropLast:=by
 induction l with
 |nil=>rfl
 |cons a r d=>
  cases r with
  |nil=>rfl
  |cons b r=>
   have e:(a::b::r).length-1=((b::r).length-1)+1:=by
    have f:(a::b::r).length=r.length+2:=O;have g:(b::r).length=r.length+1:=O;omega
   rw[e,List.eraseIdx_cons_succ,d]
   all_goals rfl
section
variable{X:bf}{pins:Ψ}{σ:aO}{H:ae}{s:ak}{l b:Y}{xs ys zs:List ag}
def aE.B0{a its':List aa}{n:Nat}{f:Array aa->Array aa}{t':Nat}(I:aE X pins σ H s)(b:H l=V (.a xs))(e:s.heap.get? l=V {cls:=.type "list",data:=.seq a.toArray n})(c:f a.toArray=its'.toArray)(d:cw ys its')(g:ys.length<=bQ):aE X pins σ (aw H l<|.a ys) {s with heap:=s.heap.update l<|de f,toks:=t'}:=by
 have q:=PySem.IsL.update e f;rw[c] at q;refine I.B1 (x:=l) (e:=l) (by rw[b];exact trivial) (.inl O) (λj u h i=>(Cf s.heap (de f)<|eA h).trans i) (_,q) ?_;exact(g,its',_,d,q)
def aE.B5{a:List aa}{t':Nat}(I:aE X pins σ H s)(b:cw ys a)(c:ys.length<=bQ):aE X pins σ (aw H s⁻¹<|.a ys) {s with heap:=s.heap.push {cls:=.type "list",data:=.seq a.toArray},toks:=t'}:=
 I.F (λ_ _ q=>cx _ q) (aW _) (c,a,0,b,dF _ O)
def aE.D1(I:aE X pins σ H s):H s⁻¹=Z:=I.a.j<|aW _
def aE.W(I:aE X pins σ H s)(b:H l=V (.a xs)):xs.length<=bQ/\∃(a:List aa)(n:Nat),cw xs a/\xs.length=a.length/\s.heap.get? l=V {cls:=.type "list",data:=.seq a.toArray n}:=by
 obtain⟨z,a,n,r,e⟩:=I.a l _ b;exact(z,a,n,r,r.j,e)
def Uu{n:Nat}(h:n<=bQ):Ql n=aB:=by
 unfold Ql;exact cK (ù h)
end
section
variable{X:bf}
inductive Kw(x:ag)(vs:List ag)(H:ae)(Q:aS):Prop
 |a:∀l xs y,(x=.c l)->(vs=[y])->(H l=V (.a xs))->(xs.length<bQ)->(Q .g<|aw H l<|.a<|xs++[y])->Kw x vs H Q
def rh:uX X "list.append" Kw:=by
 intro b s i H x j v k Q I d f h;obtain⟨l,m,y,rfl,rfl,c,o,q⟩:=h;cases d;obtain⟨u,rfl,g⟩:=f.F;obtain⟨z,a,n,r,p,e⟩:=I.W c;refine rO ua (_,e,O) F.entry_list_append (F.args_list_append_2 _ _) (PySem.list_append l a.toArray n u (by rw[cT];exact à (æ p) z)) (e,?_);refine(.g,_,I.B0 (its':=a++[u]) c e (by simp) (r.B<|.cons g .nil) ?_,O,q);rw[ck,kR];exact o
inductive Ku(x:ag)(vs:List ag)(H:ae)(Q:aS):Prop
 |a:∀l b xs zs,(x=.c l)->(vs=[.c b])->(H l=V (.a xs))->(H b=V (.a zs))->(xs.length+zs.length<=bQ)->(Q .g<|aw H l<|.a<|xs++zs)->Ku x vs H Q
def KV:uX X "list.extend" Ku:=by
 intro g s A H x C v D Q I j k h;obtain⟨l,b,E,G,rfl,rfl,i,m,K,q⟩:=h;cases j;obtain⟨u,rfl,o⟩:=k.F;cases o;obtain⟨z,c,n,r,L,e⟩:=I.W i;obtain⟨M,a,p,t,w,y⟩:=I.W m;have f:c.toArray.size+a.toArray.size<=bQ:=by rw[cT,cT];exact à (à (ð (æ L)) (ñ (æ w))) K
 have d:¬(!c.toArray.isEmpty&&Ql (c.toArray.size+a.toArray.size))=af:=by
  rw[Uu f,zk];exact dT
 refine rO Qa (_,e,O) F.entry_list_extend (F.args_list_extend_2 _ _)
  (AutoSeq1.list_extend_list_list_0 l c.toArray n b a.toArray p d (by rw[cT];exact à (æ L) z) (í f)) (e,y,?_)
 refine(.g,_,I.B0 (its':=c++a) i e (by simp) (r.B t) ?_,O,q);rw[ck];exact K
inductive Ko(x:ag)(vs:List ag)(H:ae)(Q:aS):Prop
 |a:∀l xs y,(x=.c l)->(vs=[])->(H l=V (.a xs))->(xs[xs.length-1]?=V y)->(Q y<|aw H l<|.a xs.dropLast)->Ko x vs H Q
def Ux:uX X "list.pop" Ko:=by
 intro d s p H x t v w Q I g i h;obtain⟨l,A,y,rfl,rfl,f,j,q⟩:=h;cases g;have b:=i.W;subst b;obtain⟨z,a,n,r,k,e⟩:=I.W f;obtain⟨u,m,o⟩:=r.q j;have c:a.toArray[a.toArray.size-1]?=V u:=by
  show a.toArray[a.length-1]?=V u;rw[<-jB,<-k];exact m
 refine rO ach (_,e,O) F.entry_list_pop (F.args_list_pop_1 _) (MeetsSeq.list_pop_last l a.toArray n u c (by rw[cT];exact à (æ k) z)) (e,?_);refine(y,_,I.B0 (its':=a.dropLast) f e ?_ r.A3 ?_,o,q)
 ·show a.toArray.eraseIdxIfInBounds (a.toArray.size-1)=a.dropLast.toArray
  rw[cT,List.eraseIdxIfInBounds_toArray,Vi]
 ·rw[aeq]
  omega
inductive Kv(x:ag)(y:ag)(H:ae)(Q:aS):Prop
 |a:∀l b xs zs,(x=.c l)->(y=.c b)->(H l=V (.a xs))->(H b=V (.a zs))->(xs.length+zs.length<=bQ)->(∀p,H p=Z->Q (.c p) (aw H p<|.a<|xs++zs))->Kv x y H Q
def uN:fE X (pF .Add) Kv:=by
 intro d s t H x y v u Q I f g h;obtain⟨l,b,w,A,rfl,rfl,i,j,C,q⟩:=h;cases f;cases g;obtain⟨z,c,n,r,D,e⟩:=I.W i;obtain⟨E,a,G,k,m,o⟩:=I.W j;refine PySem.P.add_list e o ?_ (by rw[cT,cT];exact à (à (ð (æ D)) (ñ (æ m))) C);have p:c.toArray++a.toArray=(c++a).toArray:=by simp
 rw[p];exact(.c _,_,I.B5 (t':=s.toks) (r.B k) (by rw[ck];exact C),O,q _ I.D1)
end
section
variable{prog:bw}{w:aX}{A:bY}{E:Ω}{s:ak}
set_option maxRecDepth 100000 in
end
section
variable{κ:Type}[DecidableEq κ]
noncomputable def fy(a:List (κ×ag))(k:κ):Option ag:=(a.find? λb=>aC<|b.1=k).map (·.2)
noncomputable def fB(a:List (κ×ag))(k:κ)(v:ag):List (κ×ag):=
 if(a.any λb=>aC<|b.1=k)=af then a.map (λb=>if b.1=k then(abd b.1 v) else b) else a++[(abd k v)]
def sC{p:κ×ag}{r:List (κ×ag)}{k:κ}(e:p.1=k):fy (p::r) k=V p.2:=by simp[fy,qQ,e]
def pT{p:κ×ag}{r:List (κ×ag)}{k:κ}(e:¬p.1=k):fy (p::r) k=fy r k:=by simp[fy,qQ,e]
def sD(k:κ):∀a:List (κ×ag),(a.any λb=>aC<|b.1=k)=(fy a k).isSome
 |[]=>O
 |p::r=>by
  rw[II]
  by_cases e:p.1=k
  ·simp only[sC e,cn e,Bool.true_or,Option.isSome_some]
  ·rw[pT e,cK e,Bool.false_or];exact sD k r
def Eh(a:List (κ×ag))(k:κ)(v:ag):(fB a k v).length<=a.length+1:=by
 unfold fB;split
 ·rw[ax];exact ü
 ·rw[ck,cO,mF];exact ß
def DY{k:κ}(v:ag)(h:fy a k=Z):fB a k v=a++[(abd k v)]:=by
 unfold fB;rw[sD,h];exact ap ξ
noncomputable def ro.j(r:ro o u):o.isSome=u.isSome:=by
 cases o with
 |none=>cases u with
  |none=>rfl
  |some _=>exact(show False from r).elim
 |some _=>cases u with
  |none=>exact(show False from r).elim
  |some _=>rfl
noncomputable def ro.B(r:ro o u)(b:co d a):co (o.getD d) (u.getD a):=by
 cases o with
 |none=>cases u with
  |none=>exact b
  |some _=>exact(show False from r).elim
 |some _=>cases u with
  |none=>exact(show False from r).elim
  |some _=>exact r
def ky.val(r:ky a f)(k:κ):ro (fy a k) (vO f k):=by
 unfold ky at r
 induction r with
 |nil=>exact vM
 |@cons p q l c h t i=>
  obtain⟨g,j⟩:=h
  by_cases e:p.1=k
  ·have d:q.1=k:=g.symm.trans e
   have b:vO (q::c) k=V q.2:=by simp[vO,qQ,d]
   rw[sC e,b];exact j
  ·have d:¬q.1=k:=λz=>e<|g.trans z
   have b:vO (q::c) k=vO c k:=by simp[vO,qQ,d]
   rw[pT e,b];exact i
noncomputable def ky.F(r:ky a c)(k:κ):(a.any λb=>aC<|b.1=k)=c.any λb=>aC<|b.1=k:=by
 unfold ky at r
 induction r with
 |nil=>rfl
 |cons h t d=>rw[II,II,d,h.1]
def ky.J{b:List (κ×ag)}(r:ky b d)(k:κ)(f:co y u):ky (b.map λa=>if a.1=k then(abd a.1 y) else a) (d.map λa=>if a.1=k then(abd a.1 u) else a):=by
 unfold ky at r ⊢
 induction r with
 |nil=>exact .nil
 |@cons p q j l h t g=>
  rw[cI,cI];refine .cons ?_ g;obtain⟨c,i⟩:=h
  by_cases e:p.1=k
  ·rw[az e,az<|c.symm.trans e];exact(c,f)
  ·rw[ap e,ap (λz=>e<|c.trans z)];exact(c,i)
noncomputable def ky.B{b:List (κ×aa)}(r:ky a b)(k:κ)(c:co y u):ky (fB a k y) (stored b k u):=by
 unfold fB stored;rw[r.F k]
 by_cases e:(b.any λd=>aC<|d.1=k)=af
 ·rw[az e,az e];exact r.J k c
 ·rw[ap e,ap e];exact tZ r (O,c)
noncomputable def ky.j{b:List (κ×aa)}(r:ky a b):a.length=b.length:=fP r
end
def uP{k:aV}(r:co (dr k) u):(fW P w).is k u=af:=by
 cases k with
 |inl i=>obtain⟨t,e⟩:=(show ∃t,u=bz i t from r);subst e;exact Ee P w i t
 |inr x=>obtain⟨t,e⟩:=(show ∃t,u=tU x t from r);subst e;exact UB P w x t
def La:∀{a:List aV}{b:List aa},cw (a.map dr) b->Ce (fW P w) a b
 |[],_,r=>by rw[CI] at r;cases r;exact .nil
 |k::a,_,r=>by
  rw[cI] at r;cases r with
  |cons h t=>exact .cons (uP h)<|La t
abbrev jq(H:ae):List (List aV×ag)->List (List aV×Y×aa)->Prop:=du λp q=>p.1=q.1/\H q.2.1=V (.b<|p.1.map dr)/\co p.2 q.2.2
def jq.val(r:jq H a f)(k:List aV):ro (fy a k) ((rP f k).map (·.2)):=by
 induction r with
 |nil=>exact vM
 |@cons p q l c h t i=>
  obtain⟨g,_,j⟩:=h
  by_cases e:p.1=k
  ·have d:q.1=k:=g.symm.trans e
   have b:rP (q::c) k=V q.2:=by simp[rP,qQ,d]
   rw[sC e,b];exact j
  ·have d:¬q.1=k:=λz=>e<|g.trans z
   have b:rP (q::c) k=rP c k:=by simp[rP,qQ,d]
   rw[pT e,b];exact i
noncomputable def jq.F(r:jq H a d)(k:List aV)(g:co y u):jq H (a.map λc=>if c.1=k then(abd c.1 y) else c) (d.map<|putAt k u):=by
 induction r with
 |nil=>exact .nil
 |@cons p q l m h t i=>
  rw[cI,cI];refine .cons ?_ i;obtain⟨b,f,j⟩:=h;unfold putAt
  by_cases e:p.1=k
  ·rw[az e,az<|b.symm.trans e];exact(b,f,g)
  ·rw[ap e,ap (λz=>e<|b.trans z)];exact(b,f,j)
noncomputable def jq.B(r:jq H kvs a)(k:List aV){b:Y}(d:H b=V (.b<|k.map dr))(c:co y u):jq H (fB kvs k y) (BK a k b u):=by
 have e:(kvs.any λf=>aC<|f.1=k)=(rP a k).isSome:=by
  rw[sD,(r.val k).j,Qq]
 unfold fB BK;rw[e]
 by_cases q:(rP a k).isSome=af
 ·rw[az q,az q];exact r.F k c
 ·rw[ap q,ap q];exact tZ r (O,d,c)
noncomputable def jq.j{H c:ae}(r:jq H a d)(f:∀b e,H b=V (.b e)->c b=V (.b e)):jq c a d:=
 gf r λ_ _ z=>(z.1,f _ _ z.2.1,z.2.2)
section
variable{P:bw}{w:aX}{H:ae}{h:aT}{a:Y}
def Ki(b:gF P w H h)(e:iY H a u):dt P w H h a u:=e.j b
def sJ{b:List (aV×ag)}(d:gF P w H h)(e:iY H a (.e b)):b.length<=bQ/\(a==jw)=aB/\∃c,ky b c/\h.DictOf (fW P w) a c:=
 show dt P w H h a (.e b) from Ki d e
def Lo{b:List (aV×ag)}(d:gF P w H h)(e:H a=V (.e b)):b.length<=bQ/\(a==jw)=aB/\∃c,ky b c/\h.DictOf (fW P w) a c:=sJ d<|.inl e
def rj{b:List aV}(d:gF P w H h)(e:H a=V (.b<|b.map dr)):(jV<|fW P w).is h b a:=by
 obtain⟨_,c,r,o,f,g,n,i⟩:=(show dt P w H h a (.b<|b.map dr) from d a _ e);exact(o,c.toArray,n,f,g,i,by simpa using La r)
def sI{b:List (List aV×ag)}(g:gF P w H h)(e:iY H a (.c b)):b.length<=bQ/\(a==jw)=aB/\
  ∃d,jq H b d/\h.DictOfH (jV<|fW P w) a d:=by
 obtain⟨z,y,d,r,o,j,k,n,s,u,v,A⟩:=(show dt P w H h a (.c b) from Ki g e);refine(z,y,d,r,o,j,k,n,s,u,v,λx c=>?_,A);have f:∀{l:List (List aV×ag)}{m:List (List aV×Y×aa)},jq H l m->∀x∈m,(jV<|fW P w).is h x.1 x.2.1:=by
  intro l m q
  induction q with
  |nil=>intro x c;exact nomatch c
  |@cons p q D E i t C=>
   intro x c;rcases bZ.mp c with e|c
   ·subst e
    exact rj g (by rw[<-i.1];exact i.2.1)
   ·exact C x c
 exact f r x c
def Lm{b:List (List aV×ag)}(d:gF P w H h)(e:H a=V (.c b)):b.length<=bQ/\(a==jw)=aB/\
  ∃c,jq H b c/\h.DictOfH (jV<|fW P w) a c:=sI d<|.inl e
end
def jr(H:ae)(a:Y)(y:ag)(r:Option ag):Prop:=
 (∃c k,iY H a (.e c)/\y=dr k/\r=fy c k)\/∃c k b,iY H a (.c c)/\y=.c b/\H b=V (.b<|k.map dr)/\r=fy c k
def xf(H:ae)(a:Y)(y v:ag)(d:ae):Prop:=
 (∃c k,H a=V (.e c)/\y=dr k/\c.length<bQ/\d=aw H a (.e<|fB c k v)) \/
 ∃c k b,H a=V (.c c)/\y=.c b/\H b=V (.b<|k.map dr)/\c.length<bQ/\d=aw H a (.c<|fB c k v)
def jr.k{H:ae}{b:List (aV×ag)}{k:aV}(e:H a=V (.e b)):jr H a (dr k) (fy b k):=.inl (b,k,.inl e,O,O)
def jr.t{H:ae}{a b:Y}{k:List aV}(e:H a=V (.c c))(d:H b=V (.b<|k.map dr)):jr H a (.c b) (fy c k):=.inr (c,k,b,.inl e,O,d,O)
def xf.k{H:ae}{b:List (aV×ag)}{k:aV}(e:H a=V (.e b))(c:b.length<bQ):xf H a (dr k) v (aw H a<|.e<|fB b k v):=.inl (b,k,e,O,c,O)
def xf.t{H:ae}{a b:Y}{k:List aV}(e:H a=V (.c c))(d:H b=V (.b<|k.map dr))(f:c.length<bQ):xf H a (.c b) v (aw H a<|.c<|fB c k v):=.inr (c,k,b,e,O,d,f,O)
section
variable{X:bf}{pins:Ψ}{σ:aO}{H:ae}{s:ak}{a:Y}{y v:ag}{u r:aa}{o:Option ag}{A:bY}{E:Ω}
def aE.A7(I:aE X pins σ H s):jw<s⁻¹:=by
 have h:lD<s⁻¹:=(I.A8.b.keeps I.bk).lt;exact CE ξ h
def Vt{Q:Ω}(w:A.units+1<c_)(I:aE X pins σ H s)(g:jr H a y (V v))(r:co y u)(h:∀f t,aE X pins σ H t->co v f->Q f t):aA (aH X.prog X.w) A (pE (.ref a) u) Q E s:=by
 rcases g with ⟨i,k,e,j,l⟩|⟨i,k,b,e,j,x,l⟩
 ·subst j
  obtain⟨z,C,D,c,m⟩:=sJ I.a e;obtain⟨f,n,d⟩:=ro.q (v:=v) (o:=vO D k) (by rw[l];exact c.val k);exact wpAny_getItem_of (uP r) m.mapOf n<|h f _ (I.J _) d
 ·subst j
  cases(show u=ab b from r);obtain⟨z,C,G,c,m⟩:=sI I.a e;obtain⟨f,n,d⟩:=ro.q (v:=v) (o:=(rP G k).map (·.2)) (by rw[l];exact c.val k);obtain⟨p,K,q⟩:=r_.mp n;refine wpAny_getItem_heap (yq w) (rj I.a x) m K ?_;rw[q];exact h f _ (I.J _) d
def Vs{Q:Ω}(p:A.units+1<c_)(I:aE X pins σ H s)(g:jr H a y o)(m:co y u)(h:∀n,aE X pins σ H n->Q (.bool o.isSome) n):aA (aH X.prog X.w) A (iz .In u<|.ref a) Q E s:=by
 rcases g with ⟨d,k,e,f,l⟩|⟨d,k,b,e,f,r,l⟩
 ·subst f
  obtain⟨z,i,t,c,j⟩:=sJ I.a e;refine wpAny_in_of (uP m) i j.mapOf ?_;rw[<-(c.val k).j,<-l];exact h _<|I.J _
 ·subst f
  cases(show u=ab b from m);obtain⟨z,i,v,c,j⟩:=sI I.a e;refine wpAny_in_heap (yq p) (rj I.a r) i j ?_;have q:=(c.val k).j;rw[Qq] at q;rw[<-q,<-l];exact h _<|I.J _
def Vr{Q:Ω}(p:A.units+1<c_)(I:aE X pins σ H s)(g:jr H a y o)(m:co y u)(h:∀n,aE X pins σ H n->Q (.bool<|!o.isSome) n):aA (aH X.prog X.w) A (iz .NotIn u<|.ref a) Q E s:=by
 rcases g with ⟨d,k,e,f,l⟩|⟨d,k,b,e,f,r,l⟩
 ·subst f
  obtain⟨z,i,t,c,j⟩:=sJ I.a e;refine wpAny_notIn_of (uP m) i j.mapOf ?_;rw[<-(c.val k).j,<-l];exact h _<|I.J _
 ·subst f
  cases(show u=ab b from m);obtain⟨z,i,v,c,j⟩:=sI I.a e;refine wpAny_notIn_heap (yq p) (rj I.a r) i j ?_;have q:=(c.val k).j;rw[Qq] at q;rw[<-q,<-l];exact h _<|I.J _
def wV{t':Nat}(I:aE X pins σ H s)(f:xa (H a))(g:jc a s.heap c)(h:∃q,c.get? a=V q)(d:dt X.prog X.w (aw H a ob) c a ob):aE X pins σ (aw H a ob) {s with heap:=c,toks:=t'}:=
 I.B1 (x:=a) (e:=a) f (.inl O) (λb q i z=>(g.2 b i).trans z) h d
def Vm{e:aT}{b:List (aV×ag)}(z:b.length<=bQ)(g:(a==jw)=aB)(d:ky b c)(h:e.DictOf (fW P w) a c):dt P w f e a (.e b):=(z,g,c,d,h)
def Vq{Q:Unit->ak->Prop}(R:A.units+1<c_)(I:aE X pins σ H s)(g:xf H a y v C)(D:co y u)(G:co v r)(h:∀K,aE X pins σ C K->Q () K):aA (aH X.prog X.w) A (setItem (.ref a) u r) Q E s:=by
 rcases g with ⟨d,k,e,m,l,n⟩|⟨d,k,b,e,m,L,l,n⟩
 ·subst m n
  obtain⟨z,o,S,f,p⟩:=Lo I.a e;have t:S.length<=bQ:=by rw[<-f.j];exact z
  have w:(fB d k v).length<=bQ:=by have:=Eh d k v;exact à this l
  refine wpAny_setItem_pairs (hsz:=t) (uP D) p λM i x=>h _ ?_;have T:∃q,M.get? a=V q:=let ⟨q,_,_,j,_⟩:=i;(q,j);exact wV I (by rw[e];exact vM) x T<|Vm w o (f.B k G) i
 ·subst m n
  cases(show u=ab b from D);obtain⟨z,o,U,f,p⟩:=Lm I.a e;have t:U.length<=bQ:=by rw[<-fP f];exact z
  have w:(fB d k v).length<=bQ:=by have:=Eh d k v;exact à this l
  refine wpAny_setItem_heap (hsz:=t) (yq R) (rj I.a L) p λM i x=>h _ ?_;obtain⟨q,es,ep,j,h2,h3,h4,_,h5⟩:=i;refine wV I (by rw[e];exact vM) x (q,j) (w,o,_,(f.B k L G).j λc ys P=>?_,q,es,ep,j,h2,h3,h4,h5);rw[bG<|ir P e (λz=>nomatch z)];exact P
end
def Md(i:bB):Prop:=∀a b,BJ i aB a b=Hk [a,b] (pE a b)
def TE{j:gb}{c b:bB}{n:cD}{T q:String}(t:Hg (.type T) "__getitem__"=aU (V<|.builtin q))(u:Md b)(h:aA (aH a w) A (dC c j) (λo f=>aA (aH a w) A (dC b j) (λi d=>d.TypeIs o T/\aA (aH a w) A (pE o i) Q E d) E f) E s):aA (aH a w) A (dC (.Subscript c b n) j) Q E s:=by
 refine HV<|kL h (λo f l=>kL l (λi d e=>?_) λ_ _ x=>x) λ_ _ x=>x;obtain⟨p,e⟩:=e;unfold HN;refine aj ?_;rw[getitemInPython_of_ne p.not_modules];refine aj<|aay p t ?_;have k:aA (aH a w) A (BJ b aB o i) (λr g=>aA (aH a w) A (letTemporaryGo c o r >>= λ_=>aU r) Q E g) E d:=by
  rw[u o i];exact wpAny_operating<|kL e (λr g m=>aj<|wpAny_letTemporaryGo<|aI m) λ_ _ x=>x
 first
  |exact aI<|aj k
  |exact wpAny_bind<|wpAny_pure<|wpAny_bind k
  |exact wpAny_bind k
def Vo(I:aE X c h H s)(g:jr H a y o):s.TypeIs (.ref a) "dict":=by
 rcases g with ⟨d,k,e,_,_⟩|⟨d,k,b,e,_,_,_⟩
 ·obtain⟨_,_,i,_,f⟩:=sJ I.a e
  exact f.typeIs
 ·obtain⟨_,_,j,_,f⟩:=sI I.a e
  exact f.typeIs
inductive LW(x y:ag)(Q:aS)(H:ae):Prop
 |b:∀a v,(x=.c a)->jr H a y (V v)->Q v H->LW x y Q H
def oT(b c:a_):a_:=λa H Q=>b a H λx d=>c a d λy e=>LW x y Q e
def uI(d e:a_):a_:=λb H Q=>d b H λy f=>e b f λx c=>∃a o,x=.c a/\jr c a y o/\Q (.e o.isSome) c
def JZ(d e:a_):a_:=λb H Q=>d b H λy f=>e b f λx c=>∃a o,x=.c a/\jr c a y o/\Q (.e<|!o.isSome) c
def TN(d e f:a_):gi:=λD b H=>f b H λv g=>d b g λx h=>e b h λy i=>∃a c,x=.c a/\xf i a y v c/\D.a b c
section
variable{X:bf}{o i e value:bB}{pos pos' tpos:cD}{td ty tv:a_}
def iq(f:X.A.units+1<c_)(j:bJ X o td)(k:bJ X i ty)(l:Md i):bJ X (.Subscript o i pos) (oT td ty):=by
 intro b s d H Q I h;refine TE PySem.F.slot_dict_getitem.lookup l<|bM (j b s d H _ I h) λu m (x,n,p,q,r)=>bM (k b m d n _ p r) λD E (y,t,e,w,a,v,z,g,A)=>?_;subst z;obtain rfl:u=ab a:=q;exact(Vo e g,Vt f e g w λG K C c=>(v,t,C,c,A))
def wM(d:X.A.units+1<c_)(e:bJ X i ty)(f:bJ X o td):Am X .In i o (uI ty td):=by
 intro b s c H Q I h;refine bM (e b s c H _ I h) λA j (y,k,l,m,n)=>bM (f b j c k _ l n) λu C (x,p,q,r,a,t,v,g,w)=>?_;subst v;obtain rfl:u=ab a:=r;exact Vs d q g m λD z=>(.e t.isSome,p,z,O,w)
def KO(d:X.A.units+1<c_)(e:bJ X i ty)(f:bJ X o td):Am X .NotIn i o (JZ ty td):=by
 intro b s c H Q I h;refine bM (e b s c H _ I h) λA j (y,k,l,m,n)=>bM (f b j c k _ l n) λu C (x,p,q,r,a,t,v,g,w)=>?_;subst v;obtain rfl:u=ab a:=r;exact Vr d q g m λD z=>(.e<|!t.isSome,p,z,O,w)
def jE(d:X.A.units+1<c_)(e:bJ X o td)(f:bJ X i ty)(j:bJ X value tv)(k:vP value (V<|.Subscript o i pos') pos.line X.env=aU aB):kw X (.Assign [.Subscript o i pos'] value pos) (TN td ty tv):=by
 intro b s c H D I h;refine wpAny_Assign_Subscript (bM (j b s c H _ I h) λr l (v,m,n,p,q)=>bM (e b l c m _ n q) λu t (x,w,z,A,C)=>bM (f b t c w _ z C) λQ R (y,S,E,G,a,K,L,g,M)=>?_) k;subst L;obtain rfl:u=ab a:=A;exact Vq d E g G p λT P=>(c,K,P,M)
end
def Vn(h:aT)(a:jw<h.objs.size):dt P w H (h.push {cls:=.type "dict",data:=.dict #[]}) h.objs.size (.e []):=
 (eM _,beq_eq_false_iff_ne.mpr<|eA<|dz a,[],.nil,agf h)
def Ln(h:aT)(a:jw<h.objs.size):dt P w H (h.push {cls:=.type "dict",data:=.dict #[]}) h.objs.size (.c []):=
 (eM _,beq_eq_false_iff_ne.mpr<|eA<|dz a,[],.nil,_,#[],0,dF _ O,(O,O,O),O,O,qL)
def Tw:a_:=λ_ H Q=>∀p,H p=Z->Q (.c p) (aw H p<|.e [])
def Tv:a_:=λ_ H Q=>∀p,H p=Z->Q (.c p) (aw H p<|.c [])
section
variable{X:bf}{pos:cD}
def Ui:bJ X (.Dict [] [] pos) Tw:=λb s c H Q I h=>
 abc (.c s⁻¹,_,I.F (a:=s⁻¹) (o:=.e []) (t':=s.toks) (λ_ _ q=>cx _ q) (aW _)<|Vn s.heap I.A7,O,h _<|I.a.j<|aW _)
def jO:bJ X (.Dict [] [] pos) Tv:=λb s c H Q I h=>
 abc (.c s⁻¹,_,I.F (a:=s⁻¹) (o:=.c []) (t':=s.toks) (λ_ _ q=>cx _ q) (aW _)<|Ln s.heap I.A7,O,h _<|I.a.j<|aW _)
end
def DN:List (a_×a_)->aO->ae->(List (ag×ag)->ae->Prop)->Prop
 |[],_,H,Q=>Q [] H
 |(abd b c)::r,a,H,Q=>b a H λx d=>c a d λy e=>DN r a e λf g=>Q ((abd x y)::f) g
abbrev VI:List (ag×ag)->List (aa×aa)->Prop:=du λp q=>co p.1 q.1/\co p.2 q.2
def Ey(X:bf)(d:cD)(c:List (Option bB))(a:List bB)(e:List (a_×a_)):Prop:=
 ∀(b:Ψ)(s:ak)(f:aO)(H:ae)(Q:List (ag×ag)->ae->Prop),aE X b f H s->DN e f H Q->
  aA (aH X.prog X.w) X.A (evalPairs<|pairTrees c a X.env d) (λi j=>∃g h,aE X b f h j/\VI g i/\Q g h) X.a s
def TW:Ey X a [] [] []:=λb s c H Q I h=>pairTrees_nil_walk ([],H,I,.nil,h)
def TX{b:cD}{k v:bB}{i j:a_}(l:bJ X k i)(m:bJ X v j)(n:Ey X b f g c):Ey X b (V k::f) (v::g) ((abd i j)::c):=λa s d H Q I h=>
 pairTrees_cons_walk (bM (l a s d H _ I h) λu o (x,p,q,r,t)=>bM (m a o d p _ q t) λM w (y,z,A,C,D)=>
  bM (n a w d z _ A D) λP R (E,G,K,e,L)=>((abd x y)::E,G,K,.cons (r,C) e,L))
structure afr(X:bf)(o:bB)(m:au)(apos:cD)(e:bB)(cpos:cD):Prop where
 base:BR o m X.env (dC o X.env)=dC o X.env
 a:((nr cpos<|fh [e] X.env).all (λx=>!x.1)&&(PJ cpos<|Pv [] X.env).all (λx=>x.1.isSome)
  && aC (([e]:List bB).length+([]:List vV).length+(if([]:List vV).isEmpty then 0 else 1)<30))=af
 b:(apos.endLine==cpos.line)=af
 c:nr cpos (fh [e] X.env)=[(abd aB (dC e X.env))]
structure VK(X:bf)(o:bB)(m:au)(apos:cD)(e f:bB)(cpos:cD):Prop where
 base:BR o m X.env (dC o X.env)=dC o X.env
 c:((nr cpos<|fh [e,f] X.env).all (λx=>!x.1)&&(PJ cpos<|Pv [] X.env).all (λx=>x.1.isSome)
  && aC (([e,f]:List bB).length+([]:List vV).length+(if([]:List vV).isEmpty then 0 else 1)<30))=af
 a:(apos.endLine==cpos.line)=af
 b:nr cpos (fh [e,f] X.env)=[(abd aB (dC e X.env)),(abd aB (dC f X.env))]
def Mf(H:ae)(a:Y):Prop:=(∃b,iY H a (.e b))\/∃b,iY H a (.c b)
def UO(I:aE X f l H s)(d:Mf H a):s.TypeIs (.ref a) "dict"/\(∀b,ab a=.ref b->∃c,s.heap.get? b=V c/\c.dict=Z)/\(a==jw)=aB:=by
 rcases d with ⟨h,e⟩|⟨h,e⟩
 ·obtain⟨_,i,m,_,g⟩:=sJ I.a e
  refine(g.typeIs,λb q=>?_,i);cases q;obtain⟨c,_,_,j,k,_⟩:=g;exact(c,j,k.2.1)
 ·obtain⟨_,i,n,_,g⟩:=sI I.a e
  refine(g.typeIs,λb q=>?_,i);cases q;obtain⟨c,_,_,j,k,_⟩:=g;exact(c,j,k.2.1)
section
variable{X:bf}{pins:Ψ}{σ:aO}{H:ae}{s:ak}{a:Y}{y d:ag}{u r:aa}{o:Option ag}{A:bY}{E:Ω}
def Vu{Q:Ω}(v:A.units+1<c_)(I:aE X pins σ H s)(g:jr H a y o)(n:co y u)(p:co d r)(h:∀q t,aE X pins σ H t->co (o.getD d) q->Q q t):aA (aH X.prog X.w) A (jJ (.builtin "dict.get") [.ref a,u,r]) Q E s:=by
 rcases g with ⟨i,k,e,j,l⟩|⟨i,k,b,e,j,w,l⟩
 ·subst j
  obtain⟨z,m,C,c,f⟩:=sJ I.a e;refine Ho Qb f.typeIs ac0 (ac5 _ _ _) (meets_dict_get_default (fW X.prog X.w) a (uP n) m r) (_,f.mapOf,h _ _ (I.J _) ?_);rw[l];exact(c.val k).B p
 ·subst j
  cases(show u=ab b from n);obtain⟨z,m,x,c,f⟩:=sI I.a e;refine Ho Qb f.typeIs ac0 (ac5 _ _ _) (meetsH_dict_get_default (jV<|fW X.prog X.w) a b m r) (yq v,k,x,rj I.a w,f,h _ _ (I.J _) ?_);rw[l];exact(c.val k).B p
end
def Tx(e f g:a_):a_:=λb H Q=>e b H λx c=>∃a,x=.c a/\Mf c a/\f b c λy h=>g b h λz d=>∃o,jr d a y o/\Q (o.getD z) d
section
variable{X:bf}{o e f:bB}{apos cpos:cD}{td ty tx:a_}
def zZ(k:X.A.units+1<c_)(l:bJ X o td)(n:bJ X e ty)(p:bJ X f tx)(m:VK X o "get" apos e f cpos):bJ X (.Call (.Attribute o "get" apos) [e,f] [] cpos) (Tx td ty tx):=by
 intro b s c H Q I h;refine wpAny_Call_method m.base m.c m.a acs Qb PySem.F.type_dict_get<|bM (l b s c H _ I h) λu q (x,r,j,t,a,v,d,w)=>?_;subst v;obtain rfl:u=ab a:=t;obtain⟨A,C,_⟩:=UO j d;refine(A,C,?_);rw[m.b];refine HK O (ac9 (Qi (bM (n b q c r _ j w) λU D (y,E,G,K,L)=>
  Qi<|bM (p b D c E _ G L) λfv s3 (z,M,P,R,ov,g,S)=>ac8 ?_)))
 exact Vu k P g K R λw' s4 T i=>(_,M,T,i,S)
end
section
open PySem.Calls
def aav:∀(c:List Int)(d:List aa),WellAll P h d (c.map Hs)->gg d c:=by
 intro c
 induction c with
 |nil=>
  intro d w;rw[CI] at w;cases w;exact .nil
 |cons n c e=>
  intro d w;rw[cI] at w;cases w with
  |cons a b=>
   cases a;exact .cons _ _<|e _ b
def aat{l:yy}{n:Nat}(t:l.most=V n){b:List WData}(f:l.row.toRowW.claim.pre b=af)(m:WellAll P h e b):∃a p c,e=[ab a]/\b=[WData.list<|c.map Hs]/\h.get? a=V {cls:=.type "list",data:=.seq p.toArray}/\gg p c/\c.length<=n:=by
 have o:WShape.hasAll [] b [.list .int]=af:=(pre_splitW f).1;have s:l.pre.holds [] {args:=b}=af:=(pre_splitW f).2;obtain⟨d,r,rfl,u,v⟩:=hasAllW_cons o;obtain rfl:=hasAllW_nil v;obtain⟨C,rfl,w⟩:=hasW_list u;obtain⟨c,rfl⟩:=items_int w;have g:c.length<=n:=by
  unfold OpenLaw.pre at s;have j:(WTm.not<|.lt (.lit<|.int (n:Int))<|.len<|.arg 0).holds [] {args:=[.list<|c.map .int]}=af:=by
   have j:=(holds_andW s).1;rw[t] at j;exact j
  have k:=condW_of j<|w_not<|w_lt w_lit<|w_len_list<|w_arg O;rw[ax] at k;refine ad8 λq=>?_;have x:(n:Int)<((c.length:Nat):Int):=ω
  first
   |(rw[cn x] at k;exact bu k ξ)
   |(simp at k;omega)
 cases m with
 |cons y z=>
  cases z;cases y with
  |list A i=>exact(_,_,c,O,O,A,aav c _ i,g)
def aau(l:yy)(a:List WData):l.row.toRowW.claim.post a (.bool af) a=af:=
 postW_of (r:=l.row.toRowW) (X:=(af==af))
  (show WShape.has [] (.bool af) .bool=af by first|rfl|decide|simp[WShape.has,WShape.arms,WShape.armsAll])
  (show(WTm.eq .res<|.lit<|.bool af).value [] {args:=a,res:=V<|.bool af,after:=a}=V (.bool<|af==af) from w_eq_bool (w_res O) w_lit) O
def aaw{l:yy}{n:Nat}{q:bw}{c:List au}{H:(au->Option aa)->aT->Prop}{I:aX->aT->Prop}{d:DefRec}(Q:l.most=V n)(y:d.params.defaults=[])(j:∀(w:aX)(e b:ak)(t z:au->Option aa)(k:Y)(o:bA)(A u g:aa)(a:Y)(i:List aa)(v:List Int),
   Ground q c [] H w e t z b.heap->I w b.heap->
   b.heap.get? k=V o->o.data=.func (docDef d.name d.params d.body d.scope A u g)->b.heap.CodeRec u d.name->t d.name=V (.ref k)->
   b.heap.get? a=V {cls:=.type "list",data:=.seq i.toArray}->gg i v->v.length<=n->b.gens=#[]->
   lF (aH l.prog w) vQ (.call (.ref k) ([.ref a],[])) (λr x=>r=.ok (.ret<|.bool af)/\OldK b.heap x.heap/\x.os=b.os/\rW x.gens) b):
  PR q c H I l.row.toRowW d [] (λf i=>jJ f i):=by
 intro w e b t z G a2 k o A u g R S T U C K D X L M as m P a0 E a1;obtain rfl:R=.none:=Dflts.none K y;obtain rfl:S=.none:=Dflts.noKw K;obtain⟨a,i,v,rfl,rfl,p,h,s⟩:=aat Q m E;refine enter_call<|tP (j w e b t z k o A u g a i v G a2 T (fd_plain U) C D p h s X) λr x hq=>?_;obtain⟨rfl,h2,h3,h4⟩:=hq;exact(.inl (.bool af,.bool af,[],O,λ_=>O,.bool af,aau l _,λ_=>(IP,λ_ hm=>(nomatch hm))),h2,h3,h4)
end
def JQ:∀{a:List aa}{b:List Int},gg a b->cw (b.map ag.d) a
 |_,_,.nil=>.nil
 |_,_,.cons n t h=>.cons (t,O) (JQ h)
def EA(H:ae):Prop:=∀b,H b=Z\/∃o a,H b=V (.d o<|.a a)
def UF{K:aR}{k:Nat}{x:au}{c:ak}{t:List aa}(KX:K.In c.heap)(D:c.heap.Ns lD A)(g:c.heap.Ns Hp X)(a0:∀x:au,x≠"__name__"->X x=hC x)(E:c.heap.NoLimit)(hg:c.gens=#[])(U:c.heap.get? a=V {cls:=.type "list",data:=.seq t.toArray})(hi:gg t C)(hl:C.length<=bQ)(hr:eQ k vQ)(F:∀i:aT,K.In i->i.Ns lD A->bO P w K A i CX k fa fd [x] sp)(y:∀(s:ak)(u:aa),yO s fd ([u],[]) [(abd x u)])(a1:∀H:ae,EA H->bP K H a (C.map ag.d)->sp [.c a] H (λv _=>v=.e af) λ_ _ _=>False)(a2:∀H e j,CX [] H c (λ_ _ _=>False) e j->False):lF (aH P w) vQ (.call (.ref fa) ([.ref a],[])) (λr j=>r=.ok (.ret<|.bool af)/\OldK c.heap j.heap/\j.os=c.os/\rW j.gens) c:=by
 have rv:=JQ hi;have G:=hi.length;have p:∀H:ae,EA H->bP K H a (C.map ag.d)->gF P w H c.heap->(∀b,H b≠Z->b=a)->(H a≠Z->K.lookup a=Z)->
   lF (aH P w) vQ (.call (.ref fa) ([.ref a],[])) (λr j=>r=.ok (.ret<|.bool af)/\OldK c.heap j.heap/\j.os=c.os/\rW j.gens) c:=by
  intro H hO hS I hA hK;have f:∀{b:Y}{o:bA},c.heap.get? b=V o->H b=Z->(qa c.heap H).get? b=V o:=λe n=>U_ e n;have a3:∀{b:Y}{o:bA}{L:Array oD}{M:Nat},c.heap.get? b=V o->o.data=.dict L M->H b=Z:=λ{b o L M} e d=>by
   cases q:H b with
   |none=>rfl
   |some u=>
    have e':b=a:=hA b (by rw[q];simp);subst e';rw[U] at e;cases e;have d':da t.toArray _=jy L M:=d;cases d'
  have l:∀{b:Y}{m:au->Option aa},c.heap.Ns b m->(qa c.heap H).Ns b m:=λ{b m} (o,L,M,e,d,r)=>(o,L,M,f e<|a3 e d,d,r);have Q:K.In (qa c.heap H):=λb o e=>f (KX b o e) (by
   cases q:H b with
   |none=>rfl
   |some u=>
    have e':b=a:=hA b (by rw[q];simp);subst e';rw[hK (by rw[q];simp)] at e;cases e)
  have hM:An K A (qa c.heap H):=(Q,l D,(X,l g,a0),let ⟨mc,h1,h2⟩:=E;(mc,l h1,h2));have e0:uZ P w K A (qa c.heap H) vQ [] c H:=(O,hM,λb o e=>Ut e,Il<|UZ _ _,trivial,λb g=>bu (show b∈([]:List Y) from g) (by simp),I,.of_eq hg);refine tP ((F _ Q<|l D).a vQ [] c H ([.ref a],[]) [.ref a] [.c a] _ _ hr e0 (y c<|.ref a) (.cons O .nil)<|a1 H hO hS) λr j h=>?_;cases r with
  |error e=>exact(a2 H e j h).elim
  |ok fl=>
   cases fl with
   |next=>exact iC h
   |brk=>exact iC h
   |cont=>exact iC h
   |ret u=>
    obtain⟨v,H',os,R,un,S,r',q⟩:=h;have q':v=.e af:=q;subst q';obtain rfl:u=fm af:=r';refine(O,OldK.of_keep λb o e=>?_,os,R);cases q:H b with
    |none=>exact un.c b o e q (by intro z;exact bu (show b∈([]:List Y) from z) (by simp)) (by simp)
    |some u=>
     rcases hO b with z|⟨ob,xs,z⟩
     ·rw[q] at z;cases z
     ·have z2:=un.e b ob _ z
      obtain⟨e1,_⟩:=I b _ z;obtain⟨e2,_⟩:=S b _ z2;rw[e] at e1;cases e1;exact e2
 cases hk:K.lookup a with
 |some o=>
  have e:=KX a o hk;rw[U] at e;cases e;refine p (λ_=>Z) (λ_=>.inl O) (.inr (_,t.toArray,_,hk,O,O,O,by rw[cT,G];exact hl,by simpa using rv)) (λb u z=>by have T:(Z:Option dh)=V u:=z;cases T) (λb z=>bu O z) λz=>bu O z
 |none=>
  refine p (λb=>if b=a then V (.d {cls:=.type "list",data:=.seq t.toArray}<|.a<|C.map ag.d) else Z) (λb=>?_) (.inl<|.inr ({cls:=.type "list",data:=.seq t.toArray},az O)) (λb u z=>?_) (λb z=>?_) λ_=>hk
  ·by_cases g:b=a
   ·exact .inr (_,_,az g)
   ·exact .inl<|ap g
  ·by_cases g:b=a
   ·have T:=(az g).symm.trans z
    cases T;subst g;exact(U,by rw[ax];exact hl,t,_,rv,U)
   ·have T:=(ap g).symm.trans z
    cases T
  ·by_cases g:b=a
   ·exact g
   ·exact bu (ap g) z
def SV{l:yy}{n k:Nat}{q:bw}{g:List au}{R:(au->Option aa)->aT->Prop}{L:aX->aT->Prop}{d:DefRec}{K:Hy->aR}{CX:aX->ll}{sp:aX->lj}{x:au}(S:l.most=V n)(y:n<=bQ)(z:d.params.defaults=[])(T:eQ k vQ)(U:∀(w:aX)(h:aT),L w h->(K w.params).In h)(F:∀(w:aX)(j:au->Option aa)(r:Y)(h:aT),(K w.params).In h->h.Ns lD j->j d.name=V (.ref r)->
   ∃A:cS,(∀(s:ak)(u:aa),yO s A ([u],[]) [(abd x u)])/\
    ∀b:aT,(K w.params).In b->b.Ns lD j->bO l.prog w (K w.params) j b (CX w) k r A [x] (sp w))
  (C:∀(w:aX)(H:ae)(a:Y)(t:List Int),t.length<=n->EA H->bP (K w.params) H a (t.map ag.d)->sp w [.c a] H (λv _=>v=.e af) λ_ _ _=>False)
  (D:∀(w:aX)(H:ae)(s:ak)(e:aa)(E:ak),CX w [] H s (λ_ _ _=>False) e E->False) :
  PR q g R L l.row.toRowW d [] (λf M=>jJ f M):=by
 refine aaw S z λw P m j mb r o pm cd X a M t G a1 ho hd a0 I p i c hg=>?_;have Q:=U w _ a1;obtain⟨A,hb,hF⟩:=F w j r _ Q G.T.g I;exact UF Q G.T.g G.T.b G.T.builtins G.T.nolimit hg p i (dg c y) T hF hb (λH hO hS=>C w H a t c hO hS) λH e E=>D w H m e E
/- THE LAST THEOREM (shape;LID,My.* are yours):
  My.Adr: a structure of the addresses that your layer names (classes,functions);My.Txt K t: a structure (Prop) of the equations over K;
  My.txt_mk:{K} {implicit addresses ..} (e1:nsIn K mainGlobals "law"=some (some (.ref f))) (e2:K.lookup f=some ⟨oc,od,.func (fnOf "law" "law" params body scope dV kV doc pm an cdv ct),sl⟩) (e3:codeIn K cdv "law"=true) ..:∃t,My.Txt K t
set_option maxRecDepth 100000 in
set_option maxHeartbeats 0 in
theorem PySem.Challenge.cw_LID_holds:PySem.Challenge.rw_LID.Holds := by
 w_on;o_law;k_head;(case hw=>w_witness2)
 k_fill
 refine L2.walk_of (l:=PySem.Challenge.rw_LID) (n:=63) (k:=40) (x:="script") (CX:=λw=>..) (sp:=λ_=>My.sp_law) rfl ξ rfl ⟨rfl,ξ,ξ⟩ (λw h Y=>PySem.W.kIn_of Y) ?F ?S ?C
 case F=>
  intro w mg fa h KX G hmg;have T:∃t,My.Txt (L2.KOf KX) t:=by
   dsimp only[L2.KOf]                          -- K must stand as «<heap const> w.params» for k_is
   refine' My.txt_mk ?e1 ?e2 ?e3 ..
   (case e1 => PySem.W.k_is)                    -- in the order: a name -> its address -> its object -> its parts
   (case e2=>PySem.W.k_is)
   ..
  obtain⟨t,T⟩:=T;have e0:=hmg.symm.trans (PySem.W.mg_of KX G T.law);cases e0                                       -- fa is the law's own address
  exact⟨_,λs u => .of_eq rfl,λbase kb nb => My.law_fn T kb nb⟩     -- if «.of_eq rfl» comes too early: refine' ⟨_,?b,λbase kb nb => My.law_fn T kb nb⟩;exact λs u => .of_eq rfl
 case S=>exact λw H a ns hl hO hS=>..
 case C=>exact ..
(the tactic k_is has no namespace: write k_is) -/
noncomputable def uU(s:cN):Arguments:=match s with
 |.FunctionDef _ a _ _ _ _ _ _ _ _=>a
 |_=>{posonlyargs:=[],args:=[],vararg:=Z,kwonlyargs:=[],kw_defaults:=[],kwarg:=Z,defaults:=[]}
noncomputable def oX(s:cN):List cN:=match s with
 |.FunctionDef _ _ b _ _ _ _ _ _ _=>b
 |_=>[]
noncomputable def b_(s:cN):hG:=match s with
 |.FunctionDef _ _ _ _ _ _ a _ _ _=>a
 |_=>{kind:=.function,names:=[],isGenerator:=aB,isCoroutine:=aB}
abbrev bv:ll:=λ_ _ _ _ _ _=>False
abbrev sR:cZ:=λ_ _ _=>False
def cv:Ak bv X sR:=λ_ _ _ _ _ _ _ h=>h.elim
structure bN(K:aR)(x qual:au)(st:cN)(f:Y)(fd:cS):Prop where
 b:∃(oc:aa)(od:Option Y)(kV doc pm:aa)(an:Option Y)(cdv ct:aa)(osl:Array (Option aa)),
  fd=tT x qual (uU st) (oX st) (b_ st) .none kV doc pm an cdv ct/\K.lookup f=V (oc,od,.func fd,osl)/\Hr K cdv qual=af
 a:BS K (.ref f)=af
section
variable{P:bw}{w:aX}{K:aR}{mg:au->Option aa}{base:aT}
noncomputable def bN.j{x b:au}{M i:List au}{k:Nat}{j:lj}(F:bN K x b g f o)(S:dK M i (b_ g))(l:∀d H Q E,j d H Q E->d.length=i.length)(e:∀(c:aa)(A:bY)(a:List gb)(s:ak)(H:ae)(d:List ag)(Q:aS)(E:cZ),eQ k (A.deeper<|oF b (b_ g) s⁻¹ f c)->j d H Q E->
   ∃t,ka (qc bv P w K mg base M b (b_ g) f c A a s H E).F (oX g) t/\t {a:=λ_ p=>Q .g p,d:=Q} (re M d) H):bO P w K mg base bv (k+1) f o i j:=by
 obtain⟨z,C,D,r,G,I,c,L,u,rfl,v,m⟩:=F.b;refine Vh v m S l λA a s H d Q E y n=>?_;obtain⟨t,h,q⟩:=e c A a s H d Q E y n;exact(t,h.j,q)
def bN.q{x a:au}{m:cS}{e:List au}(F:bN K x a d f m)(h:∀(g b i:aa)(j:Option Y)(c k:aa)(l:List aa),l.length=e.length->PH (tT x a (uU d) (oX d) (b_ d) .none g b i j c k) (l,[])=aU (e.zip l)):cQ K m e []:=by
 obtain⟨p,q,g,b,i,j,c,k,n,rfl,r,o⟩:=F.b;exact .all<|h g b i j c k
def Vc{x a:au}{n:aa}{o h:Option Y}{g:Array (Option aa)}{i e j b m:aa}(l:K.lookup f=V (n,o,.func<|tT x a (uU d) (oX d) (b_ d) .none i e j h b m,g))(c:Hr K b a=af)(k:BS K (.ref f)=af):bN K x a d f (tT x a (uU d) (oX d) (b_ d) .none i e j h b m):=((n,o,i,e,j,h,b,m,g,O,l,c),k)
end
def jP{k:Nat}(a:eQ k A):A.units+1<c_:=Ih (Nat.add_le_add_left (by decide:1<=64) _) a.units
section
variable{X:bf}
def ai(i:Nat){a:cD}(c:X.N[i]?=V x:=by rfl)(d:Ai X.env.scope x:=by first|exact Or.inl rfl|exact Or.inr<|Or.inl rfl|exact Or.inr<|Or.inr rfl)(e:(x==("__debug__":au))=aB:=by decide)
  (b:(x==("__classdict__":au))=aB:=by decide):bJ X (.Name x a) (bH i):=Uc c d e b
end
def eF{A a:Prop}(h:a):if aB=af then A else a:=by
 rw[ap dT];exact h
def fL{A a:Prop}(h:A):if af=af then A else a:=by
 rw[az O];exact h
def nW{c A d:Prop}[Decidable c](a:c->A)(b:¬c->d):if c then A else d:=by
 by_cases h:c
 ·rw[az h]
  exact a h
 ·rw[ap h]
  exact b h
def aF(H a:ae):Prop:=∀b o,H b=V o->a b=V o
def aF.S(H:ae):aF H H:=λ_ _ h=>h
noncomputable def aF.j(a:aF H d)(b:aF d e):aF H e:=λc o h=>b c o<|a c o h
def aF.M(e:aF H a)(h:a l=Z):H l=Z:=by
 cases q:H l with
 |none=>rfl
 |some o=>
  rw[e l o q] at h;cases h
def aF.N{K:aR}{H b:ae}(e:aF H b)(h:bP K H a c):bP K b a c:=by
 rcases h with (h|⟨o,h⟩)|h
 ·exact .inl<|.inl<|e _ _ h
 ·exact .inl<|.inr (o,e _ _ h)
 ·exact .inr h
section
variable{κ:Type}[DecidableEq κ]
def SW{k:κ}(h:fy a k=V v):k∈a.map (·.1):=by
 have q:(a.any λb=>aC<|b.1=k)=af:=by
  rw[sD,h]
  all_goals rfl
 obtain⟨p,c,e⟩:=wg.mp q;exact aP.mpr (p,c,io e)
end
noncomputable def bE(a:av->Int)(b:Array av)(i:Nat):Int:=match b[i]? with
 |some p=>a p
 |none=>0
def oP{b c:Array av}{i j:Nat}(h:b[i]?=c[j]?):bE a b i=bE a c j:=by unfold bE;rw[h]
def fU{b:Array av}{i:Nat}(h:b[i]?=V p):bE a b i=a p:=by unfold bE;rw[h]
def Srt(a:av->Int)(b:Array av)(c d:Nat):Prop:=∀i j,c<=i->i<=j->j<d->bE a b i<=bE a b j
def uD(a:av->Int)(b:Array av)(c d:Nat):Prop:=∀i j,c<=i->i<=j->j<d->bE a b j<=bE a b i
def Dm{b:av->Int}{a:Array av}{f j:Nat}(d:j<=a.size)(k:Nat):bE b (oE a f j<|(j-f) / 2) k=if f<=k/\k<j then bE b a (f+j-1-k) else bE b a k:=by
 have e:=adw (i:=f) d k
 by_cases c:f<=k/\k<j
 ·rw[az c] at e ⊢;exact oP e
 ·rw[ap c] at e ⊢;exact oP e
def wx{a:Array av}{i j:Nat}(d:j<=a.size)(b:∀k,i<=k->k<j->bE c a k=bE c a (j-1))(k:Nat):bE c (oE a i j<|(j-i) / 2) k=bE c a k:=by
 rw[Dm d];split
 ·rw[b _ ω ω,b k ω ω]
 ·rfl
def Ju{b:Array av}{a d:Nat}(h:a<b.size)(i:d<=a)(k:Nat):bE c (CA b a d) k=if k=a-d then bE c b a else if a-d<k/\k<=a then bE c b (k-1) else bE c b k:=by
 have e:=adx h d i k
 by_cases f:k=a-d
 ·rw[az f] at e ⊢;exact oP e
 ·rw[ap f] at e ⊢
  by_cases g:a-d<k/\k<=a
  ·rw[az g] at e ⊢;exact oP e
  ·rw[ap g] at e ⊢;exact oP e
structure h_(prog:bw)(w:aX)(A:bY)(s:ak)(κ:kO)(a₀:Array av)(ρ:av->Int):Prop where
 a:∀x y,x∈a₀.toList->y∈a₀.toList->∀(Q:Bool->ak->Prop)(E:Ω),Q (aC<|ρ x<ρ y) s->aA (aH prog w) A (HU κ x.1 y.1) Q E s
structure cW(κ:kO)(a₀:Array av)(st:aY):Prop where
 b:(aL st).Perm a₀
 c:Cz st=κ
 a:ny st=Z
noncomputable def cW.j{c:kO}{a:Array av}{b:aY}(h:cW c a b):(aL b).size=a.size:=h.b.size_eq
def cW.q{c:kO}{a:Array av}{b:aY}(h:cW c a b){d:Array av}(e:d.Perm (aL b)):cW c a (yP b d):=(e.trans h.b,h.c,h.a)
noncomputable def cW.F{c:kO}{a:Array av}{b:aY}(h:cW c a b){p:av}(d:p∈(aL b).toList):p∈a.toList:=(Rf.mp h.b).mem_iff.mp d
def Df{xs:Array av}{i:Nat}(a:i<xs.size):∃p,xs[i]?=V p/\p∈xs.toList:=(xs[i],hY _ i a,by simp)
structure km(lo:Nat)(st st':aY):Prop where
 arr:∀k,k<lo->(aL st')[k]?=(aL st)[k]?
 a:dw st'=dw st
noncomputable def km.B{b:Nat}{a:aY}:km b a a:=(λ_ _=>O,O)
noncomputable def km.j{a b c:aY}(x:km d a b)(y:km d b c):km d a c:=(λk h=>(y.arr k h).trans<|x.arr k h,y.a.trans x.a)
def km.q{b i j:Nat}{a:aY}(c:j<=(aL a).size)(d:b<=i):km b a (yP a<|oE (aL a) i j<|(j-i) / 2):=
 (λk h=>by show(oE _ _ _ _)[k]?=_;rw[adw c,ap ω],O)
noncomputable def km.F{c a d:Nat}{b:aY}(e:a<(aL b).size)(f:d<=a)(g:c<=a-d):km c b (yP b<|CA (aL b) a d):=
 (λk h=>by show(CA _ _ _)[k]?=_;rw[adx e d f,ap (õ (à h g)),ap ω],O)
section
variable{prog:bw}{w:aX}{A:bY}{E:Ω}{s:ak}{κ:kO}{a₀:Array av}{ρ:av->Int}
def wo(C:h_ prog w A s κ a₀ ρ)(b:cW κ a₀ a){x y:av}(c:x∈a₀.toList)(d:y∈a₀.toList){Q:Option Bool->aY->Prop}(h:Q (V<|aC<|ρ x<ρ y) a):dN (aH prog w) A E s (lt' x y) Q a:=by
 rw[lt'_eq];refine bK<|nw ?_;rw[b.c];refine bK<|wc<|tN<|C.a x y c d _ _ (O,?_);exact ce h
def ip{b:Array av}{i:Nat}(h:b[i]?=V p){Q:av->aY->Prop}(c:Q p a):dN (aH prog w) A E s (iQ b i) Q a:=by
 rw[elem'_eq,h];exact ce c
def wn(C:h_ prog w A s κ a₀ ρ)(b:cW κ a₀ a){l j:Nat}(e:l<a₀.size)(f:j<a₀.size){Q:Option Bool->aY->Prop}(h:Q (V<|aC<|bE ρ (aL a) l<bE ρ (aL a) j) a):dN (aH prog w) A E s (Cy l j) Q a:=by
 obtain⟨p,c,g⟩:=Df (xs:=aL a) (i:=l) (by rw[b.j];exact e);obtain⟨q,d,k⟩:=Df (xs:=aL a) (i:=j) (by rw[b.j];exact f);rw[ltAt'_eq];refine bK<|nw ?_;show dN _ _ _ _ (do let x <-iQ (aL a) l;let y <-iQ (aL a) j;lt' x y) Q a;refine bK<|ip c<|bK<|ip d<|wo C b (b.F g) (b.F k) ?_;rw[fU c,fU d] at h;exact h
noncomputable def ww(f a d:Nat):StateT aY dP AscSt:=
 lO [a:d] ((abd Z a):AscSt) λ_ b=>do
  let e <-Cy (f+b.snd) (f+b.snd-1)
  match e with
  |some c=>if c=af then aU (dS (abd Z b.snd)) else aU (hX (abd Z (b.snd+1)))
  |_=>aU (dS (abd (V Z) b.snd))
noncomputable def wp(c n a:Nat):StateT aY dP (Option Nat):=do
 Cx c (c+n)
 let b <-ww c n a
 match b.fst with
 |some r=>aU r
 |none=>aU (V b.snd)
noncomputable def zw(e n f:Nat):StateT aY dP DescSt:=
 lO [n:f] ((abd Z (abd n 0)):DescSt) λ_ a=>do
  let d <-Cy (e+a.snd.fst) (e+a.snd.fst-1)
  match d with
  |some b=>
   if b=af then
    if a.snd.snd>0 then do
     Cx (e+a.snd.fst-(a.snd.snd+1)) (e+a.snd.fst)
     aU (hX (abd Z (abd (a.snd.fst+1) 0)))
    else aU (hX (abd Z (abd (a.snd.fst+1) 0)))
   else do
    let d <-Cy (e+a.snd.fst-1) (e+a.snd.fst)
    match d with
    |some c=>
     if c=af then aU (dS (abd Z (abd a.snd.fst a.snd.snd)))
     else aU (hX (abd Z (abd (a.snd.fst+1) (a.snd.snd+1))))
    |_=>aU (dS (abd (V Z) (abd a.snd.fst a.snd.snd)))
  |_=>aU (dS (abd (V Z) (abd a.snd.fst a.snd.snd)))
noncomputable def wv(c n b:Nat):StateT aY dP (Option Nat):=do
 liftM (yt "list.sort.descending-run")
 let a <-zw c (n+1) b
 match a.fst with
 |some r=>aU r
 |none=>
  if a.snd.snd>0 then do
   Cx (c+a.snd.fst-(a.snd.snd+1)) (c+a.snd.fst)
   wp c a.snd.fst b
  else wp c a.snd.fst b
def jM{b c:Type}{m:StateT aY dP b}{f g:b->StateT aY dP c}(h:∀a,f a=g a):(m >>= f)=(m >>= g):=by
 have e:f=g:=funext h;rw[e]
def RH(c b:Nat):countRun' c b=(do
  let a <-ww c 1 b
  match a.fst with
  |some r=>aU r
  |none=>
   if(a.snd==b)=af then aU (V a.snd)
   else if a.snd>1 then do
    let h <-Cy c (c+a.snd-1)
    match h with
    |some d=>if d=af then aU (V a.snd) else do
      Cx c (c+a.snd)
      wv c a.snd b
    |_=>aU Z
   else wv c a.snd b):=by
 rw[countRun'_eq];unfold wv wp zw ww;refine jM λl=>?_;obtain⟨r,n⟩:=l;cases r with
 |some r=>rfl
 |none=>
  dsimp only;split
  ·rfl
  ·split
   ·refine jM λx=>?_
    cases x with
    |none=>rfl
    |some d=>
     dsimp only;split
     ·rfl
     ·refine jM λs=>jM λm=>jM λi=>?_
      obtain⟨g,o,p⟩:=i;cases g with
      |some g=>rfl
      |none=>
       dsimp only;split
       ·refine jM λq=>jM λj=>jM λe=>?_
        obtain⟨f,k⟩:=e;cases f<;>rfl
       ·refine jM λj=>jM λe=>?_
        obtain⟨f,k⟩:=e;cases f<;>rfl
   ·refine jM λm=>jM λi=>?_
    obtain⟨g,o,p⟩:=i;cases g with
    |some g=>rfl
    |none=>
     dsimp only;split
     ·refine jM λq=>jM λj=>jM λe=>?_
      obtain⟨f,k⟩:=e;cases f<;>rfl
     ·refine jM λj=>jM λe=>?_
      obtain⟨f,k⟩:=e;cases f<;>rfl
def Jh(C:h_ prog w A s κ a₀ ρ){k:aY}{e a b:Nat}{Q:AscSt->aY->Prop}(z:e+b<=a₀.size)(D:1<=a)(l:a<=b)(u:cW κ a₀ k)(v:Srt ρ (aL k) e (e+a))(h:∀n,a<=n->n<=b->Srt ρ (aL k) e (e+n)->(n=b\/bE ρ (aL k) (e+n)<bE ρ (aL k) (e+n-1))->Q (abd Z n) k):dN (aH prog w) A E s (ww e a b) Q k:=by
 unfold ww;refine kN (I:=λx c g=>g=k/\c=(abd Z x)/\Srt ρ (aL k) e (e+x)) ?step ?fin (O,O,v)
 case fin=>
  rintro c g ⟨rfl,rfl,f⟩;rw[show max a b=b from ω] at f ⊢;exact h b l (aW _) f<|.inl O
 case step=>
  rintro x c g m y ⟨rfl,rfl,f⟩;dsimp only;refine bK<|wn C u ω ω ?_
  by_cases d:bE ρ (aL g) (e+x)<bE ρ (aL g) (e+x-1)
  ·simp only[d,decide_true,dU]
   exact ce<|h x m ω f<|.inr d
  ·simp only[d,decide_false,dD,dc]
   refine ce (O,O,λi j t o G=>?_)
   by_cases p:j<e+x
   ·exact f i j t o p
   ·have q:j=e+x:=ω
    subst q
    by_cases r:i=e+x
    ·subst r;exact nI _
    ·exact nH (f i (e+x-1) t ω ω)<|IR.mp d
def zo{i j:Nat}{Q:Unit->aY->Prop}(h:Q () (yP a<|oE (aL a) i j<|(j-i) / 2)):dN (aH prog w) A E s (Cx i j) Q a:=by
 rw[reverseSlice'_eq];exact ug h
abbrev Dr(κ:kO)(a₀:Array av)(ρ:av->Int)(c b:Nat)(d:aY)(Q:Option Nat->aY->Prop):Prop:=
 ∀m a,cW κ a₀ a->km c d a->1<=m->m<=b->Srt ρ (aL a) c (c+m)->Q (V m) a
def Jb(C:h_ prog w A s κ a₀ ρ){a n b:Nat}(p:a+b<=a₀.size)(q:1<=n)(g:n<=b)(o:cW κ a₀ d)(r:km a c d)(t:uD ρ (aL d) a (a+n))(h:Dr κ a₀ ρ a b c Q):dN (aH prog w) A E s (wp a n b) Q d:=by
 unfold wp;have e:a+n<=(aL d).size:=by rw[o.j];exact à (ñ g) p
 refine bK<|zo ?_;have f:cW κ a₀ (yP d<|oE (aL d) a (a+n)<|(a+n-a) / 2):=o.q<|HS _ _ _ _;refine bK<|Jh C p q g f ?_ λm u k l _=>ce<|h m _ f (r.j<|.q e<|aW _) (à q u) k l;intro i j x v y;show bE ρ (oE (aL d) a (a+n)<|(a+n-a) / 2) i<=bE ρ (oE (aL d) a (a+n)<|(a+n-a) / 2) j;rw[Dm e,Dm e,az (x,à (ï v) y),az (à x v,y)];exact t _ _ ω ω ω
def Ry(C:h_ prog w A s κ a₀ ρ){b n e:Nat}{Q:DescSt->aY->Prop}(hn:b+e<=a₀.size)(M:1<=n)(S:n<=e)(hB:cW κ a₀ L)(hP:km b o L)(hs:uD ρ (aL L) b (b+n))(h:∀m d a,cW κ a₀ a->km b o a->n<=m->m<=e->uD ρ (aL a) b (b+m)->d+1<=m->(∀i,b+m-(d+1)<=i->i<b+m->bE ρ (aL a) i=bE ρ (aL a) (b+m-1))->Q (abd Z (abd m d)) a):dN (aH prog w) A E s (zw b n e) Q L:=by
 unfold zw;refine kN (I:=λx c a=>∃d,c=(abd Z (abd x d))/\cW κ a₀ a/\km b o a/\uD ρ (aL a) b (b+x)/\d+1<=x/\
   (∀i,b+x-(d+1)<=i->i<b+x->bE ρ (aL a) i=bE ρ (aL a) (b+x-1))) ?step ?fin (0,O,hB,hP,hs,ω,λi M T=>by congr 1;omega)
 case fin=>
  rintro c a ⟨d,rfl,f,q,g,P,G⟩;rw[show max n e=e from ω] at g P G ⊢;exact h e d a f q S (aW _) g P G
 case step=>
  rintro x c a U a1 ⟨d,rfl,f,q,g,P,G⟩;dsimp only;have H:b+x<=(aL a).size:=by rw[f.j];omega
  refine bK<|wn C f ω ω ?_
  by_cases p:bE ρ (aL a) (b+x)<bE ρ (aL a) (b+x-1)
  ·simp only[p,decide_true,dU]
   have r:∀X:Array av,(∀k,bE ρ X k=bE ρ (aL a) k)->uD ρ X b (b+(x+1)):=by
    intro X hk i j K v hj;rw[hk,hk]
    by_cases y:j<b+x
    ·exact g i j K v y
    ·have z:j=b+x:=ω
     subst z
     by_cases D:i=b+x
     ·subst D;exact nI _
     ·exact nH (nJ p)<|g i (b+x-1) K ω ω
   by_cases t:d>0
   ·rw[az t]
    refine bK<|zo<|ce (0,O,f.q<|HS _ _ _ _,q.j<|.q H ω,r _<|wx H G,ω,λi M T=>by congr 1;omega)
   ·rw[ap t]
    exact ce (0,O,f,q,r _ (λ_=>O),ω,λi M T=>by congr 1;omega)
  ·simp only[p,decide_false,dD,dc]
   refine bK<|wn C f ω ω ?_
   by_cases l:bE ρ (aL a) (b+x-1)<bE ρ (aL a) (b+x)
   ·simp only[l,decide_true,dU]
    exact ce<|h x d a f q U ω g P G
   ·simp only[l,decide_false,dD,dc]
    have u:bE ρ (aL a) (b+x)=bE ρ (aL a) (b+x-1):=ω
    refine ce (d+1,O,f,q,λi j K v hj=>?_,ω,λi M T=>?_)
    ·by_cases y:j<b+x
     ·exact g i j K v y
     ·have z:j=b+x:=ω
      subst z
      by_cases D:i=b+x
      ·subst D;exact nI _
      ·rw[u];exact g i (b+x-1) K ω ω
    ·rw[show b+(x+1)-1=b+x from ω]
     by_cases a0:i=b+x
     ·subst a0;rfl
     ·rw[u];exact G i ω ω
def Jg(C:h_ prog w A s κ a₀ ρ){p b:aY}{d n a:Nat}(q:d+a<=a₀.size)(r:n+1<=a)(x:cW κ a₀ p)(y:km d b p)(z:uD ρ (aL p) d (d+(n+1)))(h:Dr κ a₀ ρ d a b Q):dN (aH prog w) A E s (wv d n a) Q p:=by
 unfold wv;refine bK<|wc<|lv (O,?_);refine bK<|Ry C q ý r x y z λm t e f k D l o I v=>?_;dsimp only;have g:d+m<=(aL e).size:=by rw[f.j];exact à (ñ l) q
 by_cases c:t>0
 ·rw[az c]
  refine bK<|zo<|Jb C q (à c (ì I)) l (f.q<|HS _ _ _ _) (k.j<|.q g ω) ?_ h;intro i j G u H;show bE ρ (oE (aL e) _ _ _) j<=bE ρ (oE (aL e) _ _ _) i;rw[wx g v,wx g v];exact o i j G u H
 ·rw[ap c]
  exact Jb C q ω l f k o h
def Rz(C:h_ prog w A s κ a₀ ρ){a b:Nat}(y:a+b<=a₀.size)(L:1<=b)(g:cW κ a₀ d)(h:Dr κ a₀ ρ a b d Q):dN (aH prog w) A E s (countRun' a b) Q d:=by
 rw[RH];refine bK<|Jh C y (aW 1) L g (λi j p q K=>by have:i=j:=(û q (à (ò K) p));subst this;exact nI _) λn r t f z=>?_;dsimp only
 by_cases l:n=b
 ·rw[az (by simpa using l)]
  exact ce<|h n d g .B r t f
 ·rw[ap (by simpa using l)]
  have u:bE ρ (aL d) (a+n)<bE ρ (aL d) (a+n-1):=z.resolve_left l
  by_cases v:n>1
  ·rw[az v]
   refine bK<|wn C g ω ω ?_
   by_cases e:bE ρ (aL d) a<bE ρ (aL d) (a+n-1)
   ·simp only[e,decide_true,dU]
    exact ce<|h n d g .B r t f
   ·simp only[e,decide_false,dD,dc]
    have m:a+n<=(aL d).size:=by rw[g.j];exact à (ñ t) y
    have c:∀k,a<=k->k<a+n->bE ρ (aL d) k=bE ρ (aL d) (a+n-1):=by
     intro k p M;have P:=f a k ß p M;have S:=f k (a+n-1) p ω ω;omega
    refine bK<|zo<|Jg C y (þ t l) (g.q<|HS _ _ _ _) (.q m<|aW _) ?_ h;intro i j p q K;show bE ρ (oE (aL d) _ _ _) j<=bE ρ (oE (aL d) _ _ _) i;rw[wx m c,wx m c]
    by_cases D:j<a+n
    ·rw[c i p (à (ï q) D),c j (à p q) D];exact nI _
    ·have G:j=a+n:=(û (ò K) (ô D))
     subst G
     by_cases o:i=a+n
     ·subst o;exact nI _
     ·rw[c i p (þ q o)];exact nJ u
  ·rw[ap v]
   have x:n=1:=(û (ô v) r)
   subst x;refine Jg C y (þ t l) g .B ?_ h;intro i j p q K
   by_cases o:i=j
   ·subst o;exact nI _
   ·have H:i=a:=ω
    have I:j=a+1:=(û (ò K) (à (ð p) (þ q o)))
    subst H;subst I;exact nJ u
def RA(C:h_ prog w A s κ a₀ ρ){b n v:Nat}{Q:Bool->aY->Prop}(hn:b+n<=a₀.size)(M:v<=n)(P:cW κ a₀ u)(S:Srt ρ (aL u) b (b+v))(h:∀a,cW κ a₀ a->km b u a->Srt ρ (aL a) b (b+n)->Q af a):dN (aH prog w) A E s (binarySort' b n v) Q u:=by
 rw[binarySort'_eq];refine bK (iP (kN (I:=λk c a=>c=(abd Z (()))/\cW κ a₀ a/\km b u a/\Srt ρ (aL a) b (b+gc k n))
  (Q:=λc a=>c=(abd Z (()))/\cW κ a₀ a/\km b u a/\Srt ρ (aL a) b (b+n)) ?step ?fin ?init) ?post)
 case post=>
  rintro c a ⟨rfl,g,p,f⟩;exact ce<|h a g p f
 case init=>
  refine(O,P,.B,λi j K y T=>?_)
  by_cases z:v=0
  ·have:i=j:=ω
   subst this;exact nI _
  ·exact S i j K y ω
 case fin=>
  rintro c a ⟨U,g,p,f⟩;refine(U,g,p,?_)
  rwa [show gc (max (max v 1) n) n=n from ω] at f
 case step=>
  rintro k c a X a0 ⟨rfl,g,p,f⟩;rw[show gc k n=k from ω] at f;have L:b+k<a₀.size:=(à (ñ a0) hn)
  refine bK (iP (kN (I:=λx c d=>d=a/\∃l r,c=(abd Z (abd l r))/\l<=r/\r<=k/\r-l<=k-x/\
    (∀i,i<l->bE ρ (aL a) (b+i)<=bE ρ (aL a) (b+k))/\(∀i,r<=i->i<k->bE ρ (aL a) (b+k)<bE ρ (aL a) (b+i)))
   (Q:=λc d=>d=a/\∃l r,c=(abd Z (abd l r))/\l<=k/\
    (∀i,i<l->bE ρ (aL a) (b+i)<=bE ρ (aL a) (b+k))/\(∀i,l<=i->i<k->bE ρ (aL a) (b+k)<bE ρ (aL a) (b+i))) ?istep ?ifin ?iinit) ?ipost)
  case iinit=>exact(O,0,k,O,ú,ß,ß,λi hi=>ω,λi z G=>ω)
  case ifin=>
   rintro c d ⟨rfl,l,r,rfl,H,q,hm,m,o⟩;have:l=r:=ω
   subst this;exact(O,l,l,O,q,m,o)
  case istep=>
   rintro x c d _ a1 ⟨rfl,l,r,rfl,H,q,hm,m,o⟩;dsimp only
   by_cases D:l ≥ r
   ·rw[az D]
    have:l=r:=(û H D)
    subst this;exact ce (O,l,l,O,q,m,o)
   ·rw[ap D]
    refine bK<|wn C g L ω ?_
    by_cases e:bE ρ (aL d) (b+k)<bE ρ (aL d) (b+(l+r) / 2)
    ·simp only[e,decide_true,dU]
     refine ce (O,l,(l+r) / 2,O,ω,ω,ω,m,λi z G=>?_);exact Int.lt_of_lt_of_le e<|f _ _ ü (ñ z) (ñ G)
    ·simp only[e,decide_false,dD,dc]
     refine ce (O,(l+r) / 2+1,r,O,ω,q,ω,λi z=>?_,o);exact nH (f (b+i) (b+(l+r) / 2) ü (ñ (ò z)) ω)<|IR.mp e
  case ipost=>
   rintro c d ⟨rfl,l,r,rfl,a2,m,o⟩;show dN _ _ _ _ (do moveDown' (b+k) (b+l);aU (hX (abd Z (())))) _ _;rw[moveDown'_eq];have t:b+k<(aL d).size:=by rw[g.j];exact L
   refine bK<|ug<|ce (O,g.q<|bubble_perm _ _ _,p.j<|.F t ω ω,?_);rw[show gc (k+1) n=k+1 from ω];intro i j K y T;show bE ρ (CA (aL d) (b+k)<|b+k-(b+l)) i<=bE ρ (CA (aL d) (b+k)<|b+k-(b+l)) j;rw[Ju t ω,Ju t ω,show b+k-(b+k-(b+l))=b+l from ω];have q1:∀i,b<=i->i<b+l->bE ρ (aL d) i<=bE ρ (aL d) (b+k):=λi z G=>by
    have:=m (i-b) ω;rwa [show b+(i-b)=i from ω] at this
   have q2:∀i,b+l<=i->i<b+k->bE ρ (aL d) (b+k)<bE ρ (aL d) i:=λi z G=>by
    have:=o (i-b) ω ω;rwa [show b+(i-b)=i from ω] at this
   repeat' split
   all_goals first
    |(exfalso;omega)
    |exact nI _
    |exact q1 _ ω ω
    |exact nJ<|q2 _ ω ω
    |exact f _ _ ω ω ω
end
section
variable{prog:bw}{w:aX}{A:bY}{E:Ω}{s:ak}{κ:kO}{a₀:Array av}{ρ:av->Int}
noncomputable def wu:Bool->av->Array av->Nat->Nat->Nat->StateT aY dP (Option Nat):=sortPriv% PySem.Builtin.gallop
noncomputable def dH(a:Bool)(k r:Int):Bool:=if a=af then aC (r<k) else !aC (k<r)
def RJ{k r b:Int}(h:b<=r)(c:dH a k r=af):dH a k b=af:=by
 unfold dH at *;cases a with
 |true=>simp at *;omega
 |false=>simp at *;omega
def zp(C:h_ prog w A s κ a₀ ρ)(g:cW κ a₀ f){c:av}{d:Array av}{i:Nat}(j:c∈a₀.toList)(l:∃p,d[i]?=V p/\p∈a₀.toList){Q:Option Bool->aY->Prop}(h:Q (V<|dH a (ρ c)<|bE ρ d i) f):dN (aH prog w) A E s (do
   let x <-iQ d i
   if a=af then lt' x c
   else do
    let b <-lt' c x
    aU (iR (λx=>!x) b)) Q f:=by
 obtain⟨p,e,k⟩:=l;rw[fU e] at h;refine bK<|ip e ?_;cases a with
 |true=>
  rw[az O];exact wo C g k j h
 |false=>
  rw[ap dT];exact bK<|wo C g j k<|ce h
def ux(C:h_ prog w A s κ a₀ ρ)(hB:cW κ a₀ D){d:av}{arr:Array av}{base n hint:Nat}{Q:Option Nat->aY->Prop}(hk:d∈a₀.toList)(ha:∀i,i<n->∃p,arr[base+i]?=V p/\p∈a₀.toList)(hs:∀i j,i<=j->j<n->bE ρ arr (base+i)<=bE ρ arr (base+j))(hh:hint<n)(h:∀k,k<=n->(∀i,i<k->dH a (ρ d) (bE ρ arr<|base+i)=af)->(∀i,k<=i->i<n->dH a (ρ d) (bE ρ arr<|base+i)=aB)->Q (V k) D):dN (aH prog w) A E s (wu a d arr base n hint) Q D:=by
 have up:∀i j,i<=j->j<n->dH a (ρ d) (bE ρ arr<|base+j)=af->dH a (ρ d) (bE ρ arr<|base+i)=af:=λi j P L=>RJ<|hs i j P L;have dn:∀i j,i<=j->j<n->dH a (ρ d) (bE ρ arr<|base+i)=aB->dH a (ρ d) (bE ρ arr<|base+j)=aB:=λi j P L e=>by
  cases q:dH a (ρ d) (bE ρ arr<|base+j) with
  |false=>rfl
  |true=>rw[up i j P L q] at e;cases e
 have S:∀(m:aY)(f:Nat->Option (Option Nat)×Nat×Nat->StateT aY dP (ForInStep<|Option (Option Nat)×Nat×Nat))(g t:Nat),m=D->g<=t->t<=n->(∀i,i<g->dH a (ρ d) (bE ρ arr<|base+i)=af)->(∀i,t<=i->i<n->dH a (ρ d) (bE ρ arr<|base+i)=aB)->
   (∀x g t(T:ForInStep (Option (Option Nat)×Nat×Nat)->aY->Prop),(g ≥ t->T (.done (abd Z (abd g t))) D)->(g<t->t<=n->T (.yield<|if dH a (ρ d) (bE ρ arr<|base+(g+(t-g) / 2))=af then(abd Z (abd (g+(t-g) / 2+1) t)) else(abd Z (abd g (g+(t-g) / 2)))) D)->t<=n->dN (aH prog w) A E s (f x (abd Z (abd g t))) T D)->
   dN (aH prog w) A E s (lO [0:n] (abd Z (abd g t)) f) (λc m=>m=D/\c.1=Z/\Q (V c.2.2) D) m:=by
  intro m f g t e0 P L h3 h4 hf;subst e0;refine kN (I:=λx c z=>z=m/\∃l r,c=(abd Z (abd l r))/\l<=r/\r<=n/\r-l<=n-x/\(∀i,i<l->dH a (ρ d) (bE ρ arr<|base+i)=af)/\(∀i,r<=i->i<n->dH a (ρ d) (bE ρ arr<|base+i)=aB)) ?step ?fin (O,g,t,O,P,L,ω,h3,h4)
  case fin=>
   rintro c z ⟨rfl,l,r,rfl,G,U,H,v,K⟩;have:l=r:=ω
   subst this;exact(O,O,h l U v K)
  case step=>
   rintro x c z _ hx ⟨rfl,l,r,rfl,G,U,H,v,K⟩;refine hf x l r _ (λu=>?_) (λa7 hr=>?_) U
   ·have:l=r:=(û G u)
    subst this;exact(O,O,h l U v K)
   ·cases q:dH a (ρ d) (bE ρ arr<|base+(l+(r-l) / 2)) with
    |true=>exact(O,_,_,by rw[az O],ω,U,ω,λi t=>up i _ (ò t) ω q,K)
    |false=>exact(O,_,_,by rw[ap dT],ü,ω,ω,v,λi P L=>dn _ i P L q)
 have X:∀(x g t:Nat)(T:ForInStep (Option (Option Nat)×Nat×Nat)->aY->Prop),(g ≥ t->T (.done (abd Z (abd g t))) D)->(g<t->t<=n->T (.yield<|if dH a (ρ d) (bE ρ arr<|base+(g+(t-g) / 2))=af then(abd Z (abd (g+(t-g) / 2+1) t)) else(abd Z (abd g (g+(t-g) / 2)))) D)->t<=n->
   dN (aH prog w) A E s (if g ≥ t then aU (dS (abd Z (abd g t))) else(do
    let x <-iQ arr (base+(g+(t-g) / 2))
    if a=af then lt' x d
    else do
     let b <-lt' d x
     aU (iR (λx=>!x) b)) >>= λy=>match y with
    |some a0=>if a0=af then aU (hX (abd Z (abd (g+(t-g) / 2+1) t))) else aU (hX (abd Z (abd g (g+(t-g) / 2))))
    |x=>aU (dS (abd (V Z) (abd g t)))) T D:=by
  intro x g t T q1 q2 hn
  by_cases u:g ≥ t
  ·rw[az u]
   exact ce<|q1 u
  ·rw[ap u]
   have q:=q2 (ó u) hn;refine bK<|zp C hB hk (ha _ ω) ?_;cases e:dH a (ρ d) (bE ρ arr<|base+(g+(t-g) / 2)) with
   |true=>
    rw[e,az O] at q;simp only[dU];exact ce q
   |false=>
    rw[e,ap dT] at q;simp only[dD,dc];exact ce q
 refine bK ?_;refine zp C hB hk (ha hint hh) ?_;cases M:dH a (ρ d) (bE ρ arr<|base+hint) with
 |true=>
  dsimp only;rw[az O];refine bK (iP (kN (I:=λx c m=>m=D/\∃l o,c=(abd Z (abd l o))/\l<o/\x+1<=o/\hint+l<n/\dH a (ρ d) (bE ρ arr<|base+(hint+l))=af)
   (Q:=λc m=>m=D/\∃l o,c=(abd Z (abd l o))/\l<o/\hint+l<n/\dH a (ρ d) (bE ρ arr<|base+(hint+l))=af/\(n-hint<=o\/(hint+o<n/\dH a (ρ d) (bE ρ arr<|base+(hint+o))=aB))) ?step ?fin (O,0,1,O,ß,ß,hh,M)) ?post)
  case fin=>
   rintro c m ⟨rfl,l,o,rfl,G,U,H,v⟩;exact(O,l,o,O,G,H,v,.inl ω)
  case step=>
   rintro x c m _ hx ⟨rfl,l,o,rfl,G,U,H,v⟩;dsimp only
   by_cases u:o ≥ n-hint
   ·rw[az u]
    exact ce (O,l,o,O,G,H,v,.inl u)
   ·rw[ap u]
    refine bK<|zp C hB hk (ha _ ω) ?_;cases e:dH a (ρ d) (bE ρ arr<|base+(hint+o)) with
    |true=>
     simp only[nK,dD,dc];exact ce (O,o,2*o+1,O,ω,ω,ω,e)
    |false=>
     simp only[Ra,dU];exact ce (O,l,o,O,G,H,v,.inr (ω,e))
  case post=>
   rintro c m ⟨rfl,l,o,rfl,G,H,v,K⟩;dsimp only;refine bK<|iP (S _ _ _ _ O ω ω (λi t=>up i _ (ò t) H v) (λi P L=>?_) X) ?fin2
   case fin2=>rintro⟨c1,c2,c3⟩ z ⟨rfl,e,q⟩;dsimp only at e q ⊢;subst e;exact ce q
   rcases K with K|⟨K,a6⟩
   ·omega
   ·exact dn _ i ω L a6
 |false=>
  dsimp only;rw[ap dT];refine bK (iP (kN (I:=λx c m=>m=D/\∃l o,c=(abd Z (abd l o))/\l<o/\x+1<=o/\l<=hint/\dH a (ρ d) (bE ρ arr<|base+(hint-l))=aB)
   (Q:=λc m=>m=D/\∃l o,c=(abd Z (abd l o))/\l<o/\l<=hint/\dH a (ρ d) (bE ρ arr<|base+(hint-l))=aB/\(hint+1<=o\/(o<=hint/\dH a (ρ d) (bE ρ arr<|base+(hint-o))=af))) ?step ?fin (O,0,1,O,ß,ß,ú,M)) ?post)
  case fin=>
   rintro c m ⟨rfl,l,o,rfl,G,U,H,v⟩;exact(O,l,o,O,G,H,v,.inl ω)
  case step=>
   rintro x c m _ hx ⟨rfl,l,o,rfl,G,U,H,v⟩;dsimp only
   by_cases u:o ≥ hint+1
   ·rw[az u]
    exact ce (O,l,o,O,G,H,v,.inl u)
   ·rw[ap u]
    refine bK<|zp C hB hk (ha _ ω) ?_;cases e:dH a (ρ d) (bE ρ arr<|base+(hint-o)) with
    |true=>
     simp only[dU];exact ce (O,l,o,O,G,H,v,.inr ((ò (ó u)),e))
    |false=>
     simp only[dD,dc];exact ce (O,o,2*o+1,O,ω,ω,(ò (ó u)),e)
  case post=>
   rintro c m ⟨rfl,l,o,rfl,G,H,v,K⟩;dsimp only;refine bK<|iP (S _ _ _ _ O ω ω (λi t=>?_) (λi P L=>dn _ i P L v) X) ?fin2
   case fin2=>rintro⟨c1,c2,c3⟩ z ⟨rfl,e,q⟩;dsimp only at e q ⊢;subst e;exact ce q
   rcases K with K|⟨K,a6⟩
   ·omega
   ·exact up i _ ω ω a6
end
abbrev dA(a:av->Int)(l:List av):Prop:=l.Pairwise λx y=>a x<=a y
structure iE(ρ:av->Int)(la lb out ra rb:List av):Prop where
 d:(out++(ra++rb)).Perm (la++lb)
 b:dA ρ out
 a:dA ρ ra
 e:dA ρ rb
 c:∀x∈out,∀y∈ra,ρ x<=ρ y
 ob:∀x∈out,∀y∈rb,ρ x<=ρ y
def iE.J{i j e b k g:List av}(h:iE f i j e (b++k) g)(m:∀x∈b,∀y∈g,f x<=f y):iE f i j (e++b) k g:=by
 obtain⟨p,n,o,q,l,r⟩:=h;have c:=kQ.mp o;refine(by simpa[gd] using p,kQ.mpr (n,c.1,λx a y d=>l x a y<|fR _ d),c.2.1,q,λx a y d=>?_,λx a y d=>?_)
 ·rcases cy.mp a with a|a
  ·exact l x a y<|gh _ d
  ·exact c.2.2 x a y d
 ·rcases cy.mp a with a|a
  ·exact r x a y d
  ·exact m x a y d
def iE.q{i j e b g k:List av}(h:iE f i j e g (b++k))(m:∀x∈b,∀y∈g,f x<=f y):iE f i j (e++b) g k:=by
 obtain⟨p,n,o,q,r,l⟩:=h;have c:=kQ.mp q;refine(?_,kQ.mpr (n,c.1,λx a y d=>l x a y<|fR _ d),o,c.2.1,λx a y d=>?_,λx a y d=>?_)
 ·refine CR ?_ p
  rw[gd];refine IN _ ?_;rw[<-gd,<-gd];exact CT _ Qy
 ·rcases cy.mp a with a|a
  ·exact r x a y d
  ·exact m x a y d
 ·rcases cy.mp a with a|a
  ·exact l x a y<|gh _ d
  ·exact c.2.2 x a y d
def iE.N{d:av->Int}{f g a c b:List av}(h:iE d f g a c b)(e:b=[]):((a++c)++b).Perm (f++g)/\dA d ((a++c)++b):=by
 subst e;refine(by simpa[gd] using h.d,?_);rw[jm];exact kQ.mpr (h.b,h.a,h.c)
def iE.S{b:av->Int}{f g a c d:List av}(h:iE b f g a c d)(i:∀x∈d,∀y∈c,b x<=b y):((a++d)++c).Perm (f++g)/\dA b ((a++d)++c):=by
 have e:=(show iE b f g a c (d++[]) by rw[jm];exact h).q i;refine(by simpa using e.d,kQ.mpr (e.b,e.a,e.c))
def Jt{a:Array av}{i:Nat}(h:a[i]?=V p):a.toList.drop i=[p]++a.toList.drop (i+1):=by
 have b:a.toList[i]?=V p:=by simpa using h
 obtain⟨c,e⟩:=cr.mp b;rw[mH c,e]
 rfl
def zx{a:Array av}(i k:Nat):a.toList.drop i=(a.extract i<|i+k).toList++a.toList.drop (i+k):=by
 rw[IY,IG,Nat.add_sub_cancel_left,<-ae2,pH]
def sw{a:Array av}{i:Nat}{y:av}(h:y∈a.toList.drop i):∃j,i+j<a.size/\a[i+j]?=V y:=by
 obtain⟨j,b,e⟩:=oJ.mp h;rw[mG,gR] at b;refine(j,ω,?_);rw[List.getElem_drop] at e;rw[hY a (i+j) ω,<-e];simp
def Jo{a:Array av}{i k:Nat}{y:av}(h:y∈(a.extract i<|i+k).toList):∃j,j<k/\i+j<a.size/\a[i+j]?=V y:=by
 obtain⟨j,b,e⟩:=oJ.mp h;rw[gR,qU] at b;refine(j,ω,ω,?_);rw[hY a (i+j) ω,<-e];simp
def zv(a:Array av)(i:Nat):(a.extract i).toList=a.toList.drop i:=by
 rw[IY,IG,e_ (by simp)]
def jC{xs:Array av}{i:Nat}(h:i<xs.size):∃p,xs[i]?=V p:=(xs[i],hY _ i h)
def jY{a:Array av}{i:Nat}(h:a[i]?=V p):p∈a.toList:=by
 obtain⟨b,rfl⟩:=uw.mp h;simp
def oN{b:Array av}(d:dA a b.toList){i j:Nat}{p q:av}(e:b[i]?=V p)(f:b[j]?=V q)(c:i<=j):a p<=a q:=by
 obtain⟨g,rfl⟩:=uw.mp e;obtain⟨k,rfl⟩:=uw.mp f;rcases Ig c with h|h
 ·have:=uj.mp d i j (by simpa using g) (by simpa using k) h
  simpa using this
 ·subst h;exact nI _
def zy{b:av->Int}{a:Array av}(f:dA b a.toList){h j:Nat}(c:h<=j)(g:j<a.size):bE b a h<=bE b a j:=by
 obtain⟨p,d⟩:=jC (xs:=a) (i:=h) (à (ï c) g);obtain⟨q,e⟩:=jC g;rw[fU d,fU e];exact oN f d e c
structure iU(st st':aY):Prop where
 arr:aL st'=aL st
 d:dw st'=dw st
 c:Cz st'=Cz st
 a:ny st'=ny st
def iU.q{a:aY}:iU a a:=(O,O,O,O)
noncomputable def iU.j{a b c:aY}(x:iU a b)(y:iU b c):iU a c:=(y.arr.trans x.arr,y.d.trans x.d,y.c.trans x.c,y.a.trans x.a)
def iU.b{c:kO}{a:Array av}{d b:aY}(x:iU d b)(h:cW c a d):cW c a b:=(by rw[x.arr];exact h.b,x.c.trans h.c,x.a.trans h.a)
noncomputable def wq:Nat->StateT aY dP Unit:=sortPriv% PySem.Builtin.setMinGallop
noncomputable def Jm:Array av->Array av->StateT aY dP (Array av):=sortPriv% PySem.Builtin.mergeLo
noncomputable def Jn:Array av->Array av->StateT aY dP (Array av):=sortPriv% PySem.Builtin.mergeHi
section
variable{prog:bw}{w:aX}{A:bY}{E:Ω}{s:ak}{κ:kO}{a₀:Array av}{ρ:av->Int}
def zn{b:aY}{Q:Unit->aY->Prop}(h:∀a,iU b a->Q () a):dN (aH prog w) A E s (wq g) Q b:=by
 refine ug<|h _ ?_;exact(O,O,O,O)
abbrev oQ(ρ:av->Int)(a b:Array av)(d:aY)(r:Array av)(c:aY):Prop:=iU d c/\r.toList.Perm (a.toList++b.toList)/\dA ρ r.toList
structure sx(ρ:av->Int)(a b:Array av)(out:Array av)(ia ib:Nat):Prop where
 e:iE ρ a.toList b.toList out.toList (a.toList.drop ia) (b.toList.drop ib)
 d:ia+1<a.size
 c:ib<b.size
noncomputable def iE.B{ρ:av->Int}{a b c:Array av}{d f:Nat}(h:iE ρ a.toList b.toList c.toList (a.toList.drop d) (b.toList.drop f))(e:b[f]?=V y)(g:∀x∈a.toList.drop d,ρ y<=ρ x):iE ρ a.toList b.toList (c.push y).toList (a.toList.drop d) (b.toList.drop<|f+1):=by
 rw[Jt e] at h;rw[zl];exact h.q λx i z j=>by rw[cJ.mp i];exact g z j
noncomputable def iE.F{ρ:av->Int}{a b c:Array av}{d f:Nat}(h:iE ρ a.toList b.toList c.toList (a.toList.drop d) (b.toList.drop f))(e:a[d]?=V x)(i:∀y∈b.toList.drop f,ρ x<=ρ y):iE ρ a.toList b.toList (c.push x).toList (a.toList.drop<|d+1) (b.toList.drop f):=by
 rw[Jt e] at h;rw[zl];exact h.J λz j y g=>by rw[cJ.mp j];exact i y g
def iE.W{ρ:av->Int}{a b d:Array av}{c e:Nat}(k:Nat)(h:iE ρ a.toList b.toList d.toList (a.toList.drop c) (b.toList.drop e))(f:∀x∈(a.extract c<|c+k).toList,∀y∈b.toList.drop e,ρ x<=ρ y):iE ρ a.toList b.toList (d++a.extract c (c+k)).toList (a.toList.drop<|c+k) (b.toList.drop e):=by
 rw[zx c k] at h;rw[oK];exact h.J f
def iE.M{ρ:av->Int}{a b d:Array av}{e c:Nat}(k:Nat)(h:iE ρ a.toList b.toList d.toList (a.toList.drop e) (b.toList.drop c))(f:∀x∈(b.extract c<|c+k).toList,∀y∈a.toList.drop e,ρ x<=ρ y):iE ρ a.toList b.toList (d++b.extract c (c+k)).toList (a.toList.drop e) (b.toList.drop<|c+k):=by
 rw[zx c k] at h;rw[oK];exact h.q f
def iE.fin{ρ:av->Int}{a b c:Array av}{f d:Nat}(h:iE ρ a.toList b.toList c.toList (a.toList.drop f) (b.toList.drop d))(e:b.size<=d):(c++a.extract f++b.extract d).toList.Perm (a.toList++b.toList)/\dA ρ (c++a.extract f++b.extract d).toList:=by
 rw[oK,oK,zv,zv];exact h.N<|QK (by simpa using e)
noncomputable def iE.j{ρ:av->Int}{a b c:Array av}{d e:Nat}(h:iE ρ a.toList b.toList c.toList (a.toList.drop d) (b.toList.drop e))(f:∀x∈b.toList.drop e,∀y∈a.toList.drop d,ρ x<=ρ y):(c++b.extract e++a.extract d).toList.Perm (a.toList++b.toList)/\dA ρ (c++b.extract e++a.extract d).toList:=by
 rw[oK,oK,zv,zv];exact h.S f
abbrev oO:=Option (Array av)×Array av×Nat×Nat×Nat×Nat×Nat
def Ds(ρ:av->Int)(a b:Array av)(h:aY)(l:Nat):ForInStep oO->aY->Prop:=λr d=>match r with
 |.done g=>(∃r,g.1=V r/\oQ ρ a b h r d)\/iU h d/\∃c e f i j k,g=(abd Z (abd c (abd e (abd f (abd i (abd j k))))))/\sx ρ a b c e f/\l<=e+f
 |.yield g=>iU h d/\∃c e f i j k,g=(abd Z (abd c (abd e (abd f (abd i (abd j k))))))/\sx ρ a b c e f/\l<=e+f
noncomputable def C_(a b o:Array av)(i j c k l:Nat):StateT aY dP (ForInStep oO):=iQ a i >>= λz=>if(i+1+1==a.size)=af then aU (.done (abd (V<|o.push z++b.extract j++a.extract (i+1)) (abd (o.push z) (abd (i+1) (abd j (abd c (abd k l))))))) else if(aC (k<7)&&aC (l<7))=af then aU (.done (abd Z (abd (o.push z) (abd (i+1) (abd j (abd c (abd k l))))))) else aU (.yield (abd Z (abd (o.push z) (abd (i+1) (abd j (abd c (abd k l)))))))
noncomputable def Dd(a b o:Array av)(i j c k d:Nat):StateT aY dP (ForInStep oO):=iQ b j >>= λy=>if(j+1==b.size)=af then aU (.done (abd (V<|o.push y++a.extract i++b.extract (j+1)) (abd (o.push y) (abd i (abd (j+1) (abd c (abd k d))))))) else iQ a i >>= λx=>wu af x b (j+1) (b.size-(j+1)) 0 >>= λg=>match g with
 |some l=>if l>0 then(if(j+1+l==b.size)=af then aU (.done (abd (V<|o.push y++b.extract (j+1) (j+1+l)++a.extract i++b.extract (j+1+l)) (abd (o.push y++b.extract (j+1) (j+1+l)) (abd i (abd (j+1+l) (abd c (abd k l))))))) else C_ a b (o.push y++b.extract (j+1) (j+1+l)) i (j+1+l) c k l) else C_ a b (o.push y) i (j+1) c k l
 |_=>aU (.done (abd (V<|o.push y++a.extract i++b.extract (j+1)) (abd (o.push y) (abd i (abd (j+1) (abd c (abd k d)))))))
def Jc{m c:aY}{a b o:Array av}{i j q k l v:Nat}(S:iU m c)(M:iE ρ a.toList b.toList o.toList (a.toList.drop i) (b.toList.drop j))(n:a[i]?=V x)(e:∀y∈b.toList.drop j,ρ x<=ρ y)(f:∀i j,a.size<=i+1->∀x∈b.toList.drop j,∀y∈a.toList.drop i,ρ x<=ρ y)(r:i+1<a.size)(t:j<b.size)(u:v<=i+j):dN (aH prog w) A E s (C_ a b o i j q k l) (Ds ρ a b m v) c:=by
 refine bK<|ip n ?_;have g:=M.F n e
 by_cases d:(i+1+1==a.size)=af
 ·rw[az d]
  have h:i+1+1=a.size:=by simpa using d
  exact ce<|.inl (_,O,S,g.j<|f _ _ (æ h))
 rw[ap d];have h:i+1+1≠a.size:=by simpa using d
 by_cases p:(aC (k<7)&&aC (l<7))=af
 ·rw[az p]
  exact ce<|.inr (S,_,_,_,_,_,_,O,(g,(þ r h),t),ω)
 ·rw[ap p]
  exact ce (S,_,_,_,_,_,_,O,(g,(þ r h),t),ω)
def Je(C:h_ prog w A s κ a₀ ρ){G n:aY}(X:cW κ a₀ G){a b o:Array av}{i j mg k bc a0:Nat}(ha:∀p∈a.toList,p∈a₀.toList)(hb:∀p∈b.toList,p∈a₀.toList)(sa:dA ρ a.toList)(sb:dA ρ b.toList)(S:iU G n)(M:iE ρ a.toList b.toList o.toList (a.toList.drop i) (b.toList.drop j))(Q:b[j]?=V y)(c:∀x∈a.toList.drop i,ρ y<=ρ x)(q:∀i j,a.size<=i+1->∀x∈b.toList.drop j,∀y∈a.toList.drop i,ρ x<=ρ y)(H:i+1<a.size)(h2:j<b.size)(hN:a0<=i+j):dN (aH prog w) A E s (Dd a b o i j mg k bc) (Ds ρ a b G a0) n:=by
 refine bK<|ip Q ?_;have I:=M.B Q c
 by_cases z:(j+1==b.size)=af
 ·rw[az z]
  have K:j+1=b.size:=by simpa using z
  exact ce<|.inl (_,O,S,I.fin (æ K))
 rw[ap z];have K:j+1≠b.size:=by simpa using z
 obtain⟨x,r⟩:=jC (xs:=a) (i:=i) (ê H);refine bK<|ip r ?_;refine bK<|ux C (S.b X) (ha _<|jY r) (λl hl=>?_) (λl m H h2=>zy sb (ñ H) ω) ω λl l1 l2 l3=>?_
 ·obtain⟨p,e⟩:=jC (xs:=b) (i:=j+1+l) ω
  exact(p,e,hb _<|jY e)
 dsimp only;have g:∀y∈b.toList.drop (j+1+l),ρ x<=ρ y:=λu L=>by
  obtain⟨d,R,T⟩:=sw L;have h:=l3 (l+d) ü ω;rw[show j+1+(l+d)=j+1+l+d from ω,fU T] at h;simp[dH] at h;omega
 by_cases t:l>0
 ·rw[az t]
  have U:=I.M l λu L v hv=>by
   obtain⟨d,R,T,d3⟩:=Jo L;obtain⟨f,f1,f2⟩:=sw hv;have h:=l2 d R;rw[fU d3] at h;simp[dH] at h;exact nH (nJ h)<|oN sa r f2 ü
  by_cases D:(j+1+l==b.size)=af
  ·rw[az D]
   have P:j+1+l=b.size:=by simpa using D
   exact ce<|.inl (_,O,S,U.fin (æ P))
  rw[ap D];have P:j+1+l≠b.size:=by simpa using D
  exact Jc S U r g q H ω ω
 ·rw[ap t]
  have l0:l=0:=(û (ô t) ú)
  rw[l0] at g;exact Jc S I r g q H (þ h2 K) ω
noncomputable def zr(a b o:Array av)(i j c e d:Nat):StateT aY dP (ForInStep oO):=wq c >>= λ_=>iQ b j >>= λy=>wu aB y a i (a.size-i) 0 >>= λg=>match g with
 |some k=>if k>0 then(if(i+k+1==a.size)=af then aU (.done (abd (V<|o++a.extract i (i+k)++b.extract j++a.extract (i+k)) (abd (o++a.extract i (i+k)) (abd (i+k) (abd j (abd c (abd k d))))))) else if(i+k==a.size)=af then aU (.done (abd (V<|o++a.extract i (i+k)++a.extract (i+k)++b.extract j) (abd (o++a.extract i (i+k)) (abd (i+k) (abd j (abd c (abd k d))))))) else Dd a b (o++a.extract i (i+k)) (i+k) j c k d) else Dd a b o i j c k d
 |_=>aU (.done (abd (V<|o++a.extract i++b.extract j) (abd o (abd i (abd j (abd c (abd e d)))))))
def Ru(C:h_ prog w A s κ a₀ ρ){K n:aY}(L:cW κ a₀ K){a b o:Array av}{i j mg ac bc N:Nat}(M:∀p∈a.toList,p∈a₀.toList)(P:∀p∈b.toList,p∈a₀.toList)(Q:dA ρ a.toList)(R:dA ρ b.toList)(D:iU K n)(G:sx ρ a b o i j)(m:b[j]?=V y)(X:a[a.size-1]?=V z)(hz:∀z,a[a.size-1]?=V z->∀y∈b.toList,ρ y<ρ z)(h:∀i j,a.size<=i+1->∀x∈b.toList.drop j,∀y∈a.toList.drop i,ρ x<=ρ y)(a0:N<=i+j):dN (aH prog w) A E s (zr a b o i j mg ac bc) (Ds ρ a b K N) n:=by
 have S:=G.d;have r:=G.c;refine bK<|zn λa1 H=>?_;refine bK<|ip m ?_;refine bK<|ux C ((D.j H).b L) (P _<|jY m) (λk hk=>?_) (λk l h1 h2=>zy Q (ñ h1) ω) ω λk k1 k2 k3=>?_
 ·obtain⟨p,e⟩:=jC (xs:=a) (i:=i+k) ω
  exact(p,e,M _<|jY e)
 dsimp only;have kz:i+k<a.size:=by
  rcases nC (i+k) a.size with q|q
  ·exact q
  ·have g:=k2 (a.size-1-i) ω
   rw[show i+(a.size-1-i)=a.size-1 from ω,fU X] at g;have q2:=hz _ X y<|jY m;simp[dH] at g;omega
 have c:∀x∈a.toList.drop (i+k),ρ y<=ρ x:=λu T=>by
  obtain⟨d,d1,d2⟩:=sw T;have g:=k3 (k+d) ü ω;rw[show i+(k+d)=i+k+d from ω,fU d2] at g;simp[dH] at g;omega
 by_cases t:k>0
 ·rw[az t]
  have MB:=G.e.W k λu T v hv=>by
   obtain⟨d,d1,d2,d3⟩:=Jo T;obtain⟨f,f1,f2⟩:=sw hv;have g:=k2 d d1;rw[fU d3] at g;simp[dH] at g;exact nH g<|oN R m f2 ü
  by_cases I:(i+k+1==a.size)=af
  ·rw[az I]
   have U:i+k+1=a.size:=by simpa using I
   exact ce<|.inl (_,O,D.j H,MB.j<|h _ _ (æ U))
  rw[ap I];have U:i+k+1≠a.size:=by simpa using I
  rw[ap (show ¬(i+k==a.size)=af by simp;exact õ kz)];exact Je C L M P Q R (D.j H) MB m c h (þ kz U) r ω
 ·rw[ap t]
  have k0:k=0:=(û (ô t) ú)
  rw[k0] at c;exact Je C L M P Q R (D.j H) G.e m c h S r a0
abbrev uB:=Option (Array av)×Array av×Nat×Nat×Nat×Nat
abbrev uz:=Option (Array av)×Array av×Nat×Nat×Nat
noncomputable def Jr:aY->Nat:=sortPriv% PySem.Builtin.SortState.minGallop
noncomputable def Dg(a b:Array av)(d:Nat):Nat->uB->StateT aY dP (ForInStep uB):=λ_ c=>iQ b c.2.2.2.1 >>= λy=>iQ a c.2.2.1 >>= λx=>lt' y x >>= λq=>match q with
 |some r=>if r=af then iQ b c.2.2.2.1 >>= λz=>(if(c.2.2.2.1+1==b.size)=af then aU (.done (abd (V<|c.2.1.push z++a.extract c.2.2.1++b.extract (c.2.2.2.1+1)) (abd (c.2.1.push z) (abd c.2.2.1 (abd (c.2.2.2.1+1) (abd 0 (c.2.2.2.2.2+1))))))) else if c.2.2.2.2.2+1 ≥ d then aU (.done (abd Z (abd (c.2.1.push z) (abd c.2.2.1 (abd (c.2.2.2.1+1) (abd 0 (c.2.2.2.2.2+1))))))) else aU (.yield (abd Z (abd (c.2.1.push z) (abd c.2.2.1 (abd (c.2.2.2.1+1) (abd 0 (c.2.2.2.2.2+1))))))))
  else iQ a c.2.2.1 >>= λz=>(if(c.2.2.1+1+1==a.size)=af then aU (.done (abd (V<|c.2.1.push z++b.extract c.2.2.2.1++a.extract (c.2.2.1+1)) (abd (c.2.1.push z) (abd (c.2.2.1+1) (abd c.2.2.2.1 (abd (c.2.2.2.2.1+1) 0)))))) else if c.2.2.2.2.1+1 ≥ d then aU (.done (abd Z (abd (c.2.1.push z) (abd (c.2.2.1+1) (abd c.2.2.2.1 (abd (c.2.2.2.2.1+1) 0)))))) else aU (.yield (abd Z (abd (c.2.1.push z) (abd (c.2.2.1+1) (abd c.2.2.2.1 (abd (c.2.2.2.2.1+1) 0)))))))
 |_=>aU (.done (abd (V<|c.2.1++a.extract c.2.2.1++b.extract c.2.2.2.1) (abd c.2.1 (abd c.2.2.1 (abd c.2.2.2.1 (abd c.2.2.2.2.1 c.2.2.2.2.2))))))
noncomputable def Di(a b:Array av):Nat->oO->StateT aY dP (ForInStep oO):=λ_ c=>if c.2.2.2.2.1>1 then zr a b c.2.1 c.2.2.1 c.2.2.2.1 (c.2.2.2.2.1-1) c.2.2.2.2.2.1 c.2.2.2.2.2.2 else zr a b c.2.1 c.2.2.1 c.2.2.2.1 c.2.2.2.2.1 c.2.2.2.2.2.1 c.2.2.2.2.2.2
noncomputable def Db(a b:Array av):Nat->uz->StateT aY dP (ForInStep uz):=λ_ c=>lO [:a.size+b.size] ((abd Z (abd c.2.1 (abd c.2.2.1 (abd c.2.2.2.1 (abd 0 0))))):uB) (Dg a b c.2.2.2.2) >>= λd=>match d.1 with
 |some r=>aU (.done (abd (V r) (abd d.2.1 (abd d.2.2.1 (abd d.2.2.2.1 c.2.2.2.2)))))
 |none=>liftM (yt "list.sort.gallop") >>= λ_=>lO [:a.size+b.size] ((abd Z (abd d.2.1 (abd d.2.2.1 (abd d.2.2.2.1 (abd (c.2.2.2.2+1) (abd d.2.2.2.2.1 d.2.2.2.2.2)))))):oO) (Di a b) >>= λe=>match e.1 with
  |some r=>aU (.done (abd (V r) (abd e.2.1 (abd e.2.2.1 (abd e.2.2.2.1 e.2.2.2.2.1)))))
  |none=>wq (e.2.2.2.2.1+1) >>= λ_=>aU<|.yield (abd Z (abd e.2.1 (abd e.2.2.1 (abd e.2.2.2.1 (e.2.2.2.2.1+1)))))
noncomputable def Jp(a b:Array av):StateT aY dP (Array av):=liftM (yt "list.sort.merge-lo") >>= λ_=>iQ b 0 >>= λy=>if(1==b.size)=af then aU (#[y]++a.extract 0++b.extract 1) else if(0+1==a.size)=af then aU (#[y]++b.extract 1++a.extract 0) else get >>= λg=>lO [:a.size+b.size] ((abd Z (abd (#[y]) (abd 0 (abd 1 (Jr g))))):uz) (Db a b) >>= λd=>match d.1 with
 |some r=>aU r
 |none=>liftM (unsupported "internal:list.sort.merge-bound":dP (Array av))
def RF(a b:Array av):Jm a b=Jp a b:=by kernel_rfl
def Dq(ρ:av->Int)(a b:Array av)(g:aY)(k:Nat):Nat->uB->aY->Prop:=λt c h=>h=g/\∃f d e i j,c=(abd Z (abd f (abd d (abd e (abd i j)))))/\sx ρ a b f d e/\k+t<=d+e
def Jy(ρ:av->Int)(a b:Array av)(i h:aY)(l:Nat):uB->aY->Prop:=λc f=>f=h/\((∃r,c.1=V r/\oQ ρ a b i r f)\/∃g d e j k,c=(abd Z (abd g (abd d (abd e (abd j k)))))/\sx ρ a b g d e/\l+1<=d+e)
def Do(ρ:av->Int)(a b:Array av)(h:aY):Nat->uz->aY->Prop:=λx c e=>iU h e/\∃d f g i,c=(abd Z (abd d (abd f (abd g i))))/\sx ρ a b d f g/\x+1<=f+g
def Jw(ρ:av->Int)(a b:Array av)(e:aY):uz->aY->Prop:=λc d=>∃r,c.1=V r/\oQ ρ a b e r d
def wz(ρ:av->Int)(a b:Array av)(h:aY)(l:Nat):oO->aY->Prop:=λc e=>iU h e/\∃d f g i j k,c=(abd Z (abd d (abd f (abd g (abd i (abd j k))))))/\sx ρ a b d f g/\l<=f+g
def Dt(ρ:av->Int)(a b:Array av)(e:aY)(f:Nat):oO->aY->Prop:=λc d=>(∃r,c.1=V r/\oQ ρ a b e r d)\/wz ρ a b e f c d
def nN{c:Type}(I Q:c->aY->Prop):ForInStep c->aY->Prop:=λr a=>match r with
 |.done b=>Q b a
 |.yield b=>I b a
def Rs(C:h_ prog w A s κ a₀ ρ){r f n:aY}(H:cW κ a₀ r){a b:Array av}{I a0 t:Nat}(K:∀p∈a.toList,p∈a₀.toList)(L:∀p∈b.toList,p∈a₀.toList)(M:dA ρ a.toList)(P:dA ρ b.toList)(v:iU r f)(z:∀i j,a.size<=i+1->∀x∈b.toList.drop j,∀y∈a.toList.drop i,ρ x<=ρ y)(Q:Dq ρ a b f a0 t c n):dN (aH prog w) A E s (Dg a b I t c) (nN (Dq ρ a b f a0<|t+1)<|Jy ρ a b r f a0) n:=by
 obtain⟨rfl,R,h,k,ac,bc,rfl,e,S⟩:=Q;unfold Dg;dsimp only;obtain⟨y,o⟩:=jC e.c;obtain⟨x,q⟩:=jC<|Nat.lt_of_succ_lt e.d;have T:=e.d;have U:=e.c;refine bK<|ip o<|bK<|ip q<|bK<|wo C (v.b H) (L _<|jY o) (K _<|jY q) ?_
 by_cases d:ρ y<ρ x
 ·simp only[d,decide_true,dU]
  refine bK<|ip o ?_;have l:=e.e.B o λu D=>by
   obtain⟨j,X,G⟩:=sw D;exact nH (nJ d)<|oN M q G ü
  by_cases g:(k+1==b.size)=af
  ·rw[az g]
   have m:k+1=b.size:=by simpa using g
   exact ce (O,.inl (_,O,v,l.fin (æ m)))
  ·rw[ap g]
   have m:k+1≠b.size:=by simpa using g
   split
   ·exact ce (O,.inr (_,_,_,_,_,O,(l,e.d,(þ U m)),ω))
   ·exact ce (O,_,_,_,_,_,O,(l,e.d,(þ U m)),(ï S))
 ·simp only[d,decide_false,dD,dc]
  refine bK<|ip q ?_;have l:=e.e.F q λu D=>by
   obtain⟨j,X,G⟩:=sw D;exact nH (IR.mp d)<|oN P o G ü
  by_cases g:(h+1+1==a.size)=af
  ·rw[az g]
   have m:h+1+1=a.size:=by simpa using g
   exact ce (O,.inl (_,O,v,l.j<|z _ _ (æ m)))
  ·rw[ap g]
   have m:h+1+1≠a.size:=by simpa using g
   split
   ·exact ce (O,.inr (_,_,_,_,_,O,(l,(þ T m),e.c),ω))
   ·exact ce (O,_,_,_,_,_,O,(l,(þ T m),e.c),ω)
def Rw(C:h_ prog w A s κ a₀ ρ)(o:cW κ a₀ e){a b:Array av}{S t:Nat}(q:∀p∈a.toList,p∈a₀.toList)(u:∀p∈b.toList,p∈a₀.toList)(v:dA ρ a.toList)(D:dA ρ b.toList)(G:a[a.size-1]?=V z)(H:∀z,a[a.size-1]?=V z->∀y∈b.toList,ρ y<ρ z)(f:∀i j,a.size<=i+1->∀x∈b.toList.drop j,∀y∈a.toList.drop i,ρ x<=ρ y)(I:wz ρ a b e S c d):dN (aH prog w) A E s (Di a b t c) (nN (wz ρ a b e S)<|Dt ρ a b e S) d:=by
 obtain⟨K,l,i,j,R,L,M,rfl,n,m⟩:=I;obtain⟨y,P⟩:=jC n.c;have k:∀g,dN (aH prog w) A E s (zr a b l i j g L M) (nN (wz ρ a b e S)<|Dt ρ a b e S) d:=λg=>iP (Ru (N:=S) C o q u v D K n P G H f m) λr Q h=>by cases r<;>exact h
 unfold Di;dsimp only;split
 ·exact k _
 ·exact k _
def Ro(C:h_ prog w A s κ a₀ ρ)(D:cW κ a₀ g){a b:Array av}{x:Nat}(G:∀p∈a.toList,p∈a₀.toList)(H:∀p∈b.toList,p∈a₀.toList)(K:dA ρ a.toList)(L:dA ρ b.toList)(ez:a[a.size-1]?=V z)(hz:∀z,a[a.size-1]?=V z->∀y∈b.toList,ρ y<ρ z)(n:∀i j,a.size<=i+1->∀x∈b.toList.drop j,∀y∈a.toList.drop i,ρ x<=ρ y)(hx:x<a.size+b.size)(o:Do ρ a b g x c f):dN (aH prog w) A E s (Db a b x c) (nN (Do ρ a b g<|x+1)<|Jw ρ a b g) f:=by
 obtain⟨M,k,P,R,mg,rfl,a2,hp⟩:=o;unfold Db;dsimp only;refine bK<|iP (kN (I:=Dq ρ a b f<|P+R) (Q:=Jy ρ a b g f<|P+R) (λt c d _ ht o=>iP (Rs C D G H K L M n o) λr d h=>by cases r<;>exact h) ?ifin (O,_,_,_,_,_,O,a2,ß)) ?ipost
 case ifin=>
  rintro c d ⟨rfl,k,l,m,S,T,rfl,u,v⟩;exact(O,.inr (_,_,_,_,_,O,u,ω))
 case ipost=>
  rintro⟨c1,c2⟩ d ⟨rfl,⟨r,e,q⟩|⟨k,l,m,S,T,e,u,v⟩⟩
  ·dsimp only at e ⊢
   subst e;exact ce (r,O,q)
  ·cases e
   dsimp only;refine bK<|wc<|lv (O,?_);refine bK<|iP (kN (I:=λ_=>wz ρ a b g<|l+m) (Q:=Dt ρ a b g<|l+m) (λt c d _ ht o=>iP (Rw C D G H K L ez hz n o) λr d h=>by cases r<;>exact h) ?gfin (M,_,_,_,_,_,_,O,u,aW _)) ?gpost
   case gfin=>
    rintro c d q;exact .inr q
   case gpost=>
    rintro⟨c1,c2⟩ d (⟨r,e,q⟩|⟨S2,k,U,X,mg,S,T,e,J2,a0⟩)
    ·dsimp only at e ⊢
     subst e;exact ce (r,O,q)
    ·cases e
     dsimp only;exact bK<|zn λa1 S3=>ce (S2.j S3,_,_,_,_,O,J2,(à (à (ï hp) v) a0))
def Rq(C:h_ prog w A s κ a₀ ρ)(P:cW κ a₀ f){a b:Array av}{Q:Array av->aY->Prop}(R:∀p∈a.toList,p∈a₀.toList)(S:∀p∈b.toList,p∈a₀.toList)(G:dA ρ a.toList)(H:dA ρ b.toList)(na:1<=a.size)(nb:1<=b.size)(T:∀x∈a.toList,∀y,b[0]?=V y->ρ y<=ρ x)(K:∀z,a[a.size-1]?=V z->∀y∈b.toList,ρ y<ρ z)(h:∀r d,oQ ρ a b f r d->Q r d):dN (aH prog w) A E s (Jm a b) Q f:=by
 obtain⟨z,o⟩:=jC (xs:=a) (i:=a.size-1) ω;have g:∀i j,a.size<=i+1->∀x∈b.toList.drop j,∀y∈a.toList.drop i,ρ x<=ρ y:=λi j hi x l y U=>by
  obtain⟨k,k1,L⟩:=sw U;rw[show i+k=a.size-1 from ω,o] at L;cases L;exact nJ<|K _ o x<|List.mem_of_mem_drop l
 rw[RF];unfold Jp;refine bK<|wc<|lv (O,?_);obtain⟨M,t⟩:=jC (xs:=b) (i:=0) nb;refine bK<|ip t ?_;have u:iE ρ a.toList b.toList (#[M]:Array av).toList (a.toList.drop 0) (b.toList.drop 1):=by
  have q:iE ρ a.toList b.toList (#[]:Array av).toList (a.toList.drop 0) (b.toList.drop 0):=(by simp,by simp,by simpa using G,by simpa using H,by simp,by simp);exact q.B t λx l=>T x (by simpa using l) M t
 by_cases m:(1==b.size)=af
 ·rw[az m]
  have v:1=b.size:=by simpa using m
  exact ce<|h _ _ (.q,u.fin (æ v))
 rw[ap m];have v:1≠b.size:=by simpa using m
 by_cases n:(0+1==a.size)=af
 ·rw[az n]
  have D:0+1=a.size:=by simpa using n
  exact ce<|h _ _ (.q,u.j<|g 0 1 (æ D))
 rw[ap n];have D:0+1≠a.size:=by simpa using n
 refine bK<|nw ?_;refine bK<|iP (kN (I:=Do ρ a b f) (Q:=Jw ρ a b f) (λx c X _ l hI=>iP (Ro C P R S G H o K g l hI) λr d h=>by cases r<;>exact h) ?fin (.q,_,0,1,_,O,(u,(þ na D),(þ nb v)),ß)) ?post
 case post=>
  rintro⟨m,n⟩ d ⟨r,e,q⟩;dsimp only at e ⊢;subst e;exact ce<|h _ _ q
 case fin=>
  rintro c d ⟨_,a0,ia,ib,mg,_,a1,l⟩;have:=a1.d;have:=a1.c;omega
end
structure qV(ρ:av->Int)(la lb ra rb o:List av):Prop where
 b:((ra++rb)++o).Perm (la++lb)
 d:dA ρ o
 f:dA ρ ra
 c:dA ρ rb
 e:∀x∈ra,∀y∈o,ρ x<=ρ y
 a:∀x∈rb,∀y∈o,ρ x<=ρ y
noncomputable def qV.B{e:av->Int}{g i j b f o:List av}(h:qV e g i (j++b) f o)(l:∀y∈f,∀x∈b,e y<=e x):qV e g i j f (b++o):=by
 obtain⟨p,m,n,q,k,r⟩:=h;have c:=kQ.mp n;refine(?_,kQ.mpr (c.2.1,m,λx d y a=>k x (gh _ d) y a),c.1,q,λx d y a=>?_,λx d y a=>?_)
 ·refine CR ?_ p
  simp only[gd];refine IN _ ?_;rw[<-gd,<-gd];exact CT _ Qy
 ·rcases cy.mp a with a|a
  ·exact c.2.2 x d y a
  ·exact k x (fR _ d) y a
 ·rcases cy.mp a with a|a
  ·exact l x d y a
  ·exact r x d y a
def qV.J{e:av->Int}{g i f b j o:List av}(h:qV e g i f (j++b) o)(l:∀y∈f,∀x∈b,e y<=e x):qV e g i f j (b++o):=by
 obtain⟨p,m,n,q,r,k⟩:=h;have c:=kQ.mp q;refine(by simpa[gd] using p,kQ.mpr (c.2.1,m,λx d y a=>k x (gh _ d) y a),n,c.1,λx d y a=>?_,λx d y a=>?_)
 ·rcases cy.mp a with a|a
  ·exact l x d y a
  ·exact r x d y a
 ·rcases cy.mp a with a|a
  ·exact c.2.2 x d y a
  ·exact k x (fR _ d) y a
def qV.S{c:av->Int}{d f a b o:List av}(h:qV c d f a b o)(e:a=[]):((a++b)++o).Perm (d++f)/\dA c ((a++b)++o):=by
 subst e;exact(h.b,kQ.mpr (h.c,h.d,h.a))
def qV.M{c:av->Int}{d e a b o:List av}(h:qV c d e a b o)(g:∀x∈b,∀y∈a,c x<=c y):((b++a)++o).Perm (d++e)/\dA c ((b++a)++o):=by
 have f:=(show qV c d e ([]++a) b o from h).B g;refine(by simpa[gd] using (CT o<|Qy (l₁:=b) (l₂:=a)).trans h.b,?_);rw[gd];exact kQ.mpr (f.c,f.d,f.a)
def Jj{a:Array av}{i:Nat}(h:a[i]?=V p):a.toList.take (i+1)=a.toList.take i++[p]:=by
 have b:a.toList[i]?=V p:=by simpa using h
 rw[yX,b]
 rfl
def Ji{a:Array av}{i k:Nat}(h:i<=k):a.toList.take k=a.toList.take i++(a.extract i k).toList:=by
 rw[IY,IG];have e:a.toList.take k=(a.toList.take k).take i++(a.toList.take k).drop i:=(pH i _).symm;rw[List.take_take,List.drop_take,Ie h] at e;exact e
def sv{a:Array av}{i:Nat}{y:av}(h:y∈a.toList.take i):∃j,j<i/\j<a.size/\a[j]?=V y:=by
 obtain⟨j,b,e⟩:=oJ.mp h;rw[dR,gR] at b;refine(j,ω,ω,?_);rw[aes] at e;rw[hY a j ω,<-e];simp
def zq{a:Array av}{i k:Nat}{y:av}(h:y∈(a.extract i k).toList):∃j,i<=j/\j<k/\j<a.size/\a[j]?=V y:=by
 obtain⟨j,b,e⟩:=oJ.mp h;rw[gR,qU] at b;refine(i+j,ü,ω,ω,?_);rw[hY a (i+j) ω,<-e];simp
def zu(a:Array av)(i:Nat):(a.extract 0 i).toList=a.toList.take i:=by
 rw[IY,IG];simp
section
variable{prog:bw}{w:aX}{A:bY}{E:Ω}{s:ak}{κ:kO}{a₀:Array av}{ρ:av->Int}
abbrev je(ρ:av->Int)(a b c:Array av)(d e:Nat):Prop:=qV ρ a.toList b.toList (a.toList.take d) (b.toList.take e) c.toList.reverse
structure wy(ρ:av->Int)(a b out:Array av)(na nb:Nat):Prop where
 f:je ρ a b out na nb
 d:1<=na
 c:2<=nb
 g:na<=a.size
 e:nb<=b.size
def qV.q{ρ:av->Int}{a b out:Array av}{c d:Nat}(h:je ρ a b out c d)(j:1<=c)(e:a[c-1]?=V x)(g:∀y∈b.toList.take d,ρ y<=ρ x):je ρ a b (out.push x) (c-1) d:=by
 obtain⟨n,rfl⟩:∃n,c=n+1:=(c-1,ω);rw[CF] at e ⊢;unfold je at *;rw[Jj e] at h;rw[zl,Iq];exact h.B λy f z i=>by rw[cJ.mp i];exact g y f
noncomputable def qV.F{ρ:av->Int}{a b d:Array av}{f c:Nat}(h:je ρ a b d f c)(k:1<=c)(e:b[c-1]?=V x)(i:∀y∈a.toList.take f,ρ y<=ρ x):je ρ a b (d.push x) f (c-1):=by
 obtain⟨n,rfl⟩:∃n,c=n+1:=(c-1,ω);rw[CF] at e ⊢;unfold je at *;rw[Jj e] at h;rw[zl,Iq];exact h.J λy g z j=>by rw[cJ.mp j];exact i y g
def qV.W{ρ:av->Int}{a b c:Array av}{d e:Nat}(k:Nat)(f:k<=d)(h:je ρ a b c d e)(g:∀y∈b.toList.take e,∀x∈(a.extract k d).toList,ρ y<=ρ x):je ρ a b (c++(a.extract k d).reverse) k e:=by
 unfold je at *;rw[Ji f] at h;rw[oK,Iq,IX,aef];exact h.B g
def qV.N{ρ:av->Int}{a b c:Array av}{e d:Nat}(k:Nat)(f:k<=d)(h:je ρ a b c e d)(g:∀y∈a.toList.take e,∀x∈(b.extract k d).toList,ρ y<=ρ x):je ρ a b (c++(b.extract k d).reverse) e k:=by
 unfold je at *;rw[Ji f] at h;rw[oK,Iq,IX,aef];exact h.J g
def qV.fin{ρ:av->Int}{a b c:Array av}{d f:Nat}(h:je ρ a b c d f)(e:d=0):(a.extract 0 d++b.extract 0 f++c.reverse).toList.Perm (a.toList++b.toList)/\dA ρ (a.extract 0 d++b.extract 0 f++c.reverse).toList:=by
 rw[oK,oK,zu,zu,IX];exact qV.S h (by rw[e];rfl)
noncomputable def qV.j{ρ:av->Int}{a b c:Array av}{d e:Nat}(h:je ρ a b c d e)(f:∀x∈b.toList.take e,∀y∈a.toList.take d,ρ x<=ρ y):(b.extract 0 e++a.extract 0 d++c.reverse).toList.Perm (a.toList++b.toList)/\dA ρ (b.extract 0 e++a.extract 0 d++c.reverse).toList:=by
 rw[oK,oK,zu,zu,IX];exact qV.M h f
abbrev pQ:=Option (Array av)×Nat×Nat×Array av×Nat×Nat×Nat
abbrev uA:=Option (Array av)×Nat×Nat×Array av×Nat×Nat
abbrev uy:=Option (Array av)×Nat×Nat×Array av×Nat
noncomputable def C'(a b o:Array av)(i j c k l:Nat):StateT aY dP (ForInStep pQ):=iQ a (i-1) >>= λz=>if(i-1==0)=af then aU (.done (abd (V<|a.extract 0 (i-1)++b.extract 0 j++(o.push z).reverse) (abd (i-1) (abd j (abd (o.push z) (abd c (abd k l))))))) else if(aC (k<7)&&aC (l<7))=af then aU (.done (abd Z (abd (i-1) (abd j (abd (o.push z) (abd c (abd k l))))))) else aU (.yield (abd Z (abd (i-1) (abd j (abd (o.push z) (abd c (abd k l)))))))
noncomputable def De(a b o:Array av)(i j c k d:Nat):StateT aY dP (ForInStep pQ):=iQ b (j-1) >>= λy=>if(j-1==1)=af then aU (.done (abd (V<|b.extract 0 (j-1)++a.extract 0 i++(o.push y).reverse) (abd i (abd (j-1) (abd (o.push y) (abd c (abd k d))))))) else iQ a (i-1) >>= λx=>wu af x b 0 (j-1) (j-1-1) >>= λg=>match g with
 |some l=>if j-1-l>0 then(if(l==1)=af then aU (.done (abd (V<|b.extract 0 l++a.extract 0 i++(o.push y++(b.extract l<|j-1).reverse).reverse) (abd i (abd l (abd (o.push y++(b.extract l<|j-1).reverse) (abd c (abd k (j-1-l)))))))) else if(l==0)=af then aU (.done (abd (V<|a.extract 0 i++b.extract 0 l++(o.push y++(b.extract l<|j-1).reverse).reverse) (abd i (abd l (abd (o.push y++(b.extract l<|j-1).reverse) (abd c (abd k (j-1-l)))))))) else C' a b (o.push y++(b.extract l<|j-1).reverse) i l c k (j-1-l)) else C' a b (o.push y) i (j-1) c k (j-1-l)
 |_=>aU (.done (abd (V<|a.extract 0 i++b.extract 0 (j-1)++(o.push y).reverse) (abd i (abd (j-1) (abd (o.push y) (abd c (abd k d)))))))
noncomputable def zt(a b o:Array av)(i j c e d:Nat):StateT aY dP (ForInStep pQ):=wq c >>= λ_=>iQ b (j-1) >>= λy=>wu aB y a 0 i (i-1) >>= λg=>match g with
 |some k=>if i-k>0 then(if(k==0)=af then aU (.done (abd (V<|a.extract 0 k++b.extract 0 j++(o++(a.extract k i).reverse).reverse) (abd k (abd j (abd (o++(a.extract k i).reverse) (abd c (abd (i-k) d))))))) else De a b (o++(a.extract k i).reverse) k j c (i-k) d) else De a b o i j c (i-k) d
 |_=>aU (.done (abd (V<|a.extract 0 i++b.extract 0 j++o.reverse) (abd i (abd j (abd o (abd c (abd e d)))))))
noncomputable def Dh(a b:Array av)(d:Nat):Nat->uA->StateT aY dP (ForInStep uA):=λ_ c=>iQ b (c.2.2.1-1) >>= λy=>iQ a (c.2.1-1) >>= λx=>lt' y x >>= λq=>match q with
 |some r=>if r=af then iQ a (c.2.1-1) >>= λz=>(if(c.2.1-1==0)=af then aU (.done (abd (V<|a.extract 0 (c.2.1-1)++b.extract 0 c.2.2.1++(c.2.2.2.1.push z).reverse) (abd (c.2.1-1) (abd c.2.2.1 (abd (c.2.2.2.1.push z) (abd (c.2.2.2.2.1+1) 0)))))) else if c.2.2.2.2.1+1 ≥ d then aU (.done (abd Z (abd (c.2.1-1) (abd c.2.2.1 (abd (c.2.2.2.1.push z) (abd (c.2.2.2.2.1+1) 0)))))) else aU (.yield (abd Z (abd (c.2.1-1) (abd c.2.2.1 (abd (c.2.2.2.1.push z) (abd (c.2.2.2.2.1+1) 0)))))))
  else iQ b (c.2.2.1-1) >>= λz=>(if(c.2.2.1-1==1)=af then aU (.done (abd (V<|b.extract 0 (c.2.2.1-1)++a.extract 0 c.2.1++(c.2.2.2.1.push z).reverse) (abd c.2.1 (abd (c.2.2.1-1) (abd (c.2.2.2.1.push z) (abd 0 (c.2.2.2.2.2+1))))))) else if c.2.2.2.2.2+1 ≥ d then aU (.done (abd Z (abd c.2.1 (abd (c.2.2.1-1) (abd (c.2.2.2.1.push z) (abd 0 (c.2.2.2.2.2+1))))))) else aU (.yield (abd Z (abd c.2.1 (abd (c.2.2.1-1) (abd (c.2.2.2.1.push z) (abd 0 (c.2.2.2.2.2+1))))))))
 |_=>aU (.done (abd (V<|a.extract 0 c.2.1++b.extract 0 c.2.2.1++c.2.2.2.1.reverse) (abd c.2.1 (abd c.2.2.1 (abd c.2.2.2.1 (abd c.2.2.2.2.1 c.2.2.2.2.2))))))
noncomputable def Dj(a b:Array av):Nat->pQ->StateT aY dP (ForInStep pQ):=λ_ c=>if c.2.2.2.2.1>1 then zt a b c.2.2.2.1 c.2.1 c.2.2.1 (c.2.2.2.2.1-1) c.2.2.2.2.2.1 c.2.2.2.2.2.2 else zt a b c.2.2.2.1 c.2.1 c.2.2.1 c.2.2.2.2.1 c.2.2.2.2.2.1 c.2.2.2.2.2.2
noncomputable def Dc(a b:Array av):Nat->uy->StateT aY dP (ForInStep uy):=λ_ c=>lO [:a.size+b.size] ((abd Z (abd c.2.1 (abd c.2.2.1 (abd c.2.2.2.1 (abd 0 0))))):uA) (Dh a b c.2.2.2.2) >>= λd=>match d.1 with
 |some r=>aU (.done (abd (V r) (abd d.2.1 (abd d.2.2.1 (abd d.2.2.2.1 c.2.2.2.2)))))
 |none=>liftM (yt "list.sort.gallop") >>= λ_=>lO [:a.size+b.size] ((abd Z (abd d.2.1 (abd d.2.2.1 (abd d.2.2.2.1 (abd (c.2.2.2.2+1) (abd d.2.2.2.2.1 d.2.2.2.2.2)))))):pQ) (Dj a b) >>= λe=>match e.1 with
  |some r=>aU (.done (abd (V r) (abd e.2.1 (abd e.2.2.1 (abd e.2.2.2.1 e.2.2.2.2.1)))))
  |none=>wq (e.2.2.2.2.1+1) >>= λ_=>aU<|.yield (abd Z (abd e.2.1 (abd e.2.2.1 (abd e.2.2.2.1 (e.2.2.2.2.1+1)))))
noncomputable def Jq(a b:Array av):StateT aY dP (Array av):=liftM (yt "list.sort.merge-hi") >>= λ_=>iQ a (a.size-1) >>= λy=>if(a.size-1==0)=af then aU (a.extract 0 (a.size-1)++b.extract 0 b.size++#[y].reverse) else if(b.size==1)=af then aU (b.extract 0 b.size++a.extract 0 (a.size-1)++#[y].reverse) else get >>= λg=>lO [:a.size+b.size] ((abd Z (abd (a.size-1) (abd b.size (abd (#[y]) (Jr g))))):uy) (Dc a b) >>= λd=>match d.1 with
 |some r=>aU r
 |none=>liftM (unsupported "internal:list.sort.merge-bound":dP (Array av))
def RG(a b:Array av):Jn a b=Jq a b:=by kernel_rfl
def Dp(ρ:av->Int)(a b:Array av)(g:aY)(k:Nat):Nat->uA->aY->Prop:=λt c h=>h=g/\∃d e f i j,c=(abd Z (abd d (abd e (abd f (abd i j)))))/\wy ρ a b f d e/\t+(d+e)<=k
def Jx(ρ:av->Int)(a b:Array av)(i h:aY)(l:Nat):uA->aY->Prop:=λc f=>f=h/\((∃r,c.1=V r/\oQ ρ a b i r f)\/∃d e g j k,c=(abd Z (abd d (abd e (abd g (abd j k)))))/\wy ρ a b g d e/\1+(d+e)<=l)
def Dn(ρ:av->Int)(a b:Array av)(h:aY):Nat->uy->aY->Prop:=λx c e=>iU h e/\∃f g d i,c=(abd Z (abd f (abd g (abd d i))))/\wy ρ a b d f g/\x+1+(f+g)<=a.size+b.size
def Jv(ρ:av->Int)(a b:Array av)(e:aY):uy->aY->Prop:=λc d=>∃r,c.1=V r/\oQ ρ a b e r d
def qW(ρ:av->Int)(a b:Array av)(h:aY)(l:Nat):pQ->aY->Prop:=λc e=>iU h e/\∃f g d i j k,c=(abd Z (abd f (abd g (abd d (abd i (abd j k))))))/\wy ρ a b d f g/\f+g<=l
def uC(ρ:av->Int)(a b:Array av)(e:aY)(f:Nat):pQ->aY->Prop:=λc d=>(∃r,c.1=V r/\oQ ρ a b e r d)\/qW ρ a b e f c d
def Jd{a b o:Array av}{i j p k l z:Nat}(S:iU e c)(M:je ρ a b o i j)(m:a[i-1]?=V x)(f:∀y∈b.toList.take j,ρ y<=ρ x)(q:1<=i)(r:2<=j)(t:i<=a.size)(u:j<=b.size)(v:i+j<=z):dN (aH prog w) A E s (C' a b o i j p k l) (nN (qW ρ a b e z)<|uC ρ a b e z) c:=by
 refine bK<|ip m ?_;have g:=qV.q M q m f
 by_cases d:(i-1==0)=af
 ·rw[az d]
  have h:i-1=0:=by simpa using d
  exact ce<|.inl (_,O,S,qV.fin g (û (å h) ú))
 rw[ap d];have h:i-1≠0:=by simpa using d
 by_cases n:(aC (k<7)&&aC (l<7))=af
 ·rw[az n]
  exact ce<|.inr (S,_,_,_,_,_,_,O,(g,ω,r,ω,u),ω)
 ·rw[ap n]
  exact ce (S,_,_,_,_,_,_,O,(g,ω,r,ω,u),ω)
def Jf(C:h_ prog w A s κ a₀ ρ)(hB:cW κ a₀ D){a b o:Array av}{i j mg k bc a0:Nat}(ha:∀p∈a.toList,p∈a₀.toList)(hb:∀p∈b.toList,p∈a₀.toList)(sa:dA ρ a.toList)(sb:dA ρ b.toList)(S:iU D r)(M:je ρ a b o i j)(U:b[j-1]?=V y)(g:∀x∈a.toList.take i,ρ x<=ρ y)(X:b[0]?=V T)(h0:∀x∈a.toList,∀y,b[0]?=V y->ρ y<ρ x)(t:∀i j,j<=1->∀x∈b.toList.take j,∀y∈a.toList.take i,ρ x<=ρ y)(I:1<=i)(h2:2<=j)(h3:i<=a.size)(h4:j<=b.size)(hN:i+j<=a0):dN (aH prog w) A E s (De a b o i j mg k bc) (nN (qW ρ a b D a0)<|uC ρ a b D a0) r:=by
 refine bK<|ip U ?_;have K:=qV.F M (ã h2) U g
 by_cases G:(j-1==1)=af
 ·rw[az G]
  have L:j-1=1:=by simpa using G
  exact ce<|.inl (_,O,S,qV.j K<|t _ _ (å L))
 rw[ap G];have L:j-1≠1:=by simpa using G
 obtain⟨x,n⟩:=jC (xs:=a) (i:=i-1) ω;refine bK<|ip n ?_;refine bK<|ux C (S.b hB) (ha _<|jY n) (λl hl=>?_) (λl m I h2=>zy sb ω ω) ω λl l1 l2 l3=>?_
 ·obtain⟨p,e⟩:=jC (xs:=b) (i:=0+l) ω
  exact(p,e,hb _<|jY e)
 dsimp only;have lz:1<=l:=by
  rcases nC 0 l with q|q
  ·exact q
  ·have c:=l3 0 q ω
   rw[fU X] at c;have q2:=h0 x (jY n) T X;simp[dH] at c;omega
 have h:∀y∈b.toList.take l,ρ y<=ρ x:=λu P=>by
  obtain⟨d,Q,d2,d3⟩:=sv P;have c:=l2 d Q;rw[ui,fU d3] at c;simp[dH] at c;omega
 by_cases z:j-1-l>0
 ·rw[az z]
  have M3:=qV.N l l1 K λv hv u P=>by
   obtain⟨d,Q,d2,d3,d4⟩:=zq P;obtain⟨f,f1,f2,f3⟩:=sv hv;have c:=l3 d Q d2;rw[ui,fU d4] at c;simp[dH] at c;exact nH (oN sa f3 n ω) ω
  by_cases H:(l==1)=af
  ·rw[az H]
   have R:l=1:=by simpa using H
   exact ce<|.inl (_,O,S,qV.j M3<|t _ _ (å R))
  rw[ap H];have R:l≠1:=by simpa using H
  rw[ap (show ¬(l==0)=af by simp;exact ö lz)];exact Jd S M3 n h I (ÿ lz R) h3 ω ω
 ·rw[ap z]
  have l0:l=j-1:=ω
  rw[l0] at h;exact Jd S K n h I ω h3 ω ω
def Rv(C:h_ prog w A s κ a₀ ρ)(L:cW κ a₀ G){a b m:Array av}{i j mg ac bc N:Nat}(M:∀p∈a.toList,p∈a₀.toList)(P:∀p∈b.toList,p∈a₀.toList)(Q:dA ρ a.toList)(R:dA ρ b.toList)(H:iU G h)(g:wy ρ a b m i j)(n:b[j-1]?=V y)(e0:b[0]?=V y0)(h0:∀x∈a.toList,∀y,b[0]?=V y->ρ y<ρ x)(o:∀i j,j<=1->∀x∈b.toList.take j,∀y∈a.toList.take i,ρ x<=ρ y)(S:i+j<=N):dN (aH prog w) A E s (zt a b m i j mg ac bc) (nN (qW ρ a b G N)<|uC ρ a b G N) h:=by
 have T:=g.d;have q:=g.c;have U:=g.g;have r:=g.e;refine bK<|zn λa0 I=>?_;refine bK<|ip n ?_;refine bK<|ux C ((H.j I).b L) (P _<|jY n) (λk hk=>?_) (λk l h1 h2=>zy Q ω ω) ω λk k1 k2 k3=>?_
 ·obtain⟨p,e⟩:=jC (xs:=a) (i:=0+k) ω
  exact(p,e,M _<|jY e)
 dsimp only;have c:∀x∈a.toList.take k,ρ x<=ρ y:=λu X=>by
  obtain⟨d,d1,d2,d3⟩:=sv X;have t:=k2 d d1;rw[ui,fU d3] at t;simp[dH] at t;omega
 by_cases z:i-k>0
 ·rw[az z]
  have MB:=qV.W k k1 g.f λv hv u X=>by
   obtain⟨d,d1,d2,d3,d4⟩:=zq X;obtain⟨f,f1,f2,f3⟩:=sv hv;have t:=k3 d d1 d2;rw[ui,fU d4] at t;simp[dH] at t;exact nH (oN R f3 n ω) ω
  by_cases K:(k==0)=af
  ·rw[az K]
   have D:k=0:=by simpa using K
   exact ce<|.inl (_,O,H.j I,qV.fin MB D)
  rw[ap K];have D:k≠0:=by simpa using K
  exact Jf C L M P Q R (H.j I) MB n c e0 h0 o ω q (à k1 U) r (à (ð k1) S)
 ·rw[ap z]
  have k0:k=i:=ω
  rw[k0] at c;exact Jf C L M P Q R (H.j I) g.f n c e0 h0 o T q U r S
def Rt(C:h_ prog w A s κ a₀ ρ)(M:cW κ a₀ G){a b:Array av}{P a1 t:Nat}(Q:∀p∈a.toList,p∈a₀.toList)(R:∀p∈b.toList,p∈a₀.toList)(S:dA ρ a.toList)(T:dA ρ b.toList)(H:iU G e)(I:∀i j,j<=1->∀x∈b.toList.take j,∀y∈a.toList.take i,ρ x<=ρ y)(U:Dp ρ a b e a1 t c o):dN (aH prog w) A E s (Dh a b P t c) (nN (Dp ρ a b e a1<|t+1)<|Jx ρ a b G e a1) o:=by
 obtain⟨rfl,f,g,X,ac,bc,rfl,n,a0⟩:=U;unfold Dh;dsimp only;have k:=n.d;have q:=n.c;have r:=n.g;have v:=n.e;obtain⟨y,z⟩:=jC (xs:=b) (i:=g-1) ω;obtain⟨x,D⟩:=jC (xs:=a) (i:=f-1) ω;refine bK<|ip z<|bK<|ip D<|bK<|wo C (H.b M) (R _<|jY z) (Q _<|jY D) ?_
 by_cases d:ρ y<ρ x
 ·simp only[d,decide_true,dU]
  refine bK<|ip D ?_;have l:=qV.q n.f k D λu K=>by
   obtain⟨j,j1,j2,L⟩:=sv K;exact nH (oN T L z ω)<|nJ d
  by_cases h:(f-1==0)=af
  ·rw[az h]
   have m:f-1=0:=by simpa using h
   exact ce (O,.inl (_,O,H,qV.fin l (û (å m) ú)))
  ·rw[ap h]
   have m:f-1≠0:=by simpa using h
   split
   ·exact ce (O,.inr (_,_,_,_,_,O,(l,ω,q,ω,v),ω))
   ·exact ce (O,_,_,_,_,_,O,(l,ω,q,ω,v),ω)
 ·simp only[d,decide_false,dD,dc]
  refine bK<|ip z ?_;have l:=qV.F n.f (ã q) z λu K=>by
   obtain⟨j,j1,j2,L⟩:=sv K;exact nH (oN S L D ω)<|IR.mp d
  by_cases h:(g-1==1)=af
  ·rw[az h]
   have m:g-1=1:=by simpa using h
   exact ce (O,.inl (_,O,H,qV.j l<|I _ _ (å m)))
  ·rw[ap h]
   have m:g-1≠1:=by simpa using h
   split
   ·exact ce (O,.inr (_,_,_,_,_,O,(l,k,ω,r,ω),ω))
   ·exact ce (O,_,_,_,_,_,O,(l,k,ω,r,ω),ω)
def Rx(C:h_ prog w A s κ a₀ ρ)(n:cW κ a₀ e){a b:Array av}{R t:Nat}(q:∀p∈a.toList,p∈a₀.toList)(r:∀p∈b.toList,p∈a₀.toList)(u:dA ρ a.toList)(v:dA ρ b.toList)(z:b[0]?=V o)(D:∀x∈a.toList,∀y,b[0]?=V y->ρ y<ρ x)(f:∀S j,j<=1->∀x∈b.toList.take j,∀y∈a.toList.take S,ρ x<=ρ y)(G:qW ρ a b e R c d):dN (aH prog w) A E s (Dj a b t c) (nN (qW ρ a b e R)<|uC ρ a b e R) d:=by
 obtain⟨H,S,j,h,Q,I,K,rfl,l,m⟩:=G;have L:=l.c;have M:=l.e;obtain⟨y,P⟩:=jC (xs:=b) (i:=j-1) ω;have k:∀g,dN (aH prog w) A E s (zt a b h S j g I K) (nN (qW ρ a b e R)<|uC ρ a b e R) d:=λg=>Rv (N:=R) C n q r u v H l P z D f m;unfold Dj;dsimp only;split
 ·exact k _
 ·exact k _
def Rp(C:h_ prog w A s κ a₀ ρ)(z:cW κ a₀ g){a b:Array av}{x:Nat}(D:∀p∈a.toList,p∈a₀.toList)(G:∀p∈b.toList,p∈a₀.toList)(H:dA ρ a.toList)(K:dA ρ b.toList)(e0:b[0]?=V X)(h0:∀x∈a.toList,∀y,b[0]?=V y->ρ y<ρ x)(n:∀i j,j<=1->∀x∈b.toList.take j,∀y∈a.toList.take i,ρ x<=ρ y)(o:Dn ρ a b g x c f):dN (aH prog w) A E s (Dc a b x c) (nN (Dn ρ a b g<|x+1)<|Jv ρ a b g) f:=by
 obtain⟨L,M,P,k,mg,rfl,a6,hp⟩:=o;have a0:=a6.d;have a1:=a6.c;have a2:=a6.g;have a3:=a6.e;unfold Dc;dsimp only;refine bK<|iP (kN (I:=Dp ρ a b f<|M+P) (Q:=Jx ρ a b g f<|M+P) (λt c d _ ht o=>iP (Rt C z D G H K L n o) λr d h=>by cases r<;>exact h) ?ifin (O,_,_,_,_,_,O,a6,ω)) ?ipost
 case ifin=>
  rintro c d ⟨rfl,l,m,k,R,S,rfl,u,v⟩;exact(O,.inr (_,_,_,_,_,O,u,ω))
 case ipost=>
  rintro⟨c1,c2⟩ d ⟨rfl,⟨r,e,q⟩|⟨l,m,k,R,S,e,u,v⟩⟩
  ·dsimp only at e ⊢
   subst e;exact ce (r,O,q)
  ·cases e
   dsimp only;refine bK<|wc<|lv (O,?_);refine bK<|iP (kN (I:=λ_=>qW ρ a b g<|l+m) (Q:=uC ρ a b g<|l+m) (λt c d _ ht o=>iP (Rx C z D G H K e0 h0 n o) λr d h=>by cases r<;>exact h) ?gfin (L,_,_,_,_,_,_,O,u,aW _)) ?gpost
   case gfin=>
    rintro c d q;exact .inr q
   case gpost=>
    rintro⟨c1,c2⟩ d (⟨r,e,q⟩|⟨S2,T,U,k,mg,R,S,e,J2,a4⟩)
    ·dsimp only at e ⊢
     subst e;exact ce (r,O,q)
    ·cases e
     dsimp only;exact bK<|zn λa5 S3=>ce (S2.j S3,_,_,_,_,O,J2,ω)
def Rr(C:h_ prog w A s κ a₀ ρ)(S:cW κ a₀ f){a b:Array av}{Q:Array av->aY->Prop}(T:∀p∈a.toList,p∈a₀.toList)(U:∀p∈b.toList,p∈a₀.toList)(K:dA ρ a.toList)(L:dA ρ b.toList)(M:1<=a.size)(X:1<=b.size)(P:∀x∈a.toList,∀y,b[0]?=V y->ρ y<ρ x)(hz:∀z,a[a.size-1]?=V z->∀y∈b.toList,ρ y<ρ z)(h:∀r d,oQ ρ a b f r d->Q r d):dN (aH prog w) A E s (Jn a b) Q f:=by
 obtain⟨y0,n⟩:=jC (xs:=b) (i:=0) X;have g:∀i j,j<=1->∀x∈b.toList.take j,∀y∈a.toList.take i,ρ x<=ρ y:=λi j hj x o y t=>by
  obtain⟨k,k1,k2,R⟩:=sv o;rw[show k=0 from ω,n] at R;cases R;exact nJ<|P y (uk t) _ n
 rw[RG];unfold Jq;refine bK<|wc<|lv (O,?_);obtain⟨z,u⟩:=jC (xs:=a) (i:=a.size-1) ω;refine bK<|ip u ?_;have v:je ρ a b #[z] (a.size-1) b.size:=by
  have q:je ρ a b #[] a.size b.size:=by
   have e1:a.toList.take a.size=a.toList:=e_ (by simp);have e2:b.toList.take b.size=b.toList:=e_ (by simp);unfold je;rw[e1,e2];exact(by simp,by simp,K,L,by simp,by simp)
  exact qV.q (out:=#[]) q M u λy t=>nJ<|hz z u y<|uk t
 by_cases l:(a.size-1==0)=af
 ·rw[az l]
  have D:a.size-1=0:=by simpa using l
  exact ce<|h _ _ (.q,qV.fin v (û (å D) ú))
 rw[ap l];have D:a.size-1≠0:=by simpa using l
 by_cases m:(b.size==1)=af
 ·rw[az m]
  have G:b.size=1:=by simpa using m
  exact ce<|h _ _ (.q,qV.j v<|g _ _ (å G))
 rw[ap m];have G:b.size≠1:=by simpa using m
 refine bK<|nw ?_;refine bK<|iP (kN (I:=Dn ρ a b f) (Q:=Jv ρ a b f) (λx c a0 _ o hI=>iP (Rp C S T U K L n P g hI) λr d h=>by cases r<;>exact h) ?fin (.q,_,_,_,_,O,(v,ω,(ÿ X G),ω,ß),ω)) ?post
 case post=>
  rintro⟨l,m⟩ d ⟨r,e,q⟩;dsimp only at e ⊢;subst e;exact ce<|h _ _ q
 case fin=>
  rintro c d ⟨_,M,X,H,mg,_,a1,o⟩;have:=a1.d;have:=a1.c;omega
end
noncomputable def pP(b:Array av)(c:Nat)(m:List av)(d:Nat):Array av:=sn (λa x=>a.setIfInBounds (c+x.snd) x.fst) b<|m.zipIdx d
def Da:∀(m:List av)(c:Array av)(a b:Nat),a+b+m.length<=c.size->∀k,(pP c a m b)[k]?=if a+b<=k/\k<a+b+m.length then m[k-(a+b)]? else c[k]?
 |[],c,a,b,_,k=>by
  show c[k]?=_;rw[ap (by rw[mF];omega)]
 |p::m,c,a,b,h,k=>by
  rw[cO] at h;have f:=Da m (c.setIfInBounds (a+b) p) a (b+1) (by rw[afh];omega) k;show(pP (c.setIfInBounds (a+b) p) a m<|b+1)[k]?=_;rw[f,cO]
  by_cases g:k=a+b
  ·subst g
   rw[ap ω,az ω,afj (ê h)];simp
  ·by_cases e:a+(b+1)<=k/\k<a+(b+1)+m.length
   ·rw[az e,az ω]
    obtain⟨d,i⟩:∃d,k-(a+b)=d+1:=(k-(a+b)-1,ω);rw[i,IC]
    congr 1
    omega
   ·rw[ap e,ap ω,afk ω]
def RD{m:List av}{b:Array av}{a:Nat}(h:a+m.length<=b.size):(pP b a m 0).toList=b.toList.take a++(m++b.toList.drop (a+m.length)):=by
 apply CO;intro k;have e:=Da m b a 0 h k;rw[jB,e]
 by_cases c:k<a
 ·rw[ap ω,sj (by rw[dR,gR];omega),IA c]
  simp
 ·rw[qN (by rw[dR,gR];omega)]
  rw[show(b.toList.take a).length=a by rw[dR,gR];omega]
  by_cases d:k<a+m.length
  ·rw[az (ô c,d),sj ω,yW]
  ·rw[ap ω,qN ω,aex]
   rw[show a+m.length+(k-a-m.length)=k from ω];simp
def fT(c:av->Int)(d:Array av):Nat->List (Nat×Nat×Nat)->Nat->Prop
 |a,[],b=>a=b
 |a,(abd s (abd n _))::r,b=>s=a/\1<=n/\Srt c d a (a+n)/\fT c d (a+n) r b
def fT.q:∀{l:List (Nat×Nat×Nat)}{a b:Nat},fT c d a l b->a+l.length<=b
 |[],_,_,h=>by have:_=_:=h;simp;exact å this
 |(abd s (abd n p))::r,a,b,h=>by
  obtain⟨_,f,_,e⟩:=h;have:=fT.q e;rw[cO];omega
def fT.congr{m o:Array av}:∀{l:List (Nat×Nat×Nat)}{d e:Nat},fT g m d l e->(∀k,d<=k->k<e->o[k]?=m[k]?)->fT g o d l e
 |[],_,_,h,_=>h
 |(abd s (abd n p))::r,d,e,h,f=>by
  obtain⟨t,u,v,q⟩:=h;have:=fT.q q;refine(t,u,λi j a b c=>?_,q.congr λk a b=>f k (è a) b);rw[oP<|f i a (à (à (ï b) c) (è this)),oP<|f j (à a b) (à c (è this))];exact v i j a b c
noncomputable def fT.j:∀{l r:List (Nat×Nat×Nat)}{a d:Nat},fT f g a (l++r) d↔∃m,fT f g a l m/\fT f g m r d
 |[],r,a,d=>(λh=>(a,O,h),λ(m,b,c)=>by have e:a=m:=b;subst e;exact c)
 |(abd s (abd n p))::l,r,a,d=>by
  constructor
  ·rintro⟨i,b,c,o⟩
   obtain⟨m,j,k⟩:=fT.j.mp o;exact(m,(i,b,c,j),k)
  ·rintro⟨m,⟨i,b,c,j⟩,k⟩
   exact(i,b,c,fT.j.mpr (m,j,k))
def RC{b:Type}{l:List b}{i:Nat}{x y:b}(c:l[i]?=V x)(d:l[i+1]?=V y):∃a post,l=a++x::y::post/\a.length=i:=by
 obtain⟨e,f⟩:=cr.mp c;obtain⟨g,h⟩:=cr.mp d;refine(l.take i,l.drop<|i+2,?_,by rw[dR];omega)
 conv=>lhs;rw[<-pH i l]
 rw[mH e,mH g,f,h]
def RE{b:Type}{c:Array b}{i:Nat}{x y z:b}{a post:List b}(h:c.toList=a++x::y::post)(d:a.length=i):((c.setIfInBounds i z).eraseIdxIfInBounds<|i+1).toList=a++z::post:=by
 subst d;rw[Array.toList_eraseIdxIfInBounds,Array.toList_setIfInBounds,h,List.set_append_right _ _<|aW _,yT,List.set_cons_zero,List.eraseIdx_append_of_length_le ü];rw[show a.length+1-a.length=1 from ω]
 rfl
section
variable{prog:bw}{w:aX}{A:bY}{E:Ω}{s:ak}{κ:kO}{a₀:Array av}{ρ:av->Int}
def RB{M:yH}{b:Type}{c a:b}{Q:PUnit->b->Prop}(h:Q ⟨⟩ a):dN M A E s (set a:StateT b dP PUnit) Q c:=by
 unfold dN;rw[StateT.run_set];exact aI (O,h)
def Jk{b:Array av}(h:Srt ρ b a c)(g:c<=b.size):dA ρ (b.extract a c).toList:=by
 rw[dA,uj];intro i j d e f;rw[gR,qU] at d e;have q:=h (a+i) (a+j) ü ω ω;rw[fU<|hY b (a+i) ω,fU<|hY b (a+j) ω] at q
 simpa using q
def Js{a:Array av}{b c i:Nat}(h:b+i<c)(d:c<=a.size):(a.extract b c)[i]?=a[b+i]?:=by
 rw[afl,az ω]
def CZ(C:h_ prog w A s κ a₀ ρ)(hB:cW κ a₀ g){i hi:Nat}{Q:Bool->aY->Prop}(hS:fT ρ (aL g) 0 (dw g).toList hi)(hz:hi<=a₀.size)(b6:i+1<(dw g).size)(h:∀o,cW κ a₀ o->fT ρ (aL o) 0 (dw o).toList hi->(dw o).size+1=(dw g).size->(∀k,hi<=k->(aL o)[k]?=(aL g)[k]?)->Q af o):dN (aH prog w) A E s (mergeAt' i) Q g:=by
 obtain⟨⟨c,f,p⟩,g1⟩:∃x,(dw g)[i]?=V x:=(_,hY _ i ω);obtain⟨⟨sb,M,q⟩,g2⟩:∃x,(dw g)[i+1]?=V x:=(_,hY _ (i+1) b6);obtain⟨c5,c4,el,a7⟩:=RC (l:=(dw g).toList) (by rw[jB];exact g1) (by rw[jB];exact g2);have a8:=hS;rw[el] at a8;obtain⟨m,S1,e1,n1,r1,e2,n2,r2,S2⟩:=fT.j.mp a8;subst e1 e2;have c6:=S2.q;have c7:=hB.j;have a9:∀o,cW κ a₀ o->dw o=((dw g).setIfInBounds i (abd c (abd (f+M) p))).eraseIdxIfInBounds (i+1)->(∀k,(k<c\/c+f+M<=k)->(aL o)[k]?=(aL g)[k]?)->
   Srt ρ (aL o) c (c+f+M)->Q af o:=λo b7 hP hk hs=>by
  have hl:=RE (z:=(abd c (abd (f+M) p))) el a7;refine h o b7 ?_ ?_ λk c8=>hk k<|.inr (à (è c6) c8)
  ·rw[hP,hl]
   refine fT.j.mpr (c,S1.congr λk _ b=>hk k<|.inl b,O,(í n1),by rw[<-Qw];exact hs,?_);rw[<-Qw];exact S2.congr λk a _=>hk k<|.inr a
  ·rw[hP,<-gR,hl,<-gR,el]
   simp;exact û ß ß
 refine bK<|nw ?_;rw[g1,g2];dsimp only;refine bK<|RB ?_;show dN _ _ _ _ _ _ (yS (Cz g) (aL g) (((dw g).setIfInBounds i (abd c (abd (f+M) p))).eraseIdxIfInBounds<|i+1) (gallopOf g)<|ny g);generalize e2:((yS (Cz g) (aL g) (((dw g).setIfInBounds i (abd c (abd (f+M) p))).eraseIdxIfInBounds<|i+1) (gallopOf g)<|ny g):aY)=P;have a2:aL P=aL g:=by rw[<-e2]
 have p2:dw P=((dw g).setIfInBounds i (abd c (abd (f+M) p))).eraseIdxIfInBounds (i+1):=by rw[<-e2]
 have H:cW κ a₀ P:=(by rw[a2];exact hB.b,by rw[<-e2];exact hB.c,by rw[<-e2];exact hB.a);have pt:∀k,k<(aL g).size->∃x,(aL g)[k]?=V x/\x∈a₀.toList:=λk hk=>by
  obtain⟨x,e,m⟩:=Df hk;exact(x,e,hB.F m)
 obtain⟨y0,ey,my⟩:=pt (c+f) ω;refine bK<|ip ey ?_;refine bK<|ux (base:=c) (n:=f) (hint:=0) (arr:=aL g) C H my (λk hk=>pt _ ω) (λk l I G=>r1 _ _ ü (ñ I) (ñ G)) n1 λk k1 k2 k3=>?_;dsimp only;have b0:∀d,d<k->bE ρ (aL g) (c+d)<=ρ y0:=λd hd=>by
  have j:=k2 d hd;simp[dH] at j;exact j
 have b1:∀d,k<=d->d<f->ρ y0<bE ρ (aL g) (c+d):=λd I G=>by
  have j:=k3 d I G;simp[dH] at j;exact j
 by_cases c1:(f-k==0)=af
 ·rw[az c1]
  have b8:f-k=0:=by simpa using c1
  refine ce<|a9 P H p2 (λk _=>by rw[a2]) ?_;rw[a2];intro x y I G S
  by_cases U:y<c+f
  ·exact r1 x y I G U
  ·by_cases D:c+f<=x
   ·exact r2 x y D G S
   ·have j:=b0 (x-c) ω
    rw[show c+(x-c)=x from ω] at j;have T:=r2 (c+f) y ß (ô U) S;rw[fU ey] at T;omega
 rw[ap c1];have b8:f-k≠0:=by simpa using c1
 obtain⟨z,ez,mz⟩:=pt (c+k+(f-k)-1) ω;refine bK<|ip ez ?_;refine bK<|ux (base:=c+f) (n:=M) (hint:=M-1) (arr:=aL g) C H mz (λl hl=>pt _ ω) (λl l' I G=>r2 _ _ ü (ñ I) (ñ G)) ω λl l1 l2 l3=>?_;dsimp only;have a1:(aL g)[c+f-1]?=V z:=by rw[show c+f-1=c+k+(f-k)-1 from ω];exact ez
 have b9:∀d,d<l->bE ρ (aL g) (c+f+d)<ρ z:=λd hd=>by
  have j:=l2 d hd;simp[dH] at j;exact j
 have b2:∀d,l<=d->d<M->ρ z<=bE ρ (aL g) (c+f+d):=λd I G=>by
  have j:=l3 d I G;simp[dH] at j;exact j
 have yz:ρ y0<ρ z:=by
  have j:=b1 (f-1) ω ω;rw[show c+(f-1)=c+f-1 from ω,fU a1] at j;exact j
 have lz:1<=l:=by
  rcases nC 0 l with j|j
  ·exact j
  ·have T:=b2 0 j n2
   rw[yW,fU ey] at T;omega
 rw[ap (show ¬(l==0)=af by simp;exact ö lz)];have sA:(( aL g).extract (c+k)<|c+f).size=f-k:=by rw[qU];omega
 have a4:(( aL g).extract (c+f)<|c+f+l).size=l:=by rw[qU];omega
 have K:∀x∈((aL g).extract (c+k)<|c+f).toList,x∈a₀.toList/\ρ y0<ρ x/\ρ x<=ρ z:=λx D=>by
  obtain⟨d,d1,d2,d3,d4⟩:=zq D;have j:=b1 (d-c) ω ω;rw[show c+(d-c)=d from ω,fU d4] at j;have T:=r1 d (c+f-1) (è d1) ω ω;rw[fU d4,fU a1] at T;exact(hB.F<|jY d4,j,T)
 have L:∀x∈((aL g).extract (c+f)<|c+f+l).toList,x∈a₀.toList/\ρ y0<=ρ x/\ρ x<ρ z:=λx D=>by
  obtain⟨d,d1,d2,d3,d4⟩:=zq D;have j:=b9 (d-(c+f)) ω;rw[show c+f+(d-(c+f))=d from ω,fU d4] at j;have T:=r2 (c+f) d ß d1 (à d2 (ñ l1));rw[fU d4,fU ey] at T;exact(hB.F<|jY d4,T,j)
 have lA:dA ρ ((aL g).extract (c+k)<|c+f).toList:=Jk (λx y I G S=>r1 x y (è I) G S) (à (à (è (è c6)) hz) (æ c7));have lB:dA ρ ((aL g).extract (c+f)<|c+f+l).toList:=Jk (λx y I G S=>r2 x y I G (à S (ñ l1))) ω;have b3:∀x∈((aL g).extract (c+k)<|c+f).toList,∀y,((aL g).extract (c+f)<|c+f+l)[0]?=V y->ρ y<ρ x:=λx D y U=>by
  rw[Js ω ω,yW,ey] at U;cases U;exact(K x D).2.1
 have b4:∀z',((aL g).extract (c+k)<|c+f)[((aL g).extract (c+k)<|c+f).size-1]?=V z'->∀y∈((aL g).extract (c+f)<|c+f+l).toList,ρ y<ρ z':=λz' b5 y U=>by
  rw[sA,Js ω (à (à (è (è c6)) hz) (æ c7)),show c+k+(f-k-1)=c+f-1 from ω,a1] at b5;cases b5;exact(L y U).2.2
 have X:∀(r:Array av)(t:aY),oQ ρ ((aL g).extract (c+k)<|c+f) ((aL g).extract (c+f)<|c+f+l) P r t->
   Q af (yP t<|pP (aL t) (c+k) r.toList 0):=λr t (S3,pm,ls)=>by
  have a3:aL t=aL g:=S3.arr.trans a2;have rl:r.toList.length=f-k+l:=by
   have:=pm.length_eq;rw[ck] at this;simp only[gR] at this ⊢;rw[sA,a4] at this;exact this
  have a5:∀x,(pP (aL g) (c+k) r.toList 0)[x]?=if c+k<=x/\x<c+f+l then r.toList[x-(c+k)]? else(aL g)[x]?:=λx=>by
   have:=Da r.toList (aL g) (c+k) 0 ω x;rw[this,yW,rl,show c+k+(f-k+l)=c+f+l from ω]
  have rm:∀x∈r.toList,ρ y0<=ρ x/\ρ x<=ρ z:=λx D=>by
   rcases cy.mp (pm.mem_iff.mp D) with j|j
   ·exact(nJ (K x j).2.1,(K x j).2.2)
   ·exact((L x j).2.1,nJ (L x j).2.2)
  rw[a3];refine a9 _ ?_ (S3.d.trans p2) (λx D=>?_) ?_
  ·have c0:=S3.b H
   refine c0.q ?_;rw[Rf,RD ω,a3];have e4:(aL g).toList=(aL g).toList.take (c+k)++((((aL g).extract (c+k)<|c+f).toList++((aL g).extract (c+f)<|c+f+l).toList)++(aL g).toList.drop (c+k+r.toList.length)):=by
    conv=>lhs;rw[<-pH (c+k) (aL g).toList]
    rw[zx (c+k)<|f-k,zx (c+k+(f-k)) l,show c+k+(f-k)=c+f from ω,show c+k+r.toList.length=c+f+l from ω,gd]
   conv=>rhs;rw[e4]
   exact IN _<|CT _ pm
  ·show(pP (aL g) (c+k) r.toList 0)[x]?=_
   rw[a5,ap ω]
  ·show Srt ρ (pP (aL g) (c+k) r.toList 0) c (c+f+M)
   have RO:∀x,¬(c+k<=x/\x<c+f+l)->bE ρ (pP (aL g) (c+k) r.toList 0) x=bE ρ (aL g) x:=λx D=>oP (by rw[a5,ap D]);have RI:∀x,c+k<=x->x<c+f+l->∃u,r.toList[x-(c+k)]?=V u/\u∈r.toList/\bE ρ (pP (aL g) (c+k) r.toList 0) x=ρ u:=λx I G=>by
    have a6:x-(c+k)<r.toList.length:=ω
    exact(r.toList[x-(c+k)],hY r.toList _ a6,pL a6,fU (by rw[a5,az (I,G)];exact hY r.toList _ a6))
   have c2:∀x,c<=x->x<c+k->bE ρ (aL g) x<=ρ y0:=λx I G=>by
    have j:=b0 (x-c) ω;rw[show c+(x-c)=x from ω] at j;exact j
   have a0:∀x,c+f+l<=x->x<c+f+M->ρ z<=bE ρ (aL g) x:=λx I G=>by
    have j:=b2 (x-(c+f)) ω ω;rw[show c+f+(x-(c+f))=x from ω] at j;exact j
   intro x y I G S
   by_cases x1:x<c+k
   ·rw[RO x ω]
    have j:=c2 x I x1
    by_cases y1:y<c+k
    ·rw[RO y ω]
     exact r1 x y I G (à y1 (ñ k1))
    ·by_cases y2:y<c+f+l
     ·obtain⟨u,_,mu,eu⟩:=RI y (ô y1) y2
      rw[eu];exact nH j (rm u mu).1
     ·rw[RO y ω]
      have:=a0 y (ô y2) S;omega
   ·by_cases x2:x<c+f+l
    ·obtain⟨u,gu,mu,eu⟩:=RI x (ô x1) x2
     rw[eu]
     by_cases y2:y<c+f+l
     ·obtain⟨v,gv,mv,ev⟩:=RI y (à (ô x1) G) y2
      rw[ev];exact oN ls (by rw[<-jB];exact gu) (by rw[<-jB];exact gv) ω
     ·rw[RO y ω]
      exact nH (rm u mu).2<|a0 y (ô y2) S
    ·rw[RO x ω,RO y ω]
     exact r2 x y (è (ô x2)) G S
 by_cases c3:f-k<=l
 ·rw[az c3]
  refine bK<|Rq C H (λx D=>(K x D).1) (λx D=>(L x D).1) lA lB (show 1<=((aL g).extract (c+k)<|c+f).size by rw[sA];omega) (show 1<=((aL g).extract (c+f)<|c+f+l).size by rw[a4];exact lz) (λx D y U=>nJ<|b3 x D y U) b4 λr t hr=>?_;refine bK<|ug<|bK<|nw<|ce ?_;have hf:ny t=Z:=(hr.1.b H).a;show Q (ny t).isNone _;rw[hf];exact X r t hr
 ·rw[ap c3]
  refine bK<|Rr C H (λx D=>(K x D).1) (λx D=>(L x D).1) lA lB (show 1<=((aL g).extract (c+k)<|c+f).size by rw[sA];exact à lz (ì (ó c3))) (show 1<=((aL g).extract (c+f)<|c+f+l).size by rw[a4];exact lz) b3 b4 λr t hr=>?_;refine bK<|ug<|bK<|nw<|ce ?_;have hf:ny t=Z:=(hr.1.b H).a;show Q (ny t).isNone _;rw[hf];exact X r t hr
end
def fT.pow:∀{l a:List (Nat×Nat×Nat)}{b c:Nat},fT d f b l c->a.map (λx=>(abd x.1 x.2.1))=l.map (λx=>(abd x.1 x.2.1))->fT d f b a c
 |[],[],_,_,h,_=>h
 |[],_::_,_,_,_,e=>by simp at e
 |_::_,[],_,_,_,e=>by simp at e
 |(abd s (abd n p))::l,(abd g (abd i j))::a,b,c,h,e=>by
  simp only[cI,ae6,Prod.mk.injEq] at e;obtain⟨⟨rfl,rfl⟩,e⟩:=e;exact(h.1,h.2.1,h.2.2.1,h.2.2.2.pow e)
def Jl(a:Array (Nat×Nat×Nat))(i b:Nat):(a.modify i λx=>(abd x.1 (abd x.2.1 b))).toList.map (λx=>(abd x.1 x.2.1))=a.toList.map (λx=>(abd x.1 x.2.1)):=by
 rw[Array.toList_modify];apply CO;intro k;rw[cB,cB,List.getElem?_modify];cases e:a.toList[k]? with
 |none=>simp
 |some x=>
  simp only[nB];split<;>rfl
noncomputable def fT.B{b:av->Int}(h:fT b c 0 l a)(d:l.length<=1):Srt b c 0 a:=by
 match l,h,d with
 |[],h,_=>
  have e:0=a:=h;subst e;intro i j _ _ k;omega
 |[(abd s (abd n p))],h,_=>
  obtain⟨_,_,f,g⟩:=h;have e:0+n=a:=g;subst e;exact f
section
variable{prog:bw}{w:aX}{A:bY}{E:Ω}{s:ak}{κ:kO}{a₀:Array av}{ρ:av->Int}
def Rn(C:h_ prog w A s κ a₀ ρ){st:aY}{Q:Unit->aY->Prop}(hB:cW κ a₀ st)(hp:dw st=#[])(h:∀d,cW κ a₀ d->Srt ρ (aL d) 0 a₀.size->Q () d):dN (aH prog w) A E s HO Q st:=by
 rw[sortRuns'_eq];refine bK<|nw ?_;dsimp only;simp only[hB.j];refine bK (iP (kN
  (I:=λx c d=>∃o,c=(abd Z o)/\cW κ a₀ d/\fT ρ (aL d) 0 (dw d).toList o/\o<=a₀.size/\x<=o)
  (Q:=λc d=>c=(abd Z a₀.size)/\cW κ a₀ d/\fT ρ (aL d) 0 (dw d).toList a₀.size) ?step ?fin (0,O,hB,by rw[hp];exact O,ú,ß)) ?post)
 case fin=>
  rintro c d ⟨o,rfl,p,hS,h1,h2⟩;have e:o=a₀.size:=ω
  subst e;exact(O,p,hS)
 case step=>
  rintro x c a9 _ hx ⟨o,rfl,a3,a4,h1,h2⟩;dsimp only
  by_cases a5:o ≥ a₀.size
  ·rw[az a5]
   have e:o=a₀.size:=(û h1 a5)
   subst e;exact ce (O,a3,a4)
  rw[ap a5];refine bK<|Rz C ω ω a3 λm K r P2 m1 m2 S=>?_;dsimp only;have u:fT ρ (aL K) 0 (dw K).toList o:=by rw[P2.a];exact a4.congr λk _ b=>P2.arr k b
  have M:∀(n:Nat)(l:aY)(U:ForInStep (Option Unit×Nat)->aY->Prop),cW κ a₀ l->fT ρ (aL l) 0 (dw l).toList o->1<=n->o+n<=a₀.size->Srt ρ (aL l) o (o+n)->
    (∀d,cW κ a₀ d->fT ρ (aL d) 0 (dw d).toList (o+n)->U (.yield (abd Z (o+n))) d)->
    (∀d,cW κ a₀ d->fT ρ (aL d) 0 (dw d).toList o->Srt ρ (aL d) o (o+n)->dN (aH prog w) A E s (do
     modify λs=>setPending s<|(dw s).push (abd o (abd n 0))
     aU (hX (abd Z (o+n)))) U d):=by
   intro n l U _ _ n1 n2 _ hq d p t X;refine bK<|ug<|ce<|hq _ (p.b,p.c,p.a) ?_;show fT ρ (aL d) 0 ((dw d).push (abd o (abd n 0))).toList (o+n);rw[zl];exact fT.j.mpr (o,t,O,n1,X,O)
  have T:∀(n pw:Nat)(l:aY)(f:Nat->Option Unit×Unit->StateT aY dP (ForInStep<|Option Unit×Unit)),cW κ a₀ l->fT ρ (aL l) 0 (dw l).toList o->Srt ρ (aL l) o (o+n)->o+n<=a₀.size->
    (∀x d(U:ForInStep (Option Unit×Unit)->aY->Prop),cW κ a₀ d->fT ρ (aL d) 0 (dw d).toList o->U (.done (abd Z (()))) d->
     (∀g,cW κ a₀ g->fT ρ (aL g) 0 (dw g).toList o->(∀k,o<=k->(aL g)[k]?=(aL d)[k]?)->U (.yield (abd Z (()))) g)->dN (aH prog w) A E s (f x (abd Z (()))) U d)->
    dN (aH prog w) A E s (lO [0:a₀.size] (abd Z (())) f) (λc d=>c=(abd Z (()))/\cW κ a₀ d/\fT ρ (aL d) 0 (dw d).toList o/\Srt ρ (aL d) o (o+n)) l:=by
   intro n pw l f v z R hz hf;refine kN (I:=λ_ c d=>c=(abd Z (()))/\cW κ a₀ d/\fT ρ (aL d) 0 (dw d).toList o/\Srt ρ (aL d) o (o+n)) ?_ (λ_ _ q=>q) (O,v,z,R);rintro x c d _ _ ⟨rfl,p,t,X⟩;refine hf x d _ p t (O,p,t,X) λg D G hk=>(O,D,G,λi j a b c=>?_);rw[oP<|hk i a,oP<|hk j (à a b)];exact X i j a b c
  have a7:∀(n:Nat)(l:aY),cW κ a₀ l->fT ρ (aL l) 0 (dw l).toList o->1<=n->o+n<=a₀.size->Srt ρ (aL l) o (o+n)->True:=λ_ _ _ _ _ _ _=>trivial;have P:∀n d,1<=n->o+n<=a₀.size->cW κ a₀ d->fT ρ (aL d) 0 (dw d).toList (o+n)->∃a0,((abd Z (o+n)):Option Unit×Nat)=(abd Z a0)/\cW κ a₀ d/\fT ρ (aL d) 0 (dw d).toList a0/\a0<=a₀.size/\x+1<=a0:=
   λn d n1 n2 b sg=>(_,O,b,sg,n2,ω)
  by_cases a6:m<minRun' a₀.size a₀.size 0
  ·rw[az a6]
   refine bK<|wc<|lv (O,?_);refine bK<|RA C ω ω r S λl v P3 R=>?_;simp only[nK,dD,dc];have z:fT ρ (aL l) 0 (dw l).toList o:=by rw[P3.a];exact u.congr λk _ b=>P3.arr k b
   refine bK<|nw ?_;cases hb:(dw l).back? with
   |none=>
    dsimp only;exact M _ l _ v z ω ω R (λd b sg=>P _ d ω ω b sg) l v z R
   |some y=>
    obtain⟨s1,n1,p1⟩:=y;dsimp only;refine bK<|iP (T _ 0 l _ v z R ω ?_) ?_
    ·intro x d U p t q1 q2
     refine bK<|nw ?_
     by_cases H:(dw d).size>1
     ·rw[az H]
      obtain⟨⟨o1,o2,o3⟩,eo⟩:∃y,(dw d)[(dw d).size-2]?=V y:=(_,hY _ _ ω);rw[eo];dsimp only;split
      ·exact ce q1
      ·refine bK<|CZ C p t h1 ω λg D G _ hk=>?_
       simp only[nK,dD,dc];exact ce<|q2 g D G hk
     ·rw[ap H]
      exact ce q1
    ·rintro c a8 ⟨rfl,L,a1,a2⟩
     dsimp only;refine bK<|ug ?_;refine M _ l _ v z ω ω R (λd b sg=>P _ d ω ω b sg) _ (L.b,L.c,L.a) ?_ a2;exact a1.pow<|Jl _ _ _
  ·rw[ap a6]
   refine bK<|nw ?_;cases hb:(dw K).back? with
   |none=>
    dsimp only;exact M _ K _ r u m1 ω S (λd b sg=>P _ d m1 ω b sg) K r u S
   |some y=>
    obtain⟨s1,n1,p1⟩:=y;dsimp only;refine bK<|iP (T _ 0 K _ r u S ω ?_) ?_
    ·intro x d U p t q1 q2
     refine bK<|nw ?_
     by_cases H:(dw d).size>1
     ·rw[az H]
      obtain⟨⟨o1,o2,o3⟩,eo⟩:∃y,(dw d)[(dw d).size-2]?=V y:=(_,hY _ _ ω);rw[eo];dsimp only;split
      ·exact ce q1
      ·refine bK<|CZ C p t h1 ω λg D G _ hk=>?_
       simp only[nK,dD,dc];exact ce<|q2 g D G hk
     ·rw[ap H]
      exact ce q1
    ·rintro c a8 ⟨rfl,L,a1,a2⟩
     dsimp only;refine bK<|ug ?_;refine M _ K _ r u m1 ω S (λd b sg=>P _ d m1 ω b sg) _ (L.b,L.c,L.a) ?_ a2;exact a1.pow<|Jl _ _ _
 case post=>
  rintro c d ⟨rfl,p,t⟩;dsimp only;refine bK (iP (kN (I:=λx c g=>c=(abd Z (()))/\cW κ a₀ g/\fT ρ (aL g) 0 (dw g).toList a₀.size/\((dw g).size<=1\/(dw g).size+x<=a₀.size))
   (Q:=λc g=>c=(abd Z (()))/\cW κ a₀ g/\Srt ρ (aL g) 0 a₀.size) ?fstep ?ffin (O,p,t,.inr ?_)) ?fpost)
  case ffin=>
   rintro c g ⟨rfl,r,u,hh⟩;exact(O,r,u.B (by rw[gR];omega))
  case fpost=>
   rintro c g ⟨rfl,r,sr⟩;exact ce<|h _ r sr
  case fstep=>
   rintro x c g _ hx ⟨rfl,r,u,hh⟩;refine bK<|nw ?_
   by_cases H:(dw g).size<=1
   ·rw[az H]
    exact ce (O,r,u.B (by rw[gR];exact H))
   ·rw[ap H]
    refine bK<|CZ C r u (aW _) ?_ λl v z b0 _=>?_
    ·repeat' split
     all_goals omega
    ·simp only[nK,dD,dc]
     exact ce (O,v,z,ω)
  ·have:=t.q
   rw[gR] at this;omega
end
def Dv:∀a:List Int,bV a a=aB
 |[]=>O
 |x::a=>by rw[mf,az O];exact Dv a
def Du:∀{a b c:List Int},bV a b=af->bV b c=af->bV a c=af
 |[],[],_,h,_=>by cases h
 |[],_::_,[],_,h=>by cases h
 |[],_::_,_::_,_,_=>O
 |_::_,[],_,h,_=>by cases h
 |_::_,_::_,[],_,h=>by cases h
 |x::a,y::b,z::c,e,d=>by
  rw[mf] at e d ⊢
  by_cases g:x=y
  ·rw[az g] at e
   by_cases f:y=z
   ·rw[az f] at d
    rw[az<|g.trans f];exact Du e d
   ·rw[ap f] at d
    rw[ap ω];have:=io d;exact cn ω
  ·rw[ap g] at e
   have i:=io e
   by_cases f:y=z
   ·rw[ap ω]
    exact cn ω
   ·rw[ap f] at d
    have j:=io d;rw[ap ω];exact cn ω
def JD:∀{a b:List Int},bV a b=aB->bV b a=aB->a=b
 |[],[],_,_=>O
 |[],_::_,h,_=>by cases h
 |_::_,[],_,h=>by cases h
 |x::a,y::b,c,d=>by
  rw[mf] at c d
  by_cases e:x=y
  ·subst e
   rw[az O] at c d;rw[JD c d]
  ·rw[ap e] at c
   rw[ap<|eA e] at d;have:=nM c;have:=nM d;omega
noncomputable def zC(a:Ξ)(l:List Int):Int:=((a.filter λm=>bV m l).length:Nat)
def JB{ls:Ξ}{l m:List Int}(n:l∈ls)(p:m∈ls):aC (zC ls l<zC ls m)=bV l m:=by
 have f:∀{a b:List Int},(∀x,bV x a=af->bV x b=af)->∀k:Ξ,(k.filter λx=>bV x a).length<=(k.filter λx=>bV x b).length:=by
  intro a b c k
  induction k with
  |nil=>exact aW _
  |cons x k i=>
   rw[CN,CN]
   by_cases q:bV x a=af
   ·rw[az q,az<|c x q,cO,cO];exact ð i
   ·rw[ap q]
    split
    ·rw[cO];exact í i
    ·exact i
 have d:∀{a b:List Int},(∀x,bV x a=af->bV x b=af)->bV a b=af->∀k:Ξ,a∈k->(k.filter λx=>bV x a).length<(k.filter λx=>bV x b).length:=by
  intro a b c h k
  induction k with
  |nil=>intro q;cases q
  |cons x k i=>
   intro o;rw[CN,CN];rcases bZ.mp o with e|e
   ·subst e
    rw[ap (by rw[Dv];exact dT),az h,cO];have:=f c k;exact ï this
   ·have:=i e
    by_cases q:bV x a=af
    ·rw[az q,az<|c x q,cO,cO];exact ï this
    ·rw[ap q]
     split
     ·rw[cO];exact í this
     ·exact this
 unfold zC;cases q:bV l m with
 |true=>
  have:=d (a:=l) (b:=m) (λx g=>Du g q) q ls n;exact cn ω
 |false=>
  have:=f (a:=m) (b:=l) (λx g=>by
   cases z:bV x l with
   |true=>rfl
   |false=>
    cases j:bV l x with
    |true=>rw[Du j g] at q;cases q
    |false=>rw[JD z j] at g;rw[g] at q;cases q) ls
  exact cK ω
structure qX(prog:bw)(w:aX)(A:bY)(good:aT->Prop)(us:List aa)(ls:Ξ):Prop where
 a:us.length=ls.length
 b:∀(i j:Nat) u l m,us[i]?=V u->us[j]?=V u->ls[i]?=V l->ls[j]?=V m->l=m
 c:2<=us.length->∃κ:kO,(∀(s:ak)(Q:kO->ak->Prop)(E:Ω),good s.heap->Q κ s->aA (aH prog w) A (keyKind' us.toArray) Q E s)/\
  ∀(i j:Nat) u v l m,us[i]?=V u->us[j]?=V v->ls[i]?=V l->ls[j]?=V m->∀(s:ak)(Q:Bool->ak->Prop)(E:Ω),good s.heap->Q (bV l m) s->aA (aH prog w) A (HU κ u v) Q E s
open Classical in
noncomputable def lof(us:List aa)(ls:Ξ)(u:aa):List Int:=if h:∃l,∃i:Nat,us[i]?=V u/\ls[i]?=V l then h.choose else []
def wA{a:List aa}{b:Ξ}(e:∀(i j:Nat) u l m,a[i]?=V u->a[j]?=V u->b[i]?=V l->b[j]?=V m->l=m){i:Nat}(c:a[i]?=V u)(d:b[i]?=V l):lof a b u=l:=by
 unfold lof;have h:∃l,∃i:Nat,a[i]?=V u/\b[i]?=V l:=(l,i,c,d);rw[dif_pos h];obtain⟨j,f,g⟩:=h.choose_spec;exact e j i u _ l f c g d
noncomputable def uE(b:List aa)(a:Ξ)(p:av):Int:=zC a<|lof b a p.1
section
variable{prog:bw}{w:aX}{A:bY}{E:Ω}{s:ak}{good:aT->Prop}{us vs:List aa}{ls:Ξ}
def zB(h:us.length=vs.length){p:av}(b:p∈(us.toArray.zip vs.toArray).toList):∃i:Nat,us[i]?=V p.1/\vs[i]?=V p.2:=by
 have e:(us.toArray.zip vs.toArray).toList=us.zip vs:=by simp
 rw[e] at b;obtain⟨i,c,a⟩:=oJ.mp b;rw[List.getElem_zip] at a;rw[ze] at c;refine(i,?_,?_)
 ·rw[dq ω,<-a]
 ·rw[dq ω,<-a]
def RM(L:qX prog w A good us ls)(g:us.length=vs.length)(q:good s.heap)(K:2<=us.length)(r:us.length<1000)(t:∀(i j:Nat) u v l m,us[i]?=V u->us[j]?=V v->ls[i]?=V l->ls[j]?=V m->∀(s:ak)(Q:Bool->ak->Prop)(E:Ω),good s.heap->Q (bV l m) s->aA (aH prog w) A (HU c u v) Q E s){Q:Unit->aY->Prop}(h:∀a,(aL a).Perm (us.toArray.zip vs.toArray)->ny a=Z->Srt (uE us ls) (aL a) 0 vs.length->Q () a):dN (aH prog w) A E s HO Q (yS c (us.toArray.zip vs.toArray) #[] 7 Z):=by
 have z:(us.toArray.zip vs.toArray).size=vs.length:=by simp;omega
 refine Rn (κ:=c) (a₀:=us.toArray.zip vs.toArray) (ρ:=uE us ls) ⟨λx y C D G H d=>?_⟩ (Array.Perm.refl _,O,O) O λa b I=>h a b.b b.a (by rw[<-z];exact I);obtain⟨i,e,_⟩:=zB g C;obtain⟨j,f,_⟩:=zB g D;have k:i<ls.length:=by rw[<-L.a];exact(cr.mp e).1
 have n:j<ls.length:=by rw[<-L.a];exact(cr.mp f).1
 have o:ls[i]?=V ls[i]:=dq k;have p:ls[j]?=V ls[j]:=dq n;refine t i j _ _ _ _ e f o p s G H q ?_;unfold uE at d;rw[wA L.b e o,wA L.b f p,JB (pL k)<|pL n] at d;exact d
def pR{a b:Type}:∀(l:List a)(m:List b)(i:Nat),(l.zip m)[i]?=(l[i]?).bind λx=>(m[i]?).map λy=>(abd x y)
 |[],m,i=>by simp
 |x::l,[],i=>by cases h:(x::l)[i]?<;>simp
 |x::l,y::m,0=>O
 |x::l,y::m,i+1=>by
  rw[Qx,IC,IC,IC];exact pR l m i
def RQ(K:qX prog w A good us ls)(s:us.length=vs.length){c:Array av}(z:c.Perm (us.toArray.zip vs.toArray))(C:Srt (uE us ls) c 0 vs.length):∃l:List (List Int×aa),l.Perm (ls.zip vs)/\c.toList.map (·.2)=l.map (·.2)/\l.Pairwise λ(a b:List Int×aa)=>bV b.1 a.1=aB:=by
 have g:c.toList.Perm (us.zip vs):=by
  have:=Rf.mp z
  simpa using this
 refine(c.toList.map λL=>(abd (lof us ls L.1) L.2),?_,by rw[cj];rfl,?_)
 ·have e:(us.zip vs).map (λL:av=>(abd (lof us ls L.1) L.2))=ls.zip vs:=by
   apply CO;intro i;rw[cB,pR,pR];cases m:us[i]? with
   |none=>
    have:ls[i]?=Z:=si (by rw[<-K.a];exact aew.mp m);rw[this];rfl
   |some u=>
    have h:i<ls.length:=by rw[<-K.a];exact(cr.mp m).1
    have k:ls[i]?=V ls[i]:=dq h;rw[k];cases I:vs[i]? with
    |none=>rfl
    |some v=>
     show V (abd (lof us ls u) v)=V (abd (ls[i]) v);rw[wA K.b m k]
  rw[<-e];exact g.map _
 ·rw[jK,uj]
  intro i j h t n;have D:c.size=vs.length:=by
   have:=g.length_eq;rw[gR,ze] at this;omega
  rw[gR] at h t;have q:=C i j (eM _) (yU n) (à t (å D));have E:c[i]?=V c[i]:=hY c i h;have G:c[j]?=V c[j]:=hY c j t;rw[fU E,fU G] at q;simp only[Array.getElem_toList];obtain⟨o,x,_⟩:=zB s (p:=c[i]) (by
   have:=g.mem_iff.mp (show c[i]∈c.toList by simp)
   simpa using this)
  obtain⟨r,y,_⟩:=zB s (p:=c[j]) (by
   have:=g.mem_iff.mp (show c[j]∈c.toList by simp)
   simpa using this)
  have d:o<ls.length:=by rw[<-K.a];exact(cr.mp x).1
  have f:r<ls.length:=by rw[<-K.a];exact(cr.mp y).1
  have k:ls[o]?=V ls[o]:=dq d;have H:ls[r]?=V ls[r]:=dq f;unfold uE at q;rw[wA K.b x k,wA K.b y H] at q ⊢;have:=JB (ls:=ls) (pL f)<|pL d;rw[<-this];exact cK ω
end
section
variable{prog:bw}{w:aX}{A:bY}{E:Ω}{s:ak}{good:aT->Prop}{us vs:List aa}{ls:Ξ}
def RS(f:gg us d):qX prog w A (λ_=>True) us (d.map λn=>[n]):=by
 have g:=f.length;have b:∀(i:Nat) u l,us[i]?=V u->(d.map λn=>[n])[i]?=V l->∃n t,u=.int n t/\l=[n]:=λi u l h a=>by
  obtain⟨t,e⟩:=IntsAre.int_at f i u h;rw[cB] at a;cases c:d[i]? with
  |none=>rw[c] at a;cases a
  |some n=>
   rw[c] at a;have z:d.getD i 0=n:=by rw[ul,c];rfl
   rw[z] at e;exact(n,t,e,(cH a).symm)
 refine(by rw[ax,g],λi j u l m h a p q=>?_,λa=>(oneType',λs Q E _ k=>?_,λi j u v l m h a p q s Q E _ k=>?_))
 ·obtain⟨n,t,C,rfl⟩:=b i u l h p
  obtain⟨o,D,c,rfl⟩:=b j u m a q;rw[C] at c;cases c
  rfl
 ·match us,f,a with
  |[],_,a=>simp at a
  |[_],_,a=>simp at a
  |r::x::y,f,_=>
   rw[keyKind_ints f];exact aI k
 ·obtain⟨n,t,rfl,rfl⟩:=b i u l h p
  obtain⟨o,D,rfl,rfl⟩:=b j v m a q;refine kat_lt_int ?_;have:bV [n] [o]=aC (n<o):=by
   rw[mf]
   by_cases e:n=o
   ·rw[az e,Os];exact(cK ω).symm
   ·rw[ap e]
  rw[this] at k;exact k
def nO(h:aT)(u:aa)(l:List Int):Prop:=∃(a b:Y)(n:Int)(t:iM)(c:List aa)(d:List Int),u=.ref a/\l=n::d/\kP h a #[.int n t,.ref b]/\kP h b c.toArray/\gg c d
def JF{b c:Array aa}(i:kP h a b)(j:kP h a c):b=c:=by
 obtain⟨o,e,_,n,d⟩:=i;obtain⟨k,f,_,l,g⟩:=j;rw[e] at f;cases f;rw[d] at g;injection g
def RT{vs:List aa}{b a:List Int}(h:gg vs b)(g:gg vs a):b=a:=by
 induction h generalizing a with
 |nil=>cases g;rfl
 |cons n t h c=>cases g with|cons _ _ d=>rw[c d]
noncomputable def nO.j{l m:List Int}(j:nO h u l)(k:nO h u m):l=m:=by
 obtain⟨a,b,n,t,d,w,rfl,rfl,o,p,q⟩:=j;obtain⟨x,y,z,A,c,r,e,rfl,f,g,i⟩:=k;cases e;have:=JF o f;cases this;have s:=JF p g;have v:d=c:=by simpa using s
 subst v;rw[RT q i]
def RN{l m:List Int}{Q:Bool->ak->Prop}(h1:nO s.heap x l)(h2:nO s.heap y m)(M:A.units<c_)(p:Q (bV l m) s):aA (aH prog w) A (HU (tuples' af) x y) Q E s:=by
 obtain⟨a,b,n,t,a0,P,rfl,rfl,t1,R,S⟩:=h1;obtain⟨a',T,g,C,U,r,rfl,rfl,H,u,v⟩:=h2;obtain⟨o,e,X,k,d⟩:=id t1;obtain⟨o',e',a1,k',d'⟩:=id H;refine kat_lt e d e' d' ?_;show KatLex prog w A af (aC<|2<2) Q [(abd (.int n t) (.int g C)),(abd (.ref b) (.ref T))] 0 s;rw[mf] at p;refine kat_cons<|kL (PU n t g C prog w (λ_ _=>False) _ (O,O):aA (aH prog w) A (eqBool (.int n t)<|.int g C) (λe s'=>e=(n==g)/\s'=s) (λ_ _=>False) s) (λe1 D he=>?_) λ_ _ z=>z;obtain⟨rfl,rfl⟩:=he
 by_cases G:n=g
 ·have I:(n==g)=af:=by simpa using G
  rw[I];rw[az G] at p;refine kat_yes<|kat_cons ?_;have i:∀{c:Y}{j:List aa}{q:List Int},kP D.heap c j.toArray->gg j q->ga (fW prog w) D.heap (q.map aQ) c:=λ{c j q} X K=>by
   obtain⟨o,e,L,k,d⟩:=X;refine(o,j.toArray,k,e,L,d,?_);have:∀{j:List aa}{q:List Int},gg j q->Ce (fW prog w) (q.map aQ) j:=by
    intro j q K
    induction K with
    |nil=>exact .nil
    |cons n t h ih=>exact .cons (Ee prog w n t) ih
   simpa using this K
  refine Hd (knd:=fW prog w) M (i R S) (i u v) ?_
  by_cases ep:P=r
  ·subst ep
   rw[cn O];rw[Dv] at p;exact kat_yes<|kat_nil p
  ·have:¬(P.map aQ:List aV)=r.map aQ:=λz=>ep<|CJ (f:=(aQ:Int->aV)) (λx y h=>GV h)|>.mp z
   rw[cK this];refine kat_no ?_;show aA (aH prog w) A (oneLt' aB (.ref b)<|.ref T) Q (λ_ _=>False) D;exact kat_one _ _<|ZX R u (by simpa using S) (by simpa using v) M p
 ·have I:(n==g)=aB:=by simpa using G
  rw[I];rw[ap G] at p;refine kat_no ?_;show aA (aH prog w) A (oneLt' af (.int n t)<|.int g C) Q (λ_ _=>False) D;exact oneLt_int p
def JC:∀{us:List aa}{ls:Ξ},us.length=ls.length->(∀(i:Nat) u l,us[i]?=V u->ls[i]?=V l->nO h u l)->∃c,KatTups h us c/\c.length=us.length/\∀f∈c,∃n t,f=bz n t
 |[],[],_,_=>([],.nil,O,λf g=>nomatch g)
 |u::us,l::ls,m,j=>by
  obtain⟨c,p,q,r⟩:=JC (us:=us) (ls:=ls) (by simpa using m) λi u l s v=>j (i+1) u l (by simpa using s) (by simpa using v);obtain⟨a,b,n,t,w,z,rfl,rfl,x,A,C⟩:=j 0 u l O O;obtain⟨o,e,y,k,d⟩:=id x;refine(.int n t::c,.cons e y d O p,by simp[q],λf g=>?_);rcases bZ.mp g with rfl|g
  ·exact(n,t,O)
  ·exact r f g
 |[],_::_,h,_=>by simp at h
 |_::_,[],h,_=>by simp at h
def JE(o:us.length=ls.length)(q:A.units<c_)(r:∃h,good h)(a:∀h,good h->∀(i:Nat) u l,us[i]?=V u->ls[i]?=V l->nO h u l):qX prog w A good us ls:=by
 refine(o,λi j u l m d b e g=>?_,λb=>(tuples' af,λs Q E c k=>?_,λi j u v l m d b e g s Q E c k=>?_))
 ·obtain⟨h,p⟩:=r
  exact(a h p i u l d e).j<|a h p j u m b g
 ·obtain⟨C,x,D,y⟩:=JC o<|a _ c
  refine kat_kind (T:=.type "int") x (à (ã b) (æ D)) (λf z=>?_) ξ k;obtain⟨n,t,rfl⟩:=y f z;exact Looks.of_pure O
 ·exact RN (a _ c i u l d e) (a _ c j v m b g) q k
end
def uF(e:Ξ)(f c:List aa):Prop:=∃d:List (List Int×aa),d.Perm (e.zip f)/\c=d.map (·.2)/\d.Pairwise λ(a b:List Int×aa)=>bV b.1 a.1=aB
section
variable{prog:bw}{w:aX}{A:bY}{E:Ω}{s:ak}{good:aT->Prop}{us vs:List aa}{ls:Ξ}
def RP(b:ls.length=vs.length)(c:us.length=vs.length)(d:vs.length<2):uF ls vs ((us.toArray.zip vs.toArray).map (·.2)).toList:=by
 have e:((us.toArray.zip vs.toArray).map (·.2)).toList=vs:=by
  rw[afg,show(us.toArray.zip vs.toArray).toList=us.zip vs by simp,aem (æ c)]
 rw[e];refine(ls.zip vs,List.Perm.refl _,by rw[aem (æ b)],?_);have a:(ls.zip vs).length<2:=by rw[ze];omega
 match ls.zip vs,a with
 |[],_=>exact IP
 |[x],_=>simp
 |_::_::_,h=>simp only[cO] at h;omega
def JA(v:qX prog w A good us ls)(f:us.length=vs.length)(m:vs.length<1000)(k:good s.heap){G:Unit×aY->dP Cj}(h:∀a,uF ls vs ((aL a).map (·.2)).toList->(aL a).size=vs.length->ny a=Z->aA (aH prog w) A (G (abd PUnit.unit a)) P E s):aA (aH prog w) A (if vs.toArray.size<2 then(aU general' >>= λb=>(if vs.toArray.size<2 then aU () else HO).run (yS b (us.toArray.zip vs.toArray) #[] 7 Z) >>= G)
   else(keyKind' us.toArray >>= λb=>(if vs.toArray.size<2 then aU () else HO).run (yS b (us.toArray.zip vs.toArray) #[] 7 Z) >>= G)) P E s:=by
 have d:(us.toArray.zip vs.toArray).size=vs.length:=by rw[Array.size_zip,cT,cT];omega
 by_cases c:vs.toArray.size<2
 ·rw[az c]
  refine aj<|aI ?_;rw[az c];rw[StateT.run_pure];refine aj<|aI ?_
  try dsimp only
  rw[cT] at c;exact h (yS general' (us.toArray.zip vs.toArray) #[] 7 Z) (RP (by rw[<-v.a];exact f) f c) d O
 ·rw[ap c,ap c]
  rw[cT] at c;obtain⟨t,n,o⟩:=v.c (à (ô c) (æ f));refine aj<|n s _ E k ?_;refine aj<|kL (RM (Q:=λ_ a=>(aL a).Perm (us.toArray.zip vs.toArray)/\ny a=Z/\Srt (uE us ls) (aL a) 0 vs.length) v f k (à (ô c) (æ f)) (à (ï (å f)) m) o λa g i j=>(g,i,j)) ?_ λ_ _ e=>e;rintro⟨⟨⟩,a⟩ u ⟨rfl,l,p,q⟩
  try dsimp only
  exact h a (by
   obtain⟨r,g,i,j⟩:=RQ v f l q;exact(r,g,by rw[afg];exact i,j)) (by rw[l.size_eq];exact d) p
def RR{n:Nat}{P:Cj->ak->Prop}(c:s.heap.get? a=V (cF "list" vs.toArray n))(v:qX prog w A good vs ls)(q:∀m,(∀b o,b≠a->s.heap.get? b=V o->m.get? b=V o)->good m)(i:vs.length<=bQ)(j:vs.length<1000)(h:∀d:Array aa,uF ls vs d.toList->P (.done<|.ret .none) {s with heap:=sortedHeap s.heap a vs d}):aA (aH prog w) A (Builtin.«list.sort» ([.ref a],[])) P E s:=by
 rw[list_sort_plain];have p:a<s⁻¹:=cR c;refine aj<|Qn c O ?_;refine aj<|yQ c O ?_ (by rw[cT];exact i)<|eM _;obtain⟨k,f⟩:∃k,(s.heap.update a<|de λ_=>#[]).get? a=V (cF "list" #[] k):=(_,we c (λ_=>#[]));refine aj<|HP f O ?_;refine aj<|G_ ?_ (by show vs.length<=_;exact i);refine aj<|BG ?_<|eM _;refine il ?_;have g:(((s.heap.update a<|de λ_=>#[]).push<|cF "tuple" vs.toArray 0).push<|cF "list" #[] 0).get? a=V (cF "list" #[] k):=by
  rw[yJ _ _ _ (by rw[Cv,vW];exact dz<|lM p),yJ _ _ _ (by rw[vW];exact dz p)];exact f
 show aA (aH prog w) A _ P E {s with heap:=((s.heap.update a<|de λ_=>#[]).push<|cF "tuple" vs.toArray 0).push<|cF "list" #[] 0};dsimp only;refine JA (s:={s with heap:=((s.heap.update a<|de λ_=>#[]).push<|cF "tuple" vs.toArray 0).push<|cF "list" #[] 0}) v O j (q _ λb o r e=>cx _<|cx _ (by rw[HA _ _ _ _ r];exact e)) λt c l u=>?_;dsimp only;refine aj<|HP g O ?_;refine aj<|yQ g O ?_ (eM _)<|dg (Il<|(nL ..).trans l)<|Ii i;rw[u];simp only[bne_self_eq_false,dD,dc];exact aI<|h _ c
def Jz{Q:Ω}(k:s.heap.IsList l vs.toArray)(t:qX prog w A.in1.in1 good vs ls)(n:∀g,(∀b o,s.heap.get? b=V o->g.get? b=V o)->good g)(i:vs.length<=bQ)(j:vs.length<1000)(h:∀a:Array aa,uF ls vs a.toList->Q (.ref<|s⁻¹+1) {s with heap:=sortedAll s.heap vs a}):aA (aH prog w) A (jJ (.builtin "sorted") [.ref l]) Q E s:=by
 refine ada kind_sorted plain_sorted entry_sorted (args_sorted1 _) ?_;unfold Builtin.«sorted»;refine aj (m:=checkCount "sorted" 1 1 _)<|aI ?_;refine aj<|collect_list k ?_ i;refine aj<|BG ?_ i;have c:((s.heap.push<|cF "list" #[] 0).update s⁻¹ (de (·++vs.toArray))).objs.size=s⁻¹+1:=by
  rw[vW,Cv]
 have e:(((s.heap.push<|cF "list" #[] 0).update s⁻¹ (de (·++vs.toArray))).push<|cF "list" vs.toArray 0).get? (s⁻¹+1)=V (cF "list" vs.toArray 0):=by
  rw[<-c];exact dF _ O
 have f:∀b o,s.heap.get? b=V o->(((s.heap.push<|cF "list" #[] 0).update s⁻¹ (de (·++vs.toArray))).push<|cF "list" vs.toArray 0).get? b=V o:=λb o q=>by
  have d:b<s⁻¹:=cR q;rw[yJ _ _ _ (by rw[c];exact dz<|lM d),HA _ _ _ _<|dz d,yJ _ _ _<|dz d];exact q
 show aA _ _ _ _ _ {s with heap:=((s.heap.push<|cF "list" #[] 0).update s⁻¹ (de (·++vs.toArray))).push<|cF "list" vs.toArray 0};rw[c];refine aj (il (lC slot_list_sort (_,e,O) ad0 (RR (s:={s with heap:=((s.heap.push<|cF "list" #[] 0).update s⁻¹ (de (·++vs.toArray))).push<|cF "list" vs.toArray 0}) e t (λg p=>n g λb o q=>p b o (dz<|lM<|cR q)<|f b o q) i j λa r=>(_,O,?_))<|args_list_sort _));exact aI (_,O,h a r)
def RK{f:Array aa}{P:Cj->ak->Prop}(u:s.heap.get? d=V (cF "list" f e))(y:s.heap.get? a=V (cF "list" #[] e1))(j:d≠a)(m:f.size<=bQ)(z:uF ls vs ((aL g).map (·.2)).toList)(n:(aL g).size=vs.length)(C:vs.length<=bQ)(p:ny g=Z)(h:∀k l c,(∀b o,b≠d->b≠a->s.heap.get? b=V o->k.get? b=V o)->k.get? a=V (cF "list" l c)->(∃o,k.get? d=V o)->uF ls vs l.toList->k.objs.size=s⁻¹->P (.done<|.ret .none) {s with heap:=k}):aA (aH prog w) A (ksk_tail a aB e1 (.ref d) g) P E s:=by
 have v:=mC s.heap d<|de λ_=>(#[]:Array aa);have i:(s.heap.update d<|de λ_=>(#[]:Array aa)).get? a=V (cF "list" #[] e1):=(v.2 a j.symm).trans y;have x:=mC (s.heap.update d<|de λ_=>(#[]:Array aa)) a (de λ_=>(aL g).map (·.2));obtain⟨r,t⟩:∃r,((s.heap.update d<|de λ_=>(#[]:Array aa)).update a (de λ_=>(aL g).map (·.2))).get? a=V (cF "list" ((aL g).map (·.2)) r):=
  (_,we i λ_=>(aL g).map (·.2))
 unfold ksk_tail
 try dsimp only
 simp only[dD,dc];refine aj<|yQ u O ?_ m<|eM _;refine aj<|mw ?_;refine aj<|HP i O ?_;refine aj<|yQ i O ?_ (eM _)<|dg (Il<|(nL ..).trans n)<|Ii C;rw[p];simp only[bne_self_eq_false,dD,dc];refine aI<|h _ _ r (λb o D G q=>(x.2 b G).trans<|(v.2 b D).trans q) t (_,(x.2 d j).trans<|we u λ_=>#[]) z (by rw[vW,vW])
end
noncomputable def gE(a:List (au×Y)):List (au×mB)->List (au×Y)->List (au×Y)
 |[],b=>b
 |(abd n k)::r,b=>if(k==.free)=af then gE a r ((abd n ((a.lookup n).getD 0))::b) else gE a r b
def LC{env:gb}:∀(b:List (au×mB))(d:List (au×Y)),(∀x∈b,x.2=.free->∃c,env.cells.lookup x.1=V c)-> (lO b d λx(r:List (au×Y))=>if(x.2==.free)=af then do let c <-cellOf env x.1;aU (hX<|(abd x.1 c)::r) else aU (hX r):dP (List<|au×Y))=aU (gE env.cells b d)
 |[],d,_=>O
 |(abd n k)::r,d,h=>by
  rw[ID];have g:=λa=>LC (env:=env) r a λx i=>h x<|eV _ i;unfold gE
  by_cases e:(k==bX)=af
  ·have f:k=.free:=by cases k<;>first|rfl|cases e
   obtain⟨c,j⟩:=h (abd n k) dQ f;simp only[e,dU];unfold cellOf;rw[j];simp only[pure_bind,qI];exact g _
  ·simp only[e,dD,dc,pure_bind]
   exact g _
def Vz{a:hG}{b:gb}(h:∀x∈a.names,x.2=.free->∃c,b.cells.lookup x.1=V c):closureFor a b=aU (gE b.cells a.names []):=by
 rw[<-LC a.names [] h];unfold closureFor;simp
def Ef:∀{l:List (au×Y)},(abd x c)∈l->∃d,l.lookup x=V d
 |[],h=>nomatch h
 |(abd y d)::l,h=>by
  rw[nD]
  by_cases e:x=y
  ·subst e;exact(d,by simp)
  ·have a:(x==y)=aB:=by simpa using e
   rw[a];rcases bZ.mp h with q|q
   ·cases q;exact bu O e
   ·exact Ef q
def Ag{cells:List (au×Y)}:∀{a:List (au×mB)}{acc:List (au×Y)},((abd x bX)∈a\/∃c,(abd x c)∈acc)->∃c,(abd x c)∈gE cells a acc
 |[],acc,h=>h.elim (λq=>nomatch q) id
 |(abd n k)::r,acc,h=>by
  unfold gE
  by_cases b:(k==bX)=af
  ·rw[az b]
   refine Ag ?_;rcases h with h|⟨c,h⟩
   ·rcases bZ.mp h with q|q
    ·cases q;exact .inr (_,dQ)
    ·exact .inl q
   ·exact .inr (c,eV _ h)
  ·rw[ap b]
   refine Ag ?_;rcases h with h|h
   ·rcases bZ.mp h with q|q
    ·cases q;exact bu O b
    ·exact .inl q
   ·exact .inr h
noncomputable def jQ(X:bf)(a:hG)(f:List au)(d:List (au×Y))(C:Y)(b:ak)(c:ae)(e:List Y):bf where
 prog:=X.prog
 w:=X.w
 K:=X.K
 c:=X.c
 base:=X.base
 A:=X.A
 N:=f
 d:=b
 i:=c
 env:=BQ a d C X.env
 outer:=X.e
 e:=X.e
 g:=e
 f:=λ_=>aB
 b:=X.b
 h:=X.h
 a:=λ_ _=>False
def of(X:bf)(b:List bB)(t:eG):Prop:=
 ∀(a:Ψ)(s:ak)(d:aO)(H:ae)(Q:Bool->ae->Prop),aE X a d H s->t d H Q->
  aA (aH X.prog X.w) X.A (lO b af λc r=>if r=af then do let e <-Hl c X.env (dC c X.env);aU (hX e) else aU (hX r)) (Ex X a d Q) X.a s
def gC:eG:=λ_ H Q=>Q af H
def gX:of X [] gC:=λ_ _ _ H _ I h=>wpAny_tests_nil (H,I,h)
def mO{t:eG}(h:ku X c t):of X [c] t:=λa s b H Q I d=>wpAny_tests_one<|h a s b H Q I d
noncomputable def wW(a:List (Option Nat))(b:aO):aO:=a.map λc=>match c with
 |none=>Z
 |some j=>(b[j]?).getD Z
def dY(r:iZ)(g:gj)(l:eG)(n:a_)(o:aO)(p:ae)(D:Y)(Q:aS):Prop:=
 ∃s:Nat->Nat->aO->ae->Prop,(∃m,s 0 m o (aw p D<|.a []))/\
 ∀i m c d,s i m c d->(r.b i d/\Q (.c D) d)\/(r.a i d/\∀x h,r.c i d x h->g x c h λa q=>l a q λb j=>
  if b=af then n a j λy k=>∃f e,k D=V (.a f)/\f.length<bQ/\e<m/\s (i+1) e a (aw k D<|.a<|f++[y])
  else ∃e,e<m/\s (i+1) e a j)
def oS(d:ji)(a:List (Option Nat))(g:gj)(e:eG)(f:a_):a_:=λb H Q=>d b H λh c=>∀D,c D=Z->dY h g e f (wW a b) c D Q
def u_(d c:List au)(a:List (Option Nat))(b:hG):Prop:=
 a.length=c.length/\∀i j:Nat,a[i]?=V (V j)->∃x:au,c[i]?=V x/\d[j]?=V x/\b.names.lookup x=V .free
def Af{b:List (au×Y)}:∀{a:List (au×mB)}{e:List (au×Y)},(∀y∈a,y.2=.free->∃d,b.lookup y.1=V d)->(∀p∈e,False)->(abd x c)∈gE b a e->b.lookup x=V c/\(abd x bX)∈a:=by
 have l:∀{a:List (au×mB)}{e:List (au×Y)},(∀y∈a,y.2=.free->∃d,b.lookup y.1=V d)->(abd x c)∈gE b a e->(abd x c)∈e\/(b.lookup x=V c/\(abd x bX)∈a):=by
  intro a
  induction a with
  |nil=>intro e _ h;exact .inl h
  |cons y r t=>
   intro e j h;obtain⟨n,k⟩:=y;unfold gE at h;have f:∀y∈r,y.2=.free->∃d,b.lookup y.1=V d:=λy u=>j y<|eV _ u
   by_cases m:(k==bX)=af
   ·have g:k=.free:=by cases k<;>first|rfl|cases m
    obtain⟨d,v⟩:=j (abd n k) dQ g;rw[az m] at h;rcases t f h with q|⟨o,s⟩
    ·rcases bZ.mp q with q|q
     ·refine .inr (?_,?_)
      ·have i:b.lookup n=V d:=v
       rw[i] at q;cases q;exact i
      ·cases q
       rw[g];exact dQ
     ·exact .inl q
    ·exact .inr (o,eV _ s)
   ·rw[ap m] at h
    rcases t f h with q|⟨o,s⟩
    ·exact .inl q
    ·exact .inr (o,eV _ s)
 intro a e j w h;rcases l j h with q|q
 ·exact(w _ q).elim
 ·exact q
def El:∀(a:List (au×mB))(h:aT)(b:List (au×Y))(x:au)(c:Y),(abd x c)∈jb h.objs.size a b->(abd x c)∈b\/((abd x cE)∈a/\h.objs.size<=c/\(BO h a).IsCell c Z)
 |[],h,b,x,c,d=>.inl d
 |(abd n k)::r,h,b,x,c,d=>by
  rw[cellsFrom.eq_2] at d;have l:BO h ((abd n k)::r)=if(k==cE)=af then BO (h.push {cls:=aK "cell",data:=ud Z}) r else BO h r:=O
  by_cases e:(k==cE)=af
  ·have g:k=.cell:=by cases k<;>first|rfl|cases e
   rw[az e] at d;rw[l,az e];have m:(h.push {cls:=aK "cell",data:=ud Z}).objs.size=h.objs.size+1:=t_ ..;rw[<-m] at d;rcases El r _ _ x c d with q|⟨i,f,j⟩
   ·rcases bZ.mp q with q|q
    ·cases q
     refine .inr (by rw[g];exact dQ,aW _,_,Pp r _ _ _<|dF _ O,O)
    ·exact .inl q
   ·rw[m] at f
    exact .inr (eV _ i,Qu f,j)
  ·rw[ap e] at d
   rw[l,ap e];rcases El r h b x c d with q|⟨i,f,j⟩
   ·exact .inl q
   ·exact .inr (eV _ i,f,j)
def Em:∀(b:List (au×mB))(n:Nat)(a:List (au×Y)),(∀x y c,(abd x c)∈a->(abd y c)∈a->x=y)->(∀p∈a,p.2<n)->∀x y c,(abd x c)∈jb n b a->(abd y c)∈jb n b a->x=y
 |[],n,a,f,_,x,y,c,d,e=>f x y c d e
 |(abd m k)::r,n,a,f,g,x,y,c,d,e=>by
  rw[cellsFrom.eq_2] at d e
  by_cases i:(k==cE)=af
  ·rw[az i] at d e
   refine Em r (n+1) ((abd m n)::a) (λx y c p q=>?_) (λp h=>?_) x y c d e
   ·rcases bZ.mp p with p|p<;>rcases bZ.mp q with q|q
    ·cases p;cases q;rfl
    ·cases p
     have:n<n:=g _ q;omega
    ·cases q
     have:n<n:=g _ p;omega
    ·exact f x y c p q
   ·rcases bZ.mp h with rfl|h
    ·exact Qt _
    ·exact lM<|g p h
  ·rw[ap i] at d e
   exact Em r n a f g x y c d e
def Uv{M:yH}{A:bY}{E:Ω}{a:hG}{d:Y}{i:List (au×Y)}{g:au}{j:gb}{Q:gb->ak->Prop}(h:∀f:aT,(f.Ns s⁻¹ λ_=>Z)->(∀b o,s.heap.get? b=V o->f.get? b=V o)->
   (∀x c,(abd x c)∈jb (s⁻¹+1) a.names i->(abd x c)∈i\/((abd x cE)∈a.names/\s⁻¹+1<=c/\f.IsCell c Z))->
   Q (newEnv a s⁻¹ d (jb (s⁻¹+1) a.names i) g Z .none (V j) Hp) {s with heap:=f}):
  aA M A (newFunctionEnv a d i [] g Z cA<|V j) Q E s:=by
 unfold newFunctionEnv;refine aj<|wpAny_alloc ?_;refine aj<|wpAny_layCells _ (λl m k=>O) a.names i _ _ ?_;have n:(s.heap.push {cls:=aK "dict",data:=jy #[]}).objs.size=s⁻¹+1:=t_ ..;have:=h (BO (s.heap.push {cls:=aK "dict",data:=jy #[]}) a.names) ((Heap.Ns.new s.heap<|.type "dict").keeps λb o e=>Pp _ _ _ _ e) (λb o e=>Pp _ _ _ _<|cx _ e) (λx c p=>by
  rw[<-n] at p ⊢;exact El a.names _ i x c p)
 show aA M A _ _ _ _;refine aj<|aI ?_;refine aI ?_;rw[<-n] at this;exact this
noncomputable def jg(X:bf)(a:hG)(f:List au)(d:List (au×Y))(C:Y)(b:ak)(c:ae)(e:List Y):bf:={jQ X a f d C b c e with f:=λx=>aC<|a.names.lookup x=V .cell}
section
variable{X:bf}{scope:hG}{N':List au}{caps:List (Option Nat)}{tg iter elt:bB}{ifs:List bB}{wi:ji}{g:gj}{tc:eG}{te:a_}{pos:cD}
def DR{scope:hG}{env:gb}{x:au}:∀{names:List (au×mB)},(names.lookup x=V .free\/names.lookup x=V .cell)-> ((names.map λ|abd n k=>if(k==bX&&env.scope.kind==.function&&env.kindOf n==V .cell) then(abd n cE) else(abd n k)).lookup x=V .free \/
   (names.map λ|abd n k=>if(k==bX&&env.scope.kind==.function&&env.kindOf n==V .cell) then(abd n cE) else(abd n k)).lookup x=V .cell)
 |[],h=>by simp at h
 |(abd n k)::r,h=>by
  have c:=@DR scope env x r;show sh x ((if(k==bX&&env.scope.kind==.function&&env.kindOf n==V .cell)=af then(abd n cE) else(abd n k))::_)=_\/sh x ((if(k==bX&&env.scope.kind==.function&&env.kindOf n==V .cell)=af then(abd n cE) else(abd n k))::_)=_;cases a:x==n with
  |true=>
   simp only[nD,a] at h
   by_cases b:(k==bX&&env.scope.kind==.function&&env.kindOf n==V .cell)=af
   ·rw[az b];simp[nD,a]
   ·rw[ap b];simp only[nD,a];exact h
  |false=>
   simp only[nD,a] at h
   by_cases b:(k==bX&&env.scope.kind==.function&&env.kindOf n==V .cell)=af
   ·rw[az b];simp only[nD,a];exact c h
   ·rw[ap b];simp only[nD,a];exact c h
def DI{a:gb}{x:au}{f:mB}:∀{c:List (au×mB)},(c.map λ|abd n k=>if(k==bX&&a.scope.kind==.function&&a.kindOf n==V .cell) then(abd n cE) else(abd n k)).lookup x=V f->
  ∃g,c.lookup x=V g/\(f=g\/(g=.free/\f=.cell))
 |[],h=>by simp at h
 |(abd n k)::r,h=>by
  have i:=@DI a x f r;have b:sh x ((if(k==bX&&a.scope.kind==.function&&a.kindOf n==V .cell)=af then(abd n cE) else(abd n k))::_)=V f:=h;cases e:x==n with
  |true=>
   simp only[nD,e]
   by_cases d:(k==bX&&a.scope.kind==.function&&a.kindOf n==V .cell)=af
   ·rw[az d] at b
    simp only[nD,e] at b;cases b;have j:k=.free:=by
     rw[kW,kW] at d;cases k<;>first|rfl|exact bu d.1.1 ξ
    exact(k,O,.inr (j,O))
   ·rw[ap d] at b
    simp only[nD,e] at b;cases b;exact(_,O,.inl O)
  |false=>
   simp only[nD,e]
   by_cases d:(k==bX&&a.scope.kind==.function&&a.kindOf n==V .cell)=af
   ·rw[az d] at b;simp only[nD,e] at b;exact i b
   ·rw[ap d] at b;simp only[nD,e] at b;exact i b
structure Me(X:bf)(pins:Ψ)(σ:aO)(H':ae)(s4:ak)(C:Y):Prop where
 a:∃m,s4.heap.Ns C m
 h:X.d⁻¹<=C
 b:C≠X.env.locals
 d:∀x c,X.env.cells.lookup x=V c->c≠C
 g:∀p∈X.h++pins,p.1≠C
 e:H' C=Z
 f:∀h',jc C s4.heap h'->aE X pins σ H' {s4 with heap:=h'}
def Lz(hc:X.b=af)(hk:scope.kind=.function)(b5:∀y∈scope.names,y.2=.cell->scope.names.lookup y.1=V .cell)(b6:∀y∈scope.names,y.2=.free->scope.names.lookup y.1=V .free)(b7:∀y∈scope.names,y.2=.local->scope.names.lookup y.1=V .local)(c6:∀y∈scope.names,y.2=.free->X.env.kindOf y.1=V .cell\/X.env.kindOf y.1=V .free)(c4:u_ X.N N' caps scope)(hi:jp X tg iter wi)(hg:∀cl C a6 a7 ex,kx (jg X scope N' cl C a6 a7 ex) tg g)(ht:∀cl C a6 a7 ex,of (jg X scope N' cl C a6 a7 ex) ifs tc)(he:∀cl C a6 a7 ex,bJ (jg X scope N' cl C a6 a7 ex) elt te)(hs:∀x,rN iter X.env x=aU x)(I:aE X l σ H s)(h:oS wi caps g tc te σ H Q)(fin:∀(D C:Y)(A:ae)(s4:ak)(f:Flow),Me X l σ A s4 C->Q (.c D) A->PE (aH X.prog X.w) X.A X.a use R (.ref D) C (.ok f) s4):aA (aH X.prog X.w) X.A (PC (.ListComp elt [(tg,iter,ifs,0)] scope pos) scope X.env pp (newList []) (Py [(tg,iter,ifs,0)]) (Px [(tg,iter,ifs,0)] X.env) use) R X.a s:=by
 have a9:∀y∈scope.names,y.2=.free->∃c,X.env.cells.lookup y.1=V c:=λy hy e=>I.b.has y.1<|c6 y hy e;refine wpAny_comprehension_free (use:=use) O hs (Vz a9) hk b7 ?_;refine bM (hi l s σ H _ I h) λxv s1 h1=>bM h1 λi9 s2 h2=>?_;obtain⟨it,fp,tn,j2,H2,e,I2,T,c7,f2,q⟩:=h2;subst e;have b8:H2 s2⁻¹=Z:=I2.a.j<|aW _;obtain⟨j3,⟨m0,w0⟩,d5⟩:=q s2⁻¹ b8;refine no<|Uv λE a0 K L=>?_;dsimp only at a0 K L ⊢;generalize hD:s2⁻¹=D at *;obtain⟨k,e3⟩:∃k:ak,k={s2 with heap:=s2.heap.push {cls:=.type "list",dict:=Z,data:=.seq ([]:List aa).toArray}}:=(_,O);have h3:k.heap=s2.heap.push {cls:=.type "list",dict:=Z,data:=.seq ([]:List aa).toArray}:=by rw[e3]
 rw[<-h3] at a0 K L ⊢;have b0:k⁻¹=D+1:=by rw[h3,t_,hD]
 have I3:aE X l σ (aw H2 D<|.a []) k:=by
  rw[e3,<-hD];exact I2.B5 (t':=s2.toks) (ys:=[]) .nil<|eM _
 obtain⟨Xc,M⟩:∃Xc,Xc=jg X scope N' (jb (k⁻¹+1) scope.names<|gE X.env.cells scope.names []) k⁻¹ k (aw H2 D<|.a []) fp:=(_,O);have f9:kx Xc tg g:=by rw[M];exact hg _ _ _ _ _
 have g0:of Xc ifs tc:=by rw[M];exact ht _ _ _ _ _
 have g1:bJ Xc elt te:=by rw[M];exact he _ _ _ _ _
 have xP:Xc.prog=X.prog:=by rw[M];rfl
 have xw:Xc.w=X.w:=by rw[M];rfl
 have xK:Xc.K=X.K:=by rw[M];rfl
 have xA:Xc.A=X.A:=by rw[M];rfl
 have xc:Xc.b=af:=by rw[M];exact hc
 have xe:Xc.env=BQ scope (jb (k⁻¹+1) scope.names<|gE X.env.cells scope.names []) k⁻¹ X.env:=by rw[M];rfl
 have xE:Xc.a=λ_ _=>False:=by rw[M];rfl
 have U:∀x c,(jb (k⁻¹+1) scope.names<|gE X.env.cells scope.names []).lookup x=V c->(X.env.cells.lookup x=V c/\scope.names.lookup x=V .free)\/(scope.names.lookup x=V .cell/\k⁻¹+1<=c/\E.IsCell c Z):=λx c e=>by
  rcases L x c (pD e) with q|⟨q1,q2,q3⟩
  ·obtain⟨q4,q5⟩:=Af a9 (λp hp=>bu hp (by simp)) q
   exact .inl (q4,b6 _ q5 O)
  ·exact .inr (b5 _ q1 O,q2,q3)
 have d6:∀p∈gE X.env.cells scope.names [],p.2<k⁻¹+1:=λp hp=>by
  obtain⟨q4,_⟩:=Af a9 (λp hp=>bu hp (by simp)) (x:=p.1) (c:=p.2) hp;obtain⟨v,o,ho,_⟩:=I3.g p.1 p.2 q4;exact lM<|cR ho
 have b1:∀b∈fp,b≠D/\b<D:=λb w=>by
  obtain⟨ob,eb,_⟩:=T.a 0 _ c7 b w;have:=cR eb;rw[hD] at this;exact(dz this,this)
 have j0:∀b∈li X.e,b<D:=λb w=>by
  obtain⟨_,ob,eb,_⟩:=I2.B2.mem w;have:=cR eb;rw[hD] at this;exact this
 have P:∀b o,k.heap.get? b=V o->E.get? b=V o:=K;have g2:(aw H2 D<|.a []) k⁻¹=Z:=I3.a.j<|aW _;have Ic:aE Xc l (wW caps σ) (aw H2 D<|.a []) {k with heap:=E}:=by
  have g3:Xc.q:=by
   rw[M];refine(I.b.e,hk,I.b.j,I.b.l,aW _,λx y c a b=>Em scope.names _ _ (λx y c p q=>I.b.n x y c (Af a9 (λp hp=>bu hp (by simp)) p).1 (Af a9 (λp hp=>bu hp (by simp)) q).1) d6 x y c (pD a)<|pD b,λx hx=>?_,(λx c a e=>by
    rcases U x c e with ⟨_,q⟩|⟨_,q,_⟩
    ·have a':=io a
     rw[q] at a';cases a'
    ·exact Qu q),I.b.a,I.b.r,.inl O,λb w=>(?_,λx c e=>?_),λb o e=>?_,?_,λb o e z=>?_,λb w z=>?_,?_,λb w=>?_)
   ·have g4:(relabel scope X.env).names.lookup x=V .cell\/(relabel scope X.env).names.lookup x=V .free:=hx
    have g5:∃k',scope.names.lookup x=V k'/\(k'=.free\/k'=.cell):=by
     rcases g4 with q|q
     ·obtain⟨k',e1,G⟩:=DI q
      rcases G with G|⟨G,_⟩
      ·exact(k',e1,.inr G.symm)
      ·exact(k',e1,.inl G)
     ·obtain⟨k',e1,G⟩:=DI q
      rcases G with G|⟨G,_⟩
      ·exact(k',e1,.inl G.symm)
      ·exact(k',e1,.inl G)
    obtain⟨k',e1,G⟩:=g5;have hm:=pD e1;rcases G with rfl|rfl
    ·obtain⟨c,g6⟩:=Ag (cells:=X.env.cells) (acc:=[])<|.inl hm
     obtain⟨d,hd⟩:=Ef g6;exact HX.mp<|BU scope.names (k⁻¹+1) _<|.inr (by rw[hd];rfl)
    ·exact HX.mp<|BU scope.names (k⁻¹+1) _<|.inl e1
   ·show b≠k⁻¹
    exact dz (by rw[b0];exact lM (b1 b w).2)
   ·rcases U x c e with ⟨q,_⟩|⟨_,q,_⟩
    ·exact(f2 b w).2.2.2.2.1 x c q
    ·have h1:b<k⁻¹+1:=by rw[b0];exact lM<|lM (b1 b w).2
     exact lL<|iB h1 q
   ·exact I3.bs b o e
   ·exact dg I.b.g I3.sz
   ·obtain⟨f,_,_,fx,_,_⟩:=f2 b z
    rcases fx with fx|fx
    ·exact I.b.i b o e fx
    ·have:=iB (cR e) I.b.g
     exact ø this fx
   ·rcases bZ.mp (I2.A3 b z) with r|r
    ·exact(f2 b w).2.1 r
    ·exact(f2 b w).2.2.1 r
   ·exact I3.B2
   ·exact I3.C0 b w
  refine(g3,(by rw[M];rfl),I3.f,?_,?_,λx c e=>?_,?_,λx c e=>?_,λp hp=>?_,?_,?_)
  ·rw[M]
   exact n_.j P
  ·rw[xe]
   refine(_,a0,λi x v e1 G e3=>?_);obtain⟨c1,c2⟩:=c4;unfold wW at G;rw[cB] at G;cases e4:caps[i]? with
   |none=>rw[e4] at G;cases G
   |some cc=>
    rw[e4] at G;cases cc with
    |none=>cases G
    |some j=>
     obtain⟨y,d1,d2,d3⟩:=c2 i j e4;have d7:N'[i]?=V x:=by rw[M] at e1;exact e1
     rw[d1] at d7;have g7:y=x:=cH d7;subst g7;have e5:σ[j]?=V (V v):=by
      simp only[nB,rZ] at G;cases e6:σ[j]? with
      |none=>rw[e6] at G;cases G
      |some ov=>rw[e6] at G;simp only[qI] at G;rw[G]
     have hm:=pD d3;have g8:Ai X.env.scope y:=by
      rcases c6 _ hm O with q|q
      ·exact .inr<|.inl q
      ·exact .inr<|.inr q
     obtain⟨m,_,hl⟩:=I3.d;obtain⟨u,ru,lk⟩:=hl j y v d2 e5 g8;refine(u,ru,?_);have g9:∃c,X.env.cells.lookup y=V c/\k.heap.IsCell c (V u):=by
      rcases lk with ⟨k1,_⟩|⟨_,c,k2,k3⟩
      ·rcases c6 _ hm O with q|q
       ·rw[k1] at q;cases q
       ·rw[k1] at q;cases q
      ·exact(c,k2,k3)
     obtain⟨c,k2,k3⟩:=g9;obtain⟨d,h0⟩:=Ag (cells:=X.env.cells) (acc:=[])<|.inl hm;obtain⟨d',h5⟩:=Ef h0;obtain⟨d2,d8⟩:=HX.mp<|BU scope.names (k⁻¹+1) (gE X.env.cells scope.names []) (x:=y)<|.inr (by rw[h5];rfl);have:c=d2:=by
      rcases U y d2 d8 with ⟨q,_⟩|⟨q,_⟩
      ·rw[k2] at q
       exact cH q
      ·rw[d3] at q;cases q
     subst this;refine .inr (?_,c,d8,k3.keeps P);have rl:=DR (scope:=scope) (env:=X.env) (x:=y) (names:=scope.names)<|.inl d3;rcases rl with q|q
     ·exact .inr q
     ·exact .inl q
  ·rw[xe] at e
   rcases U x c e with ⟨q,_⟩|⟨_,_,q⟩
   ·obtain⟨v,k3⟩:=I3.g x c q
    exact(v,k3.keeps P)
   ·exact(_,q)
  ·rw[xe];exact g2
  ·rw[xe] at e
   rcases U x c e with ⟨q,_⟩|⟨_,q,_⟩
   ·exact I3.k x c q
   ·exact I3.a.j<|Qu q
  ·have i0:p∈X.h++l:=by rw[M] at hp;exact hp
   obtain⟨a1,a2,a3,a4,a5⟩:=I3.e p i0;refine(P _ _ a1,a2,?_,?_,a5)
   ·rw[xe]
    show p.1≠k⁻¹;exact dz<|cR a1
   ·rw[M]
    intro z;rcases bZ.mp (I3.A3 p.1 z) with r|r
    ·exact a3 r
    ·exact a4 r
  ·rw[xP,xw]
   exact I3.a.q P
  ·unfold wW
   rw[ax,c4.1,M]
   rfl
 have c8:∀{t:aO}{A:ae}{s4:ak}{h':aT},aE Xc l t A s4->jc k⁻¹ s4.heap h'->aE X l σ A {s4 with heap:=h'}:=λ{t A s4 h'} I4 a8=>by
  have b9:∀b o,s2.heap.get? b=V o->b≠D/\b≠k⁻¹:=λb o e=>by
   have w:=cR e;rw[hD] at w;exact(dz w,dz (by rw[b0];exact lM w))
  have c0:∀b o,s2.heap.get? b=V o->k.heap.get? b=V o:=λb o e=>by rw[h3];exact cx _ e
  have S:n_ (li X.e) fp (aw H2 D<|.a []) A k.heap s4.heap:=by
   have:=I4.base;rw[M] at this;exact this
  have d9:A k⁻¹=Z:=by
   have:=I4.h;rw[xe] at this;exact this
  have i1:s4.os=s2.os:=by
   have:=I4.l;rw[M] at this;rw[this];show k.os=s2.os;rw[e3]
  refine I2.B3 (s':={s4 with heap:=h'}) (ch:=fp) i1 (λb o q n w hx=>?_,λb o q n w hx=>?_,λb o q n hx=>?_,λb o q hx=>?_,λb xs q=>?_,λb o u q=>?_,λb ps q=>?_) ?_ I4.f λb w=>?_
  ·obtain⟨n1,n2⟩:=b9 b o q
   exact(a8.2 b n2).trans<|S.c b o (c0 b o q) (by rw[bG n1];exact n) w hx
  ·obtain⟨n1,n2⟩:=b9 b o q
   obtain⟨sl,e⟩:=S.d b o (c0 b o q) (by rw[bG n1];exact n) w hx;exact(sl,(a8.2 b n2).trans e)
  ·obtain⟨n1,n2⟩:=b9 b o q
   exact S.a b o (c0 b o q) (by rw[bG n1];exact n) hx
  ·obtain⟨n1,n2⟩:=b9 b o q
   obtain⟨o',e⟩:=S.f b o (c0 b o q) hx;exact(o',(a8.2 b n2).trans e)
  ·exact S.g b xs (by rw[bG<|dJ q b8];exact q)
  ·exact S.e b o u (by rw[bG<|dJ q b8];exact q)
  ·exact S.i b ps (by rw[bG<|dJ q b8];exact q)
  ·intro b u e
   have e0:=I4.a b u e;rw[xP,xw] at e0;refine e0.j (λc v hc q=>(a8.2 c ?_).trans q) (λ_ q=>q) λ_ _ q=>q;rintro rfl;rcases hc with z|z
   ·rw[<-z,d9] at e;cases e
   ·rw[d9] at z;cases z
  ·obtain⟨f0,f1,f3,f4,f5,f6⟩:=f2 b w
   exact(f4,f1,f5,f6)
 have b2:∀{A:ae},(∀b∈fp,A b=Z)->∀b∈fp,gl Xc l A b:=λ{A} hn b w=>by
  obtain⟨f0,f1,f3,f4,f5,f6⟩:=f2 b w;refine(hn b w,?_,?_,.inl (by rw[M];exact w),λx c e=>?_,λp hp=>?_)
  ·rw[xe]
   show b≠k⁻¹;exact dz (by rw[b0];exact lM (b1 b w).2)
  ·rw[M]
   intro z;rcases bZ.mp (I2.A3 b z) with r|r
   ·exact f1 r
   ·exact f3 r
  ·rw[xe] at e
   rcases U x c e with ⟨q,_⟩|⟨_,q,_⟩
   ·exact f5 x c q
   ·have h1:b<k⁻¹+1:=by rw[b0];exact lM<|lM (b1 b w).2
    exact lL<|iB h1 q
  ·rw[M] at hp
   exact f6 p hp
 subst M;have c5:∀n s',(∃i t A,aE (jg X scope N' (jb (k⁻¹+1) scope.names<|gE X.env.cells scope.names []) k⁻¹ k (aw H2 D<|.a []) fp) l t A s'/\tn i s'.heap/\(∀b∈fp,A b=Z)/\j3 i n t A)->
   lF (aH X.prog X.w) X.A (.compLoop (.ListComp elt [(tg,iter,ifs,0)] scope pos) 0 (.ref it) (.ref D)<|BQ scope (jb (k⁻¹+1) scope.names<|gE X.env.cells scope.names []) k⁻¹ X.env) (PE (aH X.prog X.w) X.A X.a use R (.ref D) k⁻¹) s':=by
  intro n0 j1 i2;refine codeAny_loop O (λn s'=>∃i t A,aE (jg X scope N' (jb (k⁻¹+1) scope.names<|gE X.env.cells scope.names []) k⁻¹ k (aw H2 D<|.a []) fp) l t A s'/\tn i s'.heap/\(∀b∈fp,A b=Z)/\j3 i n t A) (λn s' hI=>?_) n0 i2;obtain⟨i,t,A,I',e7,e8,w'⟩:=hI;show aA _ X.A ((compTurn (.ListComp elt [(tg,iter,ifs,0)] scope pos) 0 (.ref it) (.ref D)<|BQ scope (jb (k⁻¹+1) scope.names<|gE X.env.cells scope.names []) k⁻¹ X.env).onRaise (λx=>do noteFrame x (BQ scope (jb (k⁻¹+1) scope.names<|gE X.env.cells scope.names []) k⁻¹ X.env);theTreesLotGoes x)) _ _ s';refine wpAny_noted ?_;rw[compTurn_list];refine aj<|O'<|aj ?_;rcases d5 i n t A w' with ⟨f7,qn⟩|⟨go,f8⟩
  ·refine bM (T.done (jg X scope N' (jb (k⁻¹+1) scope.names<|gE X.env.cells scope.names []) k⁻¹ k (aw H2 D<|.a []) fp) O O O hc i l s' t A _ I' (b2 e8) e7 f7) λr s4 (hr,I4)=>?_
   subst hr;refine aI ?_;obtain⟨m,hn,_⟩:=id I4.d;refine fin D _ A s4 _ ((m,hn),I3.sz,λe=>?_,λx c e=>?_,λp hp=>dz<|cR (I3.e p hp).1,I4.h,λh' a8=>c8 I4 a8) qn
   ·obtain⟨m3,i3,_⟩:=I3.d
    obtain⟨o3,_,_,c9,_⟩:=i3;exact bu e.symm<|dz<|cR c9
   ·obtain⟨v,hv⟩:=I3.g x c e
    obtain⟨o3,c9,_⟩:=hv;exact dz<|cR c9
  ·refine bM (T.d (jg X scope N' (jb (k⁻¹+1) scope.names<|gE X.env.cells scope.names []) k⁻¹ k (aw H2 D<|.a []) fp) O O O hc i l s' t A _ I' (b2 e8) e7 go) λr s4 (u,hr,h4)=>?_
   subst hr;refine aj<|bM h4 λ_ s5 (x,H5,I5,r5,y5,d0,i4)=>?_;have i5:=I5.C4 (b2 i4)<|T.a _ _ d0;refine aj<|kL (f9 _ s5 t H5 x u _ i5 r5<|f8 x H5 y5) (λ_ s6 h6=>?_) λ_ _ z=>z.elim;obtain⟨d4,H6,I6,q6⟩:=h6;refine aj<|kL (g0 _ s6 d4 H6 _ I6 q6) (λok s7 h7=>?_) λ_ _ z=>z.elim;obtain⟨H7,I7,q7⟩:=h7;have b3:∀{c3:aO}{H8:ae}{s8:ak}{m':Nat},aE (jg X scope N' (jb (k⁻¹+1) scope.names<|gE X.env.cells scope.names []) k⁻¹ k (aw H2 D<|.a []) fp) (l++wK fp s5.heap) c3 H8 s8->m'<n->j3 (i+1) m' c3 H8->
     ∃m,m<n/\∃i t A,aE (jg X scope N' (jb (k⁻¹+1) scope.names<|gE X.env.cells scope.names []) k⁻¹ k (aw H2 D<|.a []) fp) l t A s8/\tn i s8.heap/\(∀b∈fp,A b=Z)/\j3 i m t A:=λ{c3 H8 s8 m'} I8 hm w8=>by
    refine(m',hm,i+1,c3,H8,I8.A9,T.c _ _ _ d0 λb w o e=>(I8.e (abd b o)<|gh _<|gh _<|Ab w e).1,λb w=>?_,w8);obtain⟨o,e,d⟩:=T.a _ _ d0 b w;exact(I8.e (abd b o)<|gh _<|gh _<|Ab w e).2.1
   cases ok with
   |false=>
    obtain⟨m',hm,w7⟩:=q7;exact aI (O,b3 I7 hm w7)
   |true=>
    refine aj<|aj<|kL (g1 _ s7 d4 H7 _ I7 q7) (λv s8 h8=>?_) λ_ _ z=>z.elim;obtain⟨y,H8,I8,r8,ys,m',i6,i7,i8,w8⟩:=h8;refine aj<|kL (rh (X:=jg X scope N' (jb (k⁻¹+1) scope.names<|gE X.env.cells scope.names []) k⁻¹ k (aw H2 D<|.a []) fp) _ s8 d4 H8 (.c D) [y] (.ref D) [v] (λ_ H9=>H9=aw H8 D (.a<|ys++[y])) I8 O (.cons r8 .nil) (D,ys,y,O,O,i6,i7,O)) (λ_ s9 h9=>?_) λ_ _ z=>z.elim;obtain⟨_,H9,I9,_,e9⟩:=h9;subst e9;exact aI<|aI (O,b3 I9 i8 w8)
 have b4:∃i t A,aE (jg X scope N' (jb (k⁻¹+1) scope.names<|gE X.env.cells scope.names []) k⁻¹ k (aw H2 D<|.a []) fp) l t A {k with heap:=E}/\tn i ({k with heap:=E}:ak).heap/\(∀b∈fp,A b=Z)/\j3 i m0 t A:=by
  refine(0,wW caps σ,aw H2 D<|.a [],Ic,T.c 0 _ _ c7 λb w o e=>P b o (by rw[h3];exact cx _ e),λb w=>?_,w0);rw[bG (b1 b w).1];exact(f2 b w).1
 have es:({s2 with heap:=E}:ak)={k with heap:=E}:=by rw[e3]
 show lF (aH X.prog X.w) X.A _ _ ({s2 with heap:=E}:ak);rw[es];refine codeAny_compStart_list (c5 m0 _ b4)<|T.e _ 0 _ _ _ ?_<|c5 m0 _ b4;exact T.c 0 _ _ c7 λb w o e=>P b o (by rw[h3];exact cx _ e)
def uV(c:∀y∈scope.names,y.2≠.cell)(d:List (au×Y))(C:Y)(a:ak)(b:ae)(f:List Y):jQ X scope N' d C a b f=jg X scope N' d C a b f:=by
 unfold jg;have:(λx=>aC<|scope.names.lookup x=V cE)=λ_=>aB:=by
  funext x
  exact cK λe=>c _ (pD e) O
 rw[this]
 rfl
def Vx(t:X.b=af)(u:scope.kind=.function)(c:∀y∈scope.names,y.2≠.cell)(j:∀y∈scope.names,y.2=.free->scope.names.lookup y.1=V .free)(k:∀y∈scope.names,y.2=.local->scope.names.lookup y.1=V .local)(n:∀y∈scope.names,y.2=.free->X.env.kindOf y.1=V .cell\/X.env.kindOf y.1=V .free)(m:u_ X.N N' caps scope)(v:jp X tg iter wi)(w:∀d C a b i,kx (jQ X scope N' d C a b i) tg g)(z:∀d C a b i,of (jQ X scope N' d C a b i) ifs tc)(A:∀d C a b i,bJ (jQ X scope N' d C a b i) elt te)(E:∀x,rN iter X.env x=aU x)(I:aE X l o H s)(h:oS wi caps g tc te o H Q)(fin:∀(D C:Y)(p:ae)(q:ak)(f:Flow),Me X l o p q C->Q (.c D) p->PE (aH X.prog X.w) X.A X.a use R (.ref D) C (.ok f) q):aA (aH X.prog X.w) X.A (PC (.ListComp elt [(tg,iter,ifs,0)] scope pos) scope X.env r (newList []) (Py [(tg,iter,ifs,0)]) (Px [(tg,iter,ifs,0)] X.env) use) R X.a s:=
 Lz t u (λy G e=>bu e<|c y G) j k n m v (λd C a b i=>uV (X:=X) (N':=N') c d C a b i▸w d C a b i) (λd C a b i=>uV (X:=X) (N':=N') c d C a b i▸z d C a b i) (λd C a b i=>uV (X:=X) (N':=N') c d C a b i▸A d C a b i) E I h fin
def Uj(p:X.b=af)(r:scope.kind=.function)(e:∀y∈scope.names,y.2≠.cell)(c:∀y∈scope.names,y.2=.free->scope.names.lookup y.1=V .free)(d:∀y∈scope.names,y.2=.local->scope.names.lookup y.1=V .local)(l:∀y∈scope.names,y.2=.free->X.env.kindOf y.1=V .cell\/X.env.kindOf y.1=V .free)(i:u_ X.N N' caps scope)(t:jp X tg iter wi)(u:∀j C a b k,kx (jQ X scope N' j C a b k) tg g)(v:∀j C a b k,of (jQ X scope N' j C a b k) ifs tc)(w:∀j C a b k,bJ (jQ X scope N' j C a b k) elt te)(z:∀x,rN iter X.env x=aU x:=by intro _;rfl):bJ X (.ListComp elt [(tg,iter,ifs,0)] scope pos) (oS wi caps g tc te):=by
 intro o s K H Q I h;rw[eval_ListComp];refine Vx (use:=Z) p r e c d l i t u v w z I h λD C A M f L q=>?_;obtain⟨m,E⟩:=L.a;exact(m,E,λG n=>(.c D,A,L.f G n,O,q))
end
section
variable{prog:bw}{w:aX}{A:bY}{E:Ω}{s:ak}
def Rk{c t:Y}{i:Nat}{Q:Ω}(b:s.heap.IsTupleIter c t i)(j:s.heap.IsTuple t a)(k:a[i]?=V x)(l:∀f,f.IsTupleIter c t (i+1)->jc c s.heap f->Q x {s with heap:=f}):aA (aH prog w) A (rV<|.ref c) Q E s:=by
 obtain⟨o,e,m,d⟩:=id b;obtain⟨n,g,_,p,h⟩:=j;unfold rV;refine aj<|pB (name:=kf "__next__") b.typeIs HG<|lC HG b.typeIs acw ?_<|ac2 _;show aA _ _ (qE (.ref c) 0 >>= _) _ _ s;refine aj<|jv e d (x:=.ref t) O ?_;show aA _ _ (if(ab t==cA)=af then _ else _) _ _ s;rw[ap<|show ¬((ab t==cA)=af) from dT];show aA _ _ (qE (.ref c) 1 >>= _) _ _ s;refine aj<|jv e d (x:=.int i 0) O ?_;show aA _ _ (BM (.ref t) >>= _) _ _ s;refine aj<|jU g h ?_;simp only[su,k];refine aj<|BF e d (by simp)<|aI (x,O,aI<|l _ ?_<|mC ..);exact(_,yI _ e<|acb<|Hz d _,(acd ..).trans m,by
  rw[Hz d];simp[iy])
def Rl{d t:Y}{i:Nat}{b:Array aa}(l:A.handled=Z)(c:s.heap.IsTupleIter d t i)(n:s.heap.IsTuple t b)(p:b[i]?=Z)(q:∀f e,PZ d s.heap f->(∃o,f.get? e=V o/\o.cls=.type "StopIteration")->E (.ref e) {s with heap:=f}):aA (aH prog w) A (rV<|.ref d) Q E s:=by
 obtain⟨o,g,r,h⟩:=id c;obtain⟨u,j,_,v,k⟩:=n;unfold rV;refine aj<|pB (name:=kf "__next__") c.typeIs HG<|lC HG c.typeIs acw ?_<|ac2 _;show aA _ _ (qE (.ref d) 0 >>= _) _ _ s;refine aj<|jv g h (x:=.ref t) O ?_;show aA _ _ (if(ab t==cA)=af then _ else _) _ _ s;rw[ap<|show ¬((ab t==cA)=af) from dT];show aA _ _ (qE (.ref d) 1 >>= _) _ _ s;refine aj<|jv g h (x:=.int i 0) O ?_;show aA _ _ (BM (.ref t) >>= _) _ _ s;refine aj<|jU j k ?_;simp only[su,p];refine aj<|lv<|aj<|BF g h (by simp) ?_;show aA _ _ (yu (.type "StopIteration") [] >>= _) _ _ _;refine aj ?_;simp only[yu,Pu];refine aj<|no ?_ (by size_fits);refine aj (m:=Pz _ _)<|pA (a:=cA) (by first|rfl|(simp only[firstArgMember];rfl)) ?_;refine no ?_ (by size_fits);simp only[Po];refine aj<|Pe ?_
 first|rw[show A.in1.handled=Z from l]|rw[l]
 refine aj<|aI<|O_ ?_;exact q _ _ (((mC ..).extBut.push _).push _) (_,dF _ O,O)
end
def Rm{h c:aT}{b:Array aa}(x:h.IsTuple a b)(e:∀o,h.get? a=V o->c.get? a=V o):c.IsTuple a b:=let ⟨o,d,r⟩:=x;(o,e o d,r)
def Ja{A:bY}(m:A.handled=Z)(d t:Y)(j:t≠d)(a:Array aa):vZ c w A d [d,t] a.size (λi v=>a[i]?=V v) (λi h=>h.IsTupleIter d t i/\h.IsTuple t a) where
 live:=λ_ _ b=>let ⟨o,n,_⟩:=b.1;(o,n)
 frame:=λ_ _ _ b k=>(b.1.at λo e=>k d (by simp) o e,Rm b.2 λo e=>k t (by simp) o e)
 item:=λi s Q E l b p=>by
  refine Rk b.1 b.2 (x:=a[i]) (by simp[l]) λq f g=>?_;exact p _ q s.toks (by simp[l]) (f,b.2.extBut g.extBut j) g
 done:=λs Q E b r=>Rl m b.1 b.2 (by simp) r
structure zm(z TI TO i1 i2:Y)(fp1 fp2:List Y):Prop where
 d:z∉fp1
 e:z∉fp2
 g:TO∉fp1
 h:TO∉fp2
 b:i1∈fp1
 c:i2∈fp2
 f:i1∉fp2
 l:i2∉fp1
 i:TI≠z
 a:TO≠z
 j:TI≠TO
 k:TI≠i1
 m:TI≠i2
section
variable{prog:bw}{w:aX}{A:bY}{E:Ω}{s:ak}{z TI TO i1 i2:Y}{fp1 fp2:List Y}{n1 n2 i:Nat}{P1 P2:Nat->aa->Prop}{S1 S2:Nat->aT->Prop}{a b:aa}
def Rh{Q:Ω}(P:vZ prog w A i1 fp1 n1 P1 S1)(R:vZ prog w A i2 fp2 n2 P2 S2)(D:zm z TI TO i1 i2 fp1 fp2)(p:lH s.heap z TI TO .none)(a0:jx s.heap TI (.ref i1) (.ref i2))(a1:jx s.heap TO a b)(h1:S1 i s.heap)(h2:S2 i s.heap)(l1:i<n1)(l2:i<n2)(hQ:∀x y g tk,P1 i x->P2 i y->lH g z TI TO (iy s⁻¹)->jx g TO x y->S1 (i+1) g->S2 (i+1) g->jx g s⁻¹ x y->g.objs.size=s⁻¹+1->
   (∀c o,c≠z->c≠TO->c≠i1->c≠i2->s.heap.get? c=V o->g.get? c=V o)->Q (.ref s⁻¹) {s with heap:=g,toks:=tk}):
  aA (aH prog w) A (Builtin.«zip.__next__» ([.ref z],[])) (λfin s'=>∃v,fin=.done (.ret v)/\Q v s') E s:=by
 have h:∀c∈fp1,c≠z:=λc d e=>D.d<|e▸d;have j:∀c∈fp2,c≠z:=λc d e=>D.e<|e▸d;have k:∀c∈fp1,c≠TO:=λc d e=>D.g<|e▸d;have l:∀c∈fp2,c≠TO:=λc d e=>D.h<|e▸d;have a2:∀c∈fp2,c≠i1:=λc d e=>D.f<|e▸d;have a3:∀c∈fp1,c≠i2:=λc d e=>D.l<|e▸d;have a4:i1≠z:=h _ D.b;have a5:i2≠z:=j _ D.c;have q:TO≠i1:=(k _ D.b).symm;have r:TO≠i2:=(l _ D.c).symm;show aA _ _ (qE (.ref z) 2 >>= _) _ _ _;refine aj<|jv p O (x:=.bool aB) O ?_;show aA _ _ (qE (.ref z) 3 >>= _) _ _ _;refine aj<|jv p O (x:=.ref TI) O ?_;refine aj<|jU a0 O ?_;show aA _ _ (HL (.ref z) >>= _) _ _ _;refine aj ?_;unfold HL;refine aj<|jv p O (x:=.none) O<|aI ?_;simp only[dU];refine aj<|lv ?_;refine aj<|jv p O (x:=.ref TO) O ?_;refine aj<|nj p (by simp) λg1 m t=>?_;replace m:lH g1 z TI TO .ellipsis:=m;refine aj ?_;simp only[aea,ad9,ID,QF];refine aj<|aj<|GY ?_;show aA _ _ (rV (.ref i1) >>= _) _ _ _;refine aj<|P.item i _ _ _ l1 (P.frame _ _ _ h1 λc d o e=>t.extBut c o (h c d) e) λx g2 a6 px s2 u=>aI ?_;have t2:jx g2 TO a b:=u.extBut _ _ q<|t.extBut _ _ D.a a1;refine aj<|jU t2 O ?_;refine aj<|OZ t2 λg3 t3 C=>?_;replace t3:jx g3 TO x b:=t3;refine aj<|mw<|aI ?_;refine aj<|aj<|GY ?_;show aA _ _ (rV (.ref i2) >>= _) _ _ _;refine aj<|R.item i _ _ _ l2 (R.frame _ _ _ h2 λc d o e=>C.extBut c o (l c d)<|u.extBut c o (a2 c d)<|t.extBut c o (j c d) e) λy g4 a7 py s4 G=>aI ?_;have t4:jx g4 TO x b:=G.extBut _ _ r t3;refine aj<|jU t4 O ?_;refine aj<|OZ t4 λf S H=>?_;replace S:jx f TO x y:=S;refine aj<|mw<|aI<|aI ?_;refine aj<|jU S O ?_;refine aj<|G_ ?_;have I:f.objs.size=s⁻¹:=by rw[H.1,G.1,C.1,u.1,t.1]
 have z5:lH f z TI TO .ellipsis:=H.extBut _ _ D.a.symm<|G.extBut _ _ a5.symm<|C.extBut _ _ D.a.symm<|u.extBut _ _ a4.symm m;have kk:∀c o,c≠z->c≠TO->c≠i1->c≠i2->s.heap.get? c=V o->f.get? c=V o:=λc o n T c3 c4 e=>
  H.extBut _ _ T<|G.extBut _ _ c4<|C.extBut _ _ T<|u.extBut _ _ c3<|t.extBut _ _ n e
 have d1:S1 (i+1) f:=P.frame _ _ _ s2 λc d o e=>H.extBut c o (k c d)<|G.extBut c o (a3 c d)<|C.extBut c o (k c d) e;have d2:S2 (i+1) f:=R.frame _ _ _ s4 λc d o e=>H.extBut c o (l c d) e;have K:z<f.objs.size:=cR z5;have e1:∀c∈fp1,∀o,f.get? c=V o->c<f.objs.size:=λc _ o e=>cR e;show aA _ _ (adf (.ref z) (.ref f.objs.size) >>= _) _ _ _;refine aj ?_;unfold adf;have z6:lH (f.push {cls:=.type "tuple",data:=.seq #[x,y]}) z TI TO .ellipsis:=cx _ z5;refine aj<|nj z6 (by simp) λg7 z7 k7=>?_;replace z7:lH g7 z TI TO (iy f.objs.size):=z7;refine nj z7 (by simp) λL U k8=>?_;replace U:lH L z TI TO (iy f.objs.size):=U;have X:∀c o,c≠z->f.get? c=V o->L.get? c=V o:=λc o n e=>k8.extBut _ _ n<|k7.extBut _ _ n<|cx _ e;have T8:jx L f.objs.size x y:=k8.extBut _ _ (lL K)<|k7.extBut _ _ (lL K)<|dF _ O;have M:L.objs.size=f.objs.size+1:=by rw[k8.1,k7.1,t_]
 rw[I] at U T8 M;refine aI (_,O,?_);show Q (.ref f.objs.size) _;rw[I];exact hQ x y L _ px py U (X _ _ D.a S) (P.frame _ _ _ d1 λc d o e=>X c o (h c d) e) (R.frame _ _ _ d2 λc d o e=>X c o (j c d) e) T8 M λc o n T c3 c4 e=>X c o n<|kk c o n T c3 c4 e
def Ri(v:vZ prog w A i1 fp1 n1 P1 S1)(D2:vZ prog w A i2 fp2 n2 P2 S2)(D:zm z TI TO i1 i2 fp1 fp2)(l:lH s.heap z TI TO .none)(y:jx s.heap TI (.ref i1) (.ref i2))(C:jx s.heap TO a b)(h1:S1 i s.heap)(h2:S2 i s.heap)(m:i=n1\/(i<n1/\i=n2))(hE:∀G e tk,(∀c o,c≠z->c≠TO->c≠i1->c≠i2->s.heap.get? c=V o->G.get? c=V o)->(∃o,G.get? e=V o/\o.cls=.type "StopIteration")->E (.ref e) {s with heap:=G,toks:=tk}):aA (aH prog w) A (Builtin.«zip.__next__» ([.ref z],[])) Q E s:=by
 have n:∀c∈fp1,c≠z:=λc d e=>D.d<|e▸d;have p:∀c∈fp2,c≠z:=λc d e=>D.e<|e▸d;have H:∀c∈fp1,c≠TO:=λc d e=>D.g<|e▸d;have I:∀c∈fp2,c≠TO:=λc d e=>D.h<|e▸d;have K:∀c∈fp2,c≠i1:=λc d e=>D.f<|e▸d;have q:i1≠z:=n _ D.b;have L:i2≠z:=p _ D.c;have r:TO≠i1:=(H _ D.b).symm;show aA _ _ (qE (.ref z) 2 >>= _) _ _ _;refine aj<|jv l O (x:=.bool aB) O ?_;show aA _ _ (qE (.ref z) 3 >>= _) _ _ _;refine aj<|jv l O (x:=.ref TI) O ?_;refine aj<|jU y O ?_;show aA _ _ (HL (.ref z) >>= _) _ _ _;refine aj ?_;unfold HL;refine aj<|jv l O (x:=.none) O<|aI ?_;simp only[dU];refine aj<|lv ?_;refine aj<|jv l O (x:=.ref TO) O ?_;refine aj<|nj l (by simp) λg1 h t=>?_;replace h:lH g1 z TI TO .ellipsis:=h;refine aj ?_;simp only[aea,ad9,ID,QF];refine aj<|aj<|GY ?_;have f1:=v.frame _ _ _ h1 λc d o e=>t.extBut c o (n c d) e;rcases m with M|⟨l1,M⟩
 ·show aA _ _ (rV (.ref i1) >>= _) _ _ _
  refine aj<|v.done _ _ _ (M▸f1) λP e j R=>?_;obtain⟨S,f,g⟩:=R;have z2:lH P z TI TO .ellipsis:=j _ _ q.symm h;have T:e≠z:=λx=>by subst x;rw[z2] at f;cases f;simp at g
  refine nj z2 (by simp) λU _ k=>hE U e _ (λc o u _ X _ x=>k.extBut _ _ u<|j _ _ X<|t.extBut _ _ u x) (S,k.extBut _ _ T f,g)
 ·show aA _ _ (rV (.ref i1) >>= _) _ _ _
  refine aj<|v.item i _ _ _ l1 f1 λx P a0 px s2 j=>aI ?_;have t2:jx P TO a b:=j.extBut _ _ r<|t.extBut _ _ D.a C;refine aj<|jU t2 O ?_;refine aj<|OZ t2 λU t3 k=>?_;refine aj<|mw<|aI ?_;refine aj<|aj<|GY ?_;have f2:S2 i U:=D2.frame _ _ _ h2 λc d o e=>k.extBut c o (I c d)<|j.extBut c o (K c d)<|t.extBut c o (p c d) e;show aA _ _ (rV (.ref i2) >>= _) _ _ _;refine aj<|D2.done _ _ _ (M▸f2) λg4 e k4 R=>?_;obtain⟨S,f,g⟩:=R;have z4:lH g4 z TI TO .ellipsis:=k4 _ _ L.symm<|k.extBut _ _ D.a.symm<|j.extBut _ _ q.symm h;have T:e≠z:=λx=>by subst x;rw[z4] at f;cases f;simp at g
  refine nj z4 (by simp) λg5 _ k5=>hE g5 e _ (λc o u c2 X c4 x=>k5.extBut _ _ u<|k4 _ _ c4<|k.extBut _ _ c2<|j.extBut _ _ X<|t.extBut _ _ u x) (S,k5.extBut _ _ T f,g)
end
def Rj{A:bY}{z v p K L:Y}{H M:Nat}(P:vZ prog w A.in1 K C H P1 S1)(R:vZ prog w A.in1 L G M P2 S2)(D:zm z v p K L C G):WalksT prog w A z (z::v::p::(C++G)) [z,p,K,L] (gc H M) (λi S=>∃x y,P1 i x/\P2 i y/\S=#[x,y])
   (λi h=>lH h z v p .none/\jx h v (.ref K) (.ref L)/\(∃a b,jx h p a b)/\S1 i h/\S2 i h)
   (λi T h=>lH h z v p (iy T)/\jx h v (.ref K) (.ref L)/\(∃a b,jx h p a b)/\S1 (i+1) h/\S2 (i+1) h/\T≠z/\T≠p/\T≠K/\T≠L) where
 sub:=λc d=>by
  simp at d ⊢;rcases d with rfl|rfl|rfl|rfl
  ·simp
  ·simp
  ·exact .inr<|.inr<|.inr<|.inl D.b
  ·exact .inr<|.inr<|.inr<|.inr D.c
 frame:=λi h U j m=>by
  obtain⟨n,f,⟨a,b,g⟩,r,t⟩:=j;exact(m z (by simp) _ n,m v (by simp) _ f,(a,b,m p (by simp) _ g),P.frame _ _ _ r λc d o e=>m c (by simp[d]) o e,R.frame _ _ _ t λc d o e=>m c (by simp[d]) o e)
 item:=λi s Q E hi j I=>by
  obtain⟨n,f,⟨a,b,g⟩,r,t⟩:=j;have u:s.TypeIs (.ref z) "zip":=(_,n,O);unfold kd;refine aj (tN (pB (name:=kf "__next__") u HF (lC HF u acu
   (Rh P R D n f g r t (iB hi<|ad6 ..) (iB hi<|Ib ..) λx y U tk px py a1 a2 a3 a4 a5 a6 m=>aI ?_)<|ac1 _)))
  have lt:∀{c o},s.heap.get? c=V o->s⁻¹≠c:=λe=>lL<|cR e;obtain⟨o1,l1⟩:=P.live _ _ r;obtain⟨o2,l2⟩:=R.live _ _ t;exact I s⁻¹ #[x,y] U tk (_,_,px,py,O) (aW _) (_,a5,O,_,O) (a1,m _ _ D.i D.j D.k D.m f,(_,_,a2),a3,a4,lt n,lt g,lt l1,lt l2)
   λc o d e=>m c o (λx=>d (by simp[x])) (λx=>d (by simp[x])) (λx=>d (by simp[x])) (λx=>d (by simp[x])) e
 go:=λa7 k a8 i T s Q E hm I=>by
  obtain⟨n,f,⟨a,b,g⟩,r,t,_⟩:=hm;refine wpAny_letOwnedTupleGo_zip n λU a0 l=>I U (a0,l.extBut _ _ D.i f,(a,b,l.extBut _ _ D.a g),
   P.frame _ _ _ r λc d o e=>l.extBut c o (λq=>D.d<|q▸d) e,R.frame _ _ _ t λc d o e=>l.extBut c o (λq=>D.e<|q▸d) e) λc o d e=>l.extBut _ _ (λx=>d (by simp[x])) e
 apart:=λi T h hm u=>by
  obtain⟨_,_,_,_,_,t1,t2,t3,t4⟩:=hm;simp at u;rcases u with rfl|rfl|rfl|rfl
  ·exact t1 O
  ·exact t2 O
  ·exact t3 O
  ·exact t4 O
 done:=λs Q E j I=>by
  obtain⟨n,f,⟨a,b,g⟩,r,t⟩:=j;have u:s.TypeIs (.ref z) "zip":=(_,n,O);have X:gc H M=H\/(gc H M<H/\gc H M=M):=ω
  unfold kd;refine aj (tN (pB (name:=kf "__next__") u HF
  <|lC HF u acu (Ri P R D n f g r t X λU e tk m he=>?_)<|ac1 _))
  obtain⟨o,ho,d⟩:=he;refine aj<|Ha (T:="StopIteration") (b:=af) (o,ho,d) Pw ?_;exact aI<|I _ tk λc o d e=>m c o (λx=>d (by simp[x])) (λx=>d (by simp[x])) (λx=>d (by simp[x])) (λx=>d (by simp[x])) e
 self:=λi s Q E j I=>Pa j.1 I
section
variable{X:bf}{pins:Ψ}{σ:aO}{H:ae}{s:ak}{h':aT}
def aE.N{t':Nat}{ch:List Y}(I:aE X pins σ H s)(f:∀b∈ch,gl X pins H b)(k:∀b o,b∉ch->s.heap.get? b=V o->h'.get? b=V o):aE X pins σ H {s with heap:=h',toks:=t'}:=by
 have d:∀b u,H b=V u->b∉ch:=λb u e z=>by have:=(f b z).1;rw[this] at e;cases e
 refine I.step (g':=s.gens) (d':=s.drawn) (ch:=ch) (λb g=>?_) (λb o _ _ a e _=>k b o a e) (λb o _ _ a e _=>(o.slots,k b o a e)) (λ_ _ _ _ n=>n)
  (λb o a e=>(o,k b o a e)) (λ_ _ e=>e) (λ_ _ _ e=>e) (λb y e=>(#[],by rw[e];simp)) (λm h=>?_) (λb u e=>?_) I.f
 ·obtain⟨A,i,C,j,l,p⟩:=f b g
  exact(j,i,l,p)
 ·obtain⟨o,t,w,x,r⟩:=h
  exact(o,t,w,k _ o (λz=>(f _ z).2.1 O) x,r)
 ·refine(I.a b u e).j (λc v a q=>k c v ?_ q) (λ_ q=>q) λ_ _ q=>q
  rcases a with z|z
  ·rw[z];exact d b u e
  ·exact d c _ z
def aE.B9{a:Y}(I:aE X pins σ H s)(d:H a=Z)(i:X.d⁻¹<=a)(j:a≠X.env.locals)(k:∀x c,X.env.cells.lookup x=V c->c≠a)(l:∀p∈X.h++pins,p.1≠a)(h:dt X.prog X.w (aw H a o) s.heap a o):aE X pins σ (aw H a o) s:=by
 refine I.step (h':=s.heap) (g':=s.gens) (t':=s.toks) (d':=s.drawn) (ch:=[a]) (λb f=>?_) (λb o _ _ g e _=>e) (λb o _ _ g e _=>(o.slots,e)) (λb o g e n=>?_)
  (λb o g e=>(o,e)) (λb r e=>?_) (λb o u e=>?_) (λb v e=>(#[],?_)) (λm t=>t) (λb u e=>?_) I.f
 ·have e:b=a:=by simpa using f
  subst e;exact(.inr i,j,k,l)
 ·rw[bG (λz=>g (by simp[z]))];exact n
 ·rw[bG<|dJ e d];exact e
 ·rw[bG<|dJ e d];exact e
 ·rw[bG<|dJ e d,e];simp
 ·by_cases f:b=a
  ·subst f;rw[ay] at e;cases e;exact h
  ·rw[bG f] at e
   exact(I.a b u e).j (λ_ _ _ q=>q) (λc q=>by rw[bG<|dJ q d];exact q) λc r q=>by rw[bG<|dJ q d];exact q
def aE.C1{t':Nat}{ch:List Y}{a:Y}{o:dh}(I:aE X pins σ H s)(e:∀b∈ch,gl X pins H b)(k:∀b o,b∉ch->s.heap.get? b=V o->h'.get? b=V o)(c:s⁻¹<=a)(d:dt X.prog X.w (aw H a o) h' a o):aE X pins σ (aw H a o) {s with heap:=h',toks:=t'}:=by
 have f:aE X pins σ H {s with heap:=h',toks:=t'}:=I.N e k;obtain⟨g,h,l,m,i,j⟩:=I.M c<|I.a.j c;exact f.B9 g (dg I.sz c) h i j d
def Li{b t:Y}(I:aE X pins σ H s)(f:gl X pins H b)(a:X.K.lookup t=V o):t≠b:=by
 intro z;subst z;have e:=I.b.e.a t o a;rcases f.2.2.2.1 with q|q
 ·exact I.b.i t o e q
 ·exact bu (iB (cR (I.b.bs t o e).1) q)<|oH _
def Lg{b t:Y}(I:aE X pins σ H s)(f:gl X pins H b)(h:fM X.K H t a):t≠b:=by
 rcases h with (h|⟨o,h⟩)|⟨o,_,_,c,_⟩
 ·exact dJ h f.1
 ·exact dJ h f.1
 ·exact Li I f c
def Vd{b t:Y}(I:aE X pins σ H s)(f:gl X pins H b)(h:bP X.K H t a):t≠b:=by
 rcases h with (h|⟨o,h⟩)|⟨o,_,_,c,_⟩
 ·exact dJ h f.1
 ·exact dJ h f.1
 ·exact Li I f c
end
def JV{P:bw}{w:aX}{K:aR}{a8:iZ}{l wr:List Y}{G:Y}{u:Nat->aT->Prop}{m:List bB}{k:Nat}{L:cD}(a5:G∈l)(M:∀i h,u i h->∀b∈l,∃o,h.get? b=V o/\∀v,o.data≠.cell v)(R:∀i h r,u i h->(∀b∈l,∀o,h.get? b=V o->r.get? b=V o)->u i r)(hw:∀b∈wr,b∈l)(a9:∀(X:bf),X.prog=P->X.w=w->X.K=K->X.b=af->∀(i:Nat)(a:Ψ)(s:ak)(x:aO)(H:ae),aE X a x H s->(∀b∈l,gl X a H b)->u i s.heap->(a8.a i H\/a8.b i H)->
   ∃(y:List Y)(n:Nat)(Pt:Nat->Array aa->Prop)(S:Nat->aT->Prop)(z:Nat->Y->aT->Prop),WalksT P w X.A G y wr n Pt S z/\S i s.heap/\(∀j h,S j h->u j h)/\
    (a8.a i H->i<n/\∀c,Pt i c->∃t:List ag,cw t c.toList/\t.length<=bQ/\∀p,H p=Z->a8.c i H (.c p) (aw H p<|.b t))/\(a8.b i H->i=n))
  (U:∀(A:bY)(i:Nat)(s:ak)(Q:Ω)(E:Ω),u i s.heap->Q (.ref G) s->aA (aH P w) A (pC<|.ref G) Q E s) :
  oe P w K (.Tuple m k L) a8 l G u where
 f:=a5
 a:=M
 c:=R
 d:=by
  intro X hP f hK hc i a s x H E I D st hg;obtain⟨y,n,Pt,S,z,WT,C,a0,g,_⟩:=a9 X hP f hK hc i a s x H I D st<|.inl hg;obtain⟨hi,hv⟩:=g hg;subst hP f hK;refine WT.item i s _ _ hi C λT c r tk hp hT a1 hm hk=>(.ref T,O,?_);obtain⟨t,rv,hz,hy⟩:=hv c hp;have I1:aE X a x (aw H T<|.b t) {s with heap:=r,toks:=tk}:=I.C1 (ch:=wr) (λb d=>D b<|hw b d) hk hT<|show dt X.prog X.w _ r T (.b t) from(hz,c.toList,rv,by have q:kP r T c:=a1;simpa using q);have a6:∀b∈l,b≠T:=λb d=>by
   obtain⟨o,e,_⟩:=M i _ st b d;exact dz<|iB (cR e) hT
  have a2:∀b∈l,gl X a (aw H T<|.b t) b:=λb d=>by
   obtain⟨f0,fr⟩:=D b d;exact(by rw[bG<|a6 b d];exact f0,fr)
  refine WT.go m k L i T _ _ _ hm λa7 a3 a4=>?_;have I2:aE X a x (aw H T<|.b t) {s with heap:=a7,toks:=tk}:=I1.N (s:={s with heap:=r,toks:=tk}) (t':=tk) (ch:=wr) (λb d=>a2 b<|hw b d) a4;exact(.c T,_,I2,O,hy T<|I.a.j hT,a0 _ _ a3,λb d=>(a2 b d).1)
 done:=by
  intro X hP f hK hc i a s x H E I D st hg;obtain⟨y,n,Pt,S,z,WT,C,a0,_,g⟩:=a9 X hP f hK hc i a s x H I D st<|.inr hg;subst hP f hK;have e:=g hg;subst e;exact WT.done s _ _ C λr tk hk=>(O,I.N (ch:=wr) (λb d=>D b<|hw b d) hk)
 e:=U
noncomputable def EE(K:aR)(c d:Y):iZ:=
 (λi H=>∃a b,fM K H c a/\fM K H d b/\i<gc a.length b.length,
  λi H v e=>∃p x y,v=.c p/\H p=Z/\e=aw H p (.b [x,y])/\(∀a,fM K H c a->a[i]?=V x)/\∀b,fM K H d b->b[i]?=V y,
  λi H=>∃a b,fM K H c a/\fM K H d b/\i=gc a.length b.length)
def JT:(2:Nat)<=bQ:=by rw[kM];decide
def SZ{K:aR}{M:List bB}{k:Nat}(R S z r m c d:Y)(hd:r≠z/\m≠z/\r≠m/\r≠c/\r≠d/\z≠c/\z≠d/\m≠c/\m≠d/\c≠d):oe P w K (.Tuple M k a7) (EE K R S) [z,r,m,c,d] z (λi h=>lH h z r m .none/\jx h r (.ref c) (.ref d)/\(∃a b,jx h m a b)/\h.IsTupleIter c R i/\h.IsTupleIter d S i):=by
 obtain⟨d1,d2,d3,d4,d5,d6,d7,d8,d9,T⟩:=hd;refine JV (wr:=[z,m,c,d]) (by simp) (λi h l b t=>?_) (λi h h' l U=>?_) (λb t=>?_) (λX hP hw hK hc i b2 s σ H I hf l a8=>?_) λA i s Q E l h=>Pa l.1 h
 ·obtain⟨a1,a2,⟨a,b',a3⟩,⟨o4,a4,_,e4⟩,⟨o5,a5,_,e5⟩⟩:=l
  simp at t;rcases t with rfl|rfl|rfl|rfl|rfl
  ·exact(_,a1,λv z=>by cases z)
  ·exact(_,a2,λv z=>by cases z)
  ·exact(_,a3,λv z=>by cases z)
  ·exact(_,a4,λv z=>by rw[e4] at z;cases z)
  ·exact(_,a5,λv z=>by rw[e5] at z;cases z)
 ·obtain⟨a1,a2,⟨a,b',a3⟩,a4,a5⟩:=l
  exact(U z (by simp) _ a1,U r (by simp) _ a2,(a,b',U m (by simp) _ a3),a4.at λo e=>U c (by simp) o e,a5.at λo e=>U d (by simp) o e)
 ·simp at t ⊢
  rcases t with rfl|rfl|rfl|rfl<;>simp
 ·subst hP hw hK
  have hd:∃G L,fM X.K H R G/\fM X.K H S L:=by
   rcases a8 with ⟨G,L,a,b,_⟩|⟨G,L,a,b,_⟩
   ·exact(G,L,a,b)
   ·exact(G,L,a,b)
  obtain⟨G,L,q1,q2⟩:=hd;obtain⟨us,r1,p1,_⟩:=I.q q1;obtain⟨ws,r2,p2,_⟩:=I.q q2;have a0:=r1.j;have a6:=r2.j;have hh:=I.b.a hc;obtain⟨a1,a2,a3,a4,a5⟩:=l;have f:=λb t=>Lg I (hf b t) q1;have f':=λb t=>Lg I (hf b t) q2;have AP:zm z r m c d [c,R] [d,S]:=by
   refine(?_,?_,?_,?_,by simp,by simp,?_,?_,d1,d2,d3,d4,d5)
   ·simp;exact(d6,(f z (by simp)).symm)
   ·simp;exact(d7,(f' z (by simp)).symm)
   ·simp;exact(d8,(f m (by simp)).symm)
   ·simp;exact(d9,(f' m (by simp)).symm)
   ·simp;exact(T,(f' c (by simp)).symm)
   ·simp;exact(T.symm,(f d (by simp)).symm)
  have WZ:=Rj (prog:=X.prog) (w:=X.w) (A:=X.A) (Ja (A:=X.A.in1) hh c R (f c (by simp)) us.toArray) (Ja (A:=X.A.in1) hh d S (f' d (by simp)) ws.toArray) AP;refine(_,_,_,_,_,WZ,(a1,a2,a3,(a4,p1),(a5,p2)),λj h l=>(l.1,l.2.1,l.2.2.1,l.2.2.2.1.1,l.2.2.2.2.1),λg=>?_,λg=>?_)
  ·obtain⟨n,q,C,D,hi⟩:=g
   have e1:=I.A2 C q1;have e2:=I.A2 D q2;subst e1 e2;refine(by simpa[<-a0,<-a6] using hi,λb3 hp=>?_);obtain⟨x,y,px,py,rfl⟩:=hp;have a9:us[i]?=V x:=by simpa using px
   have b0:ws[i]?=V y:=by simpa using py
   have lx:i<n.length:=ω
   have ly:i<q.length:=ω
   have gx:n[i]?=V n[i]:=by simp[lx]
   have gy:q[i]?=V q[i]:=by simp[ly]
   obtain⟨u,e3,ru⟩:=r1.q gx;obtain⟨u',e4,b1⟩:=r2.q gy;rw[a9] at e3;cases e3;rw[b0] at e4;cases e4;refine([n[i],q[i]],.cons ru<|.cons b1 .nil,JT,λp hp=>(p,_,_,O,hp,O,λzs hz=>?_,λzs hz=>?_))
   ·rw[I.A2 hz q1];exact gx
   ·rw[I.A2 hz q2];exact gy
  ·obtain⟨n,q,C,D,hi⟩:=g
   have e1:=I.A2 C q1;have e2:=I.A2 D q2;subst e1 e2
   simpa[<-a0,<-a6] using hi
def SU(b f:Y)(m n:Array aa):Meets (Builtin.«zip.__new__» ([.type "zip",.ref b,.ref f],[])) (λ_ R s=>s.heap.IsTuple b m/\s.heap.IsTuple f n/\
   ∀a,lH a (s⁻¹+4) (s⁻¹+2) (s⁻¹+3) .none->jx a (s⁻¹+2) (.ref s⁻¹) (.ref<|s⁻¹+1)->
   jx a (s⁻¹+3) .none .none->a.IsTupleIter s⁻¹ b 0->a.IsTupleIter (s⁻¹+1) f 0->
   (∀c o,s.heap.get? c=V o->a.get? c=V o)->R (.ok<|.ret<|.ref<|s⁻¹+4) {s with heap:=a}):=
 .of_wp λp w A R s h=>by
  obtain⟨q,g,d,r,t⟩:=s;obtain⟨i,j,h⟩:=h;have u:=sub_zip;have k:ace (PT (q,g,d,r,t)) b m:=i;have l:ace (PT (q.push {cls:=.type "tuple_iterator",data:=.fields #[.ref b,.int 0 0]},g,d,r,t)) f n:=age j _
  wp_walk using Pb k,Pb l
  refine(_,O,?_);dsimp only at h ⊢;have e:∀(h:aT)(o:bA),(h.push o).objs.size=h.objs.size+1:=λh o=>t_ ..;simp only[e,Qw,Nat.reduceAdd];refine h _ ?_ ?_ ?_ ?_ ?_ λc o x=>cx _<|cx _<|cx _<|cx _<|cx _ x
  ·exact HB (by simp only[e]) O
  ·exact cx _<|cx _<|HB (by simp only[e]) O
  ·exact cx _<|HB (by simp only[e]) O
  ·exact(_,cx _<|cx _<|cx _<|cx _<|dF _ O,O,O)
  ·exact(_,cx _<|cx _<|cx _<|HB (by simp only[e]) O,O,O)
section
variable{X:bf}{elts:List bB}{k:Nat}{tpos:cD}
def UR(K:aR)(d:fX):ji:=λe H R=>d e H λf a=>∃b c,f=[.c b,.c c]/\(∃g,fM K a b g)/\(∃h,fM K a c h)/\R (EE K b c) a
def TZ{a b:bB}{p f:cD}(D:kC X "zip")(E:X.c "zip"=Z)(G:hC "zip"=V (.type "zip"))(K:jR X [a,b] v)(L:fh [a,b] X.env=[(abd aB (dC a X.env)),(abd aB (dC b X.env))]:=by rfl)(g:fh [b] X.env=[(abd aB (dC b X.env))]:=by rfl):jp X (.Tuple elts k tpos) (.Call (.Name "zip" p) [a,b] [] f) (UR X.K v):=by
 intro d s w H R I h;refine CC<|pZ I D E G<|yR (bM (K f d s w H _ I h) λus c (vs,x,i,M,l)=>?_) (by rw[L,g]) (by rw[g];rfl);obtain⟨y,A,e,⟨xs,l⟩,⟨ys,P⟩,q⟩:=l;subst e;obtain⟨u,u',rfl,Q,m⟩:=JR M;cases Q;cases m;obtain⟨n,_,S,_⟩:=i.q l;obtain⟨o,_,T,_⟩:=i.q P;refine callType_new F.called_zip ξ (F.typeCall_zip_2 _ _) (F.newCall_zip_2 _ _) (λr=>F.args_object_init_3 r _ _) F.entry_zip_new (SU y A n.toArray o.toArray) (S,T,λU t a2 a3 a4 a5 kk=>?_);refine((_,t,O),Pa t ?_);have I2:aE X d w x {c with heap:=U}:=i.B (t':=c.toks) kk;refine(c⁻¹+4,[c⁻¹+4,c⁻¹+2,c⁻¹+3,c⁻¹,c⁻¹+1],_,_,x,O,I2,SZ y A _ _ _ _ _ (by refine(?_,?_,?_,?_,?_,?_,?_,?_,?_,?_)<;>(intro z;have z':(_:Nat)=_:=z;omega)),(t,a2,(_,_,a3),a4,a5),λb C=>?_,q);have j:c⁻¹<=b:=by
  simp only[bZ,pI,oM] at C;rcases C with rfl|rfl|rfl|rfl|rfl
  ·exact yV _ _
  ·exact yV _ _
  ·exact yV _ _
  ·exact aW _
  ·exact yV _ _
 exact i.M j<|i.a.j j
end
noncomputable def uY(K:aR)(a:Y):iZ:=
 (λi H=>∃b,bP K H a b/\i<b.length,
  λi H v c=>∃p x,v=.c p/\H p=Z/\c=aw H p (.b [.d i,x])/\∀b,bP K H a b->b[i]?=V x,
  λi H=>∃b,bP K H a b/\i=b.length)
def Te{K:aR}{k:Nat}{S:cD}(a e m:Y)(hd:e≠m):oe P w K (.Tuple D k S) (uY K a) [e,m] e (λi h=>(∃c,IsEnum h e m i c)/\h.IsListIter m a i):=by
 refine JV (wr:=[e,m]) (by simp) (λi h d b y=>?_) (λi h h' d kk=>?_) (λb y=>y) (λX hP hw hK hc i a2 s σ H I hf d T=>?_) λA i s Q E d h=>?_
 ·obtain⟨⟨c,n⟩,⟨o4,G,_,e4⟩⟩:=d
  simp at y;rcases y with rfl|rfl
  ·exact(_,n,λv z=>by cases z)
  ·exact(_,G,λv z=>by rw[e4] at z;cases z)
 ·obtain⟨⟨c,n⟩,G⟩:=d
  exact((c,kk e (by simp) _ n),G.at λo q=>kk m (by simp) o q)
 ·subst hP hw hK
  have U:∃C,bP X.K H a C:=by
   rcases T with ⟨C,q,_⟩|⟨C,q,_⟩
   ·exact(C,q)
   ·exact(C,q)
  obtain⟨C,L⟩:=U;obtain⟨us,r1,p1,_⟩:=I.j L;have M:=r1.j;have hh:=I.b.a hc;obtain⟨n,G⟩:=d;have f:=λb y=>Vd I (hf b y) L;have WZ:=WalksT.enumerateD (prog:=X.prog) (w:=X.w) (A:=X.A) (Draws.list (A:=X.A.in1) hh m a (f m (by simp)) us.toArray) e hd (by simp;exact(hd,(f e (by simp)).symm)) (by simp);refine(_,_,_,_,_,WZ,(n,G,p1.isList),λj h d=>(d.1,d.2.1),λg=>?_,λg=>?_)
  ·obtain⟨l,r,R⟩:=g
   have e1:=I.A5 r L;subst e1;refine(by simpa[<-M] using R,λa3 hp=>?_);obtain⟨t,x,px,rfl⟩:=hp;have a0:us[i]?=V x:=by simpa using px
   have gx:l[i]?=V l[i]:=by simp[R]
   obtain⟨u,e3,ru⟩:=r1.q gx;rw[a0] at e3;cases e3;refine([.d i,l[i]],.cons (_,O)<|.cons ru .nil,JT,λp hp=>(p,_,O,hp,O,λzs hz=>?_));rw[I.A5 hz L];exact gx
  ·obtain⟨l,r,R⟩:=g
   have e1:=I.A5 r L;subst e1
   simpa[<-M] using R
 ·obtain⟨⟨c,n⟩,_⟩:=d
  exact aa2 n h
section
variable{X:bf}{elts:List bB}{k:Nat}{tpos:cD}
def UY(K:aR)(c:fX):ji:=λd H R=>c d H λe b=>∃a,e=[.c a]/\(∃f,bP K b a f)/\R (uY K a) b
def KG{a:bB}{p f:cD}(t:kC X "enumerate")(v:X.c "enumerate"=Z)(w:hC "enumerate"=V (.type "enumerate"))(x:jR X [a] l)(y:fh [a] X.env=[(abd aB (dC a X.env))]:=by rfl):jp X (.Tuple elts k tpos) (.Call (.Name "enumerate" p) [a] [] f) (UY X.K l):=by
 intro c s m H R I h;refine CC<|pZ I t v w<|yR (bM (x f c s m H _ I h) λQ d (S,n,i,A,j)=>?_) y O;obtain⟨C,e,⟨T,j⟩,q⟩:=j;subst e;obtain⟨u,rfl,D⟩:=iF A;cases D;obtain⟨E,_,G,_⟩:=i.j j;refine call_enumerate_list G.isList λK o L U M=>?_;refine aa2 o ?_;have P:aE X c m n {d with heap:=K}:=i.B (t':=d.toks) M;refine(d⁻¹+1,[d⁻¹+1,d⁻¹],_,_,n,O,P,Te C _ _ (by intro z;have z':(_:Nat)=_:=z;exact ù ß (å z')),((_,o),L),λb r=>?_,q);have g:d⁻¹<=b:=by
  simp only[bZ,pI,oM] at r;rcases r with rfl|rfl
  ·exact yV _ _
  ·exact aW _
 exact i.M g<|i.a.j g
def Vg{K:aR}{xs:List ag}{g:gj}{l:gi}{D:og}{b:aO}(c:Nat->aO->ae->Prop)(o:c 0 b H)(r:∀i b H,i<=xs.length->c i b H->bP K H a xs)(s:∀i x p b H,xs[i]?=V x->c i b H->H p=Z->g (.c p) b (aw H p<|.b [.d i,x]) λd k=>l {D with a:=c<|i+1,b:=c<|i+1,c:=D.a} d k)(t:∀b H,c xs.length b H->D.a b H):∃C:Nat->Nat->aO->ae->Prop,(∃m,C 0 m b H)/\∀i m b H,C i m b H->
   ((uY K a).b i H/\D.a b H)\/((uY K a).a i H/\∃E:aO->ae->Prop,(∀f h,E f h->∃n,n<m/\C (i+1) n f h)/\∀x h,(uY K a).c i H x h->g x b h λd k=>l {D with a:=E,b:=E,c:=D.a} d k):=by
 refine(λi m b H=>m=xs.length-i/\i<=xs.length/\c i b H,(xs.length,by simp,eM _,o),?_);rintro i m b H ⟨rfl,u,p⟩;have q:=r i b H u p
 by_cases j:i<xs.length
 ·refine .inr ((xs,q,j),c<|i+1,λf h v=>(xs.length-(i+1),ω,O,j,v),λx h y=>?_)
  obtain⟨w,z,rfl,A,rfl,y⟩:=y;exact s i z w b _ (y xs q) p A
 ·have e:i=xs.length:=(û u (ô j))
  subst e;exact .inl ((xs,q,O),t b H p)
def Et:∀{a:List Bool}{c:List aa},cw (a.map ag.e) c->LSm.BoolsAre c a
 |[],_,.nil=>.nil
 |b::a,_,.cons r t=>by cases r;exact .cons b<|Et t
def Es(n:X.b=af):js X (.builtin "all") (λg H Q=>∃(l:Y)(a:List Bool),g=[.c l]/\bP X.K H l (a.map ag.e)/\Q (.e<|a.all id) H):=by
 intro j s C H g D Q I r h;obtain⟨l,a,rfl,o,q⟩:=h;obtain⟨u,rfl,p⟩:=iF r;cases p;obtain⟨c,t,w,_⟩:=I.j o;have x:=I.b.a n;have d:=w.isList;have k:=Et t;have f:l<s⁻¹:=by obtain⟨_,e,_⟩:=d;exact cR e
 refine call_all_walk<|tL d ?_;refine(s⁻¹,[s⁻¹,l],[s⁻¹],c.toArray.size,_,_,λi=>(a[i]?).getD af,O,rQ (A:=X.A.in1) x _ l (dz f) c.toArray,
  ((_,dF _ O,O,O),d.push _),λi v E G K y m=>?_,λL M z=>?_)
 ·obtain⟨b,e,rfl⟩:=k.get i v (by simpa using y)
  simp only[e,qI] at m;exact qC m
 ·have e:((cV c.toArray.size).all λi=>(a[i]?).getD af)=a.all id:=by
   rw[cT,k.length];exact LSm.range_all a
  rw[e];exact(.e _,H,I.B<|CB z,O,q)
def LJ(n:X.b=af):js X (.builtin "any") (λg H Q=>∃(l:Y)(a:List Bool),g=[.c l]/\bP X.K H l (a.map ag.e)/\Q (.e<|a.any id) H):=by
 intro j s C H g D Q I r h;obtain⟨l,a,rfl,o,q⟩:=h;obtain⟨u,rfl,p⟩:=iF r;cases p;obtain⟨c,t,w,_⟩:=I.j o;have x:=I.b.a n;have d:=w.isList;have k:=Et t;have f:l<s⁻¹:=by obtain⟨_,e,_⟩:=d;exact cR e
 refine call_any_walk<|tL d ?_;refine(s⁻¹,[s⁻¹,l],[s⁻¹],c.toArray.size,_,_,λi=>(a[i]?).getD aB,O,rQ (A:=X.A.in1) x _ l (dz f) c.toArray,
  ((_,dF _ O,O,O),d.push _),λi v E G K y m=>?_,λL M z=>?_)
 ·obtain⟨b,e,rfl⟩:=k.get i v (by simpa using y)
  simp only[e,qI] at m;exact qC m
 ·have e:((cV c.toArray.size).any λi=>(a[i]?).getD aB)=a.any id:=by
   rw[cT,k.length];exact LSm.range_any a
  rw[e];exact(.e _,H,I.B<|CB z,O,q)
end
section
variable{K:aR}{a:Y}{xs:List ag}{g:gj}{tc:eG}{te:a_}{σ:aO}{H1:ae}{Q:aS}{D:Y}
def EH(n:Nat)(b:Nat->aO->List ag->ae->Prop)(i m:Nat)(σ:aO)(H:ae):Prop:=m=n-i/\i<=n/\∃a,a.length<=i/\b i σ a H
def rr(n:Nat)(e:Nat->aO->List ag->ae->Prop)(D:Y)(i:Nat)(a:aO):aS:=λy c=>∃b d,c D=V (.a b)/\b.length<bQ/\d<n-i/\EH n e (i+1) d a (aw c D<|.a<|b++[y])
def sV(n:Nat)(c:Nat->aO->List ag->ae->Prop)(i:Nat)(a:aO)(d:ae):Prop:=∃b,b<n-i/\EH n c (i+1) b a d
def fz{n:Nat}{c:Nat->aO->List ag->ae->Prop}{i:Nat}{a:aO}{ys:List ag}{y:ag}{b:ae}(f:n<=bQ)(d:i<n)(g:ys.length<=i)(e:b D=V (.a ys))(p:c (i+1) a (ys++[y]) (aw b D<|.a<|ys++[y])):rr n c D i a y b:=
 (ys,n-(i+1),e,(à (à (ï g) d) f),ω,O,d,ys++[y],by simp;exact g,p)
def qd{n:Nat}{c:Nat->aO->List ag->ae->Prop}{i:Nat}{a:aO}{b:List ag}(e:i<n)(f:b.length<=i)(p:c (i+1) a b d):sV n c i a d:=
 (n-(i+1),ω,O,e,b,(í f),p)
def sK{A:iZ}(n:Nat)(f:Nat->aO->List ag->ae->Prop)(r:f 0 σ [] (aw H1 D<|.a []))(h:∀σ a H,f n σ a H->A.b n H)(l:∀i σ a H,i<n->f i σ a H->A.a i H)(s:∀i σ a H x o,i<n->a.length<=i->f i σ a H->A.c i H x o->g x σ o λc t=>tc c t λb q=>if b=af then te c q (rr n f D i c) else sV n f i c q)(u:∀σ a H,f n σ a H->Q (.c D) H):dY A g tc te σ H1 D Q:=by
 refine(EH n f,(n,by simp,eM _,[],aW _,r),?_);rintro i m d k ⟨rfl,z,a,v,p⟩
 by_cases j:i<n
 ·exact .inr (l i d a k j p,λx w y=>s i d a k x w j v p y)
 ·have e:i=n:=(û z (ô j))
  subst e;exact .inl (h d a k p,u d a k p)
def jh(f:Nat->aO->List ag->ae->Prop)(l:f 0 σ [] (aw H1 D<|.a []))(h:∀i σ c H,f i σ c H->bP K H a xs)(m:∀i σ c H x,xs[i]?=V x->i<xs.length->c.length<=i->f i σ c H->g x σ H λd n=>tc d n λb k=>if b=af then te d k (rr xs.length f D i d) else sV xs.length f i d k)(o:∀σ c H,f xs.length σ c H->Q (.c D) H):dY (gY K a) g tc te σ H1 D Q:=by
 refine sK xs.length f l (λσ c H p=>(xs,h _ _ _ _ p,aW _)) (λi σ c H j p=>(xs,xs[i],h _ _ _ _ p,by simp[j])) (λi σ c H x r j q p y=>?_) o;obtain⟨e,y⟩:=y;subst e;exact m i σ c _ x (y xs<|h _ _ _ _ p) j q p
def Ly(f:Nat->aO->List ag->ae->Prop)(l:f 0 σ [] (aw H1 D<|.a []))(h:∀i σ c H,f i σ c H->fM K H a xs)(m:∀i σ c H x,xs[i]?=V x->i<xs.length->c.length<=i->f i σ c H->g x σ H λd n=>tc d n λb k=>if b=af then te d k (rr xs.length f D i d) else sV xs.length f i d k)(o:∀σ c H,f xs.length σ c H->Q (.c D) H):dY (rq K a) g tc te σ H1 D Q:=by
 refine sK xs.length f l (λσ c H p=>(xs,h _ _ _ _ p,aW _)) (λi σ c H j p=>(xs,xs[i],h _ _ _ _ p,by simp[j])) (λi σ c H x r j q p y=>?_) o;obtain⟨e,y⟩:=y;subst e;exact m i σ c _ x (y xs<|h _ _ _ _ p) j q p
def uW{h:Int}{n:Nat}(d:Nat->aO->List ag->ae->Prop)(k:d 0 σ [] (aw H1 D<|.a []))(l:∀i σ c H,i<n->c.length<=i->d i σ c H->g (.d<|h+i) σ H λa m=>tc a m λb j=>if b=af then te a j (rr n d D i a) else sV n d i a j)(o:∀σ c H,d n σ c H->Q (.c D) H):dY (kB h n) g tc te σ H1 D Q:=by
 refine sK n d k (λσ c H p=>aW _) (λi σ c H f p=>f) (λi σ c H x r f q p y=>?_) o;obtain⟨e,y⟩:=y;subst e y;exact l i σ c _ f q p
def Vv{h j:Y}(d:Nat->aO->List ag->ae->Prop)(l:d 0 σ [] (aw H1 D<|.a []))(e:∀i σ a H,d i σ a H->fM K H h xs/\fM K H j ys)(m:∀i σ a H p x y,xs[i]?=V x->ys[i]?=V y->i<gc xs.length ys.length->a.length<=i->d i σ a H->H p=Z->g (.c p) σ (aw H p<|.b [x,y]) λc n=>tc c n λb k=>if b=af then te c k (rr (gc xs.length ys.length) d D i c) else sV (gc xs.length ys.length) d i c k)(o:∀σ a H,d (gc xs.length ys.length) σ a H->Q (.c D) H):dY (EE K h j) g tc te σ H1 D Q:=by
 refine sK (gc xs.length ys.length) d l (λσ a H p=>(xs,ys,(e _ _ _ _ p).1,(e _ _ _ _ p).2,O)) (λi σ a H f p=>(xs,ys,(e _ _ _ _ p).1,(e _ _ _ _ p).2,f)) (λi σ a H v z f q p y=>?_) o;obtain⟨r,x,s,rfl,t,rfl,u,w⟩:=y;exact m i σ a H r x s (u xs (e _ _ _ _ p).1) (w ys (e _ _ _ _ p).2) f q p t
end
def jk(h:aT)(d:Y)(a:Array oD)(b:Nat):Prop:=∃o,h.get? d=V o/\o.ExactDict/\o.data=.dict a b
noncomputable def jk.j{h a:aT}{b:Array oD}(x:jk h d b c)(k:∀o,h.get? d=V o->a.get? d=V o):jk a d b c:=let ⟨o,e,r⟩:=x;(o,k o e,r)
def jk.q{b:Nat}(x:jk h d a b):d<h.objs.size:=let ⟨_,c,_⟩:=x;cR c
section
variable{prog:bw}{w:aX}{A:bY}{E:Ω}{s:ak}{it d:Y}{i ep:Nat}{es:Array oD}
def jk.typeIs(x:jk s.heap d es ep):s.TypeIs (.ref d) "dict":=let ⟨o,a,r⟩:=x;(o,a,r.1.1)
def Ow{Q:Ω}(f:(d==jw)=aB)(c:jk s.heap d es ep)(g:Q (.ref s⁻¹) {s with heap:=s.heap.push {cls:=.type "dict_keyiterator",data:=.fields #[.ref d,.int 0 0,.int es.size 0,.int ep 0]}}):aA (aH prog w) A (pC<|.ref d) Q E s:=by
 have b:=c.typeIs;obtain⟨o,e,h,a⟩:=id c;refine Pc b acm<|lC acm b PySem.F.entry_dict_iter ?_<|PySem.F.args_dict_iter_1 _;unfold Builtin.«dict.__iter__»;refine aj ?_;unfold ahf;refine aj<|GZ b ?_;show aA _ _ (aU<|ab d) _ _ s;refine aI ?_;show aA _ _ (yM d >>= _) _ _ s;unfold yM;rw[ap (by rw[f];exact dT)];refine aj<|aI ?_;refine aj<|np e a ?_;refine aj<|tM e a ?_;refine aj<|no<|aI (_,O,"dict_keyiterator",_,(_,dF _ O,O),Ck.lookup,?_)
 simpa[iy] using g
def Ox{Q:Option aa->ak->Prop}(a:s.heap.IsKeyIter it d i es.size ep)(k:jk s.heap d es ep)(l:i<es.size)(m:∀h,h.IsKeyIter it d (i+1) es.size ep->jc it s.heap h->Q (V es[i].key) {s with heap:=h}):aA (aH prog w) A (kd<|.ref it) Q E s:=by
 obtain⟨o,j,n,g⟩:=id a;obtain⟨q,c,p,e⟩:=id k;unfold kd;refine aj (tN (pB (name:=kf "__next__") a.typeIs Ck
 <|lC Ck a.typeIs acy ?_<|ac3 _))
 refine aj<|aI ?_;refine aj ?_;refine aj ?_
 first|refine aj<|GW a.typeIs<|aI ?_|refine wpAny_bind<|wpAny_typeNameOf_keyiter a.typeIs<|wpAny_pure ?_
 refine aj<|Hb j g ?_;have f:Cu "dict_keyiterator"=aB:=ξ
 simp only[f,dD,dc];show aA _ _ (if(ab d==cA)=af then _ else _) _ _ s;rw[ap<|show ¬((ab d==cA)=af) from dT];refine aj<|aI ?_;refine aj<|np c e ?_;rw[ap (by simp)];refine aj<|aI ?_;refine aj<|tM c e ?_;rw[ap (by simp)];refine aI ?_;simp only[show ¬((i:Int)<0) from ω,dc,su,IZ l];refine aj ?_
 first|refine aj<|GW a.typeIs<|aI ?_|refine wpAny_bind<|wpAny_typeNameOf_keyiter a.typeIs<|wpAny_pure ?_
 refine aj<|aa6 a.typeIs ?_;show aA _ _ (rM (.ref it) 1 (iy<|(i:Int)+1) >>= _) _ _ s;refine aj<|BF j g (by simp) ?_;have b:(s.heap.update it (aca (·.setIfInBounds 1<|iy<|(i:Int)+1))).IsKeyIter it d (i+1) es.size ep:=
  (_,yI _ j<|acb<|Hz g _,(acd ..).trans n,by rw[Hz g];simp[iy])
 refine aj<|il ?_;refine aj (aa6 (s:={s with heap:=s.heap.update it (aca (·.setIfInBounds 1<|iy<|(i:Int)+1))}) b.typeIs ?_);show aA _ _ (aU es[i].key) _ _ _;exact aI<|aI (_,O,aI<|m _ b<|mC ..)
def done{Q:Option aa->ak->Prop}(k:A.handled=Z)(c:s.heap.IsKeyIter it d es.size es.size ep)(l:jk s.heap d es ep)(n:∀h,PZ it s.heap h->Q Z {s with heap:=h}):aA (aH prog w) A (kd<|.ref it) Q E s:=by
 obtain⟨o,i,q,j⟩:=id c;obtain⟨r,e,p,f⟩:=id l;unfold kd;refine aj (tN (pB (name:=kf "__next__") c.typeIs Ck
 <|lC Ck c.typeIs acy ?_<|ac3 _))
 refine aj<|aI ?_;refine aj ?_;refine aj ?_
 first|refine aj<|GW c.typeIs<|aI ?_|refine wpAny_bind<|wpAny_typeNameOf_keyiter c.typeIs<|wpAny_pure ?_
 refine aj<|Hb i j ?_;have g:Cu "dict_keyiterator"=aB:=ξ
 simp only[g,dD,dc];show aA _ _ (if(ab d==cA)=af then _ else _) _ _ s;rw[ap<|show ¬((ab d==cA)=af) from dT];refine aj<|aI ?_;refine aj<|np e f ?_;rw[ap (by simp)];refine aj<|aI ?_;refine aj<|tM e f ?_;rw[ap (by simp)];refine aI ?_;simp only[show ¬((es.size:Int)<0) from ω,dc,su,Rg (aW es.size)];refine aj ?_
 first|refine aj<|GW c.typeIs<|aI ?_|refine wpAny_bind<|wpAny_typeNameOf_keyiter c.typeIs<|wpAny_pure ?_
 show aA _ _ (rM (.ref it) 0 .none >>= _) _ _ s;refine aj<|BF i j (by simp) ?_;show aA _ _ (yu (.type "StopIteration") [] >>= _) _ _ _;refine aj ?_;simp only[yu,Pu];refine aj<|no ?_ (by size_fits);refine aj (m:=Pz _ _)<|pA (a:=cA) (by first|rfl|(simp only[firstArgMember];rfl)) ?_;refine no ?_ (by size_fits);simp only[Po];refine aj<|Pe ?_;rw[show A.in1.handled=Z from k];refine aj<|aI<|O_ ?_;refine aj<|Ha (T:="StopIteration") (b:=af) (_,dF _ O,O) Pw ?_;exact aI<|n _<|((mC ..).extBut.push _).push _
def ζ(p:A.handled=Z)(I d:Y)(j:d≠I)(es:Array oD)(ep:Nat):vS prog w A I [I,d] [I] es.size (λi v=>∃e,es[i]?=V e/\v=e.key) (λi h=>h.IsKeyIter I d i es.size ep/\jk h d es ep) where
 sub:=λb c=>by simp at c ⊢;exact .inl c
 frame:=λi h g a k=>(let ⟨o,q,r⟩:=a.1;(o,k I (by simp) o q,r),a.2.j λo e=>k d (by simp) o e)
 item:=λi s Q E m a f=>Ox a.1 a.2 m λg l n=>f _ g s.toks (es[i],by simp[m],O) (l,a.2.j λo e=>(n.2 d j).trans e) λb o c e=>(n.2 b (λz=>c (by simp[z]))).trans e
 done:=λs Q E a f=>done p a.1 a.2 λg t=>f g s.toks λb o c e=>t b o (λz=>c (by simp[z])) e
 self:=λi s Q E a f=>aa1 a.1 f
def Ov(c:(d==jw)=aB):PySem.W.KdlSrc prog w "dict" d d es.size (λi v=>∃e,es[i]?=V e/\v=e.key) (λh=>jk h d es ep) where
 type:=λ_ a=>a.typeIs
 there:=λ_ a=>(a.q,a.q)
 keep:=λ_ _ a f=>a.j λo e=>f d (.inl O) o e
 notList:=ξ
 notTuple:=ξ
 hint:=λ_ _ _ _ a b=>PySem.W.kdl_hint_dict a.typeIs b
 iter:=λ_ s g a=>(_,_,(λ_ _ b=>Ow c a b),ζ g _ d (dz a.q) es ep,((_,dF _ O,O,O),a.j λo e=>cx _ e))
end
section
variable{X:bf}
def UN{k:aV}(h:(fW P w).is k u=af):co (dr k) u:=by
 rcases oV h with ⟨i,t,rfl,rfl⟩|⟨x,t,rfl,rfl⟩
 ·exact(t,O)
 ·exact(t,O)
def Er(R:X.b=af):js X (.type "list") (λD H Q=>∃a d,D=[.c a]/\H a=V (.c d)/\
  ∀(j:List Y),du (λ(p:List aV×ag) b=>H b=V (.b<|p.1.map dr)) d j->∀l,H l=Z->Q (.c l) (aw H l<|.a<|j.map ag.c)):=by
 intro E s σ H D us Q I r h;obtain⟨a,d,rfl,v,q⟩:=h;obtain⟨u,rfl,S⟩:=iF r;cases S;obtain⟨z,y,f,g,o,k,G,T,U,h3,K,h5⟩:=(show dt X.prog X.w H s.heap a (.c d) from I.a a _ v);have L:k.size=d.length:=by
  have:=eW ao K;rw[ax,<-fP g] at this
  simpa using this
 refine PP (Ov (ep:=G) (es:=k) y) (I.b.a R) (o,T,U,h3) (by rw[L];exact z) λh' tk c c' kk e it=>?_;obtain⟨n1,n2⟩:=it;have pb:du (λ(p:List aV×ag) b=>H b=V (.b<|p.1.map dr)) d (f.map (·.2.1)):=by
  have:∀{l:List (List aV×ag)}{m:List (List aV×Y×aa)},jq H l m->du (λ(p:List aV×ag) b=>H b=V (.b<|p.1.map dr)) l (m.map (·.2.1)):=by
   intro l m q
   induction q with
   |nil=>exact .nil
   |cons v t w=>exact .cons v.2.1 w
  exact this g
 have ea:c.toList=(f.map (·.2.1)).map ab:=by
  apply CO;intro i;have M:f.length=c.size:=by rw[n1,L];exact(fP g).symm
  by_cases x:i<c.size
  ·obtain⟨e',A,C⟩:=n2 i c[i] (by simp[x])
   have n:k.toList[i]?=V e':=by simpa using A
   rw[K,cB] at n;have P:f[i]?=V f[i]:=by simp[M,x]
   rw[P] at n;simp only[nB,rZ] at n;simp only[cB,P,nB,jB,IZ x];rw[C,<-n]
   rfl
  ·have A:c.toList.length<=i:=by simp;exact ô x
   have C:((f.map (·.2.1)).map ab).length<=i:=by simp[M];exact ô x
   rw[si A,si C]
 have vv:cw ((f.map (·.2.1)).map ag.c) c.toList:=by
  rw[ea];generalize f.map (·.2.1)=j
  induction j with
  |nil=>exact .nil
  |cons b j w=>exact .cons O w
 refine(.c s⁻¹,_,I.F kk (aW _) (show dt X.prog X.w _ h' _ (.a ((f.map (·.2.1)).map ag.c)) from(?_,c.toList,c',vv,by simpa using e)),O,q _ pb _<|I.a.j<|aW _);simp only[ax];rw[<-fP g];exact z
def VD(K:X.b=af):js X (.type "list") (λA H Q=>∃a b,A=[.c a]/\H a=V (.e b)/\∀l,H l=Z->Q (.c l) (aw H l<|.a<|b.map λd=>dr d.1)):=by
 intro C s σ H A us Q I r h;obtain⟨a,b,rfl,n,q⟩:=h;obtain⟨u,rfl,L⟩:=iF r;cases L;obtain⟨z,y,M,f,o⟩:=Lo I.a n;obtain⟨D,o⟩:=o.dictAt;have P:=f.j;refine PP (PySem.W.kdl_dict (knd:=fW X.prog X.w) (kvs:=M) (ep:=D) y) (I.b.a K) o (by rw[<-P];exact z) λR tk g S T e U=>?_;obtain⟨n1,n2⟩:=U;have vv:cw (b.map λd=>dr d.1) g.toList:=by
  have w:∀{l:List (aV×ag)}{m:List (aV×aa)}{c:List aa},ky l m->c.length=m.length->(∀(i:Nat) v,c[i]?=V v->∃k x,m[i]?=V (abd k x)/\(fW X.prog X.w).is k v=af)->cw (l.map λd=>dr d.1) c:=by
   intro l m c q
   induction q generalizing c with
   |nil=>intro j _;cases c with
    |nil=>exact .nil
    |cons _ _=>simp at j
   |@cons p q' ps qs n t ih=>
    intro j E;cases c with
    |nil=>simp at j
    |cons v c=>
     obtain⟨k,x,G,g2⟩:=E 0 v O;simp only[List.getElem?_cons_zero,rZ] at G;refine .cons ?_ (ih (by simpa using j) λi v e=>by simpa using E (i+1) v (by simpa using e));have:p.1=k:=by rw[n.1,G]
     show co (dr p.1) v;rw[this];exact UN g2
  exact w f (by simpa using n1) λi v e=>n2 i v (by simpa using e)
 refine(.c s⁻¹,_,I.F T (aW _)<|show dt X.prog X.w _ R _ (.a<|b.map λd=>dr d.1) from(?_,g.toList,S,vv,by simpa using e),O,q _<|I.a.j<|aW _)
 simpa using z
end
def cM(H:ae)(a:Y)(b:List Int):Prop:=H a=V (.b<|b.map ag.d)
abbrev bC(H:ae)(c:List Y)(b:Ξ):Prop:=du (λa d=>cM H a d) c b
noncomputable def aF.B{H b:ae}(e:aF H b)(h:cM H a c):cM b a c:=e _ _ h
def aF.J{H b:ae}(e:aF H b)(h:bC H c a):bC b c a:=gf h λ_ _ q=>e.B q
def aF.q{H:ae}(h:H a=Z):aF H (aw H a o):=λb u e=>by rw[bG<|dJ e h];exact e
noncomputable def aF.F(e:aF H c)(h:H a=Z):aF H (aw c a o):=λb u q=>by rw[bG<|dJ q h];exact e b u q
noncomputable def bC.j{b:List Y}(h:bC H b a):b.length=a.length:=fP h
def bC.q:∀{c:List Y}{b:Ξ}{i:Nat}{a:Y},bC H c b->c[i]?=V a->∃d,b[i]?=V d/\cM H a d
 |_,_,_,_,.nil,e=>by simp at e
 |_,_,0,_,.cons r _,e=>by simp at e;subst e;exact(_,O,r)
 |_,_,i+1,a,.cons _ t,e=>by
  obtain⟨u,f,g⟩:=bC.q (i:=i) (a:=a) t (by simpa using e);exact(u,by simpa using f,g)
noncomputable def bC.B{b:Ξ}(h:bC H c b)(q:cM H a d):bC H (c++[a]) (b++[d]):=by
 induction h with
 |nil=>exact .cons q .nil
 |cons r t e=>exact .cons r e
def bC.J{a b:Ξ}(h:bC H c a)(q:bC H d b):bC H (c++d) (a++b):=by
 induction h with
 |nil=>exact q
 |cons r t e=>exact .cons r e
def bC.M:∀{b:List Y}{a:Ξ}(n:Nat),bC H b a->bC H (b.take n) (a.take n)
 |_,_,0,_=>.nil
 |_,_,_+1,.nil=>.nil
 |_,_,n+1,.cons r t=>.cons r (bC.M n t)
noncomputable def bC.F:∀{b:List Y}{a:Ξ}(n:Nat),bC H b a->bC H (b.drop n) (a.drop n)
 |_,_,0,r=>r
 |_,_,_+1,.nil=>.nil
 |_,_,n+1,.cons _ t=>bC.F n t
def oR:∀{b:List Y}{c:List aa},cw (b.map ag.c) c->c=b.map ab
 |[],_,.nil=>O
 |a::b,_,.cons r t=>by cases r;rw[oR t];rfl
def DS{b:Type}(f:b->Y):∀l:List b,cw (l.map λq=>ag.c<|f q) (l.map λq=>ab<|f q)
 |[]=>.nil
 |a::l=>.cons O (DS f l)
section
variable{X:bf}
def KZ{b:List aa}(j:kP h c b.toArray)(g:gg b f):ga (fW a w) h (f.map aQ) c:=by
 obtain⟨o,e,i,k,d⟩:=j;refine(o,b.toArray,k,e,i,d,?_);have:∀{b:List aa}{f:List Int},gg b f->Ce (fW a w) (f.map aQ) b:=by
  intro b f g
  induction g with
  |nil=>exact .nil
  |cons n t h l=>exact .cons (Ee a w n t) l
 simpa using this g
def jZ{a b:List Int}:(a.map aQ:List aV)=b.map aQ↔a=b:=
 (λz=>(CJ (f:=(aQ:Int->aV)) (λx y h=>GV h)).mp z,λz=>by rw[z])
def Vk{i:aO}{A:bY}{a b:Y}(I:aE X c i H s)(j:cM H a e)(k:cM H b f)(l:A.units<c_):Hx A s (.ref a) (.ref b) (aC<|e=f):=by
 intro d w E Q h;obtain⟨m,n,o,_⟩:=I.q<|fM.j j;obtain⟨g,p,q,_⟩:=I.q<|fM.j k;refine Hd (knd:=fW d w) l (KZ o<|oW n) (KZ q<|oW p) ?_;rw[show aC ((e.map aQ:List aV)=f.map aQ)=aC (e=f) from by simp only[jZ]];exact h
inductive zS(x:ag)(y:ag)(H:ae)(Q:aS):Prop
 |c:∀a b xs ys,(x=.c a)->(y=.c b)->(H a=V (.b xs))->(H b=V (.b ys))->(xs.length+ys.length<=bQ)->(∀p H',aF H H'->H' p=V (.b<|xs++ys)->Q (.c p) H')->zS x y H Q
def z_:fE X (pF .Add) zS:=by
 intro m s σ H x y v u Q I P R h;obtain⟨a,b,p,S,rfl,rfl,r,t,w,q⟩:=h;cases P;cases R;obtain⟨T,g,A,_⟩:=I.q<|fM.j r;obtain⟨c,i,C,_⟩:=I.q<|fM.j t
 by_cases D:p=[]
 ·subst D
  have U:=g.N.mpr O;subst U;obtain⟨⟨a0,dd,E,sl⟩,G,K,n,L⟩:=id A;obtain⟨⟨M,j,k,l⟩,d,e,n2,f⟩:=id C;simp only at K L e f;subst K L e f;exact PB (_,G,O) (_,d,O) Ps Pl P_ Qc (Qe _ _)
   (tuple_addW0 a b (dG []) c.toArray n n2 dd j sl l (by simp)) (G,d,.c b,H,I,O,q b H (aF.S H) (by simpa using t))
 ·refine Z' A C (λz=>D<|g.N.mp z) (λz=>(.c a,H,I,O,q a H (aF.S H) ?_)) (λz=>?_) (by rw[<-g.j,<-i.j];exact w)
  ·rw[i.N.mp z,jm];exact r
  ·have hf:=I.a.j<|aW s⁻¹
   refine(.c s⁻¹,_,I.F (t':=s.toks) (o:=.b<|p++S) (λb ob q=>cx _ q) (aW _) ?_,O,q _ _ (aF.q hf) ay);exact(by rw[ck];exact w,_,g.B i,Qo _ _)
inductive wH(neg:Bool)(K:aR)(x:ag)(y:ag)(H:ae)(Q:aS):Prop
 |b:∀a l ps as pss,(x=.c a)->(y=.c l)->(cM H a ps)->(bP K H l<|as.map ag.c)->(bC H as pss)->(Q (.e<|if neg then !aC (ps∈pss) else aC (ps∈pss)) H)->wH neg K x y H Q
noncomputable def qb(H:ae)(a:List Int)(u:aa):Bool:=match u with
 |.ref b=>(match H b with|some (.b c)=>aC (c=a.map ag.d)|_=>aB)
 |_=>aB
def UQ{a b:List Int}:(a.map ag.d:List ag)=b.map ag.d↔a=b:=
 (λz=>(CJ (f:=ag.d) (λx y h=>ag.d.inj h)).mp z,λz=>by rw[z])
def Ll{b:Y}(h:cM H b c):qb H a (.ref b)=aC (c=a):=by
 show(match H b with|some (.b d)=>aC (d=a.map ag.d)|_=>aB)=_;rw[show H b=V (.b<|c.map ag.d) from h];simp only[UQ]
def LZ{b:Ξ}(h:bC H d b):(d.map ab).any (qb H c)=aC (c∈b):=by
 induction h with
 |nil=>simp
 |@cons a f d b r t g=>
  rw[cI,II,g,Ll r]
  by_cases e:f=c
  ·subst e;simp
  ·have:¬c=f:=λz=>e z.symm
   simp[e,this]
def KW{j:aO}{A:bY}{i:List Int}(I:aE X d j H s)(k:cM H a i)(g:A.units<c_):∀{e:List Y}{c:Ξ},bC H e c->∀u∈e.map ab,Hx A s u (.ref a) (qb H i u):=by
 intro e c h
 induction h with
 |nil=>intro u g;simp at g
 |@cons b m e c r t l=>
  intro u f;rw[cI] at f;rcases bZ.mp f with rfl|f
  ·rw[Ll r];exact Vk I r k g
  ·exact l u f
def KQ(f:X.A.in1.units<c_):fE X (iz .In) (wH aB X.K):=by
 intro c s t H x y v u Q I g i h;obtain⟨a,l,b,d,j,rfl,rfl,k,m,e,q⟩:=h;cases g;cases i;obtain⟨n,r,o,z⟩:=I.j m;obtain rfl:=oR r;refine SeqAt.in_listAt (qb H b) o.isList (λw p=>KW I k f e w (by simpa using p)) (.e _,H,I,O,?_);rw[show(d.map ab).toArray.any (qb H b)=(d.map ab).any (qb H b) by simp,LZ e];exact q
def Un(f:X.A.in1.units<c_):fE X (iz .NotIn) (wH af X.K):=by
 intro c s t H x y v u Q I g i h;obtain⟨a,l,b,d,j,rfl,rfl,k,m,e,q⟩:=h;cases g;cases i;obtain⟨n,r,o,z⟩:=I.j m;obtain rfl:=oR r;refine SeqAt.notIn_listAt (qb H b) o.isList (λw p=>KW I k f e w (by simpa using p)) (.e _,H,I,O,?_);rw[show(d.map ab).toArray.any (qb H b)=(d.map ab).any (qb H b) by simp,LZ e];exact q
def wE{b:Ψ}(I:aE X b d H s)(e:cM H a c):Reads s.heap (.ref a) (.tuple<|c.map gQ) []:=by
 obtain⟨f,r,p,_⟩:=I.q<|fM.j e;obtain⟨o,g,h,n,i⟩:=id p;exact .tuple g h i<|(ab0<|oW r).reads s.heap
def TQ{b:Ψ}(I:aE X b d H s):∀{c:List Y}{a:Ξ},bC H c a->ReadsAll s.heap (c.map ab) (a.map λe=>hJ<|e.map gQ) []:=by
 intro c a h
 induction h with
 |nil=>exact .nil
 |cons r t f=>exact .cons (as:=[]) (bs:=[]) (wE I r) f
def zQ{c:List Y}{b:Ξ}(I:aE X a d H s)(e:bP X.K H l (c.map ag.c))(h:bC H c b):Reads s.heap (.ref l) (.list<|b.map λf=>hJ<|f.map gQ) [l]:=by
 obtain⟨g,r,p,_⟩:=I.j e;obtain rfl:=oR r;obtain⟨o,i,j,n,k⟩:=p.isList;exact .list i j k (by simpa using TQ I h)
def LH(a:List Int):Cd (.tuple<|a.map gQ)=af:=by simp[Cd,ab1]
def Lp(a:List Int):yG (.tuple<|a.map gQ)=1:=by simp[yG,abz]
def zO(a:List Int):tY (.tuple<|a.map gQ)=af:=by
 simp[tY,LH,Lp]
def LI:∀a:Ξ,PX (a.map λb=>hJ<|b.map gQ)=af
 |[]=>O
 |b::r=>by rw[cI,PX,LH,LI r];rfl
def Lq:∀a:Ξ,PW (a.map λb=>hJ<|b.map gQ)<=1
 |[]=>eM _
 |b::r=>by rw[cI,PW,Lp];exact Nat.max_le.mpr (aW _,Lq r)
def zP(a:Ξ):tY (.list<|a.map λb=>hJ<|b.map gQ)=af:=by
 have:=Lq a;have e:yG (.list<|a.map λb=>hJ<|b.map gQ)<=64:=by rw[yG];exact â (ð this)
 unfold tY;rw[cn e,Cd,LI]
 rfl
def DQ:∀c d:Ξ,yB (c.map λe=>hJ<|e.map gQ) (d.map λe=>hJ<|e.map gQ)=aC (c=d)
 |[],[]=>by simp[yB]
 |[],_::_=>by simp[yB]
 |_::_,[]=>by simp[yB]
 |a::r,b::t=>by
  simp only[cI,yB,nt,Hq,DQ r t]
  by_cases h:a=b<;>by_cases f:r=t<;>simp[h,f]
def Ad(a:List Int):(vU .int).has (.tuple<|a.map gQ)=af:=by simp[tV]
def Ae(a:Ξ):(BW<|.tuples .int).has (.list<|a.map λb=>hJ<|b.map gQ)=af:=by simp[tV]
def wI(e:Bool)(K:aR):lV:=λx y H Q=>(∃a b f g,x=.c a/\y=.c b/\cM H a f/\cM H b g/\Q (.e<|if e then !aC (f=g) else aC (f=g)) H) \/
 (∃l m h i c d,x=.c l/\y=.c m/\bP K H l (h.map ag.c)/\bC H h c/\bP K H m (i.map ag.c)/\bC H i d/\Q (.e<|if e then !aC (c=d) else aC (c=d)) H)
def Ur(g:X.A.units+64<c_):fE X (iz .Eq) (wI aB X.K):=by
 intro i s z H x y v u Q I j k h;rcases h with ⟨a,b,c,f,rfl,rfl,n,o,q⟩|⟨l,m,A,C,d,e,rfl,rfl,p,r,t,w,q⟩
 ·cases j
  cases k;refine eq_dataH_same (wE I n) (wE I o) (zO _) (zO _) g (yF (.tuples .int) O _ _ (Ad _)<|Ad _) ?_;rw[show nt (.tuple<|c.map gQ) (.tuple<|f.map gQ)=aC (c=f) from by simp only[nt];exact Hq c f];exact(.e _,H,I,O,q)
 ·cases j
  cases k;refine eq_dataH_same (zQ I p r) (zQ I t w) (zP _) (zP _) g (yF (.list<|.tuples .int) O _ _ (Ae _)<|Ae _) ?_;rw[show nt (.list<|d.map λc=>hJ<|c.map gQ) (.list<|e.map λc=>hJ<|c.map gQ)=aC (d=e) from by simp only[nt];exact DQ d e];exact(.e _,H,I,O,q)
def Ec(g:X.A.units+64<c_):fE X (iz .NotEq) (wI af X.K):=by
 intro i s z H x y v u Q I j k h;rcases h with ⟨a,b,c,f,rfl,rfl,n,o,q⟩|⟨l,m,A,C,d,e,rfl,rfl,p,r,t,w,q⟩
 ·cases j
  cases k;refine HQ (wE I n) (wE I o) (zO _) (zO _) g (yF (.tuples .int) O _ _ (Ad _)<|Ad _) ?_;rw[show nt (.tuple<|c.map gQ) (.tuple<|f.map gQ)=aC (c=f) from by simp only[nt];exact Hq c f];exact(.e _,H,I,O,q)
 ·cases j
  cases k;refine HQ (zQ I p r) (zQ I t w) (zP _) (zP _) g (yF (.list<|.tuples .int) O _ _ (Ae _)<|Ae _) ?_;rw[show nt (.list<|d.map λc=>hJ<|c.map gQ) (.list<|e.map λc=>hJ<|c.map gQ)=aC (d=e) from by simp only[nt];exact DQ d e];exact(.e _,H,I,O,q)
inductive Kt(x:ag)(vs:List ag)(H:ae)(Q:aS):Prop
 |a:∀l xs i y,(x=.c l)->(vs=[.d i,y])->(H l=V (.a xs))->(0<=i)->(i<=xs.length)->(xs.length<bQ)->(Q .g<|aw H l<|.a<|xs.take i.toNat++y::xs.drop i.toNat)->Kt x vs H Q
def Uz:uX X "list.insert" Kt:=by
 intro c s w H x A v C Q I g j h;obtain⟨l,D,i,y,rfl,rfl,d,E,G,K,q⟩:=h;cases g;obtain⟨u,f,rfl,k,b⟩:=j.A1;obtain⟨t,rfl⟩:=k;obtain⟨z,a,n,r,L,e⟩:=I.W d;have m:bQ<2 ^ 62:=by rw[kM];decide
 have o:adh i=af:=by
  unfold adh;simp only[kW,iD];constructor<;>omega
 refine rO aci (_,e,O) F.entry_list_insert (F.args_list_insert_3 _ _ _) (ahi l a.toArray n i t f (by simp[o]) (by rw[cT];exact à (æ L) z)) (e,?_);refine(.g,_,I.B0 (its':=a.take i.toNat++f::a.drop i.toNat) (t':=s.toks) d e ?_ ((r.J _).B<|.cons b<|r.M _) ?_,O,q)
 ·have p:(if i<0 then(i+(a.toArray.size:Int)).toNat else gc i.toNat a.toArray.size)=i.toNat:=by
   rw[ap ω,cT];omega
  dsimp only;rw[p];simp;exact e_ (by rw[mG];exact aW _)
 ·rw[ck,cO,dR,mG]
  omega
def VG:js X (.type "int") (λa H Q=>∃x n,a=[.f x]/\Hm x=V n/\x.length<=640/\Q (.d n) H):=by
 intro b s e H a f Q I r h;obtain⟨x,n,rfl,c,d,q⟩:=h;obtain⟨u,rfl,t,rfl⟩:=iF r;exact afz c d (.d n,H,I.J _,(_,O),q)
end
section
variable{X:bf}{pins:Ψ}{σ:aO}{H:ae}{s:ak}
def Lb{A:bY}(h:A.units+64<c_):A.in1.in1.units<c_:=by show A.units+1+1<c_;omega
def Ek{A:bY}(h:A.units+64<c_):A.in1.units<c_:=by show A.units+1<c_;omega
def VB:js X (.builtin "sorted") (λA H Q=>∃(l:Y)(b:List Int),A=[.c l]/\bP X.K H l (b.map ag.d)/\b.length<1000/\∀(D:Y)(v:List Int),v.Perm b->v.Pairwise (·<=·)->H D=Z->Q (.c D) (aw H D<|.a<|v.map ag.d)):=by
 intro pins s σ H A us Q I r h;obtain⟨l,b,rfl,w,M,q⟩:=h;obtain⟨u,rfl,P⟩:=iF r;cases P;obtain⟨d,C,R,E⟩:=I.j w;have G:gg d b:=oW C;have j:=C.j;rw[ax] at j E;refine Jz (ls:=b.map λn=>[n]) (good:=λ_=>True) R.isList (RS G) (λ_ _=>trivial) (à (æ j) E) (à (ï (æ j)) M) λk x=>?_;obtain⟨a,K,x,S⟩:=x;have f:∀p∈a,∃n t,p.1=[n]/\p.2=bz n t:=λp y=>by
  obtain⟨i,e⟩:=mD.mp<|K.mem_iff.mp y;rw[pR,cB] at e;cases c:b[i]? with
  |none=>rw[c] at e;simp at e
  |some n=>
   obtain⟨t,g⟩:=G.get i n c;rw[c,g] at e;simp only[nB,Option.bind_some,rZ] at e;subst e;exact(n,t,O,O)
 have T:∀a:List (List Int×aa),(∀p∈a,∃n t,p.1=[n]/\p.2=bz n t)->cw ((a.map λp=>p.1.headD 0).map ag.d) (a.map (·.2)):=by
  intro a
  induction a with
  |nil=>intro _;exact .nil
  |cons p a U=>
   intro h;obtain⟨n,t,c,g⟩:=h p dQ;refine .cons ?_<|U λq w=>h q<|eV _ w;show co (ag.d<|p.1.headD 0) p.2;rw[c,g];exact(t,O)
 have L:(a.map λp=>p.1.headD 0).Perm b:=by
  have o:=K.map (λp:List Int×aa=>p.1.headD 0);have e:((b.map λn=>[n]).zip d).map (λp:List Int×aa=>p.1.headD 0)=b:=by
   rw[show(λp:List Int×aa=>p.1.headD 0)=(λl:List Int=>l.headD 0) ∘ rX from O,<-cj,Iw (by rw[ax];exact å j),cj];exact Iv b
  rw[e] at o;exact o
 have pw:(a.map λp=>p.1.headD 0).Pairwise (·<=·):=by
  rw[jK];refine S.imp_of_mem λ{p q} o h2 z=>?_;obtain⟨n,t,c,_⟩:=f p o;obtain⟨m,t',g,_⟩:=f q h2;rw[c,g,mf] at z;rw[c,g];show n<=m
  by_cases e:m=n
  ·omega
  ·rw[ap e] at z
   have:=nM z;omega
 obtain⟨e,he⟩:=sortedAll_at s.heap d k;refine(.c<|s⁻¹+1,_,I.F (t':=s.toks) (λ_ _=>sortedAll_old) (oI _)<|show dt X.prog X.w _ _ _ (.a<|(a.map λp=>p.1.headD 0).map ag.d) from(?_,k.toList,e,?_,?_),O,q _ _ L pw<|I.a.j<|oI _)
 ·rw[ax,L.length_eq];exact E
 ·rw[x];exact T a f
 ·simpa using he
def L_(H:ae)(p:Y)(l:List Int):Prop:=∃n b a,l=n::a/\H p=V (.b [.d n,.c b])/\cM H b a
def KE(I:aE X pins σ H s)(h:L_ H p l):nO s.heap (.ref p) l:=by
 obtain⟨n,b,d,rfl,e,f⟩:=h;obtain⟨g,i,j,_⟩:=I.q<|fM.j (K:=X.K) e;obtain⟨u,o,rfl,⟨t,rfl⟩,c⟩:=JR i;cases c;obtain⟨a,k,m,_⟩:=I.q<|fM.j (K:=X.K) f;exact(p,b,n,t,a,d,O,O,j,m,oW k)
def TV{h f:aT}(k:∀b o,h.get? b=V o->f.get? b=V o)(x:nO h u l):nO f u l:=by
 obtain⟨a,b,n,t,c,g,j,m,⟨o,p,q⟩,⟨r,d,e⟩,i⟩:=x;exact(a,b,n,t,c,g,j,m,(o,k _ _ p,q),(r,k _ _ d,e),i)
def pW{c d:Type}{R:c->d->Prop}{l:List c}{m:List d}(p:du R l m):∀(i:Nat) x y,l[i]?=V x->m[i]?=V y->R x y:=by
 induction p with
 |nil=>intro i x y h;simp at h
 |cons r t e=>
  intro i x y a b;cases i with
  |zero=>simp at a b;subst a b;exact r
  |succ i=>exact e i x y (by simpa using a) (by simpa using b)
noncomputable def lT:aa->Y
 |.ref a=>a
 |_=>0
def VA(L:X.A.units+64<c_):js X (.builtin "sorted") (λA H Q=>∃(l:Y)(c:List Y)(d:Ξ),A=[.c l]/\bP X.K H l (c.map ag.c)/\du (L_ H) c d/\d.length<1000/\
  ∀(D:Y)(t:List (List Int×Y)),t.Perm (d.zip c)->t.Pairwise (λa b=>bV b.1 a.1=aB)->H D=Z->Q (.c D) (aw H D<|.a<|t.map λq=>ag.c q.2)):=by
 intro pins s σ H A us Q I r h;obtain⟨l,c,d,rfl,M,C,P,q⟩:=h;obtain⟨u,rfl,R⟩:=iF r;cases R;obtain⟨S,E,T,G⟩:=I.j M;have k:=E.j;obtain rfl:=oR E;rw[ax] at k G;have v:=fP C;have w:∀h:aT,(∀b o,s.heap.get? b=V o->h.get? b=V o)->∀(i:Nat) u l,(c.map ab)[i]?=V u->d[i]?=V l->nO h u l:=λh x i u l f U=>by
  rw[cB] at f;cases e:c[i]? with
  |none=>rw[e] at f;simp at f
  |some a=>
   rw[e] at f;obtain rfl:=cH f;exact TV x<|KE I<|pW C i a l e U
 refine Jz (ls:=d) (good:=λh=>∀b o,s.heap.get? b=V o->h.get? b=V o) T.isList (JE (by rw[ax];exact v) (Lb L) (s.heap,λ_ _ e=>e) w) (λh' x=>x) (by rw[ax];exact G) (by rw[ax];exact à (ï (å v)) P) λg y=>?_;obtain⟨n,m,y,hs⟩:=y;have z:∀p∈n,p.2=ab (lT p.2):=λp j=>by
  have:=(CH (m.mem_iff.mp j:(abd p.1 p.2)∈d.zip (c.map ab))).2;obtain⟨a,_,e⟩:=aP.mp this;rw[<-e];rfl
 have K:(n.map λp=>(abd p.1 (lT p.2))).Perm (d.zip c):=by
  have f:=m.map (λp:List Int×aa=>(abd p.1 (lT p.2)));have e:(d.zip<|c.map ab).map (λp:List Int×aa=>(abd p.1 (lT p.2)))=d.zip c:=by
   rw[List.zip_map_right,cj];exact(kj λp _=>O).trans<|Iv _
  rw[e] at f;exact f
 obtain⟨e,he⟩:=sortedAll_at s.heap (c.map ab) g;have ex:g.toList=((n.map λp=>(abd p.1 (lT p.2))).map λq=>ab q.2):=by
  rw[y,cj];exact kj λp j=>z p j
 refine(.c<|s⁻¹+1,_,I.F (t':=s.toks) (λ_ _=>sortedAll_old) (oI _)<|show dt X.prog X.w _ _ _ (.a<|(n.map λp=>(abd p.1 (lT p.2))).map λq=>ag.c q.2) from(?_,g.toList,e,?_,?_),O,q _ _ K ?_<|I.a.j<|oI _)
 ·rw[ax,K.length_eq,ze];omega
 ·rw[ex]
  exact DS (λq:List Int×Y=>q.2) _
 ·simpa using he
 ·rw[jK];exact hs
def TF(c:ae->Y->List Int->Prop)(d:Y->List Int->List ag):lj:=λe H Q _=>∃a b,e=[.c a]/\c H a b/\∀p,H p=Z->Q (.c p) (aw H p<|.b<|d a b)
def zM:lj:=λc H Q _=>∃a b,c=[.c a]/\cM H a b/\∀p,H p=Z->Q (.c p) (aw H p<|.b [.d b.length,.c a])
def KH{a c:Type}{R:a->c->Prop}{l:List a}{m:List c}{i:Nat}{x:a}(h:du R l m)(e:l[i]?=V x):∃y,m[i]?=V y/\R x y:=by
 have b:=(cr.mp e).1;rw[fP h] at b;exact(m[i],dq b,pW h i _ _ e<|dq b)
def rn{b:Y}(h:gl X pins H b):∀c∈[b],gl X pins H c:=λc a=>by rw[cJ.mp a];exact h
def wR{a:ae}{b:Y}(f:gl X pins H b)(c:a b=Z):gl X pins a b:=(c,f.2)
def Lh{b:Y}(I:aE X pins σ H s)(f:gl X pins H b):b∉li X.e:=λa=>by
 rcases bZ.mp (I.A3 b a) with e|e
 ·exact f.2.1 e
 ·exact f.2.2.1 e
def TG{At:ae->Y->List Int->Prop}{Kf:Y->List Int->List ag}{Is:aT->aa->List Int->Prop}{rk un:List Int->List Int}(b1:∀{H H':ae}{a:Y}{n:List Int},aF H H'->At H a n->At H' a n)(a3:∀n,un (rk n)=n)(c4:∀{pins:Ψ}{σ:aO}{H:ae}{s:ak}{p a:Y}{n:List Int},aE X pins σ H s->At H a n->H p=V (.b<|Kf a n)->Is s.heap (.ref p) (rk n))(c5:∀(A:bY)(E:aT->Prop)(us:List aa)(ls:Ξ),us.length=ls.length->A.units<c_->(∃h,E h)->(∀h,E h->∀(i:Nat) u l,us[i]?=V u->ls[i]?=V l->Is h u l)->qX X.prog X.w A E us ls){k:Nat}{t:List Y}{x:au}{Q:Ω}(F:bO X.prog X.w X.K X.c X.base bv k f fd [x] (TF At Kf))(hr:eQ (k+2) X.A)(T:cQ X.K fd [x] [])(I:aE X pins σ H s)(hl:bP X.K H l (t.map ag.c))(ht:du (At H) t w)(e7:w.length<1000)(h:∀D H'(qs:List (List Int×Y)) y,aE X pins σ H' y->aF H H'->H D=Z->H' D=V (.a<|qs.map λq=>ag.c q.2)->qs.Perm (w.zip t)->
   qs.Pairwise (λa b=>bV (rk b.1) (rk a.1)=aB)->Q (.ref D) y):
  aA (aH X.prog X.w) X.A (jJ (.builtin "sorted") [.ref l] [(abd (kf "key") (.ref f))]) Q X.a s:=by
 have hu:X.A.units+64<c_:=hr.units;obtain⟨e8,r1,p1,hz⟩:=I.j hl;have b2:=r1.j;obtain rfl:=oR r1;have c6:=fP ht;rw[ax] at b2 hz;have K:(t.map ab).length<=bQ:=by rw[ax];exact hz
 generalize a4:t.map ab=g at p1 K;have b3:g.length=t.length:=by rw[<-a4,ax]
 refine call_function_entry_kw kind_sorted plain_sorted entry_sorted (ksk_s1 _ _) ?_;unfold Builtin.«sorted»;refine aj (m:=checkCount "sorted" 1 1 _)<|aI ?_;refine aj<|collect_list p1.isList ?_ K;refine aj<|BG ?_ K;have a5:((s.heap.push<|cF "list" #[] 0).update s⁻¹ (de (·++g.toArray))).objs.size=s⁻¹+1:=by
  rw[vW,Cv]
 have C:(((s.heap.push<|cF "list" #[] 0).update s⁻¹ (de (·++g.toArray))).push<|cF "list" g.toArray 0).get? (s⁻¹+1)=V (cF "list" g.toArray 0):=by
  rw[<-a5];exact dF _ O
 have a2:∀b o,s.heap.get? b=V o->(((s.heap.push<|cF "list" #[] 0).update s⁻¹ (de (·++g.toArray))).push<|cF "list" g.toArray 0).get? b=V o:=λb o q=>by
  have a6:b<s⁻¹:=cR q;rw[yJ _ _ _ (by rw[a5];exact dz<|lM a6),HA _ _ _ _<|dz a6,yJ _ _ _<|dz a6];exact q
 show aA _ _ _ _ _ {s with heap:=((s.heap.push<|cF "list" #[] 0).update s⁻¹ (de (·++g.toArray))).push<|cF "list" g.toArray 0};rw[a5];generalize hA:((s.heap.push<|cF "list" #[] 0).update s⁻¹ (de (·++g.toArray))).push (cF "list" g.toArray 0)=d at C a2 ⊢;have I1:aE X pins σ H {s with heap:=d}:=I.B (t':=s.toks) a2;have L:gl X pins H (s⁻¹+1):=I.M (oI _)<|I.a.j<|oI _;generalize hD:s⁻¹+1=D at C L ⊢;have e5:D<d.objs.size:=cR C;refine aj<|il<|wpAny_call_entry_kw slot_list_sort (_,C,O) ad0 ?body<|ksk_l1 _ _
 case body=>
  show aA (aH X.prog X.w) X.A.in1.in1 (Builtin.«list.sort» ([.ref D],[(abd (kf "key") (.ref f))])) _ _ _;rw[ksk_t1];unfold ksk_tree;refine aj<|Qn C O ?_;refine aj<|yQ C O ?_ (by rw[cT];exact K)<|eM _;obtain⟨e1,b4⟩:∃e1,(d.update D<|de λ_=>(#[]:Array aa)).get? D=V (cF "list" #[] e1):=(_,we C λ_=>#[]);refine aj<|HP b4 O ?_;refine aj<|G_ ?_ (by show g.length<=_;exact K);refine aj<|BG ?_<|eM _;refine il ?_;have I2:aE X pins σ H {s with heap:=d.update D<|de λ_=>(#[]:Array aa)}:=
   aE.N (s:={s with heap:=d}) (t':=s.toks) (ch:=[D]) I1 (rn L) λb o T q=>by rw[HA _ _ _ _ (λz=>T (by simp[z]))];exact q
  have I3:aE X pins σ H {s with heap:=((d.update D<|de λ_=>(#[]:Array aa)).push<|cF "tuple" g.toArray 0)}:=I2.B (t':=s.toks) λb u q=>cx _ q;have a0:gl X pins H ((d.update D<|de λ_=>(#[]:Array aa)).push<|cF "tuple" g.toArray 0).objs.size:=I3.M (aW _)<|I3.a.j<|aW _;have b5:((d.update D<|de λ_=>(#[]:Array aa)).push<|cF "tuple" g.toArray 0).objs.size≠D:=by
   rw[Cv,vW];exact ö (í e5)
  have I4:aE X pins σ H {s with heap:=(((d.update D<|de λ_=>(#[]:Array aa)).push<|cF "tuple" g.toArray 0).push<|cF "list" #[] 0)}:=I3.B (t':=s.toks) λb u q=>cx _ q;have c7:(((d.update D<|de λ_=>(#[]:Array aa)).push<|cF "tuple" g.toArray 0).push<|cF "list" #[] 0).get? ((d.update D<|de λ_=>(#[]:Array aa)).push<|cF "tuple" g.toArray 0).objs.size=V (cF "list" #[] 0):=dF _ O;have c8:(((d.update D<|de λ_=>(#[]:Array aa)).push<|cF "tuple" g.toArray 0).push<|cF "list" #[] 0).get? D=V (cF "list" #[] e1):=cx _<|cx _ b4;show aA (aH X.prog X.w) X.A.in1.in1 (ksk_rest D (.ref f) aB g.toArray e1<|.ref ((d.update D<|de λ_=>(#[]:Array aa)).push<|cF "tuple" g.toArray 0).objs.size) _ _ {s with heap:=((d.update D<|de λ_=>(#[]:Array aa)).push<|cF "tuple" g.toArray 0).push<|cF "list" #[] 0};generalize ((d.update D<|de λ_=>(#[]:Array aa)).push<|cF "tuple" g.toArray 0).objs.size=kS at *;generalize ((d.update D<|de λ_=>(#[]:Array aa)).push<|cF "tuple" g.toArray 0).push (cF "list" #[] 0)=e9 at *;unfold ksk_rest;refine aj<|lv ?_
  first
   |rw[List.forIn_toArray]
   |(rw[<-Array.forIn_toList];simp only[List.toList_toArray])
  refine aj (ksk_fold (λi y=>∃G kA e M,aE X pins σ G y/\aF H G/\G D=Z/\G kS=Z/\y.heap.get? kS=V (cF "list" kA e)/\y.heap.get? D=V (cF "list" #[] e1)/\kA.toList=M.map ab/\M.length=i/\
    ∀(j:Nat) p,M[j]?=V p->∃a n,t[j]?=V a/\w[j]?=V n/\G p=V (.b<|Kf a n)) g 0 _
   (H,#[],0,[],I4,aF.S H,L.1,a0.1,c7,c8,O,O,λj p e=>by simp at e) ?step ?done)
  case step=>
   rintro j v y hv ⟨G,kA,e,M,Ik,sk,P,U,nk,na,a1,hj,a7⟩;simp only[ui] at hj ⊢;have c9:j<t.length:=by rw[<-b3];exact(cr.mp hv).1
   have ea:t[j]?=V t[j]:=dq c9;obtain⟨n,d0,d1⟩:=KH ht ea;have ev:v=.ref t[j]:=by
    rw[<-a4,cB,ea] at hv;exact(cH hv).symm
   subst ev;refine aj (tN (He (tP (F.a X.A.in1.in1 X.e y G ([.ref t[j]],[]) [.ref t[j]] [.c t[j]] (λv H'=>∃p,v=.c p/\G p=Z/\H'=aw G p (.b<|Kf t[j] n)) sR
    (eQ.q<|eQ.q hr) Ik.C3.j.j (T y [.ref t[j]] Ik.A1 O) (.cons O .nil) (t[j],n,O,b1 sk d1,λp hp=>(p,O,hp,O))) λr R hq=>?_)))
   cases r with
   |error e=>exact iC hq
   |ok fl=>
    cases fl with
    |next=>exact iC hq
    |brk=>exact iC hq
    |cont=>exact iC hq
    |ret u=>
     obtain⟨v,H',os,b6,un,d2,ru,p,rfl,hp,rfl⟩:=hq;cases ru;have I5:aE X pins σ (aw G p<|.b<|Kf t[j] n) R:=Ik.B3 os un d2 b6 (λb z=>nomatch z);have fD:=wR L P;have fK:=wR a0 U;have d3:=un.c D _ na P (Lh Ik fD) (by simp);have b7:=un.c kS _ nk U (Lh Ik fK) (by simp);have d4:=un.a D _ na P (by simp);have b8:=un.a kS _ nk U (by simp)
     try dsimp only
     have f6:kA.size=j:=by rw[<-gR,a1,ax,hj]
     obtain⟨c2,d5⟩:∃c2,(R.heap.update kS (de (·.push<|.ref p))).get? kS=V (cF "list" (kA.push<|.ref p) c2):=(_,we b7 (·.push<|.ref p));have s1:=mC R.heap kS (de (·.push<|.ref p));have d6:=wR a0 b8;have I6:aE X pins σ (aw G p<|.b<|Kf t[j] n) {R with heap:=R.heap.update kS (de (·.push<|.ref p))}:=
      I5.N (t':=R.toks) (ch:=[kS]) (rn d6) λb o T q=>(s1.2 b (λz=>T (by simp[z]))).trans q
     refine aj<|yQ b7 O ?_ (à (à (å f6) (ì c9)) hz)<|dg (Il<|Re ..) (í (à (à (ï (å f6)) c9) hz));refine aI (O,_,kA.push<|.ref p,c2,M++[p],I6,sk.F (by exact sk.M hp),d4,b8,d5,(s1.2 D b5.symm).trans d3,by rw[zl,a1,bT];rfl,by rw[ck,hj];rfl,λi p' e'=>?_)
     by_cases hi:i<M.length
     ·rw[sj hi] at e'
      obtain⟨a,b9,x1,x2,x3⟩:=a7 i p' e';exact(a,b9,x1,x2,by rw[bG<|dJ x3 hp];exact x3)
     ·rw[qN (ô hi)] at e'
      have h0:i-M.length=0:=by
       rcases Qv (i-M.length) with z|z
       ·exact z
       ·rw[si (by simp only[cO,mF];exact z)] at e';cases e'
      rw[h0] at e';obtain rfl:p=p':=by simpa using e'
      have d7:i=j:=ω
      subst d7;exact(_,n,ea,d0,ay)
  case done=>
   rintro y ⟨G,kA,e,M,Ik,sk,P,U,nk,na,a1,hj,a7⟩;simp only[ui] at hj
   try dsimp only
   refine aj<|Qn nk O ?_;unfold ksk_end
   try dsimp only
   simp only[dD,dc];have d8:kA=(M.map ab).toArray:=by rw[<-a1,Array.toArray_toList]
   subst d8;have d9:∀(i:Nat) u l,(M.map ab)[i]?=V u->(w.map rk)[i]?=V l->Is y.heap u l:=λi u l S h2=>by
    rw[cB] at S h2;cases ek:M[i]? with
    |none=>rw[ek] at S;simp at S
    |some p=>
     obtain⟨a,n,x1,x2,x3⟩:=a7 i p ek;rw[ek] at S;rw[x2] at h2;obtain rfl:=cH S;obtain rfl:=cH h2;obtain⟨b9,y1,y2⟩:=KH ht x1;rw[x2] at y1;obtain rfl:=cH y1;exact c4 Ik (b1 sk y2) x3
   refine JA (us:=M.map ab) (vs:=g) (ls:=w.map rk) (good:=λh=>h=y.heap) (c5 _ _ _ _ (by rw[ax,ax,hj,b3];exact c6) (Lb hu) (_,O) (by rintro h rfl;exact d9)) (by rw[ax,hj]) (à (à (ï (å b3)) (ï (å c6))) e7) O λf7 ho e0 hf=>?_;refine RK (ls:=w.map rk) (vs:=g) nk na b5 (by rw[cT,ax];exact à (å hj) K) ho e0 K hf λh' a8 c kk e3 f8 c0 e6=>(_,O,?_);refine aI (_,O,?_);obtain⟨n,c1,c3,hs⟩:=c0;subst a4;have I7:aE X pins σ G {y with heap:=h'}:=Ik.N (t':=y.toks) (ch:=[kS,D]) (λb T=>by
     simp only[bZ,pI,oM] at T;rcases T with rfl|rfl
     ·exact wR a0 U
     ·exact wR L P) λb o T q=>kk b o (λz=>T (by simp[z])) (λz=>T (by simp[z])) q
   have a9:∀p∈n,∃a qs,p.2=ab a/\p.1=rk qs:=λp b0=>by
    obtain⟨S,h2⟩:=CH (c1.mem_iff.mp b0:(abd p.1 p.2)∈_);obtain⟨a,_,ea⟩:=aP.mp h2;obtain⟨qs,_,eq⟩:=aP.mp S;exact(a,qs,ea.symm,eq.symm)
   have pm:(n.map λp=>(abd (un p.1) (lT p.2))).Perm (w.zip t):=by
    have S:=c1.map (λp:List Int×aa=>(abd (un p.1) (lT p.2)));have e:((w.map rk).zip<|t.map ab).map (λp:List Int×aa=>(abd (un p.1) (lT p.2)))=w.zip t:=by
     rw[List.zip_map,cj];exact(kj λp _=>by show(abd (un<|rk p.1) p.2)=p;rw[a3]).trans<|Iv _
    rw[e] at S;exact S
   have ex:a8.toList=((n.map λp=>(abd (un p.1) (lT p.2))).map λq=>ab q.2):=by
    rw[c3,cj];refine kj λp b0=>?_;obtain⟨a,qs,e1,_⟩:=a9 p b0;show p.2=ab (lT p.2);rw[e1];rfl
   have vv:cw ((n.map λp=>(abd (un p.1) (lT p.2))).map λq=>ag.c q.2) a8.toList:=by
    rw[ex];exact DS (λq:List Int×Y=>q.2) _
   obtain⟨f0,f1,f2,f3,f4,f5⟩:=L;have e4:X.d⁻¹<=D:=by rw[<-hD];exact dg I.sz<|oI _
   have I8:aE X pins σ (aw G D<|.a<|(n.map λp=>(abd (un p.1) (lT p.2))).map λq=>ag.c q.2) {y with heap:=h'}:=by
    refine I7.B9 P e4 f1 f4 f5 (?_,a8.toList,c,vv,?_)
    ·rw[ax,pm.length_eq,ze];omega
    ·simpa using e3
   refine h D _ _ _ I8 (sk.F f0) f0 ay pm ?_;rw[jK];refine hs.imp_of_mem λ{p q} S h2 h3=>?_;obtain⟨_,qs,_,e1⟩:=a9 p S;obtain⟨_,f9,_,e2⟩:=a9 q h2;rw[e1,e2] at h3;show bV (rk<|un q.1) (rk<|un p.1)=aB;rw[e1,e2,a3,a3];exact h3
def TJ{k:Nat}{j:List Y}{x:au}{Q:Ω}(F:bO X.prog X.w X.K X.c X.base bv k f p [x] zM)(t:eQ (k+2) X.A)(u:cQ X.K p [x] [])(I:aE X pins σ H s)(v:bP X.K H l (j.map ag.c))(w:bC H j g)(m:g.length<1000)(h:∀D n(o:List (List Int×Y)) r,aE X pins σ n r->aF H n->H D=Z->n D=V (.a<|o.map λq=>ag.c q.2)->o.Perm (g.zip j)->
   o.Pairwise (λa b=>bV ((b.1.length:Int)::b.1) ((a.1.length:Int)::a.1)=aB)->Q (.ref D) r):
  aA (aH X.prog X.w) X.A (jJ (.builtin "sorted") [.ref l] [(abd (kf "key") (.ref f))]) Q X.a s:=
 TG (At:=cM) (Kf:=λa i=>[.d i.length,.c a]) (Is:=nO) (rk:=λi=>(i.length:Int)::i) (un:=yY) (λs h=>s.B h) (λ_=>O) (λI h e=>KE I (_,_,_,O,e,h)) (λ_ _ _ _ a b c d=>JE a b c d) F t u I v w m h
end
section
variable{X:bf}{a:bB}{ta:fX}{p p2 pos kpos:cD}{k:Nat}{f:Y}{fd:cS}{x y:au}
def Tg(K:aR)(ta:fX):a_:=λh H Q=>ta h H λi d=>∃(l:Y)(e:List Y)(c:Ξ),i=[.c l]/\bP K d l (e.map ag.c)/\bC d e c/\c.length<1000/\
 ∀D f(g:List (List Int×Y)),aF d f->d D=Z->f D=V (.a<|g.map λq=>ag.c q.2)->g.Perm (c.zip e)->g.Pairwise (λa b=>bV ((b.1.length:Int)::b.1) ((a.1.length:Int)::a.1)=aB)->Q (.c D) f
def Ud(F:bO X.prog X.w X.K X.c X.base bv k f fd [x] zM)(o:eQ (k+2) X.A)(r:cQ X.K fd [x] [])(t:kC X "sorted")(v:X.c "sorted"=Z)(w:hC "sorted"=V (.builtin "sorted"))(c:kC X y)(d:X.c y=V (.ref f))(z:jR X [a] ta)(e:(y==("__debug__":au))=aB:=by decide)(j:fh [a] X.env=[(abd aB (dC a X.env))]:=by rfl):bJ X (.Call (.Name "sorted" p) [a] [(V "key",.Name y p2,kpos)] pos) (Tg X.K ta):=by
 intro b s A H Q I h;refine BH<|pZ I t v w ?_;refine callWith_kw ?_ (by rw[j];rfl) (by rw[j];rfl) O O;refine bM (z pos b s A H _ I h) λus C (vs,H1,m,E,G)=>?_;obtain⟨l,as,K,rfl,L,M,g,q⟩:=G;obtain⟨u,rfl,P⟩:=iF E;cases P;refine kws_cons<|Ei m c d (kws_nil ?_) e;show aA (aH X.prog X.w) X.A (jJ (.builtin "sorted") [.ref l] [(abd (kf "key") (.ref f))]) _ _ C;exact TJ F o r m L M g λD n R s' S T U i hp hs=>(.c D,n,S,O,q D n R T U i hp hs)
end
section
open PySem.SetTable
def sB(c:Array Nat):Prop:=∀(i j a b:Nat),c[i]?=V a->c[j]?=V b->i<j->a<b
def sB.q{b:Array Nat}(h:sB b){i j a:Nat}(c:b[i]?=V a)(d:b[j]?=V a):i=j:=by
 rcases If i j with q|q|q
 ·exact bu (h i j a a c d q)<|oH _
 ·exact q
 ·exact bu (h j i a a d c q)<|oH _
def DC{j:Nat}(k:sB f):∀(b c d:Nat),d-c<=b->c<=d->d<=f.size->(∀i a,f[i]?=V a->i<c->a<j)->(∀i a,f[i]?=V a->d<=i->j<=a)->
  yD f j b c d<=f.size/\(∀i a,f[i]?=V a->i<yD f j b c d->a<j)/\(∀i a,f[i]?=V a->yD f j b c d<=i->j<=a)
 |0,c,d,t,u,l,m,n=>by
  have e:c=d:=ω
  subst e;exact(l,m,n)
 |b+1,c,d,t,u,l,m,n=>by
  have r:yD f j (b+1) c d=if c<d then(if f.getD ((c+d) / 2) j<j then yD f j b ((c+d) / 2+1) d else yD f j b c ((c+d) / 2)) else c:=O;rw[r]
  by_cases h:c<d
  ·rw[az h]
   have s:(c+d) / 2<f.size:=ω
   have o:f[(c+d) / 2]?=V f[(c+d) / 2]:=hY f _ s;have v:f.getD ((c+d) / 2) j=f[(c+d) / 2]:=by simp[afn,s]
   rw[v]
   by_cases p:f[(c+d) / 2]<j
   ·rw[az p]
    refine DC k b _ _ ω ω l (λi a e g=>?_) n;rcases Ig (qJ.mp g) with q|q
    ·exact CE (k _ _ _ _ e o q) p
    ·subst q;rw[o] at e;cases e;exact p
   ·rw[ap p]
    refine DC k b _ _ ω ω (ì s) m (λi a e g=>?_);rcases Ig g with q|q
    ·have:=k _ _ _ _ o e q
     exact à (ô p) (ì this)
    ·subst q;rw[o] at e;cases e;exact ô p
  ·rw[ap h]
   have e:c=d:=(û u (ô h))
   subst e;exact(l,m,n)
def DE{b:Array Nat}(c:sB b)(j:Nat):gP b j<=b.size/\(∀i a,b[i]?=V a->i<gP b j->a<j)/\(∀i a,b[i]?=V a->gP b j<=i->j<=a):=
 DC c b.size 0 b.size ω ú (aW _) (λ_ _ _ h=>bu h<|H_ _) (λi a e h=>by have:=(uw.mp e).1;omega)
def SJ(b:sB a){i j:Nat}(e:a[i]?=V j):gP a j=i:=by
 obtain⟨h,d,f⟩:=DE b j;rcases If (gP a j) i with q|q|q
 ·have g:gP a j<a.size:=CE q (uw.mp e).1
  have c:=hY a (gP a j) g;have k:=f _ _ c<|aW _;have l:=b _ _ _ _ c e q;omega
 ·exact q
 ·exact bu (d i j e q)<|oH _
def mM{c:Type}(a:Array c)(p:Nat)(j:c)(g:p<=a.size)(i:Nat):(gA a p j)[i]?=if i<p then a[i]? else if i=p then V j else a[i-1]?:=by
 unfold gA;have f:((a.extract 0 p).push j).size=p+1:=by rw[Re,qU];omega
 by_cases b:i<p
 ·rw[az b,afm (à b (ì (æ f))),Array.getElem?_push_lt (by rw[qU];omega)]
  simp[Array.getElem_extract,b]
 ·rw[ap b]
  by_cases d:i=p
  ·subst d
   rw[az O,afm (æ f)];have e:(a.extract 0 i).size=i:=by rw[qU];omega
   have:=Array.getElem?_push_size (xs:=a.extract 0 i) (x:=j);rw[e] at this;exact this
  ·rw[ap d,Array.getElem?_append_right (à (å f) (ÿ (ô b) d)),f,afl]
   by_cases h:i-(p+1)<a.size-p
   ·rw[az ω]
    congr 1
    omega
   ·rw[ap ω]
    exact(Rg ω).symm
def zG{b:Type}(a:Array b)(p:Nat)(x:b)(c:p<=a.size):(gA a p x).size=a.size+1:=by
 unfold gA;rw[Array.size_append,Re,qU,qU];omega
def Sr(f:sB e){j:Nat}(n:∀i:Nat,e[i]?≠V j):sB (gA e (gP e j) j):=by
 obtain⟨o,p,r⟩:=DE f j;intro a b x y d c g;rw[mM _ _ _ o] at d c
 by_cases h:a<gP e j
 ·rw[az h] at d
  by_cases k:b<gP e j
  ·rw[az k] at c;exact f _ _ _ _ d c g
  ·rw[ap k] at c
   by_cases l:b=gP e j
   ·rw[az l] at c;cases c;exact p _ _ d h
   ·rw[ap l] at c;exact f _ _ _ _ d c ω
 ·rw[ap h] at d
  rw[ap (ù (à (ô h) (ì g)))] at c
  by_cases m:a=gP e j
  ·rw[az m] at d;cases d
   rw[ap (ö (à (ï (ô h)) g))] at c;have:=r _ _ c ω;rcases Ig this with q|q
   ·exact q
   ·subst q;exact bu c<|n _
  ·rw[ap m] at d
   rw[ap (ö (à (ï (ô h)) g))] at c;exact f _ _ _ _ d c ω
noncomputable def lP(a:Nat)(p:B_):B_:=
 if p.more>0 then {p with j:=p.j+1,more:=p.more-1} else
 {p with j:=(rR a p.i p.perturb).1,more:=f_ a (rR a p.i p.perturb).1-(rR a p.i p.perturb).1,i:=(rR a p.i p.perturb).1,perturb:=(rR a p.i p.perturb).2}
noncomputable def Sx(a:Nat)(h:Int):B_:={j:=kh h%(a+1),more:=f_ a (kh h%(a+1))-kh h%(a+1),i:=kh h%(a+1),perturb:=kh h,dummy:=Z}
noncomputable def cP(a:Nat)(h:Int):Nat->B_
 |0=>Sx a h
 |n+1=>lP a (cP a h n)
noncomputable def ci(a:Nat)(h:Int)(n:Nat):Nat:=(cP a h n).j
def JJ(a:Nat)(h:Int):∀n,(cP a h n).dummy=Z
 |0=>O
 |n+1=>by
  show(lP a<|cP a h n).dummy=Z;unfold lP;split<;>exact JJ a h n
noncomputable def bS(a:Nat)(h:Int):Nat->Nat×Nat
 |0=>(kh h%(a+1),kh h)
 |r+1=>rR a (bS a h r).1 (bS a h r).2
def Sg(a i:Nat):f_ a i-i<=9:=by unfold f_;split<;>omega
def zD(a:Nat)(h:Int){n r:Nat}(e:cP a h n={j:=(bS a h r).1,more:=f_ a (bS a h r).1-(bS a h r).1,i:=(bS a h r).1,perturb:=(bS a h r).2,dummy:=Z}):∀k,k<=f_ a (bS a h r).1-(bS a h r).1->cP a h (n+k)={j:=(bS a h r).1+k,more:=f_ a (bS a h r).1-(bS a h r).1-k,i:=(bS a h r).1,perturb:=(bS a h r).2,dummy:=Z}
 |0,_=>e
 |k+1,c=>by
  have b:=zD a h e k (ì c);show lP a (cP a h<|n+k)=_;rw[b];unfold lP;rw[az (by show f_ a (bS a h r).1-(bS a h r).1-k>0;omega)]
  congr 1
def JH(a:Nat)(h:Int):∀r,∃n,n<=10*r/\cP a h n={j:=(bS a h r).1,more:=f_ a (bS a h r).1-(bS a h r).1,i:=(bS a h r).1,perturb:=(bS a h r).2,dummy:=Z}
 |0=>(0,aW _,O)
 |r+1=>by
  obtain⟨n,b,e⟩:=JH a h r;have c:=Sg a (bS a h r).1;refine(n+(f_ a (bS a h r).1-(bS a h r).1)+1,ω,?_);show lP a (cP a h<|n+(f_ a (bS a h r).1-(bS a h r).1))=_;rw[zD a h e _<|aW _];unfold lP;rw[ap (by show ¬(f_ a (bS a h r).1-(bS a h r).1-(f_ a (bS a h r).1-(bS a h r).1)>0);omega)]
  rfl
def SI(h:Int):kh h<2 ^ 64:=by
 unfold kh;have a:(0:Int)<=h%(2 ^ 64:Int):=qR _ ξ;have b:h%(2 ^ 64:Int)<2 ^ 64:=qS _ ξ;omega
def JL(a:Nat)(h:Int):∀r,(bS a h r).2=kh h / 32 ^ r
 |0=>by simp[bS]
 |r+1=>by
  show(bS a h r).2 / 32=_;rw[JL a h r,Nat.div_div_eq_div_mul,CD]
def Sm(a:Nat)(h:Int){r:Nat}(b:13<=r):(bS a h r).2=0:=by
 rw[JL];have c:=SI h;have d:32 ^ 13<=32 ^ r:=HZ ξ b;exact Nat.div_eq_of_lt<|iB c<|dg ξ d
def JM(a:Nat)(h:Int):∀r,(bS a h r).1<=a
 |0=>qJ.mp (Ia _<|HY _)
 |r+1=>qJ.mp (Ia _<|HY _)
noncomputable def nP(a x:Nat):Nat:=(x*5+1)%(a+1)
noncomputable def kX(a:Nat):Nat->Nat->Nat
 |0,x=>x
 |k+1,x=>nP a (kX a k x)
def DA(a:Nat)(h:Int):∀k,(bS a h<|13+k).1=kX a k (bS a h 13).1
 |0=>O
 |k+1=>by
  show((bS a h<|13+k).1*5+1+(bS a h<|13+k).2 / 32)%(a+1)=nP a (kX a k (bS a h 13).1);rw[Sm a h ü,DA a h k]
  rfl
def lQ(a:Nat):Prop:=∀i s,i<=a->s<=a->∃k,k<=a/\kX a k i=s
noncomputable def uH(a:Nat):Nat->Nat->List Nat
 |0,_=>[]
 |n+1,x=>x::uH a n (nP a x)
def JK(a:Nat):∀(n x k:Nat),k<n->(uH a n x)[k]?=V (kX a k x)
 |0,_,_,h=>bu h (H_ _)
 |n+1,x,0,_=>O
 |n+1,x,k+1,h=>by
  have b:=JK a n (nP a x) k (ò h);show(uH a n<|nP a x)[k]?=_;rw[b]
  congr 1
  have c:∀k x,kX a k (nP a x)=nP a (kX a k x):=by
   intro k
   induction k with
   |zero=>intro x;rfl
   |succ k b=>intro x;show nP a (kX a k<|nP a x)=_;rw[b];rfl
  exact c k x
def Dz(a:Nat):∀n x,(uH a n x).length=n
 |0,_=>O
 |n+1,x=>by show(uH a n<|nP a x).length+1=_;rw[Dz a n]
def zF(c:Nat):∀(a b x:Nat),kX c (a+b) x=kX c a (kX c b x)
 |0,b,x=>by rw[ui];rfl
 |a+1,b,x=>by
  rw[Nat.add_right_comm];show nP c (kX c (a+b) x)=_;rw[zF c a b x]
  rfl
def wC{c:Nat}(h:((cV<|c+1).all λs=>(uH c (c+1) 0).contains s)=af)(n:kX c (c+1) 0=0):lQ c:=by
 have d:∀s,s<=c->∃k,k<=c/\kX c k 0=s:=λs g=>by
  have o:=pO.mp h s<|gB.mpr (ï g);obtain⟨k,f,e⟩:=oJ.mp<|List.contains_iff_mem.mp o;rw[Dz] at f;refine(k,(ò f),?_);have j:=JK c (c+1) 0 k f;rw[dq (by rw[Dz];exact f),e] at j;exact(cH j).symm
 intro i s p g;obtain⟨a,r,l⟩:=d i p;obtain⟨b,t,m⟩:=d s g;rcases nC b a with q|q
 ·refine(c+1-a+b,ω,?_)
  rw[<-l,<-zF,show c+1-a+b+a=b+(c+1) from ω,zF,n,m]
 ·refine(b-a,ω,?_)
  rw[<-l,<-zF,show b-a+a=b from ω,m]
def SC:lQ 7:=wC δ δ
def SE:lQ 31:=wC δ δ
def SD:lQ 63:=wC δ δ
def SF:lQ 255:=wC δ δ
def SG:lQ 127:=wC δ δ
def Sh(b:lQ a)(h:Int){x:Nat}(c:x<=a):∃n,n<10*lG a/\ci a h n=x:=by
 obtain⟨k,f,e⟩:=b (bS a h 13).1 x (JM a h 13) c;obtain⟨n,g,d⟩:=JH a h<|13+k;refine(n,by unfold lG;omega,?_);show(cP a h n).j=x;rw[d];show(bS a h<|13+k).1=x;rw[DA,e]
def Dx(a:Nat)(h:Int)(n:Nat):ci a h n<=a:=by
 have b:∀n,(cP a h n).i<=a/\(cP a h n).j+(cP a h n).more<=a:=by
  intro n;have c:∀f,f<=a->f+(f_ a f-f)<=a:=λf e=>by unfold f_;split<;>omega
  induction n with
  |zero=>
   have q:kh h%(a+1)<=a:=qJ.mp<|Ia _<|HY _;exact(q,c _ q)
  |succ n d=>
   show(lP a<|cP a h n).i<=a/\(lP a<|cP a h n).j+(lP a<|cP a h n).more<=a;unfold lP;split
   ·exact(d.1,by show(cP a h n).j+1+((cP a h n).more-1)<=a;omega)
   ·have q:(rR a (cP a h n).i (cP a h n).perturb).1<=a:=qJ.mp<|Ia _<|HY _
    exact(q,c _ q)
 have:=(b n).2;unfold ci;exact è this
end
section
open PySem.SetTable
structure jD(t:mx)(hs:Array Int):Prop where
 c:sB t.place
 b:t.dummies=#[]
 a:t.place.size=hs.size
 g:∀(i j:Nat),t.place[i]?=V j->j<=t.mask
 l:lQ t.mask
 f:t.mask%2=1
 e:hs.size<=t.mask
 d:∀(k j:Nat)(h:Int),hs[k]?=V h->t.place[k]?=V j->∃n,ci t.mask h n=j/\∀m,m<n->∃k':Nat,t.place[k']?=V (ci t.mask h m)
def kY(t:mx)(j:Nat):Prop:=∃i:Nat,t.place[i]?=V j
section
variable{t:mx}{hs:Array Int}
def uG(T:jD t hs){i j:Nat}(e:t.place[i]?=V j):t.slot j=.live i:=by
 show(if(t.place[gP t.place j]?==V j)=af then tX (gP t.place j) else _)=_;rw[SJ T.c e,e,az (by simp)]
def Sd(T:jD t hs){j:Nat}(e:¬kY t j):t.slot j=.empty:=by
 show(if(t.place[gP t.place j]?==V j)=af then tX (gP t.place j) else if has t.dummies j=af then Hv else yE)=_;have a:¬(t.place[gP t.place j]?==V j)=af:=by
  intro q;exact e (_,QR q)
 have b:has t.dummies j=aB:=by
  unfold has;rw[T.b]
  rfl
 rw[ap a,b]
 rfl
def Sv(T:jD t hs):∃x,x<=t.mask/\¬kY t x:=by
 apply kU;intro d;have a:∀x,x<=t.mask->kY t x:=λx b=>kU λq=>d (x,b,q);have c:cV (t.mask+1) ⊆ t.place.toList:=λx b=>by
  obtain⟨i,e⟩:=a x<|qJ.mp<|gB.mp b;rw[<-jB] at e;exact dp e
 have:=(y_ (n:=t.mask+1)).length_le_of_subset c;rw[mE,gR,T.a] at this;have:=T.e;omega
def DB{P:Nat->Prop}(n:Nat)(h:P n):∃m,m<=n/\P m/\∀k,k<m->¬P k:=by
 induction n using Nat.strongRecOn with
 |ind n c=>
  by_cases q:∃k,k<n/\P k
  ·obtain⟨k,a,b⟩:=q
   obtain⟨m,f,d,e⟩:=c k a b;exact(m,(à f (ì a)),d,e)
  ·exact(n,aW _,h,λk a b=>q (k,a,b))
def Sw(T:jD t hs)(h:Int):∃a,a<10*lG t.mask/\¬kY t (ci t.mask h a)/\∀m,m<a->kY t (ci t.mask h m):=by
 obtain⟨x,b,c⟩:=Sv T;obtain⟨n,i,e⟩:=Sh T.l h b;obtain⟨m,j,d,f⟩:=DB (P:=λm=>¬kY t (ci t.mask h m)) n (by rw[e];exact c);exact(m,(à (ï j) i),d,λk g=>kU λq=>f k g q)
def DD(T:jD t hs){a:Nat->Int}:∀(d b n:Nat),(∀m,n<=m->m<n+d->∃i:Nat,t.place[i]?=V (ci t.mask h m)/\a i≠h)->tW t a h (b+d) (cP t.mask h n)=tW t a h b (cP t.mask h<|n+d)
 |0,b,n,_=>O
 |d+1,b,n,c=>by
  obtain⟨i,e,f⟩:=c n (aW _) ω;have g:t.slot (cP t.mask h n).j=.live i:=uG T e;have k:=DD T d b (n+1) (λm l o=>c m (ì l) ω);rw[show b+(d+1)=(b+d)+1 from (û ß ß),show n+(d+1)=n+1+d from ω,<-k];show(match t.slot (cP t.mask h n).j with
   |.empty=>V (B' (cP t.mask h n).j (cP t.mask h n).dummy)
   |.dummy=>tW t a h (b+d) (t.advance {(cP t.mask h n) with dummy:=V (cP t.mask h n).j})
   |.live i=>if a i==h then V (Hw (cP t.mask h n).j i<|t.advance<|cP t.mask h n) else tW t a h (b+d) (t.advance<|cP t.mask h n))=_
  rw[g];dsimp only;rw[ap (by simpa using f)]
  rfl
def Sj(T:jD t hs){hashAt:Nat->Int}{g n:Nat}(w:g<10*lG t.mask)(x:¬kY t (ci t.mask h g))(s:∀m,m<g->kY t (ci t.mask h m))(C:n<=g):(t.probe hashAt h (cP t.mask h n)=V (.empty (ci t.mask h g) Z)/\∀m i,n<=m->m<g->t.place[i]?=V (ci t.mask h m)->hashAt i≠h) \/
  ∃(E i:Nat),n<=E/\E<g/\t.place[i]?=V (ci t.mask h E)/\hashAt i=h/\t.probe hashAt h (cP t.mask h n)=V (.candidate (ci t.mask h E) i<|cP t.mask h<|E+1)/\∀m k,n<=m->m<E->t.place[k]?=V (ci t.mask h m)->hashAt k≠h:=by
 by_cases q:∃E,n<=E/\E<g/\∃i:Nat,t.place[i]?=V (ci t.mask h E)/\hashAt i=h
 ·right
  obtain⟨p,o⟩:=q;obtain⟨E,D,⟨y,z,i,u,v⟩,A⟩:=DB (P:=λE=>n<=E/\E<g/\∃i:Nat,t.place[i]?=V (ci t.mask h E)/\hashAt i=h) p o;have l:∀m k,n<=m->m<E->t.place[k]?=V (ci t.mask h m)->hashAt k≠h:=λm k a b c d=>A m b (a,(à b (ì z)),k,c,d);refine(E,i,y,z,u,v,?_,l);obtain⟨f,r⟩:∃f,10*lG t.mask=(f+1)+(E-n):=(10*lG t.mask-(E-n)-1,ω);unfold ab5;rw[r,DD T (E-n) (f+1) n (λm a b=>?_),show n+(E-n)=E from ω]
  ·show(match t.slot (cP t.mask h E).j with
    |.empty=>V (B' (cP t.mask h E).j (cP t.mask h E).dummy)
    |.dummy=>tW t hashAt h f (t.advance {(cP t.mask h E) with dummy:=V (cP t.mask h E).j})
    |.live i=>if hashAt i==h then V (Hw (cP t.mask h E).j i<|t.advance<|cP t.mask h E) else tW t hashAt h f (t.advance<|cP t.mask h E))=_
   rw[show t.slot (cP t.mask h E).j=.live i from uG T u];dsimp only;rw[az (by simpa using v)]
   rfl
  ·obtain⟨k,e⟩:=s m ω
   exact(k,e,l m k a ω e)
 ·left
  have l:∀m i,n<=m->m<g->t.place[i]?=V (ci t.mask h m)->hashAt i≠h:=λm i a b c d=>q (m,a,b,i,c,d);refine(?_,l);obtain⟨f,r⟩:∃f,10*lG t.mask=(f+1)+(g-n):=(10*lG t.mask-(g-n)-1,ω);unfold ab5;rw[r,DD T (g-n) (f+1) n (λm a b=>?_),show n+(g-n)=g from ω]
  ·show(match t.slot (cP t.mask h g).j with
    |.empty=>V (B' (cP t.mask h g).j (cP t.mask h g).dummy)
    |.dummy=>tW t hashAt h f (t.advance {(cP t.mask h g) with dummy:=V (cP t.mask h g).j})
    |.live i=>if hashAt i==h then V (Hw (cP t.mask h g).j i<|t.advance<|cP t.mask h g) else tW t hashAt h f (t.advance<|cP t.mask h g))=_
   rw[show t.slot (cP t.mask h g).j=.empty from Sd T x];dsimp only;rw[JJ]
   rfl
  ·obtain⟨k,e⟩:=s m ω
   exact(k,e,l m k a ω e)
def Sk(T:jD t hs){a k j:Nat}(b:¬kY t (ci t.mask h a))(d:hs[k]?=V h)(c:t.place[k]?=V j):∃g,g<a/\ci t.mask h g=j:=by
 obtain⟨n,e,f⟩:=T.d k j h d c;refine(n,?_,e);rcases If n a with q|q|q
 ·exact q
 ·subst q;exact bu (k,by rw[e];exact c) b
 ·exact bu (f a q) b
def Si(T:jD t hs)(x:¬kY t (ci t.mask h c))(y:∀m,m<c->kY t (ci t.mask h m))(z:hs.size+1<=t.mask):(t.put<|ci t.mask h c).2<=hs.size/\(t.put<|ci t.mask h c).1.mask=t.mask/\jD (t.put<|ci t.mask h c).1 (gA hs (t.put<|ci t.mask h c).2 h):=by
 have A:∀i:Nat,t.place[i]?≠V (ci t.mask h c):=λi e=>x (i,e);obtain⟨o,E,G⟩:=DE T.c<|ci t.mask h c;have u:gP t.place (ci t.mask h c)<=hs.size:=by rw[<-T.a];exact o
 have p:(t.put<|ci t.mask h c).1.place=gA t.place (gP t.place<|ci t.mask h c) (ci t.mask h c):=O;have v:(t.put<|ci t.mask h c).1.mask=t.mask:=O;have l:∀j,kY t j->∃C:Nat,(t.put<|ci t.mask h c).1.place[C]?=V j:=λj (i,e)=>by
  by_cases q:i<gP t.place (ci t.mask h c)
  ·exact(i,by rw[p,mM _ _ _ o,az q];exact e)
  ·exact(i+1,by rw[p,mM _ _ _ o,ap (ù (í (ô q))),ap (ö (ï (ô q))),CF];exact e)
 refine(u,v,(?_,?_,?_,λi j e=>?_,T.l,T.f,?_,λk j w D g=>?_))
 ·rw[p];exact Sr T.c A
 ·show(if has t.dummies (ci t.mask h c)=af then _ else t.dummies)=#[]
  rw[T.b]
  rfl
 ·rw[p,zG _ _ _ o]
  show _=(gA hs (gP t.place<|ci t.mask h c) h).size;rw[zG _ _ _ u,T.a]
 ·rw[p,mM _ _ _ o] at e
  rw[v]
  by_cases r:i<gP t.place (ci t.mask h c)
  ·rw[az r] at e;exact T.g _ _ e
  ·rw[ap r] at e
   by_cases s:i=gP t.place (ci t.mask h c)
   ·rw[az s] at e;cases e;exact Dx _ _ _
   ·rw[ap s] at e;exact T.g _ _ e
 ·show(gA hs (gP t.place<|ci t.mask h c) h).size<=t.mask
  rw[zG _ _ _ u];exact z
 ·have d:(gA hs (gP t.place<|ci t.mask h c) h)[k]?=V w:=D
  rw[mM _ _ _ u] at d;rw[p,mM _ _ _ o] at g;rw[v]
  by_cases r:k<gP t.place (ci t.mask h c)
  ·rw[az r] at d g
   obtain⟨n,a,b⟩:=T.d k j w d g;exact(n,a,λm f=>l _<|b m f)
  ·rw[ap r] at d g
   by_cases s:k=gP t.place (ci t.mask h c)
   ·rw[az s] at d g
    cases d;cases g;exact(c,O,λm f=>l _<|y m f)
   ·rw[ap s] at d g
    obtain⟨n,a,b⟩:=T.d (k-1) j w d g;exact(n,a,λm f=>l _<|b m f)
end
def Sb(c d:Nat)(f:Bool):jD (kg c d f) #[]:=
 (λi j a b h=>by simp[kg] at h,O,O,λi j h=>by simp[kg] at h,SC,show 7%2=1 from O,show 0<=7 from eM _,λk j h e=>by simp at e)
end
section
open PySem.SetTable
def nQ(a:Array (Option Nat))(j:Nat):Prop:=∃q,a[j]?=V (V q)
noncomputable def iV(a:Nat)(h:Int):Nat->Nat
 |0=>0
 |r+1=>iV a h r+(f_ a (bS a h r).1-(bS a h r).1)+1
def Sc(a:Nat)(h:Int){r R:Nat}(b:r<=R):iV a h r<=iV a h R:=by
 induction b with
 |refl=>exact aW _
 |step _ c=>exact dg c (by show _<=iV a h _+_+1;exact í ü)
def Dw(a:Nat)(h:Int):∀r,cP a h (iV a h r)={j:=(bS a h r).1,more:=f_ a (bS a h r).1-(bS a h r).1,i:=(bS a h r).1,perturb:=(bS a h r).2,dummy:=Z}
 |0=>O
 |r+1=>by
  show lP a (cP a h<|iV a h r+(f_ a (bS a h r).1-(bS a h r).1))=_;rw[zD a h (Dw a h r) _<|aW _];unfold lP;rw[ap (by show ¬(f_ a (bS a h r).1-(bS a h r).1-(f_ a (bS a h r).1-(bS a h r).1)>0);omega)]
  rfl
def Dy{a:Array (Option Nat)}{b j:Nat}(i:a.size=b+1)(k:j<=b):(a.getD j<|V 0).isNone=af↔¬nQ a j:=by
 have d:j<a.size:=(à (ï k) (æ i))
 have e:a.getD j (V 0)=a[j]:=by simp[afn,d]
 have f:a[j]?=V a[j]:=hY a j d;rw[e];constructor
 ·intro h (q,g)
  rw[f] at g;rw[cH g] at h;cases h
 ·intro h
  cases c:a[j] with
  |none=>rfl
  |some q=>exact bu (q,by rw[f,c]) h
def Su{a:Nat}{b:Array (Option Nat)}(j:b.size=a+1)(h:Int)(o:¬nQ b (ci a h e))(n:∀m,m<e->nQ b (ci a h m))(hR:e<=iV a h A):∀(c C:Nat),iV a h C<=e->A<C+c->BX a b c (bS a h C).1 (bS a h C).2=V (ci a h e):=by
 intro c
 induction c with
 |zero=>
  intro C v w;have q:=Sc a h (r:=A+1) (R:=C) w;have:iV a h (A+1)=iV a h A+(f_ a (bS a h A).1-(bS a h A).1)+1:=O;omega
 |succ c p=>
  intro C x y;have i:=zD a h<|Dw a h C;have d:∀k,k<=f_ a (bS a h C).1-(bS a h C).1->ci a h (iV a h C+k)=(bS a h C).1+k:=λk g=>by
   unfold ci;rw[i k g]
  have s:(bS a h C).1<=f_ a (bS a h C).1:=by unfold f_;split<;>omega
  have f:∀k,k<=f_ a (bS a h C).1-(bS a h C).1->(bS a h C).1+k<=a:=λk g=>by rw[<-d k g];exact Dx _ _ _
  show(match (cV<|f_ a (bS a h C).1+1-(bS a h C).1).find? (λk=>(b.getD ((bS a h C).1+k)<|V 0).isNone) with
   |some k=>V ((bS a h C).1+k)
   |none=>BX a b c (rR a (bS a h C).1 (bS a h C).2).1 (rR a (bS a h C).1 (bS a h C).2).2)=_
  by_cases t:e<=iV a h C+(f_ a (bS a h C).1-(bS a h C).1)
  ·have l:(cV<|f_ a (bS a h C).1+1-(bS a h C).1).find? (λk=>(b.getD ((bS a h C).1+k)<|V 0).isNone)=V (e-iV a h C):=by
    rw[List.find?_range_eq_some];refine(?_,gB.mpr ω,λk g=>?_)
    ·show(b.getD ((bS a h C).1+(e-iV a h C))<|V 0).isNone=af
     rw[Dy j<|f _ ω,<-d _ ω,show iV a h C+(e-iV a h C)=e from ω];exact o
    ·have q:¬(b.getD ((bS a h C).1+k)<|V 0).isNone=af:=by
      rw[Dy j<|f _ ω,<-d k ω];exact λz=>z<|n _ ω
     rw[Bool.not_eq_true] at q;rw[q]
     rfl
   rw[l];dsimp only;rw[<-d _ ω,show iV a h C+(e-iV a h C)=e from ω]
  ·have l:(cV<|f_ a (bS a h C).1+1-(bS a h C).1).find? (λk=>(b.getD ((bS a h C).1+k)<|V 0).isNone)=Z:=by
    rw[IE];intro k g;have u:=gB.mp g;rw[Dy j<|f _ ω,<-d k ω];exact λz=>z<|n _ ω
   rw[l];dsimp only;refine p (C+1) ?_ ω;show iV a h C+(f_ a (bS a h C).1-(bS a h C).1)+1<=e;exact ó t
structure q_(mask:Nat)(hashes:List Int)(owner:Array (Option Nat))(k:Nat):Prop where
 b:owner.size=mask+1
 all:∀q:Nat,q<k->∃j:Nat,owner[j]?=V (V q)
 a:∀j q:Nat,owner[j]?=V (V q)->q<k
 c:∀(i j q:Nat),owner[i]?=V (V q)->owner[j]?=V (V q)->i=j
 d:∀(j q:Nat)(h:Int),owner[j]?=V (V q)->hashes[q]?=V h->∃n,ci mask h n=j/\∀m,m<n->nQ owner (ci mask h m)
noncomputable def q_.F{d:Nat}{c:Array (Option Nat)}{k:Nat}(L:q_ d f c k)(w:k<=d):∃x,x<=d/\¬nQ c x:=by
 apply kU;intro o;have g:∀x,x<=d->∃q,q<k/\c[x]?=V (V q):=λx i=>by
  have:nQ c x:=kU λq=>o (x,i,q);obtain⟨q,e⟩:=this;exact(q,L.a x q e,e)
 have j:((cV<|d+1).map λx=>(c.getD x Z).getD 0) ⊆ cV k:=λy r=>by
  obtain⟨x,i,e⟩:=aP.mp r;obtain⟨q,s,h⟩:=g x<|qJ.mp<|gB.mp i;rw[I_,h] at e;subst e;exact gB.mpr s
 have t:((cV<|d+1).map λx=>(c.getD x Z).getD 0).Nodup:=by
  refine zd.mpr<|jK.mpr ?_;refine IQ ?_<|zd.mp<|y_ (n:=d+1);intro a b u v l e;obtain⟨q,_,m⟩:=g a<|qJ.mp<|gB.mp u;obtain⟨p,_,h⟩:=g b<|qJ.mp<|gB.mp v;simp only[I_,m,h,qI] at e;subst e;exact l<|L.c a b q m h
 have:=t.length_le_of_subset j;rw[ax,mE,mE] at this;exact ø this w
def Sf{a:Array (Option Nat)}{b j k:Nat}(c:a.size=b+1)(d:j<=b)(i:Nat):(a.setIfInBounds j<|V k)[i]?=if i=j then V (V k) else a[i]?:=by
 by_cases q:i=j
 ·subst q
  rw[az O,afj (à (ï d) (æ c))]
 ·rw[ap q,afk<|eA q]
def q_.step{c:Nat}(D:lQ c)(L:q_ c g f U)(E:U<=c)(G:g[U]?=V h):∃j,BX c f (lG c) (kh h%(c+1)) (kh h)=V j/\q_ c g (f.setIfInBounds j<|V U) (U+1):=by
 obtain⟨x,H,I⟩:=L.F E;obtain⟨d,S,e⟩:=D (bS c h 13).1 x (JM c h 13) H;have K:ci c h (iV c h<|13+d)=x:=by
  unfold ci;rw[Dw];show(bS c h<|13+d).1=x;rw[DA,e]
 obtain⟨l,M,v,Q⟩:=DB (P:=λm=>¬nQ f (ci c h m)) (iV c h<|13+d) (by rw[K];exact I);have y:∀m,m<l->nQ f (ci c h m):=λm q=>kU λz=>Q m q z;refine(ci c h l,Su L.b h v y M (lG c) 0 (eM _) (by unfold lG;omega),?_);have u:ci c h l<=c:=Dx _ _ _;have r:=Sf (k:=U) L.b u;have s:∀i,nQ f i->nQ (f.setIfInBounds (ci c h l)<|V U) i:=λi (q,e)=>by
  by_cases z:i=ci c h l
  ·exact(U,by rw[r,az z])
  ·exact(q,by rw[r,ap z];exact e)
 refine(by rw[afh];exact L.b,λq T=>?_,λj q e=>?_,λi j q o p=>?_,λj q R o p=>?_)
 ·by_cases z:q=U
  ·exact(ci c h l,by rw[r,az O,z])
  ·obtain⟨j,A⟩:=L.all q (þ (ò T) z)
   refine(j,?_);rw[r,ap λw=>v (q,by rw[<-w];exact A)];exact A
 ·rw[r] at e
  by_cases z:j=ci c h l
  ·rw[az z] at e;cases e;exact ß
  ·rw[ap z] at e;have:=L.a j q e;exact í this
 ·rw[r] at o p
  by_cases C:i=ci c h l
  ·rw[az C] at o;cases o
   by_cases t:j=ci c h l
   ·exact û (à (å C) (æ t)) (à (å t) (æ C))
   ·rw[ap t] at p;have:=L.a j U p;omega
  ·rw[ap C] at o
   by_cases t:j=ci c h l
   ·rw[az t] at p;cases p;have:=L.a i U o;omega
   ·rw[ap t] at p;exact L.c i j q o p
 ·rw[r] at o
  by_cases z:j=ci c h l
  ·rw[az z] at o;cases o
   rw[G] at p;cases p;exact(l,z.symm,λm q=>s _<|y m q)
  ·rw[ap z] at o
   obtain⟨n,a,b⟩:=L.d j q R o p;exact(n,a,λm q=>s _<|b m q)
noncomputable def q_.B(a:Nat)(b:List Int):q_ a b (afi (a+1) Z) 0:=by
 have c:∀(j q:Nat),(afi (a+1) (Z:Option Nat))[j]?=V (V q)->False:=λj q e=>by
  rw[Array.getElem?_replicate] at e;split at e<;>cases e
 exact(by simp,λq h=>bu h<|H_ _,λj q e=>(c j q e).elim,λi j q e=>(c i q e).elim,λj q h e=>(c j q e).elim)
def So(n:lQ g)(c:Array Int)(x:c.size<=g+1):∃d,layClean g c=V d/\q_ g c.toList d c.size:=by
 have p:∀(f:List Int)(d:Array (Option Nat))(k:Nat),q_ g c.toList d k->c.toList.drop k=f->
   ∃i,(f.foldl (λm h=>do
    let (d,k) <-m
    let j <-BX g d (lG g) (kh h%(g+1)) (kh h)
    aU (abd (d.setIfInBounds j<|V k) (k+1)))<|V (abd d k))=V (abd i (k+f.length))/\q_ g c.toList i (k+f.length):=by
  intro f
  induction f with
  |nil=>intro d k L _;exact(d,O,L)
  |cons h f r=>
   intro d k L e;have l:k<c.toList.length:=by
    rcases nC k c.toList.length with q|q
    ·exact q
    ·rw[QK q] at e;cases e
   have s:c.toList[k]?=V h:=by
    rw[mH l] at e;injection e with e1 _
    rw[dq l,e1]
   have t:c.toList.drop (k+1)=f:=by
    rw[mH l] at e;injection e
   rw[gR] at l;obtain⟨j,u,v⟩:=L.step n ω s;obtain⟨w,a,b⟩:=r (d.setIfInBounds j<|V k) (k+1) v t;refine(w,?_,?_)
   ·rw[qO]
    show sn _ (BX g d (lG g) (kh h%(g+1)) (kh h) >>= λj=>aU (abd (d.setIfInBounds j<|V k) (k+1))) f=_;rw[u];show sn _ (V (abd (d.setIfInBounds j<|V k) (k+1))) f=_;rw[a,cO,show k+1+f.length=k+(f.length+1) from ω]
   ·rw[cO,show k+(f.length+1)=k+1+f.length from ω]
    exact b
 obtain⟨o,a,b⟩:=p c.toList _ 0 (q_.B g _) O;rw[ui,gR] at a b;refine(o,?_,b);unfold layClean;rw[<-Array.foldl_toList,a]
 rfl
noncomputable def gT(a:Array (Option Nat))(n:Nat):List (Nat×Nat):=(cV n).filterMap λj=>(a.getD j Z).map (abd j ·)
def qY{n:Nat}{x:Nat×Nat}:x∈gT a n↔x.1<n/\a[x.1]?=V (V x.2):=by
 unfold gT;rw[QA];constructor
 ·rintro⟨j,d,e⟩
  rw[r_] at e;obtain⟨q,b,rfl⟩:=e;refine(gB.mp d,?_);rw[I_] at b;cases c:a[j]? with
  |none=>rw[c] at b;cases b
  |some v=>rw[c] at b;simp only[qI] at b;rw[b]
 ·rintro⟨f,g⟩
  refine(x.1,gB.mpr f,?_);rw[I_,g]
  rfl
def JN(c:Array (Option Nat))(i:Nat):(gT c i).Pairwise λx y=>x.1<y.1:=by
 unfold gT;refine ahk (S:=λx y:Nat×Nat=>x.1<y.1) _ ?_<|aek (n:=i);intro a f h b e g d;rw[r_] at e d;obtain⟨_,_,rfl⟩:=e;obtain⟨_,_,rfl⟩:=d;exact h
def Sn{k:Nat}(L:q_ d f c k):(gT c<|d+1).length=k/\((gT c<|d+1).map (·.2)).Nodup:=by
 have h:((gT c<|d+1).map (·.2)).Nodup:=by
  refine zd.mpr<|jK.mpr ?_;refine IQ ?_<|JN c<|d+1;intro a b m o p e;have r:=(qY.mp m).2;have i:=(qY.mp o).2;rw[<-e] at i;have:=L.c _ _ _ r i;exact ø p (æ this)
 refine(?_,h);have s:(gT c<|d+1).map (·.2) ⊆ cV k:=λq g=>by
  obtain⟨x,t,rfl⟩:=aP.mp g;exact gB.mpr<|L.a _ _ (qY.mp t).2
 have u:cV k ⊆ (gT c<|d+1).map (·.2):=λq g=>by
  obtain⟨j,l⟩:=L.all q<|gB.mp g;have v:j<d+1:=by rw[<-L.b];exact(uw.mp l).1
  exact aP.mpr ((abd j q),qY.mpr (v,l),O)
 have w:=h.length_le_of_subset s;have y:=(y_ (n:=k)).length_le_of_subset u;rw[ax,mE] at w;rw[mE,ax] at y;exact û w y
def Sp(P:lQ d)(R:d%2=1)(o p:Nat)(u l:Bool)(f:Array Int)(S:f.size<=d):∃t g,laid d o p u l f=V (abd t g)/\t.mask=d/\t.led=u/\t.plain=l/\g.size=f.size/\g.toList.Nodup/\(∀q∈g.toList,q<f.size)/\
   jD t (g.map λq=>(f[q]?).getD 0):=by
 obtain⟨c,e,L⟩:=So P f (í S);obtain⟨Q,T⟩:=Sn L;refine(_,_,by unfold laid;rw[e];exact O,O,O,O,?_,?_,?_,?_)
 ·show((gT c<|d+1).map (·.2)).toArray.size=_
  rw[cT,ax,Q]
 ·exact T
 ·intro q A
  obtain⟨x,w,rfl⟩:=aP.mp (show q∈(gT c<|d+1).map (·.2) from A);exact L.a _ _ (qY.mp w).2
 ·have v:∀i:Nat,(((gT c<|d+1).map (·.1)).toArray)[i]?=((gT c<|d+1)[i]?).map (·.1):=λi=>by
   rw[QE,cB]
  have U:∀i:Nat,(((gT c<|d+1).map (·.2)).toArray)[i]?=((gT c<|d+1)[i]?).map (·.2):=λi=>by
   rw[QE,cB]
  have C:∀j,nQ c j->∃i:Nat,(((gT c<|d+1).map (·.1)).toArray)[i]?=V j:=λj (q,z)=>by
   have D:j<d+1:=by rw[<-L.b];exact(uw.mp z).1
   obtain⟨i,E,X⟩:=oJ.mp (qY.mpr (D,z):(abd j q)∈gT c (d+1));exact(i,by rw[v,dq E,X];rfl)
  refine(λi j a b ha hb G=>?_,O,?_,λi j z=>?_,P,R,?_,λk j h e1 e2=>?_)
  ·have H:((gT c<|d+1)[i]?).map (·.1)=V a:=by rw[<-v];exact ha
   have I:((gT c<|d+1)[j]?).map (·.1)=V b:=by rw[<-v];exact hb
   obtain⟨x,s,rfl⟩:=r_.mp H;obtain⟨y,ey,rfl⟩:=r_.mp I;obtain⟨E,rfl⟩:=cr.mp s;obtain⟨D,rfl⟩:=cr.mp ey;exact uj.mp (JN c<|d+1) i j E D G
  ·show((gT c<|d+1).map (·.1)).toArray.size=(mL _ ((gT c<|d+1).map (·.2)).toArray).size
   rw[nL,cT,cT,ax,ax]
  ·have K:((gT c<|d+1)[i]?).map (·.1)=V j:=by rw[<-v];exact z
   obtain⟨x,s,rfl⟩:=r_.mp K;exact qJ.mp (qY.mp<|dp s).1
  ·show(mL _ ((gT c<|d+1).map (·.2)).toArray).size<=d
   rw[nL,cT,ax,Q];exact S
  ·have M:((gT c<|d+1)[k]?).map (·.1)=V j:=by rw[<-v];exact e2
   obtain⟨x,s,rfl⟩:=r_.mp M;have r:(mL (λq=>(f[q]?).getD 0) ((gT c<|d+1).map (·.2)).toArray)[k]?=V h:=e1;rw[wm,U,s] at r;have w:=(qY.mp<|dp s).2;have A:=L.a _ _ w;have eh:f.toList[x.2]?=V h:=by
    rw[jB];have:f[x.2]?=V f[x.2]:=hY f x.2 A;simp only[nB,this,qI] at r;rw[this,cH r]
   obtain⟨n,a,b⟩:=L.d x.1 x.2 h w eh;exact(n,a,λm hm=>C _<|b m hm)
end
section
open PySem.SetTable
section
variable{prog:bw}{w:aX}{K:Type}[DecidableEq K]{knd:rS prog w K}{A:bY}{E:Ω}{s:ak}
def zI{t:mx}{a:Array (Int×aa)}(T:jD t (a.map (·.1))):t.fits a.size=af:=by
 have b:=T.a;have c:=T.e;rw[nL] at b c;unfold SetTable.fits ab6;rw[T.b,b];simp;exact c
def Sl(n:Nat)(h:PG v=af):Pq n v=aU aB:=by
 cases v with
 |ref a=>simp[PG] at h
 |_=>cases n<;>rfl
def JG{j:List K}{b:Y}{Q:Bool->ak->Prop}(i:ga knd s.heap j b)(h:Q aB s):aA (aH prog w) A (Pq 8<|.ref b) Q E s:=by
 have k:=i.typeIs;obtain⟨o,d,n,l,_,m,p⟩:=i;unfold Pq;refine aj<|yn k ?_;show aA _ _ ((if("tuple" == "tuple")=af then aU af else isSubtype (.type "tuple") (.type "tuple")) >>= _) _ _ s;rw[az ξ];refine aj<|aI ?_;simp only[nK,dD,dc];refine aj<|jU l m ?_;refine aj ?_;show aA _ _ (lO d _ _) _ _ s;rw[<-afo];refine yp _ (λa r e=>r.1=Z/\e=s/\∀v∈a,PG v=af) _ ?_ ?_ _ _ (O,O,p.byValue)
 ·rintro v a r e ⟨f,rfl,c⟩
  rw[Sl _<|c v dQ];refine aj<|aI ?_;simp only[dD,dc];exact aI (O,O,λu g=>c u<|eV _ g)
 ·rintro⟨q,t⟩ e ⟨f,rfl,_⟩
  simp only at f;subst f;exact aI h
def RV{n:List K}{b:Y}{j:List aa}{Q:Bool->ak->Prop}(k:ga knd s.heap n b)(o:∀y∈j,∃e c,y=.ref c/\ga knd s.heap e c)(h:Q aB s):aA (aH prog w) A (abh (.ref b) j) Q E s:=by
 unfold abh;refine aj ?_;refine yp _ (λa r f=>r.1=Z/\f=s/\∀y∈a,∃e c,y=.ref c/\ga knd s.heap e c) _ ?_ ?_ _ _ (O,O,o)
 ·rintro v a r f ⟨g,rfl,d⟩
  obtain⟨e,c,rfl,l⟩:=d v dQ;have m:∀u∈a,∃e c,u=.ref c/\ga knd f.heap e c:=λu i=>d u<|eV _ i;dsimp only;split
  ·exact aI (O,O,m)
  ·refine aj<|aa9 k ?_
   simp only[nK,dD,dc];refine aj<|aa9 l ?_;simp only[nK,dD,dc];refine aj<|JG k ?_;simp only[dD,dc];refine aj<|JG l ?_;simp only[dD,dc];exact aI (O,O,m)
 ·rintro⟨p,q⟩ f ⟨g,rfl,_⟩
  simp only at g;subst g;exact aI h
structure ko(knd:rS prog w K)(h:aT)(S:Y)(o:bA)(es:Array (Int×aa))(ep:Nat)(t:mx)(ks:List (List K))(B:List Y):Prop where
 a:h.get? S=V o
 g:o.ExactSet
 c:o.data=.set es ep t
 d:jD t (es.map (·.1))
 j:es.size=ks.length
 p:ks.Nodup
 i:∀e∈es.toList,∃k b,k∈ks/\e=(abd (di knd k) (ab b))/\ga knd h k b
 l:∀k∈ks,∃b,(abd (di knd k) (ab b))∈es.toList/\ga knd h k b
 f:(t.mask=7/\es.size<=4)\/(t.mask=31/\es.size<=18)\/(t.mask=127/\es.size<=76)\/(t.mask=15/\es.size<=8)\/(t.mask=63/\es.size<=37)\/(t.mask=255/\es.size<=152)
 m:∀e∈es.toList,∃b∈B,e.2=ab b
 n:w.params.followText "set-order"=af\/(t.led=af/\t.plain=af)
def RW{S:Y}{t:mx}(X:ko knd s.heap S o f ep t U b9)(hu:A.units<c_){k:List K}{b:Y}(hk:ga knd s.heap k b){u:Nat}(a0:u<10*lG t.mask)(he:¬kY t (ci t.mask (di knd k) u))(hm:∀m,m<u->kY t (ci t.mask (di knd k) m)){h:Bool}{Q:SetFound->ak->Prop}(I:k∈U->∀r:Option Nat,(h=aB->r.isSome=af)->Q (.there r) s)(h2:k∉U->Q (.free (ci t.mask (di knd k) u) aB) s):∀(a n:Nat)(d:Option B_),u<n+a->n<=u->d.getD (t.probeStart<|di knd k)=cP t.mask (di knd k) n->
   (∀(m i:Nat)(c:Y),m<n->t.place[i]?=V (ci t.mask (di knd k) m)->f[i]?=V (abd (di knd k) (ab c))->¬ga knd s.heap k c)->
   aA (aH prog w) A (Pk S (.ref b) (di knd k) h a d) Q E s:=by
 have T:=X.d;have v:=zI T;have hA:∀i:Nat,(f.map (·.1))[i]?=(f[i]?).map (·.1):=λi=>wm ..;intro a
 induction a with
 |zero=>intro n d a1 a2 _ _;omega
 |succ a ih=>
  intro n d a1 a2 a3 a4;unfold Pk;refine aj<|yo X.a X.c v ?_;dsimp only;have gw:t.gaveWay=aB:=by
   unfold SetTable.gaveWay;rw[T.f]
   rfl
  rw[gw];simp only[dD,dc];rw[a3];rcases Sj T (hashAt:=λi=>((f[i]?).map (·.1)).getD 0) a0 he hm a2 with ⟨a5,x⟩|⟨c0,i,b1,b2,D,b4,b5,b6⟩
  ·have G:t.probe (λi=>((f[i]?).map (·.1)).getD 0) (di knd k) (cP t.mask (di knd k) n)=V (.empty (ci t.mask (di knd k) u) Z):=a5
   show aA _ _ (match t.probe (λi=>((f[i]?).map (·.1)).getD 0) (di knd k) (cP t.mask (di knd k) n) with|some a6=>_|_=>_) _ _ s;rw[G];dsimp only;refine aI<|h2 λa7=>?_;obtain⟨c,a8,a9⟩:=X.l k a7;obtain⟨i,L,g⟩:=oJ.mp a8;have C:f[i]?=V (abd (di knd k) (.ref c)):=by
    rw[<-jB,dq L,g]
   have b0:i<t.place.size:=by rw[T.a,nL];simpa using L
   have ej:t.place[i]?=V t.place[i]:=hY t.place i b0;obtain⟨c0,hN,eN⟩:=Sk T he (k:=i) (by rw[hA,C];rfl) ej;rcases nC c0 n with q|q
   ·exact a4 c0 i c q (by rw[eN];exact ej) C a9
   ·exact x c0 i q hN (by rw[eN];exact ej) (by show((f[i]?).map (·.1)).getD 0=_;rw[C];rfl)
  ·show aA _ _ (match t.probe (λi=>((f[i]?).map (·.1)).getD 0) (di knd k) (cP t.mask (di knd k) n) with|some a6=>_|_=>_) _ _ s
   rw[b5];dsimp only;have L:i<f.size:=by
    have:=(uw.mp D).1;rw[T.a,nL] at this;exact this
   have g:f[i]?=V f[i]:=hY f i L;obtain⟨M,c,j,ee,hc⟩:=X.i f[i] (by simp);rw[ee] at g;have eh:di knd M=di knd k:=by
    have:((f[i]?).map (·.1)).getD 0=di knd k:=b4;rw[g] at this;exact this
   rw[eh] at g;have P:t.sameMemory t.moves t.mask=V af:=by unfold SetTable.sameMemory;rw[az (by simp)]
   have p:M≠k->aA (aH prog w) A (Pk S (.ref b) (di knd k) h a<|V<|cP t.mask (di knd k)<|c0+1) Q E s:=λl=>by
    refine ih (c0+1) _ ω b2 O λm i2 c2 q1 q2 R q4=>?_;rcases nC m n with z|z
    ·exact a4 m i2 c2 z q2 R q4
    ·rcases nC m c0 with z2|z2
     ·exact b6 m i2 z z2 q2 (by show((f[i2]?).map (·.1)).getD 0=_;rw[R];rfl)
     ·have:m=c0:=(û (ò q1) z2)
      subst this;have:=T.c.q q2 D;subst this;rw[g] at R;cases R;exact l<|IsTupleKey.inj hc q4
   cases b8:t.led
   all_goals simp only[nK,Ra,dD,dU,dc]
   ·refine aj<|RV hk (λy hy=>?_) ?_
    ·obtain⟨e,H,rfl⟩:=aP.mp hy
     rw[Array.toList_filter] at H;obtain⟨k2,c2,_,e2,b7⟩:=X.i e (fA.mp H).1;exact(k2,c2,by rw[e2],b7)
    simp only[dD,dc];rw[g];refine aj<|il<|Hd hu hc hk ?_;refine aj<|yo X.a X.c v ?_
    by_cases l:M=k
    ·subst l
     cases h
     ·simp only[decide_true,Rc,dD,dc]
      rw[P];simp only[dU];rw[uG T D];dsimp only;rw[g];refine aj<|G'<|aj<|aI ?_;simp only[dU];exact aI<|I j _ λ_=>O
     ·simp only[decide_true,Rd,dU]
      exact aI (I j _ λz=>by cases z)
    ·rw[cK l]
     simp only[zk,dD,dc];rw[P];simp only[dU];rw[uG T D];dsimp only;rw[g];refine aj<|G'<|aj<|aI ?_;simp only[dU];exact p l
   ·rw[g]
    refine aj<|il<|Hd hu hc hk ?_;refine aj<|yo X.a X.c v ?_
    by_cases l:M=k
    ·subst l
     cases h
     ·simp only[decide_true,Rc,dD,dc]
      rw[P];simp only[dU];rw[uG T D];dsimp only;rw[g];refine aj<|G'<|aj<|aI ?_;simp only[dU];exact aI<|I j _ λ_=>O
     ·simp only[decide_true,Rd,dU]
      exact aI (I j _ λz=>by cases z)
    ·rw[cK l]
     simp only[zk,dD,dc];rw[P];simp only[dU];rw[uG T D];dsimp only;rw[g];refine aj<|G'<|aj<|aI ?_;simp only[dU];exact p l
end
end
section
open PySem.SetTable
section
variable{prog:bw}{w:aX}{K:Type}[DecidableEq K]{knd:rS prog w K}{A:bY}{E:Ω}{s:ak}
def sy{S b:Y}{k:List K}{i j t}(l:ga knd h k b)(m:h.get? S=V o)(p:o.data=.set i j t)(q:jc S h f):ga knd f k b:=by
 obtain⟨g,a,n,d,r,c,s⟩:=l;have e:b≠S:=by
  rintro rfl;obtain rfl:g=o:=cH<|d.symm.trans m;rw[p] at c;exact nomatch c
 exact(g,a,n,(q.2 b e).trans d,r,c,s)
def RY{j:List K}{b:Y}{Q:Bool->ak->Prop}(m:∀k v n,knd.is k v=af->tO n v=aU af)(l:ga knd s.heap j b)(h:Q af s):aA (aH prog w) A (tO 8<|.ref b) Q E s:=by
 have p:=l.typeIs;obtain⟨o,c,n,q,_,t,u⟩:=l;unfold tO;refine aj<|aay p F.slot_tuple_hash.lookup ?_;dsimp only;refine aj<|jU q t ?_;refine aj ?_;show aA _ _ (lO c _ _) _ _ s;rw[<-afo];refine yp _ (λa r f=>r.1=Z/\f=s/\∃d,Ce knd d a) _ ?_ ?_ _ _ (O,O,j,u)
 ·rintro v a r f ⟨g,rfl,d,i⟩
  cases i with
  |@cons k _ e _ x y=>
   rw[m k v 7 x];refine aj<|aI ?_;simp only[nK,dD,dc];exact aI (O,O,e,y)
 ·rintro⟨z,C⟩ f ⟨g,rfl,_⟩
  simp only at g;subst g;exact aI h
def JI{h:aT}{S:Y}{t:mx}{b:mx}(f:h.get? S=V o)(d:o.data=.set e c t):(h.update S<|PY a b).get? S=V {o with data:=.set a (c+1) b}:=by
 have:=yI (PY a b) f (by rw[putSet_of a b d];rfl);rw[putSet_of a b d] at this;exact this
def JO{c:Type}{es:Array c}:∀{l:List Nat},(∀q∈l,q<es.size)->∃b:List c,l.filterMap (es[·]?)=b/\b.length=l.length/\(∀x∈b,x∈es.toList)/\(∀(i q:Nat),l[i]?=V q->b[i]?=es[q]?)
 |[],_=>([],O,O,(λx a=>by cases a),(λi q e=>by cases i<;>simp at e))
 |q::l,h=>by
  obtain⟨b,f,g,j,k⟩:=JO (l:=l) λx a=>h x<|eV _ a;have d:=h q dQ;refine(es[q]::b,?_,by rw[cO,cO,g],λx a=>?_,λi p e=>?_)
  ·rw[IF,hY es q d,f]
  ·rcases bZ.mp a with rfl|a
   ·simp
   ·exact j x a
  ·cases i with
   |zero=>simp at e;subst e;simp[hY es q d]
   |succ i=>simp at e ⊢;exact k i p e
def RX{a4:List Y}{S:Y}{t:mx}{ks:List (List K)}{d f:Nat}(g:s.heap.get? S=V o)(y:o.ExactSet)(l:o.data=.set c v t)(T:jD t (c.map (·.1)))(C:c.size=ks.length)(nd:ks.Nodup)(ad:∀e∈c.toList,∃b∈a4,e.2=ab b)(el:∀e∈c.toList,∃k b,k∈ks/\e=(abd (di knd k) (ab b))/\ga knd s.heap k b)(ke:∀k∈ks,∃b,(abd (di knd k) (ab b))∈c.toList/\ga knd s.heap k b)(hw:Hu d-1=f)(D:Hu d<=bQ)(hc:lQ f)(ho:f%2=1)(hr:c.size<=f)(hz:c.size<=1000)(G:(f=7/\c.size<=4)\/(f=31/\c.size<=18)\/(f=127/\c.size<=76)\/(f=15/\c.size<=8)\/(f=63/\c.size<=37)\/(f=255/\c.size<=152))(wk:w.params.followText "set-order"=af\/(t.led=af/\t.plain=af)){Q:Unit->ak->Prop}(h:∀H o' I L t',ko knd H S o' I L t' ks a4->jc S s.heap H->Q () {s with heap:=H}):aA (aH prog w) A (BL S d) Q E s:=by
 have M:=zI T;unfold BL;refine aj<|yo g l M ?_;dsimp only;rw[ap<|Nat.not_lt.mpr D];obtain⟨m,a,e1,e2,e3,e4,P,e6,r,e8⟩:=Sp hc ho t.finger (t.movedTo f) t.led t.plain (c.map (·.1)) (by rw[nL];exact hr);have er:t.relaid (c.map (·.1)) d=V (abd m a):=by
  unfold SetTable.relaid;rw[hw];exact e1
 rw[nL] at P r;obtain⟨j,f1,f2,f3,f4⟩:=JO (es:=c) r;have eo:a.filterMap (c[·]?)=j.toArray:=by
  apply Array.toList_inj.mp;rw[Array.toList_filterMap,f1]
 have u:j.length=c.size:=by rw[f2,gR,P]
 rw[er];refine aj ?_;show aA _ _ (ite (((a.filterMap (c[·]?)).size != c.size)=af) _ _) _ _ _;rw[ap (by rw[eo,cT,u];simp),eo];refine aI ?_;dsimp only;have R:(j.toArray.map (·.1))=a.map λq=>((c.map (·.1))[q]?).getD 0:=by
  apply afp;intro i;rw[wm,wm,QE];cases q:a[i]? with
  |none=>
   have:a.toList.length<=i:=by rw[gR];exact Array.getElem?_eq_none_iff.mp q
   rw[si (à (å f2) this)]
   rfl
  |some p=>
   have e:=f4 i p (by rw[jB];exact q);have hp:=r p (by rw[<-jB] at q;exact dp q);rw[e,hY c p hp];simp[hp]
 have T2:jD m (j.toArray.map (·.1)):=by rw[R];exact e8
 have U:∀q,q<c.size->q∈a.toList:=λq n=>kU λz=>by
  have X:(q::a.toList).Nodup:=jA.mpr (z,e6);have a0:(q::a.toList) ⊆ cV c.size:=λx hx=>by
   rcases bZ.mp hx with rfl|hx
   ·exact gB.mpr n
   ·exact gB.mpr<|r x hx
  have:=X.length_le_of_subset a0;rw[cO,gR,P,mE] at this;exact ù ß this
 refine aax g l ?_ (by rw[cT,u,kM];exact â hz);refine h _ {o with data:=.set j.toArray (v+1) m} j.toArray (v+1) m ?_<|mC ..;have sb:jc S s.heap (s.heap.update S<|PY j.toArray m):=mC ..;refine(JI g l,y,O,T2,by rw[cT,u];exact C,nd,λe he=>?_,λk hk=>?_,?_,λe he=>ad e<|f3 e he,by rw[e3,e4];exact wk)
 ·obtain⟨k,b,a1,a2,a3⟩:=el e<|f3 e he
  exact(k,b,a1,a2,sy a3 g l sb)
 ·obtain⟨b,a1,a2⟩:=ke k hk
  refine(b,?_,sy a2 g l sb);obtain⟨q,n,eq⟩:=oJ.mp a1;rw[gR] at n;obtain⟨i,hi,ei⟩:=oJ.mp<|U q n;have e:=f4 i q (by rw[dq hi,ei]);refine dp (i:=i) ?_;rw[e,<-eq];simp[n]
 ·rw[e2,cT,u]
  exact G
def Ss{c g:Type}(f:c->g)(d:Array c)(p:Nat)(x:c)(e:p<=d.size):(gA d p x).map f=gA (d.map f) p (f x):=by
 apply afp;intro i;rw[wm,mM _ _ _ e,mM _ _ _ (by rw[nL];exact e),wm,wm]
 by_cases a:i<p
 ·rw[az a,az a]
 ·rw[ap a,ap a]
  by_cases b:i=p
  ·rw[az b,az b];rfl
  ·rw[ap b,ap b]
def zH{g:Type}{b:Array g}{p:Nat}{x y:g}(c:p<=b.size):y∈(gA b p x).toList↔y=x\/y∈b.toList:=by
 constructor
 ·intro h
  obtain⟨k,f,e⟩:=oJ.mp h;have a:(gA b p x)[k]?=V y:=by rw[<-jB,dq f,e]
  rw[mM _ _ _ c] at a
  by_cases d:k<p
  ·rw[az d,<-jB] at a;exact .inr<|dp a
  ·rw[ap d] at a
   by_cases j:k=p
   ·rw[az j] at a;exact .inl (cH a).symm
   ·rw[ap j,<-jB] at a;exact .inr<|dp a
 ·rintro(rfl|h)
  ·refine dp (i:=p) ?_
   rw[jB,mM _ _ _ c,ap<|oH _,az O]
  ·obtain⟨k,f,e⟩:=oJ.mp h
   have a:b[k]?=V y:=by rw[<-jB,dq f,e]
   by_cases d:k<p
   ·refine dp (i:=k) ?_
    rw[jB,mM _ _ _ c,az d];exact a
   ·refine dp (i:=k+1) ?_
    rw[jB,mM _ _ _ c,ap (ù (í (ô d))),ap (ö (ï (ô d))),CF];exact a
def RZ{S:Y}{t:mx}(X:ko knd s.heap S o d ep t D d6)(hu:A.units<c_)(hv:∀k v n,knd.is k v=af->tO n v=aU af){k:List K}{b:Y}(hk:ga knd s.heap k b)(c5:b∈d6)(hn:D.length<60){Q:Bool->ak->Prop}(h:∀(r:Bool) f o' c6 c7 t',ko knd f S o' c6 c7 t' (if k∈D then D else D++[k]) d6->jc S s.heap f->Q r {s with heap:=f}):aA (aH prog w) A (setAddHashed S (.ref b)<|di knd k) Q E s:=by
 unfold setAddHashed;refine il ?_;have T:=X.d;have a8:=zI T;have X':ko knd s.heap S o d ep t D d6:=X;unfold setAddHashedIn;refine aj<|yo (s:=s) X.a X.c a8 ?_;dsimp only;have nb:byScan (.ref b) d=aB:=O;rw[nb];simp only[dD,dc];obtain⟨ne,a9,R,hm⟩:=Sw T<|di knd k;refine aj ?_;unfold setSearch;refine RW (s:=s) X' hu hk a9 R hm (λc8 r0 _=>?_) (λb0=>?_) 100000 0 Z ?_ (eM _) O (λm i c c9=>bu c9<|H_ _)
 ·dsimp only
  refine aI<|h aB s.heap o d ep t ?_<|HC ..;rw[az c8];exact X
 ·dsimp only
  refine aj<|yo (s:=s) X.a X.c a8 ?_;dsimp only;have a6:(d.map (·.1)).size+1<=t.mask:=by
   rw[nL];rcases X.f with ⟨a,b⟩|⟨a,b⟩|⟨a,b⟩|⟨a,b⟩|⟨a,b⟩|⟨a,b⟩<;>exact à (ï b) (ã (æ a))
  obtain⟨p1,p2,p3⟩:=Si T R hm a6;rw[nL] at p1;obtain⟨G,p,a4⟩:∃G p,t.put (ci t.mask (di knd k) ne)=(abd G p):=(_,_,O);rw[a4] at p1 p2 p3 ⊢;dsimp only at p1 p2 p3 ⊢;have H:k∉D:=b0;have g:(gA d p (abd (di knd k) (ab b))).size=d.size+1:=zG _ _ _ p1;have b1:=X.j;have d4:d.size<60:=(à (ï (å b1)) hn)
  have b2:∀j:mx,jD j (gA (d.map (·.1)) p<|di knd k)->j.mask=t.mask->aA (aH prog w) A (storeSet S (gA d p (abd (di knd k) (ab b))) j)
    (λ_ s'=>∃f,s'={s with heap:=f}/\f.get? S=V {o with data:=.set (gA d p (abd (di knd k) (ab b))) (ep+1) j}/\jc S s.heap f) E s:=λj T2 m2=>
   aax (s:=s) X.a X.c (_,O,JI X.a X.c,mC ..) (by rw[g,kM];exact â d4)
  have b3:(gA d p (abd (di knd k) (ab b))).map (·.1)=gA (d.map (·.1)) p (di knd k):=Ss (·.1) d p _ p1;have a5:(D++[k]).Nodup:=by
   rw[iS];refine(X.p,by simp,λx hx y hy=>?_);rw[cJ.mp hy];exact λz=>H<|z▸hx
  have b4:∀f,jc S s.heap f->∀e∈(gA d p (abd (di knd k) (ab b))).toList,∃U I,U∈D++[k]/\e=(abd (di knd U) (ab I))/\ga knd f U I:=λf l e R=>by
   rcases(zH p1).mp R with rfl|R
   ·exact(k,b,by simp,O,sy hk X.a X.c l)
   ·obtain⟨U,I,a1,a2,a3⟩:=X.i e R
    exact(U,I,fR _ a1,a2,sy a3 X.a X.c l)
  have b5:∀f,jc S s.heap f->∀U∈D++[k],∃I,(abd (di knd U) (ab I))∈(gA d p (abd (di knd k) (ab b))).toList/\ga knd f U I:=λf l U L=>by
   rcases cy.mp L with L|L
   ·obtain⟨I,a1,a2⟩:=X.l U L
    exact(I,(zH p1).mpr<|.inr a1,sy a2 X.a X.c l)
   ·rw[cJ.mp L]
    exact(b,(zH p1).mpr<|.inl O,sy hk X.a X.c l)
  have b6:∀e∈(gA d p (abd (di knd k) (ab b))).toList,∃I∈d6,e.2=ab I:=λe R=>by
   rcases(zH p1).mp R with rfl|R
   ·exact(b,c5,O)
   ·exact X.m e R
  have M:∀(j:mx)(f:aT),jD j (gA (d.map (·.1)) p<|di knd k)->j.mask=t.mask->(w.params.followText "set-order"=af\/(j.led=af/\j.plain=af))->f.get? S=V {o with data:=.set (gA d p (abd (di knd k) (ab b))) (ep+1) j}->jc S s.heap f->
    aA (aH prog w) A (if(!aB&&j.tooFull)=af then(BL S (BY<|d.size+1) >>= λ_=>aU af) else aU af) Q E {s with heap:=f}:=λj f T2 m2 b7 hg l=>by
   have a0:jD j ((gA d p (abd (di knd k) (ab b))).map (·.1)):=by rw[b3];exact T2
   have fl:j.fill=d.size+1:=by
    unfold ab6;rw[a0.b,a0.a,nL,g]
    rfl
   have tf:j.tooFull=aC ((d.size+1)*5 ≥ t.mask*3):=by unfold SetTable.tooFull;rw[fl,m2]
   have lk:d.size+1=(D++[k]).length:=by rw[ck,b1];rfl
   have u:((d.size+1)*5<t.mask*3)->((j.mask=7/\d.size+1<=4)\/(j.mask=31/\d.size+1<=18)\/(j.mask=127/\d.size+1<=76)\/(j.mask=15/\d.size+1<=8)\/(j.mask=63/\d.size+1<=37)\/(j.mask=255/\d.size+1<=152))->aA (aH prog w) A (if(!aB&&j.tooFull)=af then(BL S (BY<|d.size+1) >>= λ_=>aU af) else aU af) Q E {s with heap:=f}:=λq mk=>by
    rw[tf,cK (ø q)];simp only[zk,dD,dc];refine aI<|h af f {o with data:=.set (gA d p (abd (di knd k) (ab b))) (ep+1) j} (gA d p (abd (di knd k) (ab b))) (ep+1) j ?_ l;rw[ap H];exact(hg,X.g,O,a0,by rw[g];exact lk,a5,b4 f l,b5 f l,by rw[g];exact mk,b6,b7)
   have C:∀P n,d.size+1=n->((d.size+1)*5 ≥ t.mask*3)->Hu (BY n)-1=P->Hu (BY n)<=1000->lQ P->P%2=1->d.size+1<=P->((P=7/\d.size+1<=4)\/(P=31/\d.size+1<=18)\/(P=127/\d.size+1<=76)\/(P=15/\d.size+1<=8)\/(P=63/\d.size+1<=37)\/(P=255/\d.size+1<=152))->
     aA (aH prog w) A (if(!aB&&j.tooFull)=af then(BL S (BY<|d.size+1) >>= λ_=>aU af) else aU af) Q E {s with heap:=f}:=λP n en q w1 w2 c1 c2 c3 mk=>by
    rw[tf,cn q];simp only[Ra,Rd,dU];subst en;refine aj<|RX (s:={s with heap:=f}) (ks:=D++[k]) hg X.g O a0 (by rw[g];exact lk) a5 b6 (b4 f l) (b5 f l) w1 (by rw[kM];exact â w2) c1 c2 (by rw[g];exact c3) (by rw[g];exact â d4) (by rw[g];exact mk) b7 λd0 d1 b8 b9 d2 d3 c0=>?_;refine aI<|h af d0 d1 b8 b9 d2 ?_<|l.trans c0;rw[ap H];exact d3
   rcases X.f with ⟨a,c⟩|⟨a,c⟩|⟨a,c⟩|⟨a,c⟩|⟨a,c⟩|⟨a,c⟩
   ·by_cases q:d.size+1<=4
    ·exact u ω<|.inl ((û (à (å m2) (å a)) (à (æ a) (æ m2))),q)
    ·exact C 31 5 (û (ï c) (ó q)) ω δ δ SE O (â (ð c))<|.inr<|.inl (O,(â (ð c)))
   ·by_cases q:d.size+1<=18
    ·exact u ω<|.inr<|.inl ((û (à (å m2) (å a)) (à (æ a) (æ m2))),q)
    ·exact C 127 19 (û (ï c) (ó q)) ω δ δ SG O (â d4)<|.inr<|.inr<|.inl (O,(â d4))
   ·exact u ω<|.inr<|.inr<|.inl ((û (à (å m2) (å a)) (à (æ a) (æ m2))),(â d4))
   ·by_cases q:d.size+1<=8
    ·exact u ω<|.inr<|.inr<|.inr<|.inl ((û (à (å m2) (å a)) (à (æ a) (æ m2))),q)
    ·exact C 63 9 (û (ï c) (ó q)) ω δ δ SD O (â d4)<|.inr<|.inr<|.inr<|.inr<|.inl (O,(â (ð c)))
   ·by_cases q:d.size+1<=37
    ·exact u ω<|.inr<|.inr<|.inr<|.inr<|.inl ((û (à (å m2) (å a)) (à (æ a) (æ m2))),q)
    ·exact C 255 38 (û (ï c) (ó q)) ω δ δ SF O ω<|.inr<|.inr<|.inr<|.inr<|.inr (O,ω)
   ·exact u ω<|.inr<|.inr<|.inr<|.inr<|.inr (ω,ω)
  have c4:w.params.followText "set-order"=af\/(G.led=af/\G.plain=af):=by
   have e1:G=(t.put<|ci t.mask (di knd k) ne).1:=by rw[a4]
   have e2:G.led=t.led:=by rw[e1];rfl
   have e3:G.plain=t.plain:=by rw[e1];rfl
   rw[e2,e3];exact X.n
  cases d5:G.plain with
  |true=>
   simp only[dU];refine aj<|RY (s:=s) hv hk ?_;simp only[dU];refine aj<|kL (b2 G p3 p2) (λ_ s' a7=>?_) λ_ _ e=>e;obtain⟨f,rfl,g1,g2⟩:=a7;exact M G f p3 p2 c4 g1 g2
  |false=>
   simp only[dD,dc];refine aj<|aI ?_;simp only[dU];refine aj<|kL (b2 G p3 p2) (λ_ s' a7=>?_) λ_ _ e=>e;obtain⟨f,rfl,g1,g2⟩:=a7;exact M G f p3 p2 c4 g1 g2
 ·have:t.mask<=255:=by rcases X.f with ⟨a,_⟩|⟨a,_⟩|⟨a,_⟩|⟨a,_⟩|⟨a,_⟩|⟨a,_⟩<;>omega
  unfold lG at a9;omega
def R_{S:Y}{j:Array (Int×aa)}{t:mx}(X:ko knd s.heap S o j l t a x)(g:A.units<c_)(m:∀k v n,knd.is k v=af->tO n v=aU af){k:List K}{b:Y}(i:ga knd s.heap k b)(c:b∈x)(p:a.length<60){Q:Bool->ak->Prop}(h:∀(r:Bool) d q e f u,ko knd d S q e f u (if k∈a then a else a++[k]) x->jc S s.heap d->Q r {s with heap:=d,toks:=s.toks+(k.length+1)}):aA (aH prog w) A (setAdd S<|.ref b) Q E s:=by
 unfold setAdd;exact il<|aj<|wpAny_pyHash_tuple g i<|RZ (s:={s with toks:=s.toks+(k.length+1)}) X g m i c p h
end
end
noncomputable def cf{b:Type}[DecidableEq b](l:List b):List b:=l.foldl (λa x=>if x∈a then a else a++[x]) []
def wB{a:Type}[DecidableEq a](l:List a)(x:a):cf (l++[x])=if x∈cf l then cf l else cf l++[x]:=by unfold cf;rw[qP];rfl
def qZ{b:Type}[DecidableEq b](l:List b):(cf l).length<=l.length:=by
 have:∀(l a:List b),(l.foldl (λa x=>if x∈a then a else a++[x]) a).length<=a.length+l.length:=by
  intro l
  induction l with
  |nil=>intro a;simp
  |cons x l c=>
   intro a;rw[qO];refine dg (c _) ?_;split
   ·rw[cO];omega
   ·rw[ck,cO,cO,mF];omega
 simpa[cf] using this l []
def pS{b:Type}[DecidableEq b](l:List b)(x:b):x∈cf l↔x∈l:=by
 have:∀(l a:List b),x∈(l.foldl (λa x=>if x∈a then a else a++[x]) a)↔x∈a\/x∈l:=by
  intro l
  induction l with
  |nil=>intro a;simp
  |cons y l c=>
   intro a;rw[qO,c]
   by_cases h:y∈a
   ·rw[az h,bZ]
    constructor
    ·rintro(q|q)
     ·exact .inl q
     ·exact .inr<|.inr q
    ·rintro(q|q|q)
     ·exact .inl q
     ·subst q;exact .inl h
     ·exact .inr q
   ·rw[ap h,cy,cJ,bZ]
    constructor
    ·rintro((q|q)|q)
     ·exact .inl q
     ·exact .inr<|.inl q
     ·exact .inr<|.inr q
    ·rintro(q|q|q)
     ·exact .inl<|.inl q
     ·exact .inl<|.inr q
     ·exact .inr q
 simpa[cf] using this l []
def zE{d:Type}[DecidableEq d](l:List d):(cf l).Nodup:=by
 have:∀(l c:List d),c.Nodup->(l.foldl (λc x=>if x∈c then c else c++[x]) c).Nodup:=by
  intro l
  induction l with
  |nil=>intro c h;exact h
  |cons y l f=>
   intro c h;rw[qO]
   by_cases q:y∈c
   ·rw[az q];exact f c h
   ·rw[ap q]
    refine f _ ?_;rw[iS];refine(h,by simp,λa i b g e=>?_);rw[cJ] at g;subst g;subst e;exact q i
 exact this l [] qL
def SB{b:Type}[DecidableEq b](l m:List b):(cf<|l++m).length<=(cf l).length+m.length:=by
 have:∀(m a:List b),(m.foldl (λa x=>if x∈a then a else a++[x]) a).length<=a.length+m.length:=by
  intro m
  induction m with
  |nil=>intro a;simp
  |cons x l c=>
   intro a;rw[qO];refine dg (c _) ?_;split
   ·rw[cO];omega
   ·rw[ck,cO,cO,mF];omega
 unfold cf;rw[qP];exact this m _
def SA{a:Type}[DecidableEq a](l:List a)(h:∀(k:Nat) x,l[k]?=V x->x∉l.take k):cf l=l:=by
 have:∀k,k<=l.length->cf (l.take k)=l.take k:=by
  intro k
  induction k with
  |zero=>intro _;rfl
  |succ k c=>
   intro d;have b:l[k]?=V l[k]:=dq ω;rw[yX,b];show cf (l.take k++[l[k]])=_;rw[wB,c ω,ap<|h k _ b]
   rfl
 have q:=this l.length<|aW _;rw[e_<|aW _] at q;exact q
def Sy{a:Type}[DecidableEq a](l:List a){k:Nat}{x:a}(h:l[k]?=V x)(c:x∈l.take k):(cf l).length<l.length:=by
 have f:k<l.length:=(cr.mp h).1;have e:l=(l.take k++[x])++l.drop (k+1):=by
  have:=pH (k+1) l;rw[yX,h] at this;exact this.symm
 have b:=SB (l.take k++[x])<|l.drop<|k+1;rw[<-e,wB,az<|(pS _ _).mpr c] at b;have d:=qZ<|l.take k;rw[dR] at d;rw[mG] at b;omega
def Sz{a:Type}[DecidableEq a](l:List a):(cf l).length<l.length↔∃(k:Nat)(x:a),l[k]?=V x/\x∈l.take k:=by
 constructor
 ·intro h
  apply kU;intro n;have:=SA l λk x e b=>n (k,x,e,b);rw[this] at h;exact oH _ h
 ·rintro⟨k,x,e,b⟩
  exact Sy l e b
section
set_option maxHeartbeats 3200000
section
open PySem.SetTable
section
variable{prog:bw}{w:aX}{K:Type}[DecidableEq K]{knd:rS prog w K}{A:bY}{R:Ca->ak->Prop}{I:Y}{fp wr:List Y}{G:Array HE->Array HE->Prop}{n:Nat}{P:Nat->aa->Prop}{St:Nat->ak->Prop}
def ko.q{q:List Y}{h a:aT}{S:Y}{g:Array (Int×aa)}{i:Nat}{t:mx}{j:List (List K)}(X:ko knd h S o g i t j q)(m:a.get? S=V o)(l:∀k b,ga knd h k b->ga knd a k b):ko knd a S o g i t j q:=
 (m,X.g,X.c,X.d,X.j,X.p,λe n=>let ⟨k,b,c,d,p⟩:=X.i e n;(k,b,c,d,l k b p),λk f=>let ⟨b,c,d⟩:=X.l k f;(b,c,l k b d),X.f,X.m,X.n)
def Sq{h c:aT}{k:List K}{b:Y}(d:ga knd h k b)(e:∀o,h.get? b=V o->c.get? b=V o):ga knd c k b:=by
 obtain⟨o,a,n,f,r⟩:=d;exact(o,a,n,e o f,r)
def Sa{a9:List Y}(b0:WalksS prog w A.in1 I fp wr G n P St)(hu:A.in1.units<c_)(hv:∀k v n,knd.is k v=af->tO n v=aU af)(S:Y)(L:S∉fp)(a:List (List K))(l:Nat->Y)(hn:a.length=n)(hB:∀i,i<n->l i∈a9)(hz:n<=59)(M:∀i v,P i v->v=.ref (l i))(hna:∀b o,(∃c m,o.cls=aK "tuple"/\o.data=.seq c m)->∀s i,St i s->s.heap.get? b=V o->b∉wr):∀(k i:Nat)(s:ak),n-i=k->i<=n->St i s->(∃o y z t,ko knd s.heap S o y z t (cf<|a.take i) a9)->(∀(j:Nat)(x:List K),a[j]?=V x->ga knd s.heap x (l j))->
   (∀g,Moved (S::wr) G s g->(∃o y z t,ko knd g.heap S o y z t (cf a) a9)->R (.ok<|.ret .none) g)->lF (aH prog w) A (.builtin "set.update.loop" ([.ref S,.ref I],[])) R s:=by
 have Q:S∉wr:=λh=>L<|b0.sub _ h;have u:∀b∈wr,b∈S::wr:=λb T=>eV _ T;have d:∀{i:Nat}{s g:ak}{x:List K}{b:Y},St i s->Moved wr G s g->ga knd s.heap x b->ga knd g.heap x b:=λ{i s g x b} f p C=>by
  obtain⟨o,c,m,ho,hc,hd,hi⟩:=id C;exact(o,c,m,p.heap b o (hna b o (c,m,hc,hd) s i f ho) ho,hc,hd,hi)
 intro k
 induction k with
 |zero=>
  intro i s C hi f hS hT hR;have a6:i=n:=ω
  subst a6;refine lE ad2 ?_;rw[nv Qp _];show aA _ A.in1 (kd (.ref I) >>= _) _ _ s;refine aj<|b0.done s _ _ f λg p=>?_;show aA _ A.in1 (ret cA) _ _ g;refine aI<|hR g (p.mono u) ?_;obtain⟨o,y,z,t,X⟩:=hS;rw[e_ ω] at X;exact(o,y,z,t,X.q (p.heap S _ Q X.a) λk b C=>d f p C)
 |succ k ih=>
  intro i s C hi f hS hT hR;have D:i<n:=ω
  refine lE ad2 ?_;rw[nv Qp _];show aA _ A.in1 (kd (.ref I) >>= _) _ _ s;refine aj<|b0.item i s _ _ D f λv g hP U p=>?_;obtain rfl:=M i v hP;obtain⟨o,y,z,t,X⟩:=hS;have X':ko knd g.heap S o y z t (cf<|a.take i) a9:=X.q (p.heap S _ Q X.a) λk b C=>d f p C;have hx:a[i]?=V a[i]:=dq ω;have a0:=qZ<|a.take i;rw[dR] at a0;show aA _ A.in1 (yv [ab<|l i] (setAdd S<|.ref<|l i) >>= _) _ _ g;refine aj<|il<|R_ X' hu hv (d f p<|hT i _ hx) (hB i D) ω λr h' o' a1 a2 t' X2 E=>?_;have a3:g.toks<=g.toks+(a[i].length+1):=yV _ _;have a7:St (i+1) {g with heap:=h',toks:=g.toks+(a[i].length+1)}:=b0.frame _ g _ _ U a3 λb T o2 e=>by
   rw[E.2 b (λh:b=S=>L (by rw[<-h];exact T))];exact e
  have H:a.take (i+1)=a.take i++[a[i]]:=by rw[yX,hx];rfl
  have X3:ko knd h' S o' a1 a2 t' (cf<|a.take<|i+1) a9:=by
   rw[H,wB]
   by_cases q:a[i]∈cf (a.take i)
   ·rw[az q] at X2 ⊢;exact X2
   ·rw[ap q] at X2 ⊢;exact X2
  refine aI (nq Qp _,ih (i+1) _ ω D a7 (o',a1,a2,t',X3) (λj x hj=>sy (d f p<|hT j x hj) X'.a X'.c E) λa8 a4 a5=>?_);refine hR a8 (Moved.trans b0.gtrans ((p.mono u).then_heap a3 λb o2 T e=>?_) a4) a5;rw[E.2 b (λh:b=S=>T (by rw[h];exact dQ))];exact e
end
end
end
section
open PySem.SetTable
section
variable{prog:bw}{w:aX}{K:Type}[DecidableEq K]{knd:rS prog w K}{A:bY}{E:Ω}{s:ak}
def Se(a:aa){Q₁:Ω}(h:Q₁ (.ref s⁻¹) {s with heap:=s.heap.push {cls:=.type "set",dict:=Z,data:=.set #[] 0<|.fresh 0 0<|!w.params.followText "set-order"}}):lF (aH prog w) A (.call (.builtin "set.__new__") ([.type "set",a],[])) (BI Q₁ E) s:=by
 refine Hn<|show aA _ A.in1 (do PF "set.__new__" ([.type "set",a],[]);again (.builtin "set.__new__" ([.type "set",a],[]))) _ _ s from aj (pA (F.newCall_set_1 a)<|aI (nq acq _,lE F.entry_set_new ?_));rw[nv acq _];unfold Builtin.«set.__new__» ag8;have b:=sub_set_self;obtain⟨c,g,d,e,f⟩:=s;dsimp only;wp_walk;refine wpAny_askSetting<|aI ?_;dsimp only;simp only[newObj];exact aj<|wpAny_alloc<|aI<|aI h
def SH{B:List Y}{vals:List (List K)}{adr:Nat->Y}{Q:Ω}(hh:A.handled=Z)(hl:s.heap.IsList l a)(hu:A.units+64<c_)(hv:∀k v n,knd.is k v=af->tO n v=aU af)(hz:a.size<=59)(hn:vals.length=a.size)(hB:∀i,i<a.size->adr i∈B)(a2:∀(i:Nat) v,a[i]?=V v->v=.ref (adr i))(hT:∀(j:Nat) x,vals[j]?=V x->ga knd s.heap x (adr j))(h:∀g tk,(∃o es ep t,ko knd g s⁻¹ o es ep t (cf vals) B)->(∀b o,b<s⁻¹->s.heap.get? b=V o->g.get? b=V o)->Q (.ref s⁻¹) {s with heap:=g,toks:=tk}):aA (aH prog w) A (jJ (.type "set") [.ref l]) Q E s:=by
 obtain⟨c,tl,b4⟩:=uc.mro;have a3:=uc.made;have b5:=uc.sub;refine He<|Hn ?_;show aA _ _ (callAny (.type "set") _) _ _ _;refine aI (ac7 _ δ,lE acv ?_);rw[ado (abf "set" [.ref l] []) O];have h1:=uc.notType;have h2:=uc.canCreate;have b9:=F.typeCall_set_1<|.ref l
 repeat(any_goals(first|assumption|wp_step))
 refine tP (Se (.ref l) (E:=E) (Q₁:=λH u=>∃d:Bool,(w.params.followText "set-order"=af\/d=af)/\H=.ref s⁻¹/\u={s with heap:=s.heap.push {cls:=.type "set",dict:=Z,data:=.set #[] 0<|.fresh 0 0 d}}) (_,by cases w.params.followText "set-order" <;> simp,O,O)) λr u hr=>?_;cases r with
 |error e=>exact hr
 |ok fl=>
  cases fl with
  |ret H=>
   obtain⟨d,I,rfl,rfl⟩:=hr;have hS:(s.heap.push {cls:=.type "set",dict:=Z,data:=.set #[] 0<|.fresh 0 0 d}).get? s⁻¹=V {cls:=.type "set",dict:=Z,data:=.set #[] 0<|.fresh 0 0 d}:=dF _ O;have a4:yC {s with heap:=s.heap.push {cls:=.type "set",dict:=Z,data:=.set #[] 0<|.fresh 0 0 d}} (.ref s⁻¹) "set":=(_,hS,O);have c0:=uc.init.lookup;have c1:=uc.init.bind<|.ref s⁻¹
   repeat(any_goals(first|assumption|wp_step))
   refine tP (abt (R:=BI (λr y=>r=.none/\∃g tk,y={s with heap:=g,toks:=tk}/\
     (∃o es ep t,ko knd g s⁻¹ o es ep t (cf vals) B)/\
     (∀b o,b<s⁻¹->s.heap.get? b=V o->g.get? b=V o)) E) uc.init.plain F.entry_set_init<|check_set_init_1 a4 ?_) λL y f=>?_
   ·obtain⟨ol,M,P,nl,S⟩:=hl
    obtain⟨b6,C,a5,p⟩:=ol;simp only at P S;subst P;subst S;have T:(s.heap.push {cls:=.type "set",dict:=Z,data:=.set #[] 0<|.fresh 0 0 d}).get? l=V {cls:=.type "list",dict:=C,data:=.seq a nl,slots:=p}:=cx _ M;have b7:=F.sub_list_set;have b8:=F.sub_list_frozenset;have c2:(aK "list" == aK "dict")=aB:=ξ
    have U:(s.heap.push {cls:=.type "set",dict:=Z,data:=.set #[] 0<|.fresh 0 0 d}).IsList l a:=(_,T,O,nl,O);unfold Builtin.«set.__init__» noKeywords ag7;generalize a6:pC=PI
    wp_walk
    subst a6;refine tL U ?_;refine aj<|wpAny_runValue ?_;have X:l<s⁻¹:=cR M;have a7:A.in1.in1.in1.handled=Z:=by simp[hh]
    have a0:l≠(s.heap.push {cls:=.type "set",dict:=Z,data:=.set #[] 0<|.fresh 0 0 d}).objs.size:=by
     rw[t_];exact dz<|lM X
    have a8:s⁻¹∉[(s.heap.push {cls:=.type "set",dict:=Z,data:=.set #[] 0<|.fresh 0 0 d}).objs.size,l]:=by
     rw[t_];simp only[bZ,cJ,pI,oM,not_or];exact(dz<|Qt _,lL X)
    refine Sa (knd:=knd) ((rQ a7 _ l a0 a).toS) (by show A.units+1+1+1<c_;omega) hv s⁻¹ a8 vals adr hn hB hz (λi v q=>a2 i v q) (λb o ho s' i st e hb=>?hna)
     (a.size-0) 0 _ ω (eM _) ((_,dF _ O,O,O),(U.push _)) ({cls:=.type "set",dict:=Z,data:=.set #[] 0<|.fresh 0 0 d},#[],0,.fresh 0 0 d,?hS0) (λj x hx=>Sq (hT j x hx) λo e=>cx _<|cx _ e) ?hR
    case hna=>
     obtain⟨⟨oi,e1,e2,_⟩,_⟩:=st;obtain⟨c3,m,hc,_⟩:=ho;simp only[cJ] at hb;subst hb;have e3:=cH<|e1.symm.trans e;rw[<-e3,e2] at hc;exact bu hc ξ
    case hS0=>
     have a1:((s.heap.push {cls:=.type "set",dict:=Z,data:=.set #[] 0<|.fresh 0 0 d}).push {cls:=.type "list_iterator",data:=.fields #[.ref l,.int 0 0]}).get? s⁻¹
      =V {cls:=.type "set",dict:=Z,data:=.set #[] 0<|.fresh 0 0 d}:=cx _ hS
     exact(a1,(O,O,O),O,(by simpa using Sb 0 0 d),O,qL,λe he=>by simp at he,λk hk=>by simp[cf] at hk,.inl (O,eM _),(λe he=>by simp at he),I.imp id λz=>(z,O))
    case hR=>
     intro s' hm D;obtain⟨g,g',d',a9,b0⟩:=s';have eg:g'=s.gens:=hm.gens;have ed:d'=s.drawn:=hm.drawn;have eo:b0=s.os:=hm.os;subst eg;subst ed;subst eo;show aA _ _ _ _ _ _;refine aI ?_;show aA _ _ (ret cA) _ _ _;refine aI (O,g,a9,O,D,λb o hb e=>?_);have b1:b≠s⁻¹:=dz hb;have b2:b≠(s.heap.push {cls:=.type "set",dict:=Z,data:=.set #[] 0<|.fresh 0 0 d}).objs.size:=by
      rw[t_];exact dz<|lM hb
     exact hm.heap b o (by simp only[bZ,cJ,pI,oM,not_or];exact(b1,b2))<|cx _<|cx _ e
   ·cases L with
    |error e=>exact f
    |ok G=>
     cases G with
     |ret r=>
      obtain⟨rfl,g,tk,rfl,D,b3⟩:=f
      repeat(any_goals(first|assumption|wp_step))
      exact h _ _ D b3
     |_=>exact f.elim
  |_=>exact hr.elim
end
end
noncomputable def wZ(D:Y)(n:Nat):dh:=.i λh=>∃o a b t,h.get? D=V o/\o.ExactSet/\o.data=.set a b t/\t.fits a.size=af/\a.size=n/\n<=100
section
variable{X:bf}
def U':∀(k:Int)(v:aa)(n:Nat),(qD a w).is k v=af->tO n v=aU af:=by
 intro k v n h;obtain⟨t,rfl⟩:=ab4 h;cases n<;>rfl
def K_{b:List aa}(j:kP h c b.toArray)(g:gg b f):ga (qD a w) h f c:=by
 obtain⟨o,e,i,k,d⟩:=j;refine(o,b.toArray,k,e,i,d,?_);have:∀{b:List aa}{f:List Int},gg b f->Ce (qD a w) f b:=by
  intro b f g
  induction g with
  |nil=>exact .nil
  |cons n t h l=>exact .cons (by show Ht n (.int n t)=af;simp[Ht]) l
 simpa using this g
def VC(G:X.b=af)(L:X.A.units+64<c_):js X (.type "set") (λy H Q=>∃(l:Y)(d:List Y)(c:Ξ),y=[.c l]/\bP X.K H l (d.map ag.c)/\bC H d c/\c.length<=59/\
  ∀D,H D=Z->Q (.c D) (aw H D<|wZ D (cf c).length)):=by
 intro z s σ H y us Q I r h;obtain⟨l,d,c,rfl,M,A,hz,q⟩:=h;obtain⟨u,rfl,P⟩:=iF r;cases P;obtain⟨k,R,S,_⟩:=I.j M;obtain rfl:=oR R;have m:=A.j;refine SH (B:=d) (knd:=qD X.prog X.w) (vals:=c) (adr:=λi=>d.getD i 0) (I.b.a G) S.isList L U' (by rw[cT,ax];omega) (by rw[cT,ax];omega) (λi n=>by rw[cT,ax] at n;rw[ul,dq n];exact pL n)
  (λi v e=>?_) (λj x e=>?_) λh' tk (o,U,ep,t,T) kk=>?_
 ·have g:(d.map ab)[i]?=V v:=by simpa using e
  rw[cB] at g;cases f:d[i]? with
  |none=>rw[f] at g;simp at g
  |some a=>
   rw[f] at g;rw[<-cH g,ul,f]
   rfl
 ·have hj:j<d.length:=by rw[m];exact(cr.mp e).1
  have f:d[j]?=V d[j]:=dq hj;obtain⟨a0,C,e2⟩:=A.q f;rw[e] at C;obtain rfl:=cH C;obtain⟨k,r2,p2,_⟩:=I.q<|fM.j (K:=X.K) e2;rw[ul,f];exact K_ p2<|oW r2
 ·have E:=qZ c
  refine(.c s⁻¹,_,I.F (o:=wZ s⁻¹ (cf c).length) (λb u e=>kk b u (cR e) e) (aW _) ?_,O,q _<|I.a.j<|aW _);refine((o,U,ep,t,T.a,T.g,T.c,zI T.d,T.j,ω),(o,T.a),λh1 h2 (o',p,w,t',g1,g2) kp=>(o',p,w,t',kp _ g1,g2))
def VE:js X (.builtin "len") (λa H Q=>∃D n,a=[.c D]/\H D=V (wZ D n)/\Q (.d n) H):=by
 intro b s k H a l Q I r h;obtain⟨D,n,rfl,c,q⟩:=h;obtain⟨u,rfl,d⟩:=iF r;cases d;obtain⟨⟨o,m,p,t,e,f,g,i,j,v⟩,_⟩:=(show dt X.prog X.w H s.heap D (wZ D n) from I.a D _ c);exact call_len_set e f g i ω (.d n,H,I.J _,(_,by rw[j]),q)
end
section
open PySem.Builtin PySem.Builtin.Str
section
variable{prog:bw}{w:aX}{A:bY}{E:Ω}{s:ak}{x y:au}{t u:iM}{Q:Ω}
def RU(c:(y.length==0)=aB)(h:∀(l:List (au×iM)) k,l.map (·.1)=BV x y->Q (.ref s⁻¹) {s with heap:=s.heap.push {cls:=.type "list",data:=.seq (Ph l).toArray},toks:=k})(d:x.length+2<=bQ):aA (aH prog w) A (jJ (.builtin "str.split") [.str x t,.str y u]) Q E s:=by
 have e:(partsBetween x (Qj x y 0 x.length<|x.length+1) y.length).length<=bQ:=by
  have f:=StrLaws.occ_length_le x y 0 x.length<|x.length+1;rw[length_partsBetween];omega
 cases a:(aC (x.length<y.length)|| decide (strKind x<strKind y))
 ·cases b:(Qj x y 0 x.length<|x.length+1).isEmpty
  ·refine rO HH (Hh _ _ _) Qd (Qf _ _) (meets_str_split_sep x y t u a c b ω e) ?_
   show BI Q E _ {s with toks:=_,heap:=s.heap.push {cls:=.type "list",data:=.seq (strsFrom s.toks<|partsBetween x (Qj x y 0 x.length<|x.length+1) y.length).toArray}};rw[strsFrom_eq];exact h (numbered s.toks _) _<|(numbered_texts _ _).trans ((ap<|ne_true_of_eq_false a).trans<|ap<|ne_true_of_eq_false b).symm
  ·exact rO HH (Hh _ _ _) Qd (Qf _ _) (meets_str_split_not_found x y t u a c b)
   <|h [(abd x t)] s.toks ((ap<|ne_true_of_eq_false a).trans<|az b).symm
 ·exact rO HH (Hh _ _ _) Qd (Qf _ _) (meets_str_split_cannot_occur x y t u a)
  <|h [(abd x t)] s.toks (az a).symm
end
end
section
variable{X:bf}
def JP:∀(l:List (au×iM)),cw ((l.map (·.1)).map ag.f) (Ph l)
 |[]=>.nil
 |p::l=>.cons (p.2,O) (JP l)
inductive Kk(x:ag)(vs:List ag)(H:ae)(Q:aS):Prop
 |a:∀z y,(x=.f z)->(vs=[.f y])->((y.length==0)=aB)->(z.length+2<=bQ)->((BV z y).length<=bQ)->(∀D,H D=Z->Q (.c D) (aw H D<|.a<|(BV z y).map ag.f))->Kk x vs H Q
def Uw:uX X "str.split" Kk:=by
 intro a s m H x n v p Q I c d h;obtain⟨z,y,rfl,rfl,f,g,i,q⟩:=h;obtain⟨t,rfl⟩:=c;obtain⟨u,rfl,j⟩:=d.F;obtain⟨t',rfl⟩:=j;refine RU f (λl k e=>?_) g;refine(.c s⁻¹,_,I.F (t':=k) (o:=.a<|(BV z y).map ag.f) (λb r q=>cx _ q) (aW _) ?_,O,q _<|I.a.j<|aW _);refine(by rw[ax];exact i,Ph l,0,?_,dF _ O);rw[<-e];exact JP l
noncomputable def Ao(x:au):iZ:=(λi _=>i<x.cps.size,λi H v a=>a=H/\∃c,x.cps[i]?=V c/\v=.f ⟨#[c]⟩,λi _=>i=x.cps.size)
def JU{K:aR}(x:au)(a:Y)(T:String)(hn:["enumerate","zip","dict_itemiterator","dict_reverseitemiterator","odict_iterator","itertools.zip_longest","itertools.pairwise"].contains T=aB)(t:iM)(a0:∀A':bY,A'.handled=Z->vS P w A' a [a] [a] x.cps.size (SignAt x) (λi h=>h.IsStrIter a T x t i))(p:∀(A:bY)(i:Nat)(s:ak)(Q:Ω)(E:Ω),s.heap.IsStrIter a T x t i->Q (.ref a) s->aA (aH P w) A (pC<|.ref a) Q E s):oe P w K tg (Ao x) [a] a (λi h=>h.IsStrIter a T x t i) where
 f:=by simp
 a:=λi h g b j=>by
  have e:b=a:=by simpa using j
  subst e;obtain⟨o,e,c,d⟩:=g;exact(o,e,λv z=>by rw[d] at z;cases z)
 c:=λi h m g k=>by
  obtain⟨o,e,c⟩:=g;exact(o,k a (by simp) o e,c)
 d:=by
  intro X q r y C i f s σ H E I n g D;subst q r y;obtain⟨G,L,f2,M,R,S⟩:=n a (by simp);refine(a0 X.A<|I.b.a C).item i s _ _ D g λv m U hv l kk=>?_;obtain⟨c,u,hx,rfl⟩:=hv;have I1:aE X f σ H {s with heap:=m,toks:=U}:=I.S (λb o j e=>kk b o (by simpa using j) e) G L M R S;obtain⟨o,e1,e2,e3⟩:=id l;exact(_,O,uR (s:={s with heap:=m,toks:=U}) e1 e2 e3 hn (.f ⟨#[c]⟩,H,I1,(u,O),(O,c,hx,O),l,λb j=>(n b j).1))
 done:=by
  intro X q r y C i f s σ H E I n g D;subst q r y;obtain⟨G,L,f2,M,R,S⟩:=n a (by simp);have hi:i=x.cps.size:=D;subst hi;exact(a0 X.A<|I.b.a C).done s _ _ g λm U kk=>(O,I.S (λb o j e=>kk b o (by simpa using j) e) G L M R S)
 e:=p
def UT(a:a_):ji:=λb H R=>a b H λv c=>∃x,v=.f x/\R (Ao x) c
def T_{m:a_}(w:bJ X l m):jp X u l (UT m):=by
 intro a s n H R I h;refine bM (w a s n H _ I h) λv c (x,f,g,y,C)=>?_;obtain⟨z,e,q⟩:=C;subst e;obtain⟨t,rfl⟩:=y;have d:∀(o:bA),aE X a n f {c with heap:=c.heap.push o}:=λo=>g.B (t':=c.toks) λb o e=>cx _ e;have p:∀b∈[c⁻¹],gl X a f b:=λb D=>by
  have e:b=c⁻¹:=by simpa using D
  subst e;exact g.M (aW _)<|g.a.j<|aW _
 cases r:z.cps.all (·<128)
 ·refine wpAny_pyIter_wide r ?_
  exact(c⁻¹,[c⁻¹],_,_,f,O,d _,JU z _ "str_iterator" ξ t (λG j=>Walks.strWide j _ z t) (λA i s Q E k h=>wpAny_pyIter_striter_wide k h),(_,dF _ O,O,O),p,q)
 ·refine wpAny_pyIter_ascii r ?_
  exact(c⁻¹,[c⁻¹],_,_,f,O,d _,JU z _ "str_ascii_iterator" ξ t (λG j=>Walks.strAscii j _ z t) (λA i s Q E k h=>wpAny_pyIter_striter_ascii k h),(_,dF _ O,O,O),p,q)
def Vw{g:gj}{k:eG}{l:a_}{m:ae}{Q:aS}{x:au}(h:Nat->aO->List ag->ae->Prop)(o:h 0 a [] (aw m D<|.a []))(q:∀i a f H c,x.cps[i]?=V c->i<x.cps.size->f.length<=i->h i a f H->g (.f ⟨#[c]⟩) a H λd r=>k d r λb n=>if b=af then l d n (rr x.cps.size h D i d) else sV x.cps.size h i d n)(s:∀a f H,h x.cps.size a f H->Q (.c D) H):dY (Ao x) g k l a m D Q:=by
 refine sK x.cps.size h o (λa f H p=>O) (λi a f H j p=>j) (λi a f H v w j t p y=>?_) s;obtain⟨e,c,u,rfl⟩:=y;subst e;exact q i a f _ c u j t p
end
noncomputable def kK(b:List Int):Ξ:=b.foldl (λa x=>a++a.map (·++[x])) [[]]
noncomputable def cG(a:List Int):Ξ:=(kK a).drop 1
def GG(a:List Int)(x:Int):kK (a++[x])=kK a++(kK a).map (·++[x]):=by unfold kK;rw[qP];rfl
def Bq(b:List Int):(kK b).length=2 ^ b.length:=by
 have:∀(b:List Int)(c:Ξ),(b.foldl (λa x=>a++a.map (·++[x])) c).length=c.length*2 ^ b.length:=by
  intro b
  induction b with
  |nil=>intro c;simp
  |cons x b d=>
   intro c;rw[qO,d,ck,ax,cO,CD];rw[<-Nat.two_mul,Qs 2,Nat.mul_assoc,Qs 2]
 simpa[kK] using this b [[]]
def GH(c:List Int):∃t,kK c=[]::t/\∀q∈t,q≠[]:=by
 have:∀(c:List Int)(b:Ξ),(∃t,b=[]::t/\∀q∈t,q≠[])->∃t,c.foldl (λa x=>a++a.map (·++[x])) b=[]::t/\∀q∈t,q≠[]:=by
  intro c
  induction c with
  |nil=>intro b h;exact h
  |cons x c e=>
   rintro b ⟨t,rfl,h⟩;rw[qO];refine e _ (t++([]::t).map (·++[x]),O,λq d=>?_);rcases cy.mp d with d|d
   ·exact h q d
   ·obtain⟨r,_,rfl⟩:=aP.mp d
    simp
 exact this c [[]] ([],O,λq d=>nomatch d)
def ZB(a:List Int):(kK a).filter (λq=>!aC (q=[]))=cG a:=by
 obtain⟨t,e,h⟩:=GH a;unfold cG;rw[e];show eO _ ([]::t)=t;rw[CN,ap (by simp)];exact List.filter_eq_self.mpr λq b=>by simp[h q b]
def vF(a:List Int):(cG a).length=2 ^ a.length-1:=by unfold cG;rw[mG,Bq]
def Ob(b:List Int):∀q∈kK b,q.length<=b.length:=by
 have:∀(b:List Int)(c:Ξ)(n:Nat),(∀q∈c,q.length<=n)->∀q∈b.foldl (λa x=>a++a.map (·++[x])) c,q.length<=n+b.length:=by
  intro b
  induction b with
  |nil=>intro c n h q e;simpa using h q e
  |cons x b f=>
   intro c n h q e;rw[qO] at e;have:=f _ (n+1) (λr d=>by
    rcases cy.mp d with d|d
    ·exact Ii<|h r d
    ·obtain⟨u,g,rfl⟩:=aP.mp d
     rw[ck];exact ad5<|h u g) q e
   rw[cO];omega
 intro q e;have:=this b [[]] 0 (λr d=>by simp at d;subst d;exact aW _) q e;omega
noncomputable def ij:List Int->Bool
 |a::b::r=>aC (a<b)&&ij (b::r)
 |_=>af
def Od:∀c:List Int,((c.zip<|c.drop 1).map λp=>aC<|p.1<p.2).all id=ij c
 |[]=>O
 |[_]=>O
 |a::b::r=>by
  have:=Od<|b::r;unfold ij;rw[<-this]
  rfl
def GJ:∀e:List Int,ij e=af↔∀(i:Nat) a b,e[i]?=V a->e[i+1]?=V b->a<b
 |[]=>by simp[ij]
 |[x]=>by simp[ij]
 |x::y::r=>by
  unfold ij;rw[kW,iD,GJ<|y::r];constructor
  ·rintro⟨f,g⟩ i a b c d
   cases i with
   |zero=>simp at c d;subst c d;exact f
   |succ i=>exact g i a b (by simpa using c) (by simpa using d)
  ·intro h
   exact(h 0 x y O O,λi a b c d=>h (i+1) a b (by simpa using c) (by simpa using d))
def Oe(c:List Int)(h:ij c=af):∀(d i:Nat) a b,c[i]?=V a->c[i+d]?=V b->a<=b:=by
 intro d
 induction d with
 |zero=>intro i a b f e;rw[yW,f] at e;cases e;exact nI _
 |succ d j=>
  intro i a b f e;have k:i+(d+1)<c.length:=(cr.mp e).1;have g:c[i+d]?=V c[i+d]:=dq ω;have l:=j i a _ f g;have m:=(GJ c).mp h (i+d) _ b g e;omega
noncomputable def ja(a:List Int):Bool:=aC (1<=a.length)&&aC (a.length<=5)&&!(aC<|a.headD 0<0)&&!(aC<|99<a.getLastD 0)&&ij a
noncomputable def jS(a:List Int):Bool:=aC (1<=a.length)&&aC (a.length<=5)&&a.all (λp=>aC (0<=p)&&aC (p<=99))&&ij a
def Og(b:List Int):ja b=jS b:=by
 unfold ja jS;cases b with
 |nil=>rfl
 |cons x r=>
  by_cases a:ij (x::r)=af
  ·rw[a,aff,aff]
   by_cases j:(x::r).length<=5
   ·have e:(x::r).getLastD 0=(x::r)[(x::r).length-1]:=by
     rw[aer,List.getLast?_eq_getElem?,dq (by simp)];rfl
    have c:(!(aC<|(x::r).headD 0<0)&&!(aC<|99<(x::r).getLastD 0))=(x::r).all (λp=>aC (0<=p)&&aC (p<=99)):=by
     rw[uu];rw[kW,Rb,Rb,decide_eq_false_iff_not,decide_eq_false_iff_not,pO];constructor
     ·rintro⟨k,l⟩ p m
      obtain⟨i,d⟩:=mD.mp m;have n:i<(x::r).length:=(cr.mp d).1;have f:=Oe (x::r) a i 0 x p O (by simpa using d);have g:=Oe (x::r) a ((x::r).length-1-i) i p ((x::r)[(x::r).length-1]) d (by
       rw[show i+((x::r).length-1-i)=(x::r).length-1 from ω];exact dq (by simp))
      rw[e] at l;have o:¬x<0:=k;simp only[kW,iD];constructor<;>omega
     ·intro h
      have f:=h x dQ;have g:=h ((x::r)[(x::r).length-1])<|pL _;rw[e];simp only[kW,iD] at f g;constructor
      ·show ¬x<0;omega
      ·omega
    rw[<-c];simp only[Bool.and_assoc]
   ·rw[cK j];simp
  ·have:ij (x::r)=aB:=by simpa using a
   rw[this,zk,zk]
noncomputable def ii(a:Ξ):Bool:=aC (a.length<=20)&&a.all ja&&!(aC<|(cf a).length<a.length)&&aC ((cf<|a.flatMap cG).length<=200)
def Ok(a:Ξ)(k:Nat):Prop:=∀(i:Nat) b,i<k->a[i]?=V b->b∉a.take i/\jS b=af
def Zw(a:Ξ)(h:a.length<=20)(b:Ok a a.length):ii a=aC ((cf<|a.flatMap cG).length<=200):=by
 unfold ii;have d:a.all ja=af:=pO.mpr λf g=>by
  obtain⟨i,c⟩:=mD.mp g;rw[Og];exact(b i f (cr.mp c).1 c).2
 have j:¬(cf a).length<a.length:=λz=>by
  obtain⟨k,x,e,l⟩:=(Sz a).mp z;exact(b k x (cr.mp e).1 e).1 l
 rw[cn h,d,cK j]
 rfl
def Zv(a:Ξ)(h:¬a.length<=20):ii a=aB:=by unfold ii;rw[cK h];rfl
noncomputable def wX(d c:List au)(a:List (Option Nat))(b:hG):Bool:=aC (a.length=c.length)&&(a.zip c).all λp=>match p.1 with
 |none=>af
 |some j=>aC (d[j]?=V p.2)&&aC (b.names.lookup p.2=V .free)
def En{b:hG}(h:wX g c a b=af):u_ g c a b:=by
 unfold wX at h;rw[kW,iD,pO] at h;refine(h.1,λi j e=>?_);have f:i<a.length:=(cr.mp e).1;have d:c[i]?=V c[i]:=dq (by rw[<-h.1];exact f);have:=h.2 (abd (V j) (c[i]))<|mD.mpr (i,by rw[pR,e,d];rfl);simp only[kW,iD] at this;exact(c[i],d,this.1,this.2)
section
variable{X:bf}{scope:hG}{caps:List (Option Nat)}{tg iter elt:bB}{ifs:List bB}{wi:ji}{g:gj}{tc:eG}{te:a_}{pos:cD}
def ff(s j:List au)(caps:List (Option Nat))(k:jp X tg iter wi)(l:∀f C a b h,kx (jQ X scope j f C a b h) tg g)(m:∀f C a b h,of (jQ X scope j f C a b h) ifs tc)(n:∀f C a b h,bJ (jQ X scope j f C a b h) elt te)(o:X.b=af:=by rfl)(p:scope.kind=.function:=by rfl)(e:∀y∈scope.names,y.2≠.cell:=by decide +kernel)(c:∀y∈scope.names,y.2=.free->scope.names.lookup y.1=V .free:=by decide +kernel)(d:∀y∈scope.names,y.2=.local->scope.names.lookup y.1=V .local:=by decide +kernel)(hfr:∀y∈scope.names,y.2=.free->X.env.kindOf y.1=V .cell\/X.env.kindOf y.1=V .free)(q:X.N=s:=by rfl)(i:wX s j caps scope=af:=by decide +kernel)(r:∀x,rN iter X.env x=aU x:=by intro _;rfl):bJ X (.ListComp elt [(tg,iter,ifs,0)] scope pos) (oS wi caps g tc te):=
 Uj o p e c d hfr (En (by rw[q];exact i)) k l m n r
end
def pY{b:gb}{a:hG}(h:a.names.all (λy=>aC<|y.2≠.free)=af):∀y∈a.names,y.2=.free->b.kindOf y.1=V .cell\/b.kindOf y.1=V .free:=λy c e=>
 bu e<|io<|pO.mp h y c
def gD{b:gb}{a:hG}(c:hG)(h:a.names.all (λy=>aC (y.2≠.free)|| decide (c.names.lookup y.1=V .cell)|| decide (c.names.lookup y.1=V .free))=af)(d:b.scope=c:=by rfl):∀y∈a.names,y.2=.free->b.kindOf y.1=V .cell\/b.kindOf y.1=V .free:=λy f e=>by
 subst d;have:=pO.mp h y f;simp only[Q_,iD] at this;rcases this with (q|q)|q
 ·exact bu e q
 ·exact .inl q
 ·exact .inr q
def dX(l:List au)(h:l.Nodup:=by decide +kernel):l.Nodup:=h
def zJ{c:a_}{S:ae->Prop}(h:c a H P):gC a H λb d=>if b=af then c a d P else S d:=by
 show if af=af then c a H P else S H;rw[az O];exact h
def iX{i:Nat}{d:a_}{c:aO}{P:aO->aS}{S:aO->ae->Prop}(h:d (c.set i<|V v) H (P<|c.set i<|V v)):dk i v c H λa f=>gC a f λb e=>if b=af then d a e (P a) else S a e:=zJ (S:=S<|c.set i<|V v) h
def eP{b:a_}(h:dY e g a b c d D Q):dY e g a b c d D Q:=h
def Ma{c d:Type}{R:c->d->Prop}:∀{l:List c}{m:List d},l.length=m.length->(∀(i:Nat) x y,l[i]?=V x->m[i]?=V y->R x y)->du R l m
 |[],[],_,_=>.nil
 |x::l,y::m,h,f=>.cons (f 0 x y O O) (Ma (by simpa using h) λi a b e g=>f (i+1) a b (by simpa using e) (by simpa using g))
 |[],_::_,h,_=>by simp at h
 |_::_,[],h,_=>by simp at h
section
variable{prog:bw}{w:aX}{A:bY}{E:Ω}{s:ak}
def ZY{t f:Y}{k l:aa}{b e:Option Int}{Q:Ω}(c:kP s.heap t a)(m:s.heap.IsSliceOf f k l .none)(n:qG k b)(o:qG l e)(hw:cz a.size 0 b=0/\cz a.size a.size e=a.size)(h:Q (.ref t) s):aA (aH prog w) A (pE (.ref t)<|.ref f) Q E s:=by
 obtain⟨p,g,i,q⟩:=id m;have j:s.TypeIs (.ref f) "slice":=(p,g,i);obtain⟨x,r,u,y,v⟩:=id c;unfold pE
 try with_reducible refine il ?_
 first|refine aj<|aI ?_|skip
 refine aj<|aaz c.typeIs ξ ?_;refine aj (pB (name:=kf "__getitem__") c.typeIs wd
 <|lC wd c.typeIs adz ?_<|ad1 _ _)
 show aA _ _ (adc (.ref t) >>= _) _ _ s;refine aj<|tupleItemsOf_ c ?_;refine aj<|yn j ?_;rw[az ξ];refine aj<|Oq m n o ?_;have d:((((cz a.size 0 b:Nat):Int)==0&&(1:Int)==1&&(cz a.size a.size e-cz a.size 0 b)==a.size)=af):=by
  rw[hw.1,hw.2];simp
 show aA _ _ (if(((cz a.size 0 b:Nat):Int)==0&&(1:Int)==1&&(cz a.size a.size e-cz a.size 0 b)==a.size)=af then _ else _) _ _ s;rw[az d];refine aj ?_;unfold ag2;refine aj<|yn c.typeIs<|aI ?_;rw[az ξ];refine aj<|lv ?_;exact aI (_,O,aI h)
end
section
variable{X:bf}
inductive zR(x:ag)(lo:Option Int)(hi:Option Int)(H:ae)(Q:aS):Prop
 |b:∀a xs,(x=.c a)->(H a=V (.b xs))->(∀p H',aF H H'->H' p=V (.b<|kt xs lo hi)->Q (.c p) H')->zR x lo hi H Q
def zN:Aj X zR:=by
 intro c s t H x v u w i j y Q I k l m n h;obtain⟨a,b,rfl,f,q⟩:=h
 by_cases e:cz b.length 0 i=0/\cz b.length b.length j=b.length
 ·cases k
  obtain⟨g,r,o,A⟩:=I.q<|fM.j (K:=X.K) f;have d:g.toArray.size=b.length:=by rw[cT];exact r.j.symm
  refine("tuple",_,wd.lookup,o.typeIs,ZY o l m n (by rw[d];exact e) (.c a,H,I,O,q a H (aF.S H) ?_));rw[f];unfold kt;rw[e.1,e.2,ae0,Qr,e_<|aW _]
 ·exact Kb c s t H (.c a) v u w i j y Q I k l m n (a,b,O,fM.j f,e,λp z=>q p _ (aF.q z) ay)
end
noncomputable def eI(i:Nat):cN:=PySem.Challenge.pw_seamwright_k49_whole_thin_webs_have_the.main.body.getD i<|.Pass (0,0,0,0)
noncomputable abbrev AQ:cN:=eI 7
noncomputable abbrev vr:cN:=eI 8
noncomputable abbrev tw:cN:=eI 10
noncomputable abbrev vt:cN:=eI 11
noncomputable abbrev xS:cN:=eI 12
noncomputable abbrev AW:cN:=eI 16
structure eY(mg:au->Option aa):Prop where
 a:mg "len"=Z
 all:mg "all"=Z
 j:mg "zip"=Z
 e:mg "sorted"=Z
 g:mg "set"=Z
 b:mg "list"=Z
 d:mg "tuple"=Z
 c:mg "range"=Z
 f:mg "enumerate"=Z
 h:mg "int"=Z
 k:mg "isinstance"=Z
 i:mg "reversed"=Z
 l:mg "bool"=Z
def gN:hC "len"=V (.builtin "len"):=δ
def Gy:hC "all"=V (.builtin "all"):=δ
def Zi:hC "zip"=V (.type "zip"):=δ
def Gx:hC "sorted"=V (.builtin "sorted"):=δ
def Zj:hC "set"=V (.type "set"):=δ
def iK:hC "list"=V (.type "list"):=δ
def Bj:hC "tuple"=V (.type "tuple"):=δ
def NT:hC "enumerate"=V (.type "enumerate"):=δ
def Zl:hC "int"=V (.type "int"):=δ
def Zk:hC "reversed"=V (.type "reversed"):=δ
def bU{n:Nat}(h:n<=100000):n<=bQ:=by rw[kM];omega
def gn{n:Nat}(h:n<=100000):n<bQ:=by rw[kM];omega
def Zm(x:Int)(r:List Int):j_ ((x::r).map ag.d) (-1)=V (.d<|(x::r).getLastD 0):=by
 obtain⟨q,z,e⟩:∃q z,x::r=q++[z]:=((x::r).dropLast,(x::r).getLast<|ae5 x r,(ae3<|ae5 x r).symm);rw[e,bT,aer,List.getLast?_append];exact LX _ _
def xU{a:List Int}{i:Nat}(h:(a.map ag.d)[i]?=V x):∃p,a[i]?=V p/\x=.d p:=by
 rw[cB] at h;cases e:a[i]? with
 |none=>rw[e] at h;cases h
 |some p=>rw[e] at h;exact(p,O,(cH h).symm)
def dM{b:List Y}{i:Nat}(h:(b.map ag.c)[i]?=V x):∃a,b[i]?=V a/\x=.c a:=by
 rw[cB] at h;cases e:b[i]? with
 |none=>rw[e] at h;cases h
 |some p=>rw[e] at h;exact(p,O,(cH h).symm)
def cq{a:Type}{l:List a}{i:Nat}{x:a}(h:l[i]?=V x):l.take (i+1)=l.take i++[x]:=by rw[yX,h];rfl
def fN{a:Type}(l:List a):l.take l.length=l:=e_<|aW _
def Zb(x:Int)(r:List Int):kt ((x::r).map ag.d) (V 1) Z=r.map ag.d:=by
 unfold kt;have e:cz ((x::r).map ag.d).length 0 (V 1)=1:=by
  have:=yb ((x::r).map ag.d).length 0 1;rw[show((1:Nat):Int)=1 from O] at this;rw[this,ax,cO];omega
 rw[e,Bz];show cU _ (r.map ag.d)=_;rw[e_ (by simp)]
section
variable{P:bw}{w:aX}{K:aR}{mg:au->Option aa}{base:aT}
inductive EZ(vs:List ag)(H:ae)(Q:aS)(E':cZ):Prop
 |b:∀a ps,(vs=[.c a])->(cM H a ps)->(∀H',aF H H'->Q (.e<|ja ps) H')->EZ vs H Q E'
def Wx:dK ["numbers"] ["numbers"] (b_ AQ):=(O,O,O,δ,O,δ,δ)
def XB{t5 M:iM}(F:bN K "is_piece" "is_piece" AQ f fd)(a1:eY mg)(m5:mg "MOST_POINTS"=V (.int 5 t5))(R:mg "LAST_POINT"=V (.int 99 M)):bO P w K mg base bv 1 f fd ["numbers"] EZ:=by
 refine F.j Wx (λvs H Q E h=>?_) (λa0 A S s H vs Q E hr h=>?_)
 ·obtain⟨a,b,rfl,_⟩:=h;rfl
 ·obtain⟨a,b,rfl,t,k⟩:=h
  refine(_,bx (fJ (zT<|TR Ed Ed bg (eC ie O a1.a gN<|aq (ai 0) aD)<|zY O m5 (v:=.d 5) (_,O)) (bF<|cY kr) fV)
   (bx (fJ (sP.j<|DX (dW wN (eX jf (ai 0) bg (λ_ _=>O)) bg<|dI _)<|DW<|dW pX (eX jf (ai 0) (zX zK bg) (λ_ _=>O)) (zY O R (v:=.d 99) (_,O))<|dI _) (bF<|cY kr) fV)
   (bF (cY (eC (Es O) O a1.all Gy (aq
    (ff ["numbers"] ["low","high"] [Z,Z] (TZ O a1.j Zi<|aq (ai 0)<|aq (uL Kb (ai 0) (pU bg) pV) aD)
     (λcl C m n ex=>sH O<|k_ (ca (i:=0) (dX ["low","high"]) O<|ah O)<|k_ (ca (i:=1) (dX ["low","high"]) O<|ah O) sG)
     (λcl C m n ex=>gX) (λcl C m n ex=>wL wN (ai 0) (ai 1)<|dI _) (hfr:=pY δ) (g:=uS K 2<|nY (dk 0)<|nY (dk 1) uT)) aD))))),?_)
  have I:ja b=aB->Q (.e aB) H:=λe=>by have:=k H<|aF.S H;rw[e] at this;exact this
  refine(_,O,a,_,O,.inr<|fM.j t,_,_,O,O,_,O,?_);rw[ax];refine nW (λT=>?_) (λT=>?_)
  ·refine(_,_,O,O,_,O,?_)
   have c:1<=b.length:=by have:=io T;omega
   cases h5:aC ((b.length:Int)<=5) with
   |false=>
    have d:¬b.length<=5:=by have:=nM h5;omega
    exact fL<|I (by unfold ja;rw[cK d];simp)
   |true=>
    have d:b.length<=5:=by have:=io h5;omega
    refine eF ?_;obtain⟨x,r,rfl⟩:∃x r,b=x::r:=by
     cases b with
     |nil=>simp at c
     |cons x r=>exact(x,r,O)
    refine(_,O,a,_,_,_,O,O,fM.j t,ge (j:=0) O,_,_,O,O,_,O,?_);refine nW (λU=>?_) (λU=>?_)
    ·refine fL<|I ?_
     unfold ja;rw[show aC ((x::r).headD 0<0)=af from U];simp
    ·refine(_,O,_,O,a,_,_,_,O,O,fM.j t,Zm x r,_,_,O,O,_,O,?_)
     cases hl:aC (99<(x::r).getLastD 0) with
     |true=>
      refine fL<|I ?_;unfold ja;rw[hl];simp
     |false=>
      refine eF ?_;refine(_,O,_,O,_,O,a,_,O,fM.j t,?_,λp hp=>?_)
      ·intro z
       have e:=yb ((x::r).map ag.d).length 0 1;rw[show((1:Nat):Int)=1 from O,z.1,ax,cO] at e;omega
      ·rw[Zb]
       have X:aF H (aw H p<|.b<|r.map ag.d):=aF.q hp;refine(a,p,O,(_,fM.j<|X.B t),(_,fM.j ay),λD hD=>?_);have hm:gc ((x::r).map ag.d).length (r.map ag.d).length=r.length:=by simp
       refine eP (Vv (K:=K) (xs:=(x::r).map ag.d) (ys:=r.map ag.d) (λi L y u=>∃v1 v2,L=[v1,v2]/\aF (aw H p<|.b<|r.map ag.d) u/\u D=V (.a y)/\y=((((x::r).zip r).map λq=>aC<|q.1<q.2).take i).map ag.e)
        (Z,Z,O,aF.q hD,ay,O) (λi L y u (_,_,_,o,_)=>(fM.j<|o.B<|X.B t,fM.j<|o _ _ ay)) ?_ ?_)
       ·rintro i L y u p' y1 y2 e1 e2 hi hz ⟨v1,v2,rfl,o,l,rfl⟩ G
        obtain⟨q1,g1,rfl⟩:=xU e1;obtain⟨q2,g2,rfl⟩:=xU e2;refine(p',_,O,fM.j ay,O,_,_,O,_,_,O,O,zJ ?_);refine(_,O,_,O,_,_,O,O,fz (dg (Ib _ _) (by rw[ax];exact bU (by simp at d;omega))) hi hz (by rw[bG<|dJ l G];exact l) (_,_,O,?_,ay,?_))
        ·exact(o.F<|o.M G).F hD
        ·have e3:(((x::r).zip r).map λq=>aC<|q.1<q.2)[i]?=V (aC<|q1<q2):=by
          rw[cB,pR,g1,g2];rfl
         rw[cq e3,bT];rfl
       ·rintro L y u ⟨v1,v2,rfl,o,l,rfl⟩
        refine(D,(((x::r).zip r).map λq=>aC<|q.1<q.2),O,bP.j ?_,?_)
        ·rw[l,hm,e_ (by simp)]
        ·have:=k u<|X.j o
         have e4:=Od<|x::r;rw[show(x::r).drop 1=r from O] at e4;rw[e4];have e5:ja (x::r)=ij (x::r):=by
          unfold ja;rw[cn c,cn d,hl];rw[show aC ((x::r).headD 0<0)=aB from by simpa using U]
          rfl
         rw[e5] at this;exact this
  ·refine(_,O,fL<|I ?_)
   have c:¬1<=b.length:=λz=>T<|cn ω;unfold ja;rw[cK c]
   rfl
end
section
variable{P:bw}{w:aX}{K:aR}{mg:au->Option aa}{base:aT}
inductive xn(vs:List ag)(H:ae)(Q:aS)(E':cZ):Prop
 |b:∀a ps,(vs=[.c a])->(cM H a ps)->(ps.length<=5)->(∀D as H',aF H H'->H D=Z->H' D=V (.a<|as.map ag.c)->bC H' as (cG ps)->Q (.c D) H')->xn vs H Q E'
def AH:dK ["piece","found","point"] ["piece"] (b_ vr):=(O,O,O,δ,O,δ,δ)
def vx{n:Nat}(h:n<=5):2 ^ n<=32:=by
 have:2 ^ n<=2 ^ 5:=HZ ξ h;exact this
def Nd{i:ae}{u:List Y}{w:Ξ}{q:Int}{Q:aS}(S:i l=V (.a<|u.map ag.c))(I:bC i u w)(hz:u.length<=100)(A:∀f∈w,f.length<=100)(L:i D=Z)(k:∀g b,aF i b->b D=V (.a<|g.map ag.c)->bC b g (w.map (·++[q]))->Q (.c D) b):dY (gY K l) (dk 0) gC (eB zS (bH 0)<|kq<|dE (bH 1) fI) [Z,V<|.d q] i D Q:=by
 have C:=I.j;refine jh (xs:=u.map ag.c) (λj y m b=>∃g v,y=[v,V<|.d q]/\aF i b/\b D=V (.a m)/\m=g.map ag.c/\bC b g ((w.take j).map (·++[q]))) ?_ ?_ ?_ ?_
 ·exact([],Z,O,aF.q L,ay,O,.nil)
 ·rintro j y m b ⟨g,v,rfl,n,d,rfl,o⟩
  exact bP.j<|n _ _ S
 ·rintro j y m b x T U X ⟨g,v,rfl,n,d,rfl,o⟩
  obtain⟨a,ea,rfl⟩:=dM T;obtain⟨f,M,hf⟩:=I.q ea;refine iX ?_;refine(_,O,_,O,bU (by simp),λt E=>?_);have G:=n.B hf;have P:aF b (aw b t<|.b [.d q]):=aF.q E;refine(a,t,_,_,O,O,P _ _ G,ay,?_,λp H s2 R=>?_)
  ·rw[ax]
   exact bU (by have:=A f<|dp M;simp;omega)
  ·have r:aF b H:=P.j s2
   refine fz (ys:=g.map ag.c) (by rw[ax];exact bU ω) U X (r _ _ d) (g++[p],_,O,(n.j r).F L,ay,by rw[bT];rfl,?_);rw[cq M,bT];have a0:p≠D:=ir R (r _ _ d) (by intro z;cases z);have h:∀c s,H c=V (.b s)->aw H D (.a<|g.map ag.c++[ag.c p]) c=V (.b s):=λc s e=>by
    rw[bG<|ir e (r _ _ d) (by intro z;cases z)];exact e
   refine bC.B (gf (r.J o) λc s e=>h c _ e)<|h p _ ?_;rw[R,bT];rfl
 ·rintro y m b ⟨g,v,rfl,n,d,rfl,o⟩
  rw[ax,C,fN] at o;exact k g b n d o
def XC(F:bN K "parts_of" "parts_of" vr f U):bO P w K mg base bv 1 f U ["piece"] xn:=by
 refine F.j AH (λvs H Q E h=>?_) (λa0 A G s H vs Q E hr h=>?_)
 ·obtain⟨a,o,rfl,_⟩:=h;rfl
 ·obtain⟨a,o,rfl,X,h5,k⟩:=h
  refine(_,bx (cu (i:=1) AH.a O (ah O)<|iH<|aq (iG aD) aD)
   (bx (eU eL O (rg<|ai 0) (ca (i:=2) AH.a O<|ar O)
    (bF (cu (i:=1) AH.a O (ah O) (cg uN (ai 1) (ff ["piece","found","point"] ["part","point"] [Z,V 2] (dy<|ai 1) (λcl C g j ex=>ca (i:=0) (dX ["part","point"]) O<|ah O) (λcl C g j ex=>gX)
     (λcl C g j ex=>cg z_ (ai 0)<|iG<|aq (ai 1) aD) (hfr:=gD (b_ vr) δ))))))
  <|bF<|cY<|uL TM (ai 1) (pU bg) pV),?_)
  refine(bU (by simp),λe I=>(bU (by simp),λl c=>?_));have s1:aF H (aw (aw H e<|.b []) l<|.a [.c e]):=(aF.q I).F<|(aF.q I).M c;have L:e≠l:=dJ (H:=aw H e<|.b []) ay c;refine(_,O,a,O,(_,fM.j<|s1 _ _ X),wS (K:=K) (a:=a) (xs:=o.map ag.d) (λi y p=>∃l b v,y=[V<|.c a,V<|.c l,v]/\aF H p/\H l=Z/\p l=V (.a<|b.map ag.c)/\bC p b (kK<|o.take i))
   (l,[e],Z,O,s1,(aF.q I).M c,ay,.cons (by show aw _ _ _ e=_;rw[bG L];exact ay) .nil) (λi y p _ (_,_,_,_,m,_)=>fM.j<|m _ _ X) ?_ ?_)
  ·rintro i x y p hx ⟨l,b,v,rfl,m,M,c,n⟩
   obtain⟨q,eq,rfl⟩:=xU hx;have hi:i<o.length:=(cr.mp eq).1;have R:=n.j;have hn:b.length<=32:=by
    rw[R,Bq,dR];exact vx ω
   have hm:∀f∈kK (o.take i),f.length<=100:=λf hf=>by
    have:=Ob _ f hf;rw[dR] at this;omega
   refine(_,O,_,O,l,O,(_,bP.j c),λD z=>eP<|Nd c n ω hm z λbs H3 d S hb=>?_);have T:=hb.j;rw[ax] at T;refine(l,D,_,_,O,O,d _ _ c,S,by rw[ax,ax];exact bU ω,λl2 r=>?_);have u:H l2=Z:=(m.j d).M r;refine(l2,b++bs,_,O,(m.j d).F u,u,by rw[ay,bT],?_);rw[cq eq,GG];exact(aF.q r).J<|(d.J n).J hb
  ·rintro y p ⟨l,b,v,rfl,m,M,c,n⟩
   rw[ax,fN] at n;refine(_,O,_,O,l,_,O,bP.j c,λD z=>?_);have h0:H D=Z:=m.M z;obtain⟨t,et,_⟩:=GH o;refine k D (b.drop 1) _ (m.F h0) h0 ?_ ?_
   ·rw[ay]
    unfold kt;have a1:1<=b.length:=by rw[n.j,et];simp
    have e1:cz (b.map ag.c).length 0 (V 1)=1:=by
     have:=yb (b.map ag.c).length 0 1;rw[show((1:Nat):Int)=1 from O] at this;rw[this,ax];omega
    rw[e1,Bz,<-Ix,e_ (by simp)]
   ·exact(aF.q z).J<|n.F 1
def WB:dK ["piece"] ["piece"] (b_ tw):=(O,O,O,δ,O,δ,δ)
def XQ(F:bN K "order_key" "order_key" tw f c)(m:eY mg):bO P w K mg base bv 1 f c ["piece"] zM:=by
 refine F.j WB (λd H Q E h=>?_) (λe A b s H d Q E l h=>?_)
 ·obtain⟨a,g,rfl,_⟩:=h;rfl
 ·obtain⟨a,g,rfl,i,k⟩:=h
  refine(_,bF<|cY<|iG<|aq (eC ie O m.a gN<|aq (ai 0) aD)<|aq (ai 0) aD,?_);refine(_,O,a,_,O,.inr<|fM.j i,_,O,bU (by simp),λp j=>?_);rw[ax];exact k p j
inductive AE(K:aR)(vs:List ag)(H:ae)(Q:aS)(E':cZ):Prop
 |c:∀l as pss,(vs=[.c l])->(bP K H l<|as.map ag.c)->(bC H as pss)->(pss.length<1000)->(∀D H2(qs:List (List Int×Y)),aF H H2->H D=Z->H2 D=V (.a<|qs.map λq=>ag.c q.2)->qs.Perm (pss.zip as)->qs.Pairwise (λa b=>bV ((b.1.length:Int)::b.1) ((a.1.length:Int)::a.1)=aB)->Q (.c D) H2)->AE K vs H Q E'
def Wz:dK ["some"] ["some"] (b_ vt):=(O,O,O,δ,O,δ,δ)
def Nf(F:bN K "in_order" "in_order" vt f g)(v:eY mg)(j:bN K "order_key" "order_key" tw c a)(m:cQ K a ["piece"] [])(n:mg "order_key"=V (.ref c)):bO P w K mg base bv 4 f g ["some"] (AE K):=by
 have o:bO P w K mg base bv 1 c a ["piece"] zM:=XQ j v;refine F.j Wz (λp H Q E h=>?_) (λq A d s H p Q E r h=>?_)
 ·obtain⟨l,i,b,rfl,_⟩:=h;rfl
 ·obtain⟨l,i,b,rfl,t,u,e,k⟩:=h
  refine(_,bF<|cY<|Ud o r m O v.e Gx O n<|aq (ai 0) aD,?_);exact(_,O,l,i,b,O,t,u,e,k)
end
def kb{b:Ξ}(h:bC H f b)(g:H d=V c)(i:∀j,c≠.b j):bC (aw H d o) f b:=
 gf h λa k e=>by
  show aw H d o a=_;rw[bG<|ir (show H a=V _ from e) g λz=>i _ z.symm];exact e
noncomputable def dO(a:Ξ):List (List aV×ag):=(cf a).map λb=>(abd ((b.map aQ:List aV)) (ag.e af))
def qj(a:Ξ):(dO a).length<=a.length:=by unfold dO;rw[ax];exact qZ a
def qg(a:Ξ)(b:List Int):fB (dO a) (b.map aQ) (.e af)=dO (a++[b]):=by
 unfold fB dO;rw[wB];have d:(((cf a).map λb=>(abd ((b.map aQ:List aV)) (ag.e af))).any λe=>aC<|e.1=b.map aQ)=aC (b∈cf a):=by
  rw[QM]
  by_cases h:b∈cf a
  ·rw[cn h,wg]
   exact(b,h,by simp)
  ·rw[cK h,IH]
   intro q c;simp only[ut,iD,jZ];rintro rfl;exact h c
 rw[d]
 by_cases h:b∈cf a
 ·rw[cn h,az O,az h,cj]
  refine kj λq c=>?_;simp only[ut];split<;>rfl
 ·rw[cK h,ap (by simp),ap h,bT]
  rfl
def NA{H:ae}(h:du (λ(p:List aV×ag) b=>H b=V (.b<|p.1.map dr)) (dO a) c):bC H c (cf a):=by
 unfold dO at h;generalize cf a=l at h
 induction l generalizing c with
 |nil=>cases h;exact .nil
 |cons x l d=>
  rw[cI] at h;cases h with
  |cons r t=>
   refine .cons ?_<|d t;show H _=_;rw[r,cj]
   rfl
def NI(a:Ξ)(h:∀b∈a,b.length<=5):(a.flatMap cG).length<=31*a.length:=by
 induction a with
 |nil=>simp
 |cons x l c=>
  rw[so,ck,vF,cO];have:=c λb d=>h b<|eV _ d;have:=vx<|h x dQ;omega
def NH{a:Ξ}{i:Nat}{b:List Int}(h:a[i]?=V b):(a.take<|i+1).flatMap cG=(a.take i).flatMap cG++cG b:=by
 rw[cq h,CM];simp
def NV(H d:ae)(e:Ξ)(D:Y)(c:List (List Int×Y)):Prop:=
 aF H d/\H D=Z/\d D=V (.a<|c.map λq=>ag.c q.2)/\(∀q∈c,cM d q.2 q.1)/\(c.map (·.1)).Perm (cf<|e.flatMap cG)/\c.Pairwise (λa b=>bV ((b.1.length:Int)::b.1) ((a.1.length:Int)::a.1)=aB)
section
variable{P:bw}{w:aX}{K:aR}{mg:au->Option aa}{base:aT}
inductive tj(K:aR)(vs:List ag)(H:ae)(Q:aS)(E':cZ):Prop
 |a:∀l as pss,(vs=[.c l])->(bP K H l<|as.map ag.c)->(bC H as pss)->((∀ps∈pss,ps.length<=5))->(pss.length<=200)->((cf<|pss.flatMap cG).length<1000)->(∀D H2 qs,NV H H2 pss D qs->Q (.c D) H2)->tj K vs H Q E'
def AM:dK ["some","found","piece","part"] ["some"] (b_ xS):=(O,O,O,δ,O,δ,δ)
def Ng(F:bN K "all_parts" "all_parts" xS f fd)(b5:eY mg)(Fp:bN K "parts_of" "parts_of" vr fp C)(bp:cQ K C ["piece"] [])(mp:mg "parts_of"=V (.ref fp))(Fo:bN K "in_order" "in_order" vt fo G)(bo:cQ K G ["some"] [])(mo:mg "in_order"=V (.ref fo))(Fk:bN K "order_key" "order_key" tw fk X)(bk:cQ K X ["piece"] [])(mk:mg "order_key"=V (.ref fk)):bO P w K mg base bv 5 f fd ["some"] (tj K):=by
 have Gp:bO P w K mg base bv 1 fp C ["piece"] xn:=XC Fp;have Go:bO P w K mg base bv 4 fo G ["some"] (AE K):=Nf Fo b5 Fk bk mk;refine F.j AM (λvs H Q E h=>?_) (λb1 A a3 s H vs Q E hr h=>?_)
 ·obtain⟨l,as,e,rfl,_⟩:=h;rfl
 ·obtain⟨l,as,e,rfl,hl,ht,h5,b2,a4,k⟩:=h
  have hu:=jP hr;have a5:eQ 1 _:=hr.j ξ;refine(_,bx (cu (i:=1) AM.a O (ah O) jO)
   (bx (eU eL O (dy<|ai 0) (ca (i:=2) AM.a O<|ah O)
    (bF (eU eL O (dy<|dj Gp a5 O mp Fp.a bp .nil cv<|aq (ai 2) aD) (ca (i:=3) AM.a O<|ah O)
    <|bF<|jE hu (ai 1) (ai 3) kr O)))
  <|bF<|cY<|dj Go hr O mo Fo.a bo .nil cv<|aq (fg (Er O) O b5.b iK<|aq (ai 1) aD) aD),?_)
  intro d hd;have a6:=ht.j;refine(_,O,l,O,(_,(aF.q hd).N hl),iI (K:=K) (a:=l) (xs:=as.map ag.c) (λi r H2=>∃v I,r=[V<|.c l,V<|.c d,v,I]/\aF H H2/\H2 d=V (.c<|dO<|(e.take i).flatMap cG))
   (Z,Z,O,aF.q hd,ay) (λi r H2 _ (_,_,_,t,_)=>t.N hl) ?_ ?_)
  ·rintro i x r H2 hx ⟨v,I,rfl,t,n⟩
   obtain⟨a,ea,rfl⟩:=dM hx;obtain⟨U,L,a7⟩:=ht.q ea;have u:=h5 U<|dp L;have hi:i<e.length:=(cr.mp L).1;refine(_,O,a,U,O,t.B a7,u,λD cs H3 g b3 hD a0=>(D,O,(_,bP.j hD),?_));have a8:=a0.j;have a9:D≠d:=ir hD (g _ _ n) (by intro z;cases z);refine iI (K:=K) (a:=D) (xs:=cs.map ag.c) (λj r M=>∃I,r=[V<|.c l,V<|.c d,V<|.c a,I]/\aF H M/\M D=V (.a<|cs.map ag.c)/\bC M cs (cG U)/\M d=V (.c<|dO<|(e.take i).flatMap cG++(cG U).take j))
    (_,O,t.j g,hD,a0,by rw[sf,jm];exact g _ _ n) (λj r M _ (_,_,_,q,_)=>bP.j q) ?_ ?_
   ·rintro j x r M hx ⟨I,rfl,R,a1,o,p⟩
    obtain⟨c,ec,rfl⟩:=dM hx;obtain⟨f,ef,hf⟩:=o.q ec;have a2:(dO<|(e.take i).flatMap cG++(cG U).take j).length<bQ:=by
     refine gn<|dg (qj _) ?_;rw[ck];have h1:=NI (e.take i) (λq hq=>h5 q<|uk hq);have h2:=vF U;have h3:=vx u;rw[dR] at h1 ⊢;omega
    refine(_,O,_,O,d,_,O,xf.t (k:=f.map aQ) p (by rw[cj];exact hf) a2,(_,O,R.F hd,?_,?_,?_))
    ·rw[bG a9];exact a1
    ·exact kb o p (by intro xs z;cases z)
    ·rw[ay,qg,gd,<-cq ef]
   ·rintro r M ⟨I,rfl,R,a1,o,p⟩
    refine(_,_,O,R,?_);rw[ax,a8,fN] at p;rw[NH L];exact p
  ·rintro r H2 ⟨v,I,rfl,t,n⟩
   rw[ax,a6,fN] at n;refine(_,O,d,_,O,n,λbs hb l2 S=>?_);have tb:=NA hb;have b4:=tb.j;refine(l2,bs,cf<|e.flatMap cG,O,bP.j ay,(aF.q S).J tb,a4,λD H3 qs g hD b0 hp hs=>?_);have y:H l2=Z:=t.M S;refine k D H3 qs ((t.F y).j g,(t.F y).M hD,b0,λq hq=>?_,?_,hs)
   ·obtain⟨m,T⟩:=mD.mp<|hp.mem_iff.mp hq
    rw[pR] at T;cases e1:(cf<|e.flatMap cG)[m]? with
    |none=>rw[e1] at T;cases T
    |some f=>
     cases e2:bs[m]? with
     |none=>rw[e1,e2] at T;cases T
     |some b=>
      rw[e1,e2] at T;obtain rfl:(abd f b)=q:=cH T;exact g.B<|(aF.q S).B<|pW tb m b f e2 e1
   ·have:=hp.map (·.1)
    rw[Iw ω] at this;exact this
inductive Fh(K:aR)(vs:List ag)(H:ae)(Q:aS)(E':cZ):Prop
 |a:∀l as pss,(vs=[.c l])->(bP K H l<|as.map ag.c)->(bC H as pss)->((pss.all ja=af->(cf<|pss.flatMap cG).length<1000))->(∀H',aF H H'->Q (.e<|ii pss) H')->Fh K vs H Q E'
def WC:dK ["web"] ["web"] (b_ AW):=(O,O,O,δ,O,δ,δ)
def XS{fd n o G I L:cS}{t5 a3 a4 M:iM}(F:bN K "is_web" "is_web" AW f fd)(b3:eY mg)(m5:mg "MOST_POINTS"=V (.int 5 t5))(a5:mg "LAST_POINT"=V (.int 99 a3))(a6:mg "MOST_HANDED"=V (.int 20 a4))(R:mg "MOST_PIECES"=V (.int 200 M))(Fi:bN K "is_piece" "is_piece" AQ fi n)(bi:cQ K n ["numbers"] [])(mi:mg "is_piece"=V (.ref fi))(Fa:bN K "all_parts" "all_parts" xS fa o)(ba:cQ K o ["some"] [])(ma:mg "all_parts"=V (.ref fa))(Fp:bN K "parts_of" "parts_of" vr fp G)(bp:cQ K G ["piece"] [])(mp:mg "parts_of"=V (.ref fp))(Fo:bN K "in_order" "in_order" vt fo I)(bo:cQ K I ["some"] [])(mo:mg "in_order"=V (.ref fo))(Fk:bN K "order_key" "order_key" tw fk L)(bk:cQ K L ["piece"] [])(mk:mg "order_key"=V (.ref fk)):bO P w K mg base bv 6 f fd ["web"] (Fh K):=by
 have Gi:bO P w K mg base bv 1 fi n ["numbers"] EZ:=XB Fi b3 m5 a5;have Ga:bO P w K mg base bv 5 fa o ["some"] (tj K):=Ng Fa b3 Fp bp mp Fo bo mo Fk bk mk;refine F.j WC (λvs H Q E h=>?_) (λb2 A a7 s H vs Q E hr h=>?_)
 ·obtain⟨l,T,b,rfl,_⟩:=h;rfl
 ·obtain⟨l,T,b,rfl,y,ht,a8,k⟩:=h
  have U:=hr.units;have a9:eQ 1 _:=hr.j ξ;refine(_,bx (fJ (dW pX (eC ie O b3.a gN<|aq (ai 0) aD) (zY O a6 (v:=.d 20) (_,O))<|dI _) (bF<|cY kr) fV)
   (bx (fJ (zT (uK (eC (Es O) O b3.all Gy (aq
    (ff ["web"] ["numbers"] [Z] (dy<|ai 0) (λcl C j m ex=>ca (i:=0) (dX ["numbers"]) O<|ah O) (λcl C j m ex=>gX)
     (λcl C j m ex=>dj Gi a9 O mi Fi.a bi .nil cv<|aq (ai 0) aD) (hfr:=pY δ)) aD)))) (bF<|cY kr) fV)
   (bx (fJ (dW wN (eC VE O b3.a gN<|aq (fg (VC O U) O b3.g Zj<|aq (ai 0) aD) aD) (eC ie O b3.a gN<|aq (ai 0) aD)<|dI _) (bF<|cY kr) fV)
  <|bF<|cY<|wL Ed (eC ie O b3.a gN<|aq (dj Ga hr O ma Fa.a ba .nil cv<|aq (ai 0) aD) aD) (zY O R (v:=.d 200) (_,O))<|dI _)),?_)
  have X:=ht.j;refine(_,O,l,_,O,.inl y,_,_,O,O,_,O,?_);rw[ax];refine nW (λh1=>?_) (λh1=>?_)
  ·have:=k H<|aF.S H
   rw[Zv b (by have:=io h1;omega)] at this;exact this
  ·have a0:b.length<=20:=by
    have:¬((20:Int)<T.length):=λz=>h1<|cn z;omega
   refine(_,O,l,O,(_,y),λD hD=>eP (jh (K:=K) (a:=l) (xs:=T.map ag.c) (λi σ ys p=>∃v,σ=[v]/\aF H p/\p D=V (.a ys)/\ys=((b.map ja).take i).map ag.e)
    (Z,O,aF.q hD,ay,O) (λi σ ys p (_,_,c,_)=>c.N y) ?_ ?_))
   ·rintro i σ ys p x hx hi hy ⟨v,rfl,c,d,rfl⟩
    obtain⟨a,ea,rfl⟩:=dM hx;obtain⟨ps,b0,r⟩:=ht.q ea;refine iX ?_;refine(_,O,a,ps,O,c.B r,λH4 g=>fz (by rw[ax];exact bU ω) hi hy (g _ _ d) (_,O,(c.j g).F hD,ay,?_));have e:(b.map ja)[i]?=V (ja ps):=by rw[cB,b0];rfl
    rw[cq e,bT];rfl
   ·rintro σ ys p ⟨v,rfl,c,d,rfl⟩
    rw[ax,X,e_ (by simp)] at d;refine(D,b.map ja,O,bP.j d,_,O,?_);have a1:(b.map ja).all id=b.all ja:=by rw[List.all_map];rfl
    rw[a1];cases hp:b.all ja with
    |false=>
     refine fL ?_;have:=k p c;rw[show ii b=aB from by unfold ii;rw[hp];simp] at this;exact this
    |true=>
     refine eF ?_;refine(_,O,l,T,b,O,c.N y,c.J ht,ω,λS hS=>?_);have sS:aF H (aw p S<|wZ S (cf b).length):=c.F<|c.M hS;refine(S,_,O,ay,_,O,l,_,O,.inl<|sS.N y,_,_,O,O,_,O,?_);rw[ax,X];refine nW (λh2=>?_) (λh2=>?_)
     ·have t:(cf b).length<b.length:=by have:=io h2;omega
      have:=k _ sS;rw[show ii b=aB from by unfold ii;rw[cn t];simp] at this;exact this
     ·have t:¬(cf b).length<b.length:=λz=>h2<|cn ω
      refine(_,O,l,T,b,O,sS.N y,sS.J ht,λps r=>?_,dg a0 ξ,a8 hp,λD2 H4 qs (g,_,b1,_,u,_)=>?_)
      ·have:=pO.mp hp ps r
       unfold ja at this;simp only[kW,iD] at this;exact this.1.1.1.2
      ·refine(D2,_,O,.inl<|bP.j b1,_,_,O,O,?_)
       have a2:(qs.map λq=>ag.c q.2).length=(cf<|b.flatMap cG).length:=by
        rw[ax,<-u.length_eq,ax]
       rw[a2];have:=k H4<|sS.j g;have e:ii b=aC (((cf<|b.flatMap cG).length:Int)<=200):=by
        unfold ii;rw[hp,cn a0,cK t]
        by_cases q:(cf<|b.flatMap cG).length<=200
        ·rw[cn q,cn (show((cf<|b.flatMap cG).length:Int)<=200 from ω)];rfl
        ·rw[cK q,cK (show ¬((cf<|b.flatMap cG).length:Int)<=200 from ω)];rfl
       rw[e] at this;exact this
end
noncomputable abbrev FI:cN:=eI 39
noncomputable abbrev FJ:cN:=eI 40
noncomputable abbrev xD:cN:=eI 41
def N_(x y:Int):Prop:=0<=x/\(y=0\/(y=1/\x<4294967296))
def fO(H:ae)(p:Y):Prop:=∃x y,H p=V (.a [.d x,.d y])/\N_ x y
def iL(p:Y)(H a:ae):Prop:=∀b o,b≠p->H b=V o->a b=V o
noncomputable def iL.j(a:iL p H d)(b:iL p d f):iL p H f:=λc o g e=>b c o g<|a c o g e
def iL.J{H b:ae}(a:aF H b):iL p H b:=λc o _ e=>a c o e
noncomputable def iL.F(e:iL p H a)(f:fO H p)(b:fO a p)(h:a l=Z):H l=Z:=by
 cases q:H l with
 |none=>rfl
 |some o=>
  obtain⟨x,y,c,_⟩:=b;have d:l≠p:=λz=>by rw[z,c] at h;cases h
  rw[e l o d q] at h;cases h
noncomputable def fO.j(b:fO H p)(e:aF H a):fO a p:=let ⟨x,y,h,o⟩:=b;(x,y,e _ _ h,o)
def fO.q{as:List Y}(b:fO H p)(h:H l=V (.a<|as.map ag.c)):l≠p:=by
 obtain⟨x,y,e,_⟩:=b;refine ir h e λc=>?_;injection c with c
 cases as with
 |nil=>cases c
 |cons a r=>rw[cI] at c;cases c
def fO.J{p t:Y}(b:fO H p)(h:H t=V (.b a)):t≠p:=by
 obtain⟨x,y,e,_⟩:=b;exact ir h e (by intro z;cases z)
def iL.M(e:iL p H c)(b:fO H p)(h:cM H a d):cM c a d:=e _ _ (b.J h) h
noncomputable def iL.B(e:iL p H c)(b:fO H p)(h:bC H d a):bC c d a:=gf h λ_ _ q=>e.M b q
def iL.q(e:iL p H c)(h:H a=Z):iL p H (aw c a o):=λb u d q=>by rw[bG<|dJ q h];exact e b u d q
noncomputable def fO.F{p l:Y}(b:fO H p)(h:l≠p):fO (aw H l o) p:=let ⟨x,y,e,k⟩:=b;(x,y,by rw[bG h.symm];exact e,k)
noncomputable def fO.B(b:fO H p)(h:H l=Z):fO (aw H l o) p:=b.j<|aF.q h
section
variable{P:bw}{w:aX}{K:aR}{mg:au->Option aa}{base:aT}
inductive Fy(K:aR)(vs:List ag)(H:ae)(Q:aS)(E':cZ):Prop
 |a:∀(l:Y)(ns:List Int),(vs=[.c l,.d 0])->(bP K H l<|ns.map ag.d)->(∀n,Q (.d n) H)->Fy K vs H Q E'
def WE:dK ["script","k"] ["script","k"] (b_ FI):=(O,O,O,δ,O,δ,δ)
def XZ(F:bN K "_law_cell_at" "_law_cell_at" FI f c)(o:eY mg):bO P w K mg base bv 1 f c ["script","k"] (Fy K):=by
 refine F.j WE (λg H Q E h=>?_) (λi A a s H g Q E m h=>?_)
 ·obtain⟨l,b,rfl,_⟩:=h;rfl
 ·obtain⟨l,b,rfl,d,k⟩:=h
  refine(_,bx (fJ (dW wN (ai 1) (eC ie O o.a gN<|aq (ai 0) aD)<|dI _) (bF<|cY<|eX lg (ai 0) (ai 1) (λ_ _=>O)) fV)<|bF<|cY bg,?_);refine(_,O,_,O,l,_,O,.inl d,_,_,O,O,_,O,?_);refine nW (λe=>?_) (λe=>?_)
  ·cases b with
   |nil=>have:=io e;simp at this
   |cons n b=>exact(_,O,_,O,l,_,_,_,O,O,d,ge (j:=0) O,k n)
  ·exact k 0
inductive Fz(vs:List ag)(H:ae)(Q:aS)(E':cZ):Prop
 |a:∀n,(vs=[.d n])->(∀p x y,H p=Z->N_ x y->Q (.c p) (aw H p<|.a [.d x,.d y]))->Fz vs H Q E'
def WF:dK ["cell"] ["cell"] (b_ FJ):=(O,O,O,δ,O,δ,δ)
def Ya(F:bN K "_law_box" "_law_box" FJ f e):bO P w K mg base bv 1 f e ["cell"] Fz:=by
 refine F.j WF (λi H Q E h=>?_) (λj A a s H i Q E l h=>?_)
 ·obtain⟨n,rfl,_⟩:=h;rfl
 ·obtain⟨n,rfl,k⟩:=h
  refine(_,bx (fJ (dW Uq (ai 0) (cg Eb bg bg)<|dI _) (bF<|cY<|iH<|aq (cg nU (ai 0)<|cg Eb bg bg)<|aq bg aD) fV)
  <|bF<|cY<|iH<|aq (cg lf (cg iW (cg lR (cg lf (ai 0)<|cg Eb bg bg) bg) bg) bg)<|aq bg aD,?_)
  have b:Mg 10 18:=(ξ,ξ,ξ);have c:(10:Int) ^ (18:Int).toNat=1000000000000000000:=ξ
  refine(_,O,_,_,O,O,b,_,_,O,O,_,O,?_);refine nW (λg=>?_) (λg=>?_)
  ·refine(_,O,_,_,O,O,b,_,_,O,O,bU (by simp),λp d=>k p _ 0 d (?_,.inl O))
   have:=io g;omega
  ·refine(_,O,_,_,O,O,b,_,_,O,O,(by show(0:Int)<10 ^ (18:Int).toNat;rw[c];decide),_,_,O,O,.inr (ξ,ξ),_,_,O,O,_,_,O,O,(by show(0:Int)<2147483629;decide),bU (by simp),λp d=>k p _ 1 d (?_,.inr (O,?_)))
   ·exact qR _ ξ
   ·have:=qS (n%10 ^ (18:Int).toNat*69621+7001) (show(0:Int)<2147483629 from ξ)
    omega
inductive rx(vs:List ag)(H:ae)(Q:aS)(E':cZ):Prop
 |a:∀p m,(vs=[.c p,.d m])->(fO H p)->(0<m)->(m<1073741824)->(∀r H',0<=r->r<m->iL p H H'->fO H' p->Q (.d r) H')->rx vs H Q E'
def FD:dK ["box","most","found","mixed"] ["box","most"] (b_ xD):=(O,O,O,δ,O,δ,δ)
def FQ{t:cS}(F:bN K "_law_take" "_law_take" xD f t):bO P w K mg base bv 1 f t ["box","most"] rx:=by
 refine F.j FD (λM H Q E h=>?_) (λR A r s H M Q E hr h=>?_)
 ·obtain⟨p,m,rfl,_⟩:=h;rfl
 ·obtain⟨p,m,rfl,⟨x,y,c,v,d⟩,a,S,k⟩:=h
  refine(_,bx (fJ (dW nV (eX lg (ai 0) bg (λ_ _=>O)) bg<|dI _)
    (bx (cu (i:=2) FD.a O (ah O)<|cg lf (eX lg (ai 0) bg (λ_ _=>O))<|ai 1)
    (bx (KC (cg KR (eX lg (ai 0) bg (λ_ _=>O))<|ai 1)<|KI (ai 0) bg Kd)
   <|bF<|cY<|ai 2)) fV)
   (bx (cu (i:=3) FD.a O (ah O)<|cg lf (cg iW (cg iW (cg lR (eX lg (ai 0) bg (λ_ _=>O))<|eX lg (ai 0) bg (λ_ _=>O))<|cg lR bg<|eX lg (ai 0) bg (λ_ _=>O)) bg) bg)
   (bx (KC (cg lf (cg iW (cg iW (cg lR (ai 3)<|ai 3)<|cg lR bg<|ai 3) bg) bg)<|KI (ai 0) bg Kd)
  <|bF<|cY<|cg lf (cg KR (eX lg (ai 0) bg (λ_ _=>O)) bg)<|ai 1)),?_)
  have g:j_ ([.d x,.d y]:List ag) 0=V (.d x):=ge (j:=0) O;have T:j_ ([.d x,.d y]:List ag) 1=V (.d y):=ge (j:=1) O;refine(_,O,p,_,_,_,O,O,bP.j c,T,O,_,O,?_);refine nW (λC=>?_) (λC=>?_)
  ·refine(_,O,p,_,_,_,O,O,bP.j c,g,_,O,_,_,O,O,a,?_)
   refine(_,O,p,_,_,_,O,O,bP.j c,g,_,O,_,_,O,O,(a,S),_,O,p,_,_,0,O,O,c,O,?_);refine(_,O,k (x%m) _ (qR _ ω) (qS _ a) (λb o l e=>by rw[bG l];exact e) (x / m,y,ay,Int.ediv_nonneg v ω,?_));rcases d with q|⟨q,D⟩
   ·exact .inl q
   ·refine .inr (q,Int.lt_of_le_of_lt (Int.ediv_le_self _ v) D)
  ·have U:y=1/\x<4294967296:=by
    rcases d with q|q
    ·exact bu (by subst q;rfl) C
    ·exact q
   obtain⟨rfl,D⟩:=U;have l:rt x x:=.inl (ω,ω);refine(_,O,p,_,_,_,O,O,bP.j c,g,_,O,p,_,_,_,O,O,bP.j c,g,_,_,O,O,l,_,O,p,_,_,_,O,O,bP.j c,g,_,_,O,O,.inl (ξ,ξ),_,_,O,O,_,_,O,O,_,_,O,O,(by show(0:Int)<2147483647;decide),?_);have X:=qR (x*x+39373*x+12345) (show(2147483647:Int)≠0 from ξ);have m1:=qS (x*x+39373*x+12345) (show(0:Int)<2147483647 from ξ);obtain⟨z,G⟩:∃z,z=(x*x+39373*x+12345)%2147483647:=(_,O);rw[<-G] at X m1;show JW _ _ _ ([V<|.c p,V<|.d m,Z,V<|.d<|(x*x+39373*x+12345)%2147483647]:aO) H;rw[<-G];refine(_,O,_,O,_,_,O,O,.inl (ω,ω),_,O,_,_,O,O,.inl (ξ,ξ),_,_,O,O,_,_,O,O,_,_,O,O,(by show(0:Int)<2147483587;decide),_,O,p,_,_,0,O,O,c,O,?_);have I:=qR (z*z+16807*z+7) (show(2147483587:Int)≠0 from ξ);have g1:=qS (z*z+16807*z+7) (show(0:Int)<2147483587 from ξ);obtain⟨u,L⟩:∃u,u=(z*z+16807*z+7)%2147483587:=(_,O);rw[<-L] at I g1;have n:aw H p (.a [.d<|(z*z+16807*z+7)%2147483587,.d 1]) p=V (.a [.d u,.d 1]):=by rw[L];exact ay
   refine(_,O,p,_,_,_,O,O,bP.j n,ge (j:=0) O,_,_,O,O,(ξ,ξ),_,O,_,_,O,O,a,?_);exact k _ _ (qR _ ω) (qS _ a) (λb o l e=>by rw[bG l];exact e) (u,1,n,I,.inr (O,ω))
end
noncomputable abbrev xM:cN:=eI 42
noncomputable abbrev FH:cN:=eI 43
section
variable{P:bw}{w:aX}{K:aR}{mg:au->Option aa}{base:aT}
def YR{n:ae}{A:List Y}{Q:aS}(S:n l=V (.a<|A.map ag.c))(I:bC n A E)(hz:A.length<=100)(L:n D=Z)(k:∀g b,aF n b->b D=V (.a<|g.map ag.c)->bC b g (E.filter λq=>!aC (q=[]))->Q (.c D) b):dY (gY K l) (dk 0) (mN<|eB (wI af K) (bH 0)<|kq fI) (bH 0) [Z] n D Q:=by
 have G:=I.j;refine jh (xs:=A.map ag.c) (λj C p b=>∃g v,C=[v]/\aF n b/\b D=V (.a p)/\p=g.map ag.c/\bC b g ((E.take j).filter λq=>!aC (q=[]))) ?_ ?_ ?_ ?_
 ·exact([],Z,O,aF.q L,ay,O,.nil)
 ·rintro j C p b ⟨g,v,rfl,r,d,rfl,s⟩
  exact bP.j<|r _ _ S
 ·rintro j C p b x T M P ⟨g,v,rfl,r,d,rfl,s⟩
  obtain⟨a,U,rfl⟩:=dM T;obtain⟨f,R,X⟩:=I.q U;refine(_,O,bU (by simp),λt H=>?_);have u:=r.B X;have i:aF b (aw b t<|.b []):=aF.q H;refine .inl (a,t,f,[],O,O,i.B u,ay,_,O,?_);have w:=r.j i;have m:∀(o:dh) c y,aw b t (.b []) c=V (.b y)->aw (aw b t<|.b []) D o c=V (.b y):=λo c y e=>by
   rw[bG<|ir e (i _ _ d) (by intro z;cases z)];exact e
  by_cases h:f=[]
  ·subst h
   refine eF<|qd M P (g,_,O,w,i _ _ d,O,?_);rw[cq R,kT]
   simpa using i.J s
  ·rw[az O,show(!aC (f=[]))=af by simp[h]]
   refine fL (_,O,fz (ys:=g.map ag.c) (by rw[ax];exact bU ω) M P (i _ _ d) (g++[a],_,O,w.F L,ay,by rw[bT];rfl,?_));rw[cq R,kT,show [f].filter (λq=>!aC (q=[]))=[f] by simp[h]];exact bC.B (gf (i.J s) λc y e=>m _ c _ e)<|m _ a _<|i.B u
 ·rintro C p b ⟨g,v,rfl,r,d,rfl,s⟩
  rw[ax,G,fN] at s;exact k g b r d s
def AJ:dK ["piece","found","point"] ["piece"] (b_ xM):=(O,O,O,δ,O,δ,δ)
def XK(F:bN K "_law_parts" "_law_parts" xM f fd):bO P w K mg base bv 1 f fd ["piece"] xn:=by
 refine F.j AJ (λvs H Q E h=>?_) (λa1 A S s H vs Q E hr h=>?_)
 ·obtain⟨a,t,rfl,_⟩:=h;rfl
 ·obtain⟨a,t,rfl,ha,h5,k⟩:=h
  have u:=hr.units;refine(_,bx (cu (i:=1) AJ.a O (ah O)<|iH<|aq (iG aD) aD)
   (bx (eU eL O (rg<|ai 0) (ca (i:=2) AJ.a O<|ar O)
    (bF (cu (i:=1) AJ.a O (ah O) (cg uN (ai 1) (ff ["piece","found","point"] ["part","point"] [Z,V 2] (dy<|ai 1) (λy C b c z=>ca (i:=0) (dX ["part","point"]) O<|ah O) (λy C b c z=>gX)
     (λy C b c z=>cg z_ (ai 0)<|iG<|aq (ai 1) aD) (hfr:=gD (b_ xM) δ))))))
   (bF (cY (ff ["piece","found","point"] ["part"] [Z] (dy<|ai 1) (λy C b c z=>ca (i:=0) (dX ["part"]) O<|ah O) (λy C b c z=>mO<|dW (Ec u) (ai 0) (iG aD)<|dI _)
     (λy C b c z=>ai 0) (hfr:=pY δ) (tc:=mN<|eB (wI af K) (bH 0)<|kq fI))))),?_)
  refine(bU (by simp),λe T=>(bU (by simp),λl g=>?_));have s1:aF H (aw (aw H e<|.b []) l<|.a [.c e]):=(aF.q T).F<|(aF.q T).M g;have U:e≠l:=dJ (H:=aw H e<|.b []) ay g;refine(_,O,a,O,(_,fM.j<|s1 _ _ ha),wS (K:=K) (a:=a) (xs:=t.map ag.d) (λi M p=>∃l r v,M=[V<|.c a,V<|.c l,v]/\aF H p/\H l=Z/\p l=V (.a<|r.map ag.c)/\bC p r (kK<|t.take i))
   (l,[e],Z,O,s1,(aF.q T).M g,ay,.cons (by show aw _ _ _ e=_;rw[bG U];exact ay) .nil) (λi M p _ (_,_,_,_,j,_)=>fM.j<|j _ _ ha) ?_ ?_)
  ·rintro i x M p hx ⟨l,r,v,rfl,j,X,g,m⟩
   obtain⟨q,eq,rfl⟩:=xU hx;have hi:i<t.length:=(cr.mp eq).1;have n:=m.j;have hn:r.length<=32:=by
    rw[n,Bq,dR];exact vx ω
   have hm:∀f∈kK (t.take i),f.length<=100:=λf hf=>by
    have:=Ob _ f hf;rw[dR] at this;omega
   refine(_,O,_,O,l,O,(_,bP.j g),λD R=>eP<|Nd g m ω hm R λbs H3 d o G=>?_);have a0:=G.j;rw[ax] at a0;refine(l,D,_,_,O,O,d _ _ g,o,by rw[ax,ax];exact bU ω,λl2 I=>?_);have L:H l2=Z:=(j.j d).M I;refine(l2,r++bs,_,O,(j.j d).F L,L,by rw[ay,bT],?_);rw[cq eq,GG];exact(aF.q I).J<|(d.J m).J G
  ·rintro M p ⟨l,r,v,rfl,j,X,g,m⟩
   rw[ax,fN] at m;have n:=m.j;refine(_,O,l,O,(_,bP.j g),λD R=>eP<|YR g m (by rw[n,Bq];have:=vx h5;omega) R λbs H3 d o G=>?_);rw[ZB] at G;exact k D bs H3 (j.j d) (j.M R) o G
def Xp{p:ae}{n:List Y}{Q:aS}(L:p l=V (.a<|n.map ag.c))(E:bC p n A)(hz:n.length<=1000)(G:p D=Z)(k:∀(a:List Y) d,aF p d->d D=V (.a<|a.map ag.c)->a.length=n.length->(∀(i:Nat) c,a[i]?=V c->∃b f,n[i]?=V b/\A[i]?=V f/\d c=V (.b [.d f.length,.c b]))->Q (.c D) d):dY (gY K l) (dk 0) gC (kq<|dE (oU (wG K)<|dE (bH 0) fI)<|dE (bH 0) fI) [Z] p D Q:=by
 have M:=E.j;refine jh (xs:=n.map ag.c) (λj s q d=>∃(a:List Y)(v:Option ag),s=[v]/\aF p d/\d D=V (.a q)/\q=a.map ag.c/\a.length=j/\∀(i:Nat) c,a[i]?=V c->∃b f,n[i]?=V b/\A[i]?=V f/\d c=V (.b [.d f.length,.c b])) ?_ ?_ ?_ ?_
 ·exact([],Z,O,aF.q G,ay,O,O,λi c e=>by simp at e)
 ·rintro j s q d ⟨a,v,rfl,r,g,rfl,H,u⟩
  exact bP.j<|r _ _ L
 ·rintro j s q d x P H R ⟨a,v,rfl,r,g,rfl,h,u⟩
  obtain⟨b,I,rfl⟩:=dM P;obtain⟨f,S,T⟩:=E.q I;refine iX ?_;refine(_,O,b,_,O,.inr<|fM.j<|r.B T,_,O,bU (by simp),λt C=>?_);rw[show(f.map ag.d).length=f.length from ax _];have w:aF d (aw d t<|.b [.d f.length,.c b]):=aF.q C;have m:∀(o:dh) c y,aw d t (.b [.d f.length,.c b]) c=V (.b y)->aw (aw d t<|.b [.d f.length,.c b]) D o c=V (.b y):=λo c y e=>by
   rw[bG<|ir e (w _ _ g) (by intro z;cases z)];exact e
  refine fz (ys:=a.map ag.c) (by rw[ax];exact bU ω) H R (w _ _ g) (a++[t],_,O,(r.j w).F G,ay,by rw[bT];rfl,by rw[ck,h];rfl,λi c e=>?_)
  by_cases U:i<a.length
  ·rw[sj U] at e
   obtain⟨X,f',e1,e2,e3⟩:=u i c e;exact(X,f',e1,e2,m _ c _<|w _ _ e3)
  ·rw[qN ω] at e
   have h0:i-a.length=0:=by
    rcases Qv (i-a.length) with z|z
    ·exact z
    ·rw[si (by simp only[cO,mF];omega)] at e;cases e
   rw[h0] at e;obtain rfl:t=c:=by simpa using e
   have:i=j:=ω
   subst this;exact(b,f,I,S,m _ t _ ay)
 ·rintro s q d ⟨a,v,rfl,r,g,rfl,h,u⟩
  rw[ax] at h;exact k a d r g h u
noncomputable def ry(H:ae)(c:Y):Y:=match H c with
 |some (.b [_,.c b])=>b
 |_=>0
def Wl{f:ae}{cs:List Y}{Q:aS}(p:f l=V (.a<|cs.map ag.c))(q:∀c∈cs,∃n b,f c=V (.b [.d n,.c b]))(u:cs.length<=1000)(m:f D=Z)(k:∀d,aF f d->d D=V (.a<|cs.map λc=>ag.c<|ry f c)->Q (.c D) d):dY (gY K l) (dk 0) gC (eB (rf K) (bH 0)<|gW<|.d 1) [Z] f D Q:=by
 refine jh (xs:=cs.map ag.c) (λw i h d=>∃v,i=[v]/\aF f d/\d D=V (.a h)/\h=(cs.take w).map λc=>ag.c<|ry f c) ?_ ?_ ?_ ?_
 ·exact(Z,O,aF.q m,ay,O)
 ·rintro w i h d ⟨v,rfl,g,a,rfl⟩
  exact bP.j<|g _ _ p
 ·rintro w i h d x r s t ⟨v,rfl,g,a,rfl⟩
  obtain⟨c,o,rfl⟩:=dM r;obtain⟨n,b,e⟩:=q c<|dp o;refine iX ?_;refine(_,O,c,_,_,_,O,O,fM.j<|g _ _ e,ge (j:=1) O,fz (by rw[ax];exact bU ω) s t a (_,O,g.F m,ay,?_));rw[cq o,bT];have:ry f c=b:=by unfold ry;rw[e]
  rw[<-this];rfl
 ·rintro i h d ⟨v,rfl,g,a,rfl⟩
  rw[ax,fN] at a;exact k d g a
def xz:dK ["web","found","piece","part","ranked"] ["web"] (b_ FH):=(O,O,O,δ,O,δ,δ)
def XJ(F:bN K "_law_pieces" "_law_pieces" FH f fd)(d1:eY mg)(Fp:bN K "_law_parts" "_law_parts" xM fp a0)(bp:cQ K a0 ["piece"] [])(mp:mg "_law_parts"=V (.ref fp)):bO P w K mg base bv 2 f fd ["web"] (tj K):=by
 have Gp:bO P w K mg base bv 1 fp a0 ["piece"] xn:=XK Fp;refine F.j xz (λvs H Q E h=>?_) (λc4 A b3 s H vs Q E hr h=>?_)
 ·obtain⟨l,as,g,rfl,_⟩:=h;rfl
 ·obtain⟨l,as,g,rfl,hl,ht,h5,c5,b4,k⟩:=h
  have hu:=jP hr;have a4:=hr.units;refine(_,bx (cu (i:=1) xz.a O (ah O) jO)
   (bx (eU eL O (dy<|ai 0) (ca (i:=2) xz.a O<|ah O)
    (bF (eU eL O (dy<|dj Gp hr O mp Fp.a bp .nil cv<|aq (ai 2) aD) (ca (i:=3) xz.a O<|ah O)
    <|bF<|jE hu (ai 1) (ai 3) kr O)))
   (bx (cu (i:=4) xz.a O (ah O) (eC (VA a4) O d1.e Gx (aq
    (ff ["web","found","piece","part","ranked"] ["piece"] [Z] (dy<|fg (Er O) O d1.b iK<|aq (ai 1) aD) (λcl C n o ex=>ca (i:=0) (dX ["piece"]) O<|ah O) (λcl C n o ex=>gX)
     (λcl C n o ex=>iG<|aq (eC ie O d1.a gN<|aq (ai 0) aD)<|aq (ai 0) aD) (hfr:=pY δ) (te:=kq<|dE (oU (wG K)<|dE (bH 0) fI)<|dE (bH 0) fI)) aD)))
   (bF (cY (ff ["web","found","piece","part","ranked"] ["one"] [Z] (dy<|ai 4) (λcl C n o ex=>ca (i:=0) (dX ["one"]) O<|ah O) (λcl C n o ex=>gX)
     (λcl C n o ex=>eX jf (ai 0) bg (λ_ _=>O)) (hfr:=pY δ) (te:=eB (rf K) (bH 0)<|gW<|.d 1)))))),?_)
  intro d hd;have b5:=ht.j;refine(_,O,l,O,(_,(aF.q hd).N hl),iI (K:=K) (a:=l) (xs:=as.map ag.c) (λi L H2=>∃v v' u,L=[V<|.c l,V<|.c d,v,v',u]/\aF H H2/\H2 d=V (.c<|dO<|(g.take i).flatMap cG))
   (Z,Z,Z,O,aF.q hd,ay) (λi L H2 _ (_,_,_,_,sm,_)=>sm.N hl) ?_ ?_)
  ·rintro i x L H2 hx ⟨v,v',u,rfl,sm,t⟩
   obtain⟨a,ea,rfl⟩:=dM hx;obtain⟨ps,a1,b6⟩:=ht.q ea;have S:=h5 ps<|dp a1;have hi:i<g.length:=(cr.mp a1).1;refine(_,O,a,ps,O,sm.B b6,S,λD T U r c6 hD a5=>(D,O,(_,bP.j hD),?_));have b7:=a5.j;have b8:D≠d:=ir hD (r _ _ t) (by intro z;cases z);refine iI (K:=K) (a:=D) (xs:=T.map ag.c) (λj L H4=>∃v',L=[V<|.c l,V<|.c d,V<|.c a,v',u]/\aF H H4/\H4 D=V (.a<|T.map ag.c)/\bC H4 T (cG ps)/\H4 d=V (.c<|dO<|(g.take i).flatMap cG++(cG ps).take j))
    (_,O,sm.j r,hD,a5,by rw[sf,jm];exact r _ _ t) (λj L H4 _ (_,_,_,q,_)=>bP.j q) ?_ ?_
   ·rintro j x L H4 hx ⟨v',rfl,a2,a6,G,I⟩
    obtain⟨c,ec,rfl⟩:=dM hx;obtain⟨f,ef,hf⟩:=G.q ec;have a7:(dO<|(g.take i).flatMap cG++(cG ps).take j).length<bQ:=by
     refine gn<|dg (qj _) ?_;rw[ck];have h1:=NI (g.take i) (λq X=>h5 q<|uk X);have h2:=vF ps;have h3:=vx S;rw[dR] at h1 ⊢;omega
    refine(_,O,_,O,d,_,O,xf.t (k:=f.map aQ) I (by rw[cj];exact hf) a7,(_,O,a2.F hd,?_,?_,?_))
    ·rw[bG b8];exact a6
    ·exact kb G I (by intro xs z;cases z)
    ·rw[ay,qg,gd,<-cq ef]
   ·rintro L H4 ⟨v',rfl,a2,a6,G,I⟩
    refine(_,_,_,O,a2,?_);rw[ax,b7,fN] at I;rw[NH a1];exact I
  ·rintro L H2 ⟨v,v',u,rfl,sm,t⟩
   rw[ax,b5,fN] at t;refine(_,O,d,_,O,t,λbs hb l2 b9=>?_);have tb:=NA hb;have c7:=tb.j;have c8:(cf<|g.flatMap cG).length<=1000:=ω
   have s2:aF H2 (aw H2 l2<|.a<|bs.map ag.c):=aF.q b9;refine(l2,O,(_,bP.j ay),λD hD=>eP<|Xp (K:=K) ay (s2.J tb) ω hD λT U r c0 c9 hc=>?_);have a8:=r.J<|s2.J tb;refine(D,T,(cf<|g.flatMap cG).map λf=>((f.length:Int)::f),O,bP.j c0,?_,(by rw[ax];exact b4),λR qs hp hs hR=>?_)
   ·refine Ma (by rw[ax];omega) λi c y e1 e2=>?_
    obtain⟨b,f,g1,M,g3⟩:=hc i c e1;rw[cB,M] at e2;obtain rfl:=cH e2;exact(_,b,f,O,g3,pW a8 i b f g1 M)
   ·have s4:aF U (aw U R<|.a<|qs.map λq=>ag.c q.2):=aF.q hR
    have X:∀q∈qs,∃b f,q.1=((f:List Int).length:Int)::f/\U q.2=V (.b [.d f.length,.c b])/\cM U b f:=λq X=>by
     obtain⟨m,em⟩:=mD.mp<|hp.mem_iff.mp X;rw[pR,cB] at em;cases e2:T[m]? with
     |none=>rw[e2] at em;cases h:(cf<|g.flatMap cG)[m]?<;>rw[h] at em<;>cases em
     |some c=>
      obtain⟨b,f,g1,M,g3⟩:=hc m c e2;rw[M,e2] at em;obtain rfl:(abd (((f.length:Int)::f)) c)=q:=cH em;exact(b,f,O,g3,pW a8 m b f g1 M)
    have d0:qs.length<=1000:=by rw[hp.length_eq,ze,ax];omega
    refine(_,O,R,O,(_,bP.j ay),λD2 a9=>eP (Wl (K:=K) (cs:=qs.map (·.2)) (by rw[ay,cj];rfl) (λc c1=>?_) (by rw[ax];omega) a9 λH5 b0 c2=>?_))
    ·obtain⟨q,a3,rfl⟩:=aP.mp c1
     obtain⟨b,f,_,M,_⟩:=X q a3;exact(_,b,s4 _ _ M)
    ·have b1:aF H H5:=((sm.j s2).j r).j<|s4.j b0
     have c3:∀q∈qs,∀b f,U q.2=V (.b [.d (f:List Int).length,.c b])->ry (aw U R<|.a<|qs.map λq=>ag.c q.2) q.2=b:=λq _ b f e=>by
      unfold ry;rw[s4 _ _ e]
     refine k D2 H5 (qs.map λq=>(abd q.1.tail (ry (aw U R<|.a<|qs.map λq=>ag.c q.2) q.2))) (b1,(((sm.j s2).j r).j s4).M a9,?_,λq a3=>?_,?_,?_)
     ·rw[c2,cj,cj];rfl
     ·obtain⟨q0,h0,rfl⟩:=aP.mp a3
      obtain⟨b,f,g1,M,g3⟩:=X q0 h0;show cM H5 (ry _ q0.2) q0.1.tail;rw[c3 q0 h0 b f M,g1];exact b0.B<|s4.B g3
     ·rw[cj]
      have h1:=hp.map (λq:List Int×Y=>q.1.tail);have e:((((cf<|g.flatMap cG).map λf=>((f.length:Int)::f)).zip T).map λq:List Int×Y=>q.1.tail)=cf (g.flatMap cG):=by
       rw[show(λq:List Int×Y=>q.1.tail)=(λl:List Int=>l.tail) ∘ rX from O,<-cj,Iw (by rw[ax];omega),cj];exact Iv _
      rw[e] at h1;exact h1
     ·rw[jK]
      refine hs.imp_of_mem λ{p q} h1 h2 h3=>?_;obtain⟨_,f,g1,_⟩:=X p h1;obtain⟨_,f',b2,_⟩:=X q h2;rw[g1,b2] at h3;rw[g1,b2];exact h3
end
noncomputable abbrev AU:cN:=eI 44
noncomputable abbrev xJ:cN:=eI 45
noncomputable def mS:List au:=(["","0","01 12 02","012 013 023 123","01 02 03","012 023 034 014","0123","01 23 45","012 34"]:List au)++(["012 123 234 034 014","01 12 23 03 13","012 013 014","0 1 2 3"]:List au)++(["01 12 02 34 45 35","023 234 1"]:List au)
++(["014 015 023 025 034 123 124 135 245 345","012 013 024 034 125 135 245 345"]:List au)++(["01234","0123 0124 0134 0234 1234"]:List au)++(["013 123 234 024 014 145 125 025 056 016 126 267 027 037 345 356 367"]:List au)
noncomputable def qe(n:Nat):List au:=BV (mS.getD n "") " "
noncomputable def rF(x:au):List Int:=x.cps.toList.map λ(c:Nat)=>((c:Int)-48)
noncomputable def oo(n:Nat):Ξ:=((qe n).filter λ(x:au)=>!aC (x="")).map rF
def YA:∀n,n<20->(mS.getD n "").length+2<=1000/\(qe n).length<=20/\∀x∈qe n,x.cps.size<=5/\∀c∈x.cps.toList,48<=c/\c<=57:=δ
def Wo:∀c,48<=c->c<=57->Hm ⟨#[c]⟩=V ((c:Int)-48):=by
 intro c a b;have:∀c,c<58->48<=c->Hm ⟨#[c]⟩=V ((c:Int)-48):=δ
 exact this c ω a
section
variable{P:bw}{w:aX}{K:aR}{mg:au->Option aa}{base:aT}
inductive Ff(vs:List ag)(H:ae)(Q:aS)(E':cZ):Prop
 |a:∀n:Nat,(vs=[.d n])->(n<20)->(∀D as H',aF H H'->H D=Z->H' D=V (.a<|as.map ag.c)->bC H' as (oo n)->Q (.c D) H')->Ff vs H Q E'
def tm:dK ["number","some","web","word"] ["number"] (b_ AU):=(O,O,O,δ,O,δ,δ)
def Wn{f:ae}{x:au}{Q:aS}(u:x.cps.size<=5)(m:∀c∈x.cps.toList,48<=c/\c<=57)(l:f D=Z)(k:∀a,aF f a->a D=V (.a<|(rF x).map ag.d)->Q (.c D) a):dY (Ao x) (dk 0) gC (oU (λo H Q=>∃x n,o=[.f x]/\Hm x=V n/\x.length<=640/\Q (.d n) H)<|dE (bH 0) fI) [Z] f D Q:=by
 refine Vw (λj h g a=>∃v,h=[v]/\aF f a/\a D=V (.a g)/\g=((rF x).take j).map ag.d) ?_ ?_ ?_
 ·exact(Z,O,aF.q l,ay,O)
 ·rintro j h g a c p q r ⟨v,rfl,i,b,rfl⟩
  have d:x.cps.toList[j]?=V c:=by simpa using p
  obtain⟨s,t⟩:=m c<|dp d;refine iX ?_;refine(_,O,⟨#[c]⟩,_,O,Wo c s t,by show 1<=640;decide,fz (bU ω) q r b (_,O,i.F l,ay,?_));have e:(rF x)[j]?=V ((c:Int)-48):=by unfold rF;rw[cB,d];rfl
  rw[cq e,bT];rfl
 ·rintro h g a ⟨v,rfl,i,b,rfl⟩
  rw[e_ (by unfold rF;simp)] at b;exact k a i b
def XP(F:bN K "_law_known" "_law_known" AU f fd)(b2:eY mg):bO P w K mg base bv 1 f fd ["number"] Ff:=by
 refine F.j tm (λvs H Q E h=>?_) (λb0 A a0 s H vs Q E hr h=>?_)
 ·obtain⟨n,rfl,_⟩:=h;rfl
 ·obtain⟨n,rfl,hn,k⟩:=h
  refine(_,bx (cu (i:=1) tm.a O (ah O)<|iH<|aq ic<|aq ic<|aq ic<|aq ic<|aq ic<|aq ic<|aq ic<|aq ic<|aq ic aD)
   (bx (cu (i:=1) tm.a O (ah O)<|cg uN (ai 1)<|iH<|aq ic<|aq ic<|aq ic<|aq ic<|aq ic<|aq ic aD)
   (bx (cu (i:=1) tm.a O (ah O)<|cg uN (ai 1)<|iH<|aq ic<|aq ic aD)
   (bx (cu (i:=1) tm.a O (ah O)<|cg uN (ai 1)<|iH<|aq ic<|aq ic aD)
   (bx (nR<|mP oC ua vX rh (ai 1)<|aq ic aD)
   (bx (cu (i:=2) tm.a O (ah O)<|iH aD)
   (bx (eU eL O (dy<|mP PySem.F.plainAttrs_str HH PySem.F.type_str_split Uw (eX lg (ai 1) (cg lf (ai 0) bg) (λ_ _=>O))<|aq ic aD) (ca (i:=3) tm.a O<|ah O)
    (bF (fJ (dW uM (ai 3) ic<|dI _)
     (bF (nR (mP oC ua vX rh (ai 2) (aq (fg Ah O b2.d Bj (aq
      (ff ["number","some","web","word"] ["sign"] [Z] (T_<|ai 3) (λcl C j l c=>ca (i:=0) (dX ["sign"]) O<|ah O) (λcl C j l c=>gX)
       (λcl C j l c=>fg VG O b2.h Zl<|aq (ai 0) aD) (hfr:=pY δ)) aD)) aD)))) fV)))
  <|bF<|cY<|ai 2)))))),?_)
  have b1:mS.length=20:=O;have a1:j_ (mS.map ag.f) ((n:Int)%20)=V (.f<|mS.getD n ""):=by
   rw[show(n:Int)%20=(n:Int) from ω];refine ge ?_;have e:mS[n]?=V mS[n]:=dq ω;rw[cB,ul,e];rfl
  obtain⟨g1,g2,g3⟩:=YA n hn;refine(bU (by simp),λl1 h1=>?_);have s1:=aF.q (H:=H) (o:=.a [.f "",.f "0",.f "01 12 02",.f "012 013 023 123",.f "01 02 03",.f "012 023 034 014",.f "0123",.f "01 23 45",.f "012 34"]) h1;refine(_,O,bU (by simp),λm1 M=>(l1,m1,_,_,O,O,aF.q M _ _ ay,ay,bU (by simp),λl3 h3=>?_));have s3:=(s1.j<|aF.q M).j<|aF.q (o:=.a<|(mS.take 15).map ag.f) h3;refine(_,O,bU (by simp),λm3 R=>(l3,m3,_,_,O,O,aF.q R _ _ ay,ay,bU (by simp),λl4 h4=>?_));have s4:=(s3.j<|aF.q R).j<|aF.q (o:=.a<|(mS.take 17).map ag.f) h4;refine(_,O,bU (by simp),λm4 r=>(l4,m4,_,_,O,O,aF.q r _ _ ay,ay,bU (by simp),λm h5=>?_));have s5:=(s4.j<|aF.q r).j<|aF.q (o:=.a<|(mS.take 19).map ag.f) h5;have a2:H m=Z:=(s4.j<|aF.q r).M h5;refine(_,O,.inl (O,_,bP.j ay),m,_,_,O,O,ay,gn (by simp),bU (by simp),λd u=>?_);generalize S:aw (aw _ m _) m _=T at u;have e6:T m=V (.a<|mS.map ag.f):=by rw[<-S,ay];rfl
  have s6:aF H T:=by
   rw[<-S];exact s5.F a2
  have G:H d=Z:=s6.M u;have s7:aF H (aw T d<|.a []):=s6.F G;have e7:aw T d (.a []) m=V (.a<|mS.map ag.f):=aF.q u _ _ e6;refine(_,O,_,O,_,_,O,O,(by show(0:Int)<20;decide),m,_,_,_,O,O,bP.j e7,a1,O,_,_,O,O,ξ,bU ω,bU (show(qe n).length<=100000 from ω),λD hD=>(D,O,(_,bP.j ay),?_));have U:d≠D:=dJ (H:=aw T d<|.a []) ay hD;have a3:H D=Z:=s7.M hD;refine iI (K:=K) (a:=D) (xs:=(qe n).map ag.f) (λi σ g=>∃p v,σ=[V<|.d n,V<|.c m,V<|.c d,v]/\aF H g/\g D=V (.a<|(qe n).map ag.f)/\g d=V (.a<|p.map ag.c)/\bC g p ((((qe n).take i).filter λ(x:au)=>!aC (x="")).map rF))
   ([],Z,O,s7.F a3,ay,by rw[bG U];exact ay,.nil) (λi σ g _ (_,_,_,_,q,_)=>bP.j q) ?_ ?_
  ·rintro i x σ g X ⟨p,v,rfl,sm,I,b,L⟩
   rw[cB] at X;cases c:(qe n)[i]? with
   |none=>rw[c] at X;cases X
   |some y=>
    rw[c] at X;obtain rfl:=cH X;have hi:i<(qe n).length:=(cr.mp c).1;obtain⟨y5,yc⟩:=g3 y<|dp c;refine(_,O,O,_,O,?_)
    by_cases hy:y=""
    ·subst hy
     refine eF (p,_,O,sm,I,b,?_);rw[cq c,kT,bT]
     simpa using L
    ·rw[show(!aC (ag.f y=ag.f ""))=af from by simp[hy]]
     refine fL (_,O,.inl (O,_,bP.j b),_,O,y,O,λD2 a4=>eP<|Wn y5 yc a4 λH3 a5 a6=>(D2,_,O,.inl (bP.j a6,λt a7=>?_)));have s8:aF g (aw H3 t<|.b<|(rF y).map ag.d):=a5.j<|aF.q a7;have a8:=L.j;have a9:p.length<=20:=by
      rw[a8,ax];exact dg (pJ _ _) (by rw[dR];omega)
     refine(d,_,_,O,O,s8 _ _ b,gn (by rw[ax];omega),(p++[t],_,O,(sm.j s8).F G,?_,by rw[ay,bT];rfl,?_))
     ·rw[bG U.symm];exact s8 _ _ I
     ·rw[cq c,kT,bT,show [y].filter (λ(x:au)=>!aC (x=""))=[y] by simp[hy]]
      exact kb (bC.B (s8.J L) ay) (s8 _ _ b) (by intro xs z;cases z)
  ·rintro σ g ⟨p,v,rfl,sm,I,b,L⟩
   rw[ax,fN] at L;exact(_,O,k d p g sm G b L)
noncomputable def iJ(a b:Int)(c:List Int):List Int:=c.map λx=>a+b*x
inductive E_(vs:List ag)(H:ae)(Q:aS)(E':cZ):Prop
 |a:∀p l as pss,(vs=[.c p,.c l])->(fO H p)->(H l=V (.a<|as.map ag.c))->(bC H as pss)->(pss.length<=20)->((∀ps∈pss,ps.length<=10))->(∀D bs qss first gap H',iL p H H'->fO H' p->H D=Z->H' D=V (.a<|bs.map ag.c)->bC H' bs qss->0<=first->first<12->1<=gap->gap<=3->qss.Perm (pss.map<|iJ first gap)->Q (.c D) H')->E_ vs H Q E'
def xu:dK ["box","web","gap","first","found","piece"] ["box","web"] (b_ xJ):=(O,O,O,δ,O,δ,δ)
def W_{b c:Int}{Q:aS}(p:cM h a g)(w:g.length<=10)(y:1<=c/\c<=3)(o:h D=Z)(k:∀f,aF h f->f D=V (.a<|(iJ b c g).map ag.d)->Q (.c D) f):dY (rq K a) (dk 0) gC (eB (jN λi j=>.d<|i+j) (bH 1)<|eB (kZ rt λi j=>.d<|i*j) (bH 2)<|bH 0) [Z,V<|.d b,V<|.d c] h D Q:=by
 refine Ly (xs:=g.map ag.d) (λj n l f=>∃v,n=[v,V<|.d b,V<|.d c]/\aF h f/\f D=V (.a l)/\l=((iJ b c g).take j).map ag.d) ?_ ?_ ?_ ?_
 ·exact(Z,O,aF.q o,ay,O)
 ·rintro j n l f ⟨v,rfl,m,d,rfl⟩
  exact fM.j<|m.B p
 ·rintro j n l f x r s t ⟨v,rfl,m,d,rfl⟩
  obtain⟨q,u,rfl⟩:=xU r;refine iX ?_;refine(_,O,_,O,_,O,_,_,O,O,.inl (ω,ω),_,_,O,O,fz (by rw[ax];exact bU ω) s t d (_,O,m.F o,ay,?_));have e:(iJ b c g)[j]?=V (b+c*q):=by unfold iJ;rw[cB,u];rfl
  rw[cq e,bT];rfl
 ·rintro n l f ⟨v,rfl,m,d,rfl⟩
  rw[e_ (by unfold iJ;simp)] at d;exact k f m d
def XG(F:bN K "_law_named" "_law_named" xJ f fd)(c5:eY mg)(Ft:bN K "_law_take" "_law_take" xD ft I)(bt:cQ K I ["box","most"] [])(mt:mg "_law_take"=V (.ref ft)):bO P w K mg base bv 2 f fd ["box","web"] E_:=by
 have Gt:bO P w K mg base bv 1 ft I ["box","most"] rx:=FQ Ft;refine F.j xu (λvs H Q E h=>?_) (λb9 A a4 s H vs Q E hr h=>?_)
 ·obtain⟨p,l,as,L,rfl,_⟩:=h;rfl
 ·obtain⟨p,l,as,L,rfl,hb,hl,ht,c0,a5,k⟩:=h
  refine(_,bx (cu (i:=2) xu.a O (ar O)<|cg iW bg<|dj Gt hr O mt Ft.a bt .nil cv<|aq (ai 0)<|aq bg aD)
   (bx (cu (i:=3) xu.a O (ar O)<|dj Gt hr O mt Ft.a bt .nil cv<|aq (ai 0)<|aq bg aD)
   (bx (cu (i:=4) xu.a O (ah O)<|iH aD)
   (bx (eU eL O (dy<|ai 1) (ca (i:=5) xu.a O<|ah O)
    (bF (nR (mP oC aci PySem.F.type_list_insert Uz (ai 4)
     (aq (dj Gt hr O mt Ft.a bt .nil cv<|aq (ai 0)<|aq (cg iW (eC ie O c5.a gN<|aq (ai 4) aD) bg) aD)
     (aq (fg Ah O c5.d Bj (aq
      (ff ["box","web","gap","first","found","piece"] ["point","first","gap"] [Z,V 3,V 2] (rg<|ai 5) (λcl C n o ex=>ca (i:=0) (dX ["point","first","gap"]) O<|ah O) (λcl C n o ex=>gX)
       (λcl C n o ex=>cg iW (ai 1)<|cg lR (ai 2)<|ai 0) (hfr:=gD (b_ xJ) δ)) aD)) aD))))))
  <|bF<|cY<|ai 4))),?_)
  refine(_,O,p,3,O,hb,ξ,ξ,λq H1 a1 a2 a6 a7=>(_,_,O,O,?_));refine(_,O,p,12,O,a7,ξ,ξ,λu H2 c1 c2 a8 T=>(bU (by simp),λD hD=>?_));have d:=a6.j a8;have g:H D=Z:=d.F hb T hD;have U:l≠p:=hb.q hl;have a9:=ht.j;refine(_,O,l,O,(_,bP.j<|(d.q g) _ _ U hl),iI (K:=K) (a:=l) (xs:=as.map ag.c) (λi σ y=>∃M b v,σ=[V<|.c p,V<|.c l,V<|.d<|1+q,V<|.d u,V<|.c D,v]/\iL p H y/\fO y p/\y D=V (.a<|M.map ag.c)/\bC y M b/\b.Perm ((L.take i).map<|iJ u<|1+q))
   ([],[],Z,O,d.q g,T.B hD,ay,.nil,QP) (λi σ y _ (_,_,_,_,sb,_)=>bP.j<|sb _ _ U hl) ?_ ?_)
  ·rintro i x σ y hx ⟨M,b,v,rfl,j,e,c,hq,X⟩
   obtain⟨a,ea,rfl⟩:=dM hx;obtain⟨R,S,b0⟩:=ht.q ea;have hi:i<L.length:=(cr.mp S).1;have c3:=hq.j;have c4:b.length=i:=by rw[X.length_eq,ax,dR];omega
   have a0:D≠p:=e.q c;refine(_,O,.inl (O,_,bP.j c),_,O,_,O,D,_,O,.inl<|bP.j c,_,_,O,O,p,_,O,e,by rw[ax];omega,by rw[ax];omega,λr H4 r0 b1 m b2=>?_);rw[ax] at b1;have G:cM H4 a R:=(j.j m).M hb b0;refine(_,O,a,O,(_,fM.j G),λD2 b3=>eP<|W_ G (a5 R<|dp S) (ω,ω) b3 λH5 b4 b5=>(D2,_,O,.inl (bP.j b5,λt b6=>?_)));have s6:aF H4 (aw H5 t<|.b<|(iJ u (1+q) R).map ag.d):=b4.j<|aF.q b6;have b7:=m _ _ a0 c;have a3:=s6 _ _ b7;have b8:=b2.j s6;refine(D,_,r,_,O,O,a3,r0,by rw[ax];omega,gn (by rw[ax];omega),(M.take r.toNat++t::M.drop r.toNat,b.take r.toNat++iJ u (1+q) R::b.drop r.toNat,_,O,((j.j m).j<|iL.J s6).q g,b8.F a0,?_,?_,?_))
   ·rw[ay,bT,cI,QB,Ix]
   ·have tq:=s6.J<|m.B e hq
    exact kb (bC.J (tq.M _)<|.cons ay<|tq.F _) a3 (by intro xs z;cases z)
   ·rw[cq S,bT]
    have h1:(b.take r.toNat++iJ u (1+q) R::b.drop r.toNat).Perm (iJ u (1+q) R::b):=by
     have:=aeh (a:=iJ u (1+q) R) (l₁:=b.take r.toNat) (l₂:=b.drop r.toNat)
     rwa [pH] at this
    exact h1.trans<|(aei _ _).symm.trans<|CT _ X
  ·rintro σ y ⟨M,b,v,rfl,j,e,c,hq,X⟩
   rw[ax,a9,fN] at X;exact(_,O,k D M b u (1+q) y j e g c hq c1 c2 ω ω X)
end
noncomputable abbrev FG:cN:=eI 46
noncomputable def pd(a:List Int):List (aV×ag):=(cf a).map λn=>(abd ((aQ n:aV)) (ag.e af))
def Yx(a:List Int):(pd a).length<=a.length:=by unfold pd;rw[ax];exact qZ a
def Xd(a:List Int)(n:Int):fB (pd a) (aQ n) (.e af)=pd (a++[n]):=by
 unfold fB pd;rw[wB];have c:(((cf a).map λn=>(abd ((aQ n:aV)) (ag.e af))).any λd=>aC<|d.1=aQ n)=aC (n∈cf a):=by
  rw[QM]
  by_cases h:n∈cf a
  ·rw[cn h,wg]
   exact(n,h,by simp)
  ·rw[cK h,IH]
   intro q b;simp only[ut,iD,Sum.inl.injEq];rintro rfl;exact h b
 rw[c]
 by_cases h:n∈cf a
 ·rw[cn h,az O,az h,cj]
  refine kj λq b=>?_;simp only[ut];split<;>rfl
 ·rw[cK h,ap (by simp),ap h,bT]
  rfl
def YD(a:List Int):((pd a).map λb=>dr b.1)=(cf a).map ag.d:=by unfold pd;rw[cj];rfl
def WR{c:List Int}(f:c.Pairwise (·<=·))(g:c.Nodup):ij c=af:=by
 rw[GJ];intro i a b h j;obtain⟨d,k⟩:=cr.mp h;obtain⟨e,l⟩:=cr.mp j;have m:=uj.mp f i (i+1) d e ω;have n:=uj.mp g i (i+1) d e ω;rw[k,l] at m n;omega
def NW(a:Ξ):Prop:=a.Nodup/\∀b∈a,b≠[]/\b.length<=4/\ij b=af/\∀x∈b,0<=x/\x<=5
def GF(b:Ξ):Prop:=(∃n,n<20/\b=oo n)\/(b.length<=5/\NW b)
def GD(d:Ξ):Prop:=∃b a c,GF b/\0<=a/\a<12/\1<=c/\c<=3/\d.Perm (b.map<|iJ a c)
def Yz:∀n,n<20->(oo n).length<=20/\∀a∈oo n,a≠[]/\a.length<=5:=δ
section
variable{P:bw}{w:aX}{K:aR}{mg:au->Option aa}{base:aT}
inductive EV(vs:List ag)(H:ae)(Q:aS)(E':cZ):Prop
 |a:∀p,(vs=[.c p])->(fO H p)->(∀D bs qss H',iL p H H'->fO H' p->H D=Z->H' D=V (.a<|bs.map ag.c)->bC H' bs qss->GD qss->Q (.c D) H')->EV vs H Q E'
def vn:dK ["box","found","k","some","j","piece"] ["box"] (b_ FG):=(O,O,O,δ,O,δ,δ)
def Xs(F:bN K "_law_web" "_law_web" FG f fd)(f5:eY mg)(Ft:bN K "_law_take" "_law_take" xD ft b2)(bt:cQ K b2 ["box","most"] [])(mt:mg "_law_take"=V (.ref ft))(Fn:bN K "_law_named" "_law_named" xJ fn b3)(bn:cQ K b3 ["box","web"] [])(mn:mg "_law_named"=V (.ref fn))(Fk:bN K "_law_known" "_law_known" AU fk b4)(bk:cQ K b4 ["number"] [])(mk:mg "_law_known"=V (.ref fk)):bO P w K mg base bv 3 f fd ["box"] EV:=by
 have Gt:bO P w K mg base bv 1 ft b2 ["box","most"] rx:=FQ Ft;have Gn:bO P w K mg base bv 2 fn b3 ["box","web"] E_:=XG Fn f5 Ft bt mt;have Gk:bO P w K mg base bv 1 fk b4 ["number"] Ff:=XP Fk f5;refine F.j vn (λvs H Q E h=>?_) (λf0 A d5 s H vs Q E hr h=>?_)
 ·obtain⟨p,rfl,_⟩:=h;rfl
 ·obtain⟨p,rfl,hb,k⟩:=h
  have hu:=jP hr;have c7:=hr.units;have I:eQ 1 _:=hr.j ξ;refine(_,bx (fJ (dW nV (dj Gt I O mt Ft.a bt .nil cv<|aq (ai 0)<|aq bg aD) bg<|dI _)
    (bF<|cY<|dj Gn hr O mn Fn.a bn .nil cv<|aq (ai 0)<|aq (dj Gk I O mk Fk.a bk .nil cv<|aq (dj Gt I O mt Ft.a bt .nil cv<|aq (ai 0)<|aq bg aD) aD) aD) fV)
   (bx (cu (i:=1) vn.a O (ah O)<|iH aD)
   (bx (eU eL O (sF O f5.c<|aq (dj Gt I O mt Ft.a bt .nil cv<|aq (ai 0)<|aq bg aD) aD) (ca (i:=2) vn.a O<|ah O)
    (bx (cu (i:=3) vn.a O (ah O) Ui)
    (bx (eU eL O (sF O f5.c<|aq (cg iW bg<|dj Gt I O mt Ft.a bt .nil cv<|aq (ai 0)<|aq bg aD) aD) (ca (i:=4) vn.a O<|ah O)
    <|bF<|jE hu (ai 3) (dj Gt I O mt Ft.a bt .nil cv<|aq (ai 0)<|aq bg aD) kr O)
    (bx (cu (i:=5) vn.a O (ah O)<|fg Ah O f5.d Bj<|aq (eC VB O f5.e Gx<|aq (fg (VD O) O f5.b iK<|aq (ai 3) aD) aD) aD)
   <|bF<|fJ (dW (Un<|Ek c7) (ai 5) (ai 1) (by with_unfolding_all rfl)) (bF<|nR<|mP oC ua vX rh (ai 1)<|aq (ai 5) aD) fV))))
  <|bF<|cY<|dj Gn hr O mn Fn.a bn .nil cv<|aq (ai 0)<|aq (ai 1) aD)),?_)
  refine(_,O,p,2,O,hb,ξ,ξ,λr H1 r0 r1 b5 a3=>(O,_,O,?_));refine nW (λh1=>?_) (λh1=>?_)
  ·refine(_,O,_,O,p,20,O,a3,ξ,ξ,λn H2 n0 n1 d6 d7=>?_)
   obtain⟨m,rfl⟩:=QU n0;refine(m,O,ω,λD M H3 c8 f3 hD ht=>?_);obtain⟨g1,g2⟩:=Yz m ω;have X:=(b5.j d6).j<|iL.J c8;have a4:=d7.j c8;refine(p,D,M,oo m,O,a4,hD,ht,g1,λps hp=>by have:=(g2 ps hp).2;omega,λD' bs b6 u b7 H4 v l b8 d8 R c1 c2 c3 c4 C=>?_);exact k D' bs b6 H4 (X.j v) l (X.F hb a4 b8) d8 R (oo m,u,b7,.inl (m,ω,O),c1,c2,c3,c4,C)
  ·refine(bU (by simp),λL hL=>?_)
   have c9:H L=Z:=b5.F hb a3 hL;refine(_,O,p,6,O,a3.B hL,ξ,ξ,λr6 H3 a1 a2 X a4=>(r6,O,ω,ω,?_));have a5:L≠p:=fO.q (as:=[]) (a3.B hL) ay;have d0:iL p H H3:=(b5.q c9).j X;refine wT (lo:=0) (n:=r6.toNat) (λi σ H4=>∃M g v2 v3 v4 v5,σ=[V<|.c p,V<|.c L,v2,v3,v4,v5]/\iL p H H4/\fO H4 p/\H4 L=V (.a<|M.map ag.c)/\bC H4 M g/\NW g/\g.length<=i)
    ([],[],Z,Z,Z,Z,O,d0,a4,X _ _ a5 ay,.nil,(qL,λps h=>nomatch h),aW _) ?_ ?_
   ·rintro i σ H4 hi ⟨M,g,v2,v3,v4,v5,rfl,v,l,a6,R,S,d1⟩
    have f4:=R.j;intro d hd;have d2:H d=Z:=v.F hb l hd;have d9:L≠d:=dJ a6 hd;refine(_,O,p,4,O,l.B hd,ξ,ξ,λr4 H5 e1 e2 T b9=>(_,_,O,O,_,O,ω,ω,?_));have a7:d≠p:=by
     obtain⟨x,y,e,_⟩:=l.B (o:=.e []) hd;exact ir ay e (by intro z;cases z)
    have s4:=aF.q (o:=.e []) hd;refine wT (lo:=0) (n:=(1+r4).toNat) (λj σ H6=>∃c v4,σ=[V<|.c p,V<|.c L,V<|.d<|0+i,V<|.c d,v4,v5]/\iL p H H6/\fO H6 p/\H6 L=V (.a<|M.map ag.c)/\bC H6 M g/\H6 d=V (.e<|pd c)/\c.length=j/\∀x∈c,0<=x/\x<=5)
     ([],_,O,(v.q d2).j T,b9,T _ _ a5<|s4 _ _ a6,T.B (l.B hd)<|s4.J R,T _ _ a7 ay,O,λx h=>nomatch h) ?_ ?_
    ·rintro j σ H6 hj ⟨c,v4,rfl,c0,a8,G,a0,a9,b0,c5⟩
     refine(_,O,_,O,p,6,O,a8,ξ,ξ,λr H7 f1 f2 q b1=>(d,_,O,xf.k (k:=aQ r) (q _ _ a7 a9)<|gn (by have:=Yx c;omega),(c++[r],_,O,(c0.j q).q d2,b1.F a7,?_,?_,by rw[ay,Xd],by rw[ck,b0];rfl,?_)))
     ·rw[bG d9];exact q _ _ a5 G
     ·exact kb (q.B a8 a0) (q _ _ a7 a9) (by intro xs z;cases z)
     ·intro x hx
      rcases cy.mp hx with hx|hx
      ·exact c5 x hx
      ·rw[cJ] at hx;subst hx;omega
    ·rintro σ H6 ⟨c,v4,rfl,c0,a8,G,a0,a9,b0,c5⟩
     refine(_,O,d,_,O,a9,λl2 e0=>(l2,cf c,O,bP.j (by rw[ay,YD]),(by have:=qZ c;omega),λD2 U hp hs e3=>(D2,_,O,.inl (bP.j ay,λt e4=>?_))));have s6:aF H6 (aw (aw (aw H6 l2<|.a<|(pd c).map λkv=>dr kv.1) D2<|.a<|U.map ag.d) t<|.b<|U.map ag.d):=((aF.q e0).j<|aF.q e3).j<|aF.q e4;generalize e5:aw (aw (aw H6 l2<|.a<|(pd c).map λkv=>dr kv.1) D2<|.a<|U.map ag.d) t (.b<|U.map ag.d)=H7 at s6;have d3:cM H7 t U:=by rw[<-e5];exact ay
     have q:=c0.j<|iL.J s6;have b1:=a8.j s6;refine(_,O,_,O,t,L,U,M,g,O,O,d3,bP.j<|s6 _ _ G,s6.J a0,_,O,?_);have e6:U≠[]/\U.length<=4/\ij U=af/\∀x∈U,0<=x/\x<=5:=by
      refine(λz=>?_,?_,WR hs<|hp.nodup_iff.mpr<|zE c,λx hx=>c5 x<|(pS c x).mp<|hp.mem_iff.mp hx)
      ·have h0:cf c=[]:=by rw[z] at hp;exact(List.nil_perm.mp hp)
       cases hq:c with
       |nil=>rw[hq] at b0;simp at b0;omega
       |cons x r=>
        have:=(pS c x).mpr (by rw[hq];exact dQ);rw[h0] at this;cases this
      ·have:=qZ c
       rw[hp.length_eq];omega
     by_cases c6:U∈g
     ·rw[cn c6]
      exact eF (M,g,_,_,_,_,O,q,b1,s6 _ _ G,s6.J a0,S,ω)
     ·rw[cK c6]
      refine fL (_,O,.inl (O,_,bP.j<|s6 _ _ G),_,O,L,_,_,O,O,s6 _ _ G,gn (by rw[ax];omega),(M++[t],g++[U],_,_,_,_,O,q.q c9,b1.F a5,by rw[ay,bT];rfl,kb (bC.B (s6.J a0) d3) (s6 _ _ G) (by intro xs z;cases z),(?_,?_),by rw[ck];simp;omega))
      ·rw[iS]
       refine(S.1,by simp,λa ha b d4 e=>?_);rw[cJ] at d4;subst d4;subst e;exact c6 ha
      ·intro ps e7
       rcases cy.mp e7 with h|h
       ·exact S.2 ps h
       ·rw[cJ] at h;subst h;exact e6
   ·rintro σ H4 ⟨M,g,v2,v3,v4,v5,rfl,v,l,a6,R,S,d1⟩
    refine(_,O,_,O,p,L,M,g,O,l,a6,R,ω,λps hp=>by have:=(S.2 ps hp).2.1;omega,λD' bs b6 u b7 H5 T b9 b8 e8 e9 c1 c2 c3 c4 C=>?_);exact k D' bs b6 H5 (v.j T) b9 (v.F hb l b8) e8 e9 (g,u,b7,.inr (ω,S),c1,c2,c3,c4,C)
end
def Oi:∀a b:List Int,bV a b=af->bV b a=aB
 |[],[],h=>O
 |[],_::_,h=>O
 |_::_,[],h=>by rw[Ot] at h;exact bu h dT
 |x::c,y::d,h=>by
  rw[mf] at h ⊢
  by_cases e:x=y
  ·rw[az e] at h;rw[az e.symm];exact Oi c d h
  ·rw[ap e] at h;rw[ap (λz=>e z.symm)]
   have:=io h;exact cK ω
def Bv:∀a b:List Int,bV a b=aB->bV b a=aB->a=b
 |[],[],_,_=>O
 |[],_::_,h,_=>by rw[yd] at h;exact bu h ξ
 |_::_,[],_,h=>by rw[yd] at h;exact bu h ξ
 |x::d,y::f,h,c=>by
  rw[mf] at h c
  by_cases e:x=y
  ·rw[az e] at h;rw[az e.symm] at c
   rw[e,Bv d f h c]
  ·rw[ap e] at h;rw[ap (λz=>e z.symm)] at c
   have:=nM h;have:=nM c;omega
def Oh:∀a b c:List Int,bV b a=aB->bV c b=aB->bV c a=aB
 |[],b,c,_,_=>by cases c with
  |nil=>rfl
  |cons _ _=>rfl
 |_::_,[],c,h,_=>by rw[yd] at h;exact bu h ξ
 |_::_,_::_,[],_,h=>by rw[yd] at h;exact bu h ξ
 |x::g,y::i,z::j,h,d=>by
  rw[mf] at h d ⊢
  by_cases e:y=x
  ·rw[az e] at h
   by_cases f:z=y
   ·rw[az f] at d;rw[az<|f.trans e];exact Oh g i j h d
   ·rw[ap f] at d;rw[ap ω]
    have:=nM d;exact cK ω
  ·rw[ap e] at h
   have k:=nM h
   by_cases f:z=y
   ·rw[ap ω]
    exact cK ω
   ·rw[ap f] at d
    have l:=nM d;rw[ap ω];exact cK ω
noncomputable def tG(p:List Int):List Int:=(p.length:Int)::p
noncomputable def rJ(a b:List Int):Bool:=!bV (tG b) (tG a)
def vH{a b:List Int}:rJ a b=af↔bV (tG b) (tG a)=aB:=by unfold rJ;simp
noncomputable def bR(a:Ξ):Ξ:=(cf<|a.flatMap cG).mergeSort rJ
def Bw(a:Ξ):(bR a).Perm (cf<|a.flatMap cG):=List.mergeSort_perm _ _
def ZK(d:Ξ):(bR d).Pairwise (λa b=>rJ a b=af):=by
 refine List.pairwise_mergeSort (λa b c e f=>?_) (λa b=>?_) _
 ·rw[vH] at e f ⊢;exact Oh _ _ _ e f
 ·rw[Q_,vH,vH]
  cases h:bV (tG b) (tG a) with
  |false=>exact .inl O
  |true=>exact .inr<|Oi _ _ h
def Bu{x:List Int}:x∈bR a↔x∈a.flatMap cG:=by rw[(Bw a).mem_iff,pS]
def pn(a:Ξ):(bR a).Nodup:=(Bw a).nodup_iff.mpr<|zE _
def qu(a:Ξ):(bR a).length=(cf<|a.flatMap cG).length:=(Bw a).length_eq
def Zz{l m:Ξ}(e:l.Perm m)(f:l.Pairwise (λa b=>rJ a b=af))(g:m.Pairwise (λa b=>rJ a b=af)):l=m:=by
 refine List.Perm.eq_of_pairwise (λa b _ _ c d=>?_) f g e;rw[vH] at c d;have:=Bv _ _ d c;unfold tG at this;exact(List.cons.inj this).2
def ZL{c l:Ξ}(d:l.Perm (cf<|c.flatMap cG))(e:l.Pairwise (λa b=>bV ((b.length:Int)::b) ((a.length:Int)::a)=aB)):l=bR c:=
 Zz (d.trans (Bw c).symm) (e.imp λh=>vH.mpr h)<|ZK c
def Bs:∀(n:Nat)(p q:List Int),p.length=n->(q∈kK p↔q.Sublist p)
 |0,p,q,h=>by
  obtain rfl:=nE h;show q∈[[]]↔_;simp
 |n+1,p,q,h=>by
  obtain⟨r,x,rfl⟩:∃r x,p=r++[x]:=by
   rcases QI p with e|⟨r,x,e⟩
   ·rw[e] at h;cases h
   ·exact(r,x,by rw[e,QL])
  have a:r.length=n:=by simpa using h
  rw[GG,cy,Bs n r q a,aP,List.sublist_append_iff];constructor
  ·rintro(d|⟨y,f,rfl⟩)
   ·exact(q,[],by simp,d,Qz _)
   ·exact(y,[x],O,(Bs n r y a).mp f,CQ _)
  ·rintro⟨b,i,rfl,c,g⟩
   cases g with
   |cons _ h=>
    obtain rfl:=aec.mp h;exact .inl (by simpa using c)
   |cons_cons _ h=>
    obtain rfl:=aec.mp h;exact .inr (b,(Bs n r b a).mpr c,O)
def po{p q:List Int}:q∈cG p↔q≠[]/\q.Sublist p:=by
 obtain⟨t,e,b⟩:=GH p;have a:=Bs p.length p q O;rw[e] at a;unfold cG;rw[e];show q∈t↔_;constructor
 ·intro h
  exact(b q h,a.mp<|eV _ h)
 ·rintro⟨c,d⟩
  rcases bZ.mp (a.mpr d) with h|h
  ·exact bu h c
  ·exact h
def Br:∀p:List Int,ij p=af↔p.Pairwise (·<·)
 |[]=>by simp[ij]
 |[g]=>by simp[ij]
 |g::b::r=>by
  have f:=Br<|b::r;rw[show ij (g::b::r)=(aC (g<b)&&ij (b::r)) from O,kW,iD,f,qK (a:=g)];constructor
  ·rintro⟨d,c⟩
   refine(λx e=>?_,c);rcases bZ.mp e with rfl|e
   ·exact d
   ·have:=(qK.mp c).1 x e
    omega
  ·rintro⟨d,c⟩
   exact(d b dQ,c)
def nc:jS p=af↔p≠[]/\p.length<=5/\(∀x∈p,0<=x/\x<=99)/\p.Pairwise (·<·):=by
 unfold jS;simp only[kW,iD,pO,Br];constructor
 ·rintro⟨⟨⟨a,b⟩,c⟩,d⟩
  exact(λz=>by rw[z] at a;simp at a,b,c,d)
 ·rintro⟨a,b,c,d⟩
  refine(((?_,b),c),d);cases p with
  |nil=>exact bu O a
  |cons _ _=>simp
def Of{p q:List Int}(h:jS p=af)(a:q∈cG p):jS q=af:=by
 rw[nc] at h ⊢;rw[po] at a;exact(a.1,dg a.2.length_le h.2.1,λx b=>h.2.2.1 x<|a.2.subset b,h.2.2.2.sublist a.2)
def ZE{a:Ξ}(c:a.Nodup)(d:∀p∈a,jS p=af):Ok a a.length:=by
 intro i p m e;refine(λf=>?_,d p<|dp e);obtain⟨j,g⟩:=mD.mp f;obtain⟨h,b⟩:=cr.mp g;rw[dR] at h;obtain⟨k,l⟩:=cr.mp e;have:=uj.mp c j i ω k ω;rw[aes] at b;exact this<|b.trans l.symm
def Oa{a:Ξ}(b:a.length<=20)(c:a.Nodup)(d:∀p∈a,jS p=af)(h:(cf<|a.flatMap cG).length<=200):ii a=af:=by
 rw[Zw a b<|ZE c d,cn h]
def qp(h:ii a=af):a.length<=20/\(∀p∈a,jS p=af)/\(∀p∈a,p.length<=5)/\(cf<|a.flatMap cG).length<=200:=by
 unfold ii at h;simp only[kW,iD,pO] at h;obtain⟨⟨⟨d,e⟩,g⟩,f⟩:=h;have c:∀p∈a,jS p=af:=λp b=>by rw[<-Og];exact e p b
 exact(d,c,λp b=>(nc.mp<|c p b).2.1,f)
def Zu(b:Ξ):Prop:=b.Nodup/\b.length<=17/\(∀a∈b,a≠[]/\a.length<=5/\ij a=af/\∀x∈a,0<=x/\x<=7)/\(b.flatMap cG).length<=200
def YC:∀n,n<20->(oo n).Nodup/\(oo n).length<=17/\(∀a∈oo n,a≠[]/\a.length<=5/\ij a=af/\∀x∈a,0<=x/\x<=7)/\((oo n).flatMap cG).length<=200:=δ
def NJ{m:Nat}:∀{b:Ξ},(∀a∈b,(cG a).length<=m)->(b.flatMap cG).length<=m*b.length
 |[],_=>by simp
 |p::r,h=>by
  have d:=h p dQ;have e:=NJ (b:=r) λq c=>h q<|eV _ c;rw[so,ck,cO,Nat.mul_succ];omega
def Zg{b:Ξ}(h:GF b):Zu b:=by
 rcases h with ⟨n,f,rfl⟩|⟨l,c⟩
 ·exact YC n f
 ·refine(c.1,ω,λa d=>?_,?_)
  ·obtain⟨g,e,i,j⟩:=c.2 a d
   exact(g,ω,i,λx k=>by have:=j x k;omega)
  ·have:=NJ (m:=15) (b:=b) λa d=>by
    rw[vF];have e:=(c.2 a d).2.1;have:2 ^ a.length<=2 ^ 4:=HZ ξ e;omega
   omega
def Xa{a b:Int}(c:1<=b){p q:List Int}(h:iJ a b p=iJ a b q):p=q:=by
 unfold iJ at h;refine(CJ (f:=λx=>a+b*x) (λx y e=>?_)).mp h;have:b*x=b*y:=ω
 exact Int.eq_of_mul_eq_mul_left ω this
def W'{g f:Int}(m:0<=g)(n:g<12)(o:1<=f)(j:f<=3){p:List Int}(h:p≠[]/\p.length<=5/\ij p=af/\∀x∈p,0<=x/\x<=7):jS (iJ g f p)=af:=by
 obtain⟨a,b,c,d⟩:=h;rw[nc];unfold iJ;refine(λz=>a<|CK.mp z,by rw[ax];exact b,λy k=>?_,?_)
 ·obtain⟨x,l,rfl⟩:=aP.mp k
  have:=d x l;have i:f=1\/f=2\/f=3:=ω
  rcases i with rfl|rfl|rfl<;>omega
 ·rw[Br] at c
  rw[jK];refine c.imp λ{x y} e=>?_;have:f*x<f*y:=Int.mul_lt_mul_of_pos_left e ω;omega
def YT{q:Ξ}(h:GD q):ii q=af/\q.Nodup/\q.length<=17:=by
 obtain⟨b,a,d,k,l,m,g,f,c⟩:=h;obtain⟨i,n,o,s⟩:=Zg k;have t:q.length<=17:=by rw[c.length_eq,ax];exact n
 have j:q.Nodup:=by
  rw[c.nodup_iff];unfold bD at i ⊢;rw[jK];exact i.imp λ{x y} e z=>e<|Xa g z
 refine(Oa ω j (λp u=>?_) ?_,j,t)
 ·obtain⟨r,v,rfl⟩:=aP.mp<|c.mem_iff.mp u
  exact W' l m g f<|o r v
 ·refine dg (qZ _) ?_
  rw[(c.flatMap_right cG).length_eq];have:∀b:Ξ,((b.map<|iJ a d).flatMap cG).length=(b.flatMap cG).length:=by
   intro b
   induction b with
   |nil=>rfl
   |cons p r w=>
    rw[cI,so,so,ck,ck,w,vF,vF];unfold iJ;rw[ax]
  rw[this];exact s
noncomputable def cC(q:List Int):Ξ:=if q.length=1 then [] else(cV q.length).map λk=>q.take k++q.drop (k+1)
def m_(q:List Int):(cC q).length<=q.length:=by
 unfold cC;split
 ·exact eM _
 ·simp
def Bt{p q:List Int}:p∈cC q↔q.length≠1/\∃k,k<q.length/\p=q.take k++q.drop (k+1):=by
 unfold cC;split
 next h=>simp[h]
 next h=>
  rw[aP];constructor
  ·rintro⟨k,a,rfl⟩
   exact(h,k,gB.mp a,O)
  ·rintro⟨_,k,a,rfl⟩
   exact(k,gB.mpr a,O)
def GI:∀(o p:List Int),o.Pairwise (·<·)->p.Pairwise (·<·)->(∀x∈p,x∈o)->p.Sublist o
 |[],p,_,_,h=>by
  cases p with
  |nil=>exact QN
  |cons a r=>exact bu (h a dQ) (by simp)
 |b::o,p,k,j,h=>by
  obtain⟨g,c⟩:=qK.mp k;cases p with
  |nil=>exact Qz _
  |cons a r=>
   obtain⟨d,i⟩:=qK.mp j
   by_cases e:a=b
   ·subst e
    refine(GI o r c i λx f=>?_).cons_cons a;rcases bZ.mp (h x<|eV _ f) with rfl|q
    ·have:=d x f;omega
    ·exact q
   ·have l:a∈o:=by
     rcases bZ.mp (h a dQ) with q|q
     ·exact bu q e
     ·exact q
    have m:=g a l;refine(GI o (a::r) c j λx f=>?_).cons b;rcases bZ.mp (h x f) with q|q
    ·exfalso
     rcases bZ.mp f with z|z
     ·omega
     ·have:=d x z;omega
    ·exact q
def GK{p q:List Int}{k:Nat}(b:k<q.length)(h:p=q.take k++q.drop (k+1)):p.Sublist q/\p.length<q.length:=by
 subst h;refine(?_,?_)
 ·have a:(q.take k++q.drop (k+1)).Sublist (q.take k++q.drop k):=(CQ _).append (by
   rw[show q.drop (k+1)=(q.drop k).drop 1 by rw[ae2]];exact List.drop_sublist _ _)
  rwa [pH] at a
 ·rw[ck,dR,mG]
  omega
def YB:∀n,n<20->(cf<|(oo n).flatMap cG).length<=56:=δ
noncomputable def MO:Ξ:=(cG [0,1,2,3,4,5]).filter λq=>aC<|q.length<=4
def Wm:MO.length=56:=δ
def Zh{b:Ξ}(h:GF b):(cf<|b.flatMap cG).length<=56:=by
 rcases h with ⟨n,c,rfl⟩|⟨j,d⟩
 ·exact YB n c
 ·rw[<-Wm]
  refine(zE _).length_le_of_subset λx a=>?_;rw[pS,ki] at a;obtain⟨p,e,a⟩:=a;obtain⟨_,k,f,g⟩:=d.2 p e;rw[po] at a;have l:=a.2.length_le;unfold MO;rw[fA,po];refine((a.1,a.2.trans<|GI _ _ ξ ((Br p).mp f) λy i=>?_),cn ω);have:=g y i;have:y=0\/y=1\/y=2\/y=3\/y=4\/y=5:=ω
  rcases this with rfl|rfl|rfl|rfl|rfl|rfl<;>decide
def YU{q:Ξ}(h:GD q):(cf<|q.flatMap cG).length<=56:=by
 obtain⟨b,c,f,i,_,_,_,_,j⟩:=h;refine dg ?_<|Zh i;have e:((cf<|b.flatMap cG).map<|iJ c f).length=(cf<|b.flatMap cG).length:=ax _;rw[<-e];refine(zE _).length_le_of_subset λx d=>?_;rw[pS,ki] at d;obtain⟨p,k,d⟩:=d;obtain⟨r,l,rfl⟩:=aP.mp<|j.mem_iff.mp k;rw[po] at d;obtain⟨g,a⟩:=d;unfold iJ at a;obtain⟨y,m,rfl⟩:=aed.mp a;refine aP.mpr (y,?_,O);rw[pS,ki];exact(r,l,po.mpr (λz=>g (by rw[z];rfl),m))
def lW(a:Ξ):Prop:=ii a=af/\(bR a).length<1000
noncomputable abbrev AR:cN:=eI 17
noncomputable abbrev tt:cN:=eI 18
def FP:∀{a:List (List Int×Y)},(∀q∈a,cM H q.2 q.1)->bC H (a.map (·.2)) (a.map (·.1))
 |[],_=>.nil
 |q::r,h=>.cons (h q dQ) (FP λx b=>h x<|eV _ b)
def Mq{H b:ae}(t:NV H b a D c):∃f,aF H b/\H D=Z/\b D=V (.a<|f.map ag.c)/\bC b f (bR a):=by
 obtain⟨g,h,d,i,j,k⟩:=t;have e:c.map (·.1)=bR a:=ZL j<|jK.mpr k;refine(c.map (·.2),g,h,by rw[d,cj];rfl,?_);rw[<-e];exact FP i
section
variable{P:bw}{w:aX}{K:aR}{mg:au->Option aa}{base:aT}
inductive vh(K:aR)(vs:List ag)(H:ae)(Q:aS)(E':cZ):Prop
 |a:∀l as pss,(vs=[.c l])->(bP K H l<|as.map ag.c)->(bC H as pss)->(lW pss)->(∀D H2 bs,aF H H2->H D=Z->H2 D=V (.a<|bs.map ag.c)->bC H2 bs (bR pss)->Q (.c D) H2)->vh K vs H Q E'
def Ww:dK ["web"] ["web"] (b_ tt):=(O,O,O,δ,O,δ,δ)
def WA:dK ["web"] ["web"] (b_ AR):=(O,O,O,δ,O,δ,δ)
inductive Fc(K:aR)(vs:List ag)(H:ae)(Q:aS)(E':cZ):Prop
 |a:∀l as pss,(vs=[.c l])->(bP K H l<|as.map ag.c)->(bC H as pss)->(lW pss)->(∀H2,aF H H2->Q .g H2)->Fc K vs H Q E'
def XH(F:bN K "must_be_web" "must_be_web" AR f g)(m:bN K "is_web" "is_web" AW c a)(n:cQ K a ["web"] [])(o:mg "is_web"=V (.ref c))(p:bO P w K mg base bv 6 c a ["web"] (Fh K)):bO P w K mg base bv 7 f g ["web"] (Fc K):=by
 refine F.j WA (λq H Q E h=>?_) (λr A d s H q Q E t h=>?_)
 ·obtain⟨l,i,b,rfl,_⟩:=h;rfl
 ·obtain⟨l,i,b,rfl,u,v,j,k⟩:=h
  refine(_,bF<|fJ (zT<|uK<|dj p t O o m.a n .nil cv<|aq (ai 0) aD) zV fV,?_);refine(_,O,l,i,b,O,u,v,(λ_=>by rw[<-qu];exact j.2),λx e=>(_,O,?_));rw[j.1];exact eF<|k x e
def XA{r b c:cS}(F:bN K "pieces" "pieces" tt f r)(y:bN K "must_be_web" "must_be_web" AR e b)(z:cQ K b ["web"] [])(C:mg "must_be_web"=V (.ref e))(G:bO P w K mg base bv 7 e b ["web"] (Fc K))(I:bN K "all_parts" "all_parts" xS g c)(L:cQ K c ["some"] [])(M:mg "all_parts"=V (.ref g))(R:bO P w K mg base bv 5 g c ["some"] (tj K)):bO P w K mg base bv 8 f r ["web"] (vh K):=by
 refine F.j Ww (λS H Q E h=>?_) (λT A i s H S Q E u h=>?_)
 ·obtain⟨l,j,d,rfl,_⟩:=h;rfl
 ·obtain⟨l,j,d,rfl,v,x,m,k⟩:=h
  have n:eQ 5 _:=u.j ξ;refine(_,bx (nR<|dj G u O C y.a z .nil cv<|aq (ai 0) aD)
  <|bF<|cY<|dj R n O M I.a L .nil cv<|aq (ai 0) aD,?_)
  obtain⟨o,_,U,_⟩:=qp m.1;refine(_,O,l,j,d,O,v,x,m,λH1 a=>?_);refine(_,O,l,j,d,O,a.N v,a.J x,U,dg o ξ,(by rw[<-qu];exact m.2),λD X qs t=>?_);obtain⟨bs,p,hD,q,hb⟩:=Mq t;exact k D X bs (a.j p) (a.M hD) q hb
end
noncomputable abbrev rB:cN:=eI 9
def NN(a:List ag)(i:Nat)(h:i<=a.length):kt a Z (V (i:Int))=a.take i:=by
 unfold kt;rw[Bz,yb,Ie h,ae0,Qr]
def NO(a:List ag)(i:Nat)(h:i<=a.length):kt a (V (i:Int)) Z=a.drop i:=by
 unfold kt;rw[Bz,yb,Ie h];exact e_ (by rw[mG];exact aW _)
abbrev ME:a_:=eB zS (DL zR (bH 1) DO<|DM<|bH 0)<|DL zR (bH 1) (DM<|eB (jN λi j=>.d<|i+j) (bH 0)<|gW<|.d 1) DO
section
variable{P:bw}{w:aX}{K:aR}{mg:au->Option aa}{base:aT}
def WS{b:List Int}{Q:aS}(u:cM g a b)(G:b.length<=5)(w:g D=Z)(k:∀(c:ae)(d:List Y),aF g c->c D=V (.a<|d.map ag.c)->bC c d ((cV b.length).map λk=>b.take k++b.drop (k+1))->Q (.c D) c):dY (kB 0 b.length) (dk 0) gC ME [Z,V<|.c a] g D Q:=by
 refine uW (λj s p c=>∃(v:Option ag)(d:List Y),s=[v,V<|.c a]/\aF g c/\c D=V (.a p)/\p=d.map ag.c/\bC c d (((cV b.length).map λk=>b.take k++b.drop (k+1)).take j)) ?_ ?_ ?_
 ·exact(Z,[],O,aF.q w,ay,O,.nil)
 ·rintro j s p c x y ⟨v,d,rfl,h,f,rfl,q⟩
  have e:((cV b.length).map λk=>b.take k++b.drop (k+1))[j]?=V (b.take j++b.drop (j+1)):=by rw[cB,qM x];rfl
  refine iX ?_;refine(_,O,_,O,_,O,a,_,O,h.B u,λA H i l=>(_,O,_,O,_,_,O,O,_,O,a,_,O,i _ _<|h.B u,λC I m n=>?_));rw[show(0:Int)+((j:Nat):Int)=((j:Nat):Int) from ω,NN _ _ (by rw[ax];omega),<-QB] at l;rw[show(0:Int)+((j:Nat):Int)+1=((j+1:Nat):Int) from ω,NO _ _ (by rw[ax];omega),<-Ix] at n;refine(A,C,_,_,O,O,m _ _ l,n,bU (by simp;omega),λE K t o=>?_);rw[<-bT] at o;have r:=(i.j m).j t;refine fz (bU ω) x y (r _ _ f) (_,d++[E],O,(h.j r).F w,ay,by rw[bT];rfl,?_);rw[cq e];exact kb (bC.B (r.J q) o) (r _ _ f) (by intro L z;cases z)
 ·rintro s p c ⟨v,d,rfl,h,f,rfl,q⟩
  rw[e_ (by simp)] at q;exact k c d h f q
inductive vg(vs:List ag)(H:ae)(Q:aS)(E':cZ):Prop
 |b:∀a ps,(vs=[.c a])->(cM H a ps)->(ps.length<=5)->(∀D H2(bs:List Y),aF H H2->H D=Z->H2 D=V (.a<|bs.map ag.c)->bC H2 bs (cC ps)->Q (.c D) H2)->vg vs H Q E'
def Wv:dK ["piece"] ["piece"] (b_ rB):=(O,O,O,δ,O,δ,δ)
def Ba{n:cS}(F:bN K "rims_of" "rims_of" rB f n)(I:eY mg):bO P w K mg base bv 1 f n ["piece"] vg:=by
 refine F.j Wv (λq H Q E h=>?_) (λr A j s H q Q E G h=>?_)
 ·obtain⟨a,e,rfl,_⟩:=h;rfl
 ·obtain⟨a,e,rfl,l,t,k⟩:=h
  refine(_,bx (fJ (dW nV (eC ie O I.a gN<|aq (ai 0) aD) bg<|dI _) (bF<|cY<|iH aD) fV)
   (bF (cY (ff ["piece"] ["k","piece"] [Z,V 0] (sF O I.c<|aq (eC ie O I.a gN<|aq (ai 0) aD) aD) (λo C b c p=>ca (i:=0) (dX ["k","piece"]) O<|ah O) (λo C b c p=>gX)
    (λo C b c p=>cg z_ (uL zN (ai 1) pV<|pU<|ai 0)<|uL zN (ai 1) (pU<|cg iW (ai 0) bg) pV) (hfr:=gD (b_ rB) δ) (te:=ME)))),?_)
  refine(_,O,a,_,O,.inr<|fM.j l,O,_,O,?_);rw[ax]
  by_cases g:e.length=1
  ·rw[show aC (ag.d (e.length:Int)=ag.d 1)=af from cn (by rw[g];rfl)]
   refine fL (bU (by simp),λD d=>k D _ [] (aF.q d) d ay ?_);unfold cC;rw[az g];exact .nil
  ·rw[show aC (ag.d (e.length:Int)=ag.d 1)=aB from cK λL=>g (by injection L with L;omega)]
   refine eF (_,O,a,_,O,.inr<|fM.j l,_,O,by rw[ax];omega,by rw[ax];omega,λD d=>?_);rw[ax];refine eP<|WS l t d λu v x m y=>k D u v x d m ?_;unfold cC;rw[ap g];exact y
def Be(a:Ξ)(p:List Int):(fy (dO a)<|p.map aQ).isSome=aC (p∈a):=by
 rw[<-sD,uu,wg,iD];unfold dO;constructor
 ·rintro⟨g,b,e⟩
  obtain⟨q,c,rfl⟩:=aP.mp b;have d:=io e;have:q=p:=(CJ (f:=(aQ:Int->aV)) (λx y h=>GV h)).mp d;rw[<-this];exact(pS a q).mp c
 ·intro h
  exact(_,aP.mpr (p,(pS a p).mpr h,O),by simp)
end
section
variable{X:bf}
def nZ(R:X.b=af):js X (.type "list") (λD H Q=>∃a d,D=[.c a]/\iY H a (.c d)/\
  ∀(j:List Y),du (λ(p:List aV×ag) b=>H b=V (.b<|p.1.map dr)) d j->∀l,H l=Z->Q (.c l) (aw H l<|.a<|j.map ag.c)):=by
 intro E s σ H D us Q I r h;obtain⟨a,d,rfl,v,q⟩:=h;obtain⟨u,rfl,S⟩:=iF r;cases S;obtain⟨z,y,f,g,o,k,G,T,U,h3,K,h5⟩:=(show dt X.prog X.w H s.heap a (.c d) from v.j I.a);have L:k.size=d.length:=by
  have:=eW ao K;rw[ax,<-fP g] at this
  simpa using this
 refine PP (Ov (ep:=G) (es:=k) y) (I.b.a R) (o,T,U,h3) (by rw[L];exact z) λh' tk c c' kk e it=>?_;obtain⟨n1,n2⟩:=it;have pb:du (λ(p:List aV×ag) b=>H b=V (.b<|p.1.map dr)) d (f.map (·.2.1)):=by
  have:∀{l:List (List aV×ag)}{m:List (List aV×Y×aa)},jq H l m->du (λ(p:List aV×ag) b=>H b=V (.b<|p.1.map dr)) l (m.map (·.2.1)):=by
   intro l m q
   induction q with
   |nil=>exact .nil
   |cons v t w=>exact .cons v.2.1 w
  exact this g
 have ea:c.toList=(f.map (·.2.1)).map ab:=by
  apply CO;intro i;have M:f.length=c.size:=by rw[n1,L];exact(fP g).symm
  by_cases x:i<c.size
  ·obtain⟨e',A,C⟩:=n2 i c[i] (by simp[x])
   have n:k.toList[i]?=V e':=by simpa using A
   rw[K,cB] at n;have P:f[i]?=V f[i]:=by simp[M,x]
   rw[P] at n;simp only[nB,rZ] at n;simp only[cB,P,nB,jB,IZ x];rw[C,<-n]
   rfl
  ·have A:c.toList.length<=i:=by simp;omega
   have C:((f.map (·.2.1)).map ab).length<=i:=by simp[M];omega
   rw[si A,si C]
 have vv:cw ((f.map (·.2.1)).map ag.c) c.toList:=by
  rw[ea];generalize f.map (·.2.1)=j
  induction j with
  |nil=>exact .nil
  |cons b j w=>exact .cons O w
 refine(.c s⁻¹,_,I.F kk (aW _) (show dt X.prog X.w _ h' _ (.a ((f.map (·.2.1)).map ag.c)) from(?_,c.toList,c',vv,by simpa using e)),O,q _ pb _<|I.a.j<|aW _);simp only[ax];rw[<-fP g];exact z
def KY:∀{l:List (List aV×ag)}{m:List (List aV×Y×aa)}{i:Nat}{a:List aV×ag},jq H l m->l[i]?=V a->∃w,m[i]?=V w/\a.1=w.1/\co a.2 w.2.2
 |_,_,0,_,.cons h _,e=>by cases e;exact(_,O,h.1,h.2.2)
 |_,_,i+1,_,.cons _ t,e=>KY (i:=i) t (by simpa using e)
end
section
variable{X:bf}
noncomputable def xd(d:Y)(o:bA)(a:List (List aV×ag)):iZ:=(λi H=>i<a.length/\H d=V (.d o<|.c a),λi H v e=>e=H/\∃c b,a[i]?=V c/\v=.c b/\H b=V (.b<|c.1.map dr),λi H=>i=a.length/\H d=V (.d o<|.c a))
def Ej:∀{l:List (List aV×ag)}{m:List (List aV×Y×aa)}{i:Nat}{a:List aV×ag},jq H l m->l[i]?=V a->∃w,m[i]?=V w/\H w.2.1=V (.b<|a.1.map dr)
 |_,_,0,_,.cons h _,e=>by cases e;exact(_,O,h.2.1)
 |_,_,i+1,_,.cons _ t,e=>Ej (i:=i) t (by simpa using e)
def Tc{K:aR}(d p:Y){o:bA}{a:List (List aV×ag)}(hx:o.ExactDict)(f:o.data=.dict g u)(r:g.size=a.length):oe P w K tg (xd d o a) [p] p (λi h=>h.IsKeyIter p d i g.size u) where
 f:=by simp
 a:=λi h j b l=>by
  have e:b=p:=by simpa using l
  subst e;obtain⟨o,e,c,dd⟩:=j;exact(o,e,λv z=>by rw[dd] at z;cases z)
 c:=λi h x j k=>by
  obtain⟨o,e,c⟩:=j;exact(o,k p (by simp) o e,c)
 d:=by
  intro X D G L hc i n s σ H E I y j M;subst D G L;obtain⟨R,S,f2,T,U,f5⟩:=y p (by simp);obtain⟨C,hH⟩:=M;obtain⟨g0,z,hs,ys,a0,o',a1,a2,h1,h2,h3,h4,h5⟩:=(show dt X.prog X.w H s.heap d (.d o<|.c a) from I.a d _ hH);obtain rfl:o=o':=cH<|g0.symm.trans h1;have q:=f.symm.trans h3;injection q with q hep
  subst q;have hm:jk s.heap d g u:=(o,g0,hx,f);have m:i<g.size:=by rw[r];exact C
  refine Ox j hm m λx t sb=>?_;have I1:aE X n σ H {s with heap:=x}:=I.S (t':=s.toks) (λb o l e=>(sb.2 b l).trans e) R S T U f5;obtain⟨oi,e1,e2,e3⟩:=id t;have ek:a[i]?=V a[i]:=dq C;obtain⟨w',ew,l⟩:=Ej a0 ek;have g3:g.toList[i]?=V g[i]:=by simp[m]
  rw[h4,cB,ew] at g3;simp only[nB,rZ] at g3;have gk:g[i].key=.ref w'.2.1:=by rw[<-g3];rfl
  exact(_,O,uR (s:={s with heap:=x}) e1 e2 e3 ξ (.c w'.2.1,H,I1,by rw[gk];rfl,(O,_,_,ek,O,l),t,λb l=>(y b l).1))
 done:=by
  intro X D G L hc i n s σ H E I y j M;subst D G L;obtain⟨R,S,f2,T,U,f5⟩:=y p (by simp);obtain⟨C,hH⟩:=M;have hm:jk s.heap d g u:=(o,(show dt X.prog X.w H s.heap d (.d o<|.c a) from I.a d _ hH).1,hx,f);have m:i=g.size:=by rw[r];exact C
  subst m;exact done (I.b.a hc) j hm λx eb=>(O,I.S (t':=s.toks) (λb o l e=>eb b o l e) R S T U f5)
 e:=λA i s Q E j h=>aa1 j h
def UW(f:a_):ji:=λg H R=>f g H λx e=>∃d a,x=.c d/\iY e d (.c a)/\∀o c,c d=V (.d o<|.c a)->(∀b,b≠d->c b=e b)->R (xd d o a) c
def Ua{S:a_}(hl:bJ X l S):jp X Q l (UW S):=by
 intro c s y H R I h;refine bM (hl c s y H _ I h) λv f (x,m,A,r1,q1)=>?_;obtain⟨d,a,e,g,q⟩:=q1;subst e;cases r1;have T:∀(o:bA)(i:ae),aE X c y i f->i d=V (.d o<|.c a)->(∀b,b≠d->i b=m b)->aA (aH X.prog X.w) X.A (pC<|.ref d) (Ez X c y Q R) X.a f:=by
  intro o i r n p;obtain⟨g0,z,C,D,j,o',t,E,k,u,w,G,U⟩:=(show dt X.prog X.w i f.heap d (.d o<|.c a) from r.a d _ n);obtain rfl:o=o':=cH<|g0.symm.trans k;have K:t.size=a.length:=by
   have:=eW ao G;rw[ax,<-fP j] at this
   simpa using this
  have hm:jk f.heap d t E:=(o,k,u,w);refine Ow C hm ?_;have L:i f⁻¹=Z:=r.a.j<|aW _;refine(f⁻¹,[f⁻¹],_,_,_,O,r.B (t':=f.toks) λb o e=>cx _ e,Tc d _ u w K,(_,dF _ O,O,O),λb M=>?_,q o i n p);have e:b=f⁻¹:=by simpa using M
  subst e;exact r.M (aW _) L
 rcases g with g|⟨o,g⟩
 ·obtain⟨z,C,D,j,o,t,E,k,u,w,G,U⟩:=(show dt X.prog X.w m f.heap d (.c a) from A.a d _ g)
  have P:jq (aw m d<|.d o<|.c a) a D:=jq.j j λb zs e=>by rw[bG (λzz=>by rw[zz,g] at e;cases e)];exact e
  exact T o (aw m d<|.d o<|.c a) (wV (ob:=.d o<|.c a) (t':=f.toks) A (by rw[g];exact vM) (HC _ _) (o,k) (k,z,C,D,P,o,t,E,k,u,w,G,U)) ay λb M=>bG M
 ·exact T o m A g λ_ _=>O
def Vf{a:List (List aV×ag)}{g:gj}{s:gi}{D:og}(f:Nat->aO->ae->Prop)(u:f 0 c H)(v:∀i c H,i<=a.length->f i c H->H d=V (.d o<|.c a))(w:∀i n b c H,a[i]?=V n->H b=V (.b<|n.1.map dr)->f i c H->g (.c b) c H λh r=>s {D with a:=f<|i+1,b:=f<|i+1,c:=D.a} h r)(z:∀c H,f a.length c H->D.a c H):∃I:Nat->Nat->aO->ae->Prop,(∃m,I 0 m c H)/\∀i m c H,I i m c H->
   ((xd d o a).b i H/\D.a c H)\/((xd d o a).a i H/\∃K:aO->ae->Prop,(∀j k,K j k->∃t,t<m/\I (i+1) t j k)/\∀x k,(xd d o a).c i H x k->g x c k λh r=>s {D with a:=K,b:=K,c:=D.a} h r):=by
 refine(λi m c H=>m=a.length-i/\i<=a.length/\f i c H,(a.length,by simp,eM _,u),?_);rintro i m c H ⟨rfl,A,p⟩;have q:=v i c H A p
 by_cases l:i<a.length
 ·refine .inr ((l,q),f<|i+1,λj k C=>(a.length-(i+1),ω,O,l,C),λx k y=>?_)
  obtain⟨e,n,b,E,rfl,G⟩:=y;subst e;exact w i n b c _ E G p
 ·have:i=a.length:=ω
  subst this;exact .inl ((O,q),z c H p)
end
def iY.q{H b:ae}(r:iY H a u)(s:aF H b):iY b a u:=by
 rcases r with r|⟨o,r⟩
 ·exact .inl<|s _ _ r
 ·exact .inr (o,s _ _ r)
def pq(h:aT)(e d:Y)(i n f:Nat):Prop:=∃(c:aa)(b:Bool)(k v:aa),(c=.none\/∃a:Y,c=iy a)/\
 h.get? e=V {cls:=.type "dict_itemiterator",dict:=Z,data:=.fields #[c,.bool b,.ref d,.int i 0,.int n 0,.int f 0,k,v],slots:=#[]}
noncomputable def pq.j{h c:aT}{i n f:Nat}(x:pq h a d i n f)(k:∀o,h.get? a=V o->c.get? a=V o):pq c a d i n f:=by
 obtain⟨g,b,j,l,m,e⟩:=x;exact(g,b,j,l,m,k _ e)
section
variable{prog:bw}{w:aX}{A:bY}{E:Ω}{s:ak}{it d v:Y}{i ep:Nat}{es:Array oD}
def ε{Q:Option bA->ak->Prop}(h:Q (s.heap.get? a) s):aA (aH prog w) A (loadIfAlive a) Q E s:=λ_ _ _=>h
def θ{Q:Ω}(c:s.heap.IsItemsView v d)(h:jk s.heap d es ep)(i:Q (.ref s⁻¹) {s with heap:=s.heap.push {cls:=.type "dict_itemiterator",data:=.fields #[.none,.bool aB,.ref d,.int 0 0,.int es.size 0,.int ep 0,.none,.none]}}):aA (aH prog w) A (pC<|.ref v) Q E s:=by
 obtain⟨k,e,j,f⟩:=id c;obtain⟨o,g,l,a⟩:=id h;refine Pc c.typeIs acn<|lC acn c.typeIs PySem.F.entry_dict_items_iter ?_<|PySem.F.args_dict_items_iter_1 _;unfold Builtin.«dict_items.__iter__»;refine aj<|aI ?_;refine aj ?_;unfold aha;refine aj<|jv e f (x:=.ref d) O<|aI ?_;refine aj ?_;unfold ag9;refine aj<|np g a ?_;refine aj<|tM g a ?_;have b:Cu "dict_itemiterator"=af:=ξ
 simp only[b,dU];refine no (aI (_,O,"dict_itemiterator",_,(_,dF _ O,O),yK.lookup,?_))
  (by simp only[sizeOk,adk,cT,ck,cO,mF,kM];omega)
 simpa[iy,adk] using i
def ι{Q:Option aa->ak->Prop}(G:pq s.heap it d i es.size ep)(hm:jk s.heap d es ep)(hx:i<es.size)(hQ:∀H,pq H it d (i+1) es.size ep->H.get? s⁻¹=V {cls:=.type "tuple",data:=.seq #[es[i].key,es[i].val]}->
   (∀b o,b≠it->s.heap.get? b=V o->H.get? b=V o)->Q (V<|.ref s⁻¹) {s with heap:=H}):aA (aH prog w) A (kd<|.ref it) Q E s:=by
 obtain⟨D,g,T,U,X⟩:=s;obtain⟨f0,fb,ok,ov,a5,G⟩:=G;obtain⟨od,a2,a7,a3⟩:=id hm;have hT:yC (D,g,T,U,X) (.ref it) "dict_itemiterator":=(_,G,O);unfold kd;refine aj (tN (pB (name:=kf "__next__") hT yK
 <|lC yK hT acz ?_<|ac4 _))
 refine aj<|aI ?_;refine aj ?_;refine aj ?_
 first|refine aj<|GX hT<|aI ?_|refine wpAny_bind<|wpAny_typeNameOf_itemiter hT<|wpAny_pure ?_
 refine aj<|Hb G O ?_;have a4:Cu "dict_itemiterator"=af:=ξ
 simp only[a4,dU];show aA _ _ (if(ab d==cA)=af then _ else _) _ _ _;rw[ap<|show ¬((ab d==cA)=af) from dT];refine aj<|aI ?_;refine aj<|np a2 a3 ?_;rw[ap (by simp)];refine aj<|aI ?_;refine aj<|tM a2 a3 ?_;rw[ap (by simp)];refine aI ?_;simp only[show ¬((i:Int)<0) from ω,dc,su,IZ hx];refine aj ?_
 first|refine aj<|GX hT<|aI ?_|refine wpAny_bind<|wpAny_typeNameOf_itemiter hT<|wpAny_pure ?_
 refine aj<|Pd hT ?_;show aA _ _ (rM (.ref it) 3 (iy<|(i:Int)+1) >>= _) _ _ (D,g,T,U,X);refine aj<|nj G (by simp) λh k l=>?_;replace l:jc it D h:=l;replace k:h.get? it=V {cls:=.type "dict_itemiterator",dict:=Z,data:=.fields #[f0,.bool fb,.ref d,.int ((i+1:Nat):Int) 0,.int es.size 0,.int ep 0,ok,ov],slots:=#[]}:=by
  have e:((i+1:Nat):Int)=(i:Int)+1:=ω
  rw[e];simpa[iy] using k
 have r:yC (h,g,T,U,X) (.ref it) "dict_itemiterator":=(_,k,O);refine aj<|il ?_;refine aj<|Pd r ?_;refine aj<|Pd r ?_;show aA _ _ (adi (.ref it) 6 es[i].key es[i].val) _ _ (h,g,T,U,X);unfold adi;refine aj<|G_ ?_;have f:(h.push {cls:=.type "tuple",data:=.seq #[es[i].key,es[i].val]}).get? it=V {cls:=.type "dict_itemiterator",dict:=Z,data:=.fields #[f0,.bool fb,.ref d,.int ((i+1:Nat):Int) 0,.int es.size 0,.int ep 0,ok,ov],slots:=#[]}:=cx _ k;generalize t:h.push {cls:=.type "tuple",data:=.seq #[es[i].key,es[i].val]}=j at f;have u:h.objs.size=D.objs.size:=l.1;have I:it<D.objs.size:=cR G;have v:j.get? D.objs.size=V {cls:=.type "tuple",data:=.seq #[es[i].key,es[i].val]}:=by rw[<-t,<-u];exact dF _ O
 have y:∀b o,b≠it->D.get? b=V o->j.get? b=V o:=λb o L e=>by rw[<-t];exact cx _<|l.extBut b o L e
 show aA _ _ (adj (.ref it) >>= _) _ _ (j,g,T,U,X);rw[u];clear t k l r u h;have M:∀(E':Ω)(R:Ω),(∀H,pq H it d (i+1) es.size ep->H.get? D.objs.size=V {cls:=.type "tuple",data:=.seq #[es[i].key,es[i].val]}->
   (∀b o,b≠it->D.get? b=V o->H.get? b=V o)->R (.ref D.objs.size) (H,g,T,U,X))->aA (aH prog w) A.in1 (do
    let a6:=[<-qE (.ref it) 6,<-qE (.ref it) (6+1)]
    rM (.ref it) 6 es[i].key;rM (.ref it) (6+1) es[i].val
    rM (.ref it) 0 (iy D.objs.size);rM (.ref it) 1 (.bool aB)
    letGo a6 [.ref D.objs.size]
    return .ref D.objs.size) R E' (j,g,T,U,X):=by
  intro E' R hR;refine aj<|jv f O (x:=ok) O ?_;refine aj<|jv f O (x:=ov) O ?_;refine aj<|nj f (by simp) λq z c=>?_;replace c:jc it j q:=c;refine aj<|nj z (by simp) λP a0 m=>?_;replace m:jc it q P:=m;refine aj<|nj a0 (by simp) λS a1 n=>?_;replace n:jc it P S:=n;refine aj<|nj a1 (by simp) λK C p=>?_;replace p:jc it S K:=p;replace C:K.get? it=V {cls:=.type "dict_itemiterator",dict:=Z,data:=.fields #[iy D.objs.size,.bool aB,.ref d,.int ((i+1:Nat):Int) 0,.int es.size 0,.int ep 0,es[i].key,es[i].val],slots:=#[]}:=C;refine aj<|mw<|aI<|hR K (_,_,_,_,.inr (_,O),C) ?_ ?_
  ·exact p.extBut _ _ (lL I)<|n.extBut _ _ (lL I)<|m.extBut _ _ (lL I)<|c.extBut _ _ (lL I) v
  ·exact λb o L e=>p.extBut b o L<|n.extBut b o L<|m.extBut b o L<|c.extBut b o L<|y b o L e
 refine aj ?_;unfold adj;refine aj<|jv f O (x:=f0) O ?_;rcases a5 with rfl|⟨a,rfl⟩
 ·refine aI ?_
  simp only[dU];exact M _ _ λH x1 x2 x3=>aI (_,O,aI<|hQ H x1 x2 x3)
 ·dsimp only[iy]
  refine aj<|ε ?_;cases a8:j.get? ((a:Int)).toNat with
  |none=>
   simp only[Option.isNone_none,dU];refine aI ?_;simp only[dU];exact M _ _ λH x1 x2 x3=>aI (_,O,aI<|hQ H x1 x2 x3)
  |some oa=>
   simp only[Option.isNone_some,dD,dc];refine aj<|jv f O (x:=.bool fb) O ?_;refine aa4 (λ_=>?_) (λ_=>?_)
   ·refine aj<|nj f (by simp) λq z c=>?_
    replace c:jc it j q:=c;refine aI ?_;simp only[dD,dc];refine aI<|aI (_,O,aI<|hQ q (_,_,_,_,.inr (a,O),z) ?_ ?_)
    ·exact c.extBut _ _ (lL I) v
    ·exact λb o L e=>c.extBut b o L<|y b o L e
   ·refine aI ?_
    simp only[dD,dc];exact aI<|aI (_,O,aI<|hQ j (_,_,_,_,.inr (a,O),f) v y)
def π{Q:Option aa->ak->Prop}(j:A.handled=Z)(c:pq s.heap it d es.size es.size ep)(k:jk s.heap d es ep)(l:∀i,PZ it s.heap i->Q Z {s with heap:=i}):aA (aH prog w) A (kd<|.ref it) Q E s:=by
 obtain⟨p,q,r,t,n,c⟩:=c;obtain⟨u,f,o,g⟩:=id k;have e:s.TypeIs (.ref it) "dict_itemiterator":=(_,c,O);unfold kd;refine aj (tN (pB (name:=kf "__next__") e yK
 <|lC yK e acz ?_<|ac4 _))
 refine aj<|aI ?_;refine aj ?_;refine aj ?_
 first|refine aj<|GX e<|aI ?_|refine wpAny_bind<|wpAny_typeNameOf_itemiter e<|wpAny_pure ?_
 refine aj<|Hb c O ?_;have h:Cu "dict_itemiterator"=af:=ξ
 simp only[h,dU];show aA _ _ (if(ab d==cA)=af then _ else _) _ _ s;rw[ap<|show ¬((ab d==cA)=af) from dT];refine aj<|aI ?_;refine aj<|np f g ?_;rw[ap (by simp)];refine aj<|aI ?_;refine aj<|tM f g ?_;rw[ap (by simp)];refine aI ?_;simp only[show ¬((es.size:Int)<0) from ω,dc,su,Rg (aW es.size)];refine aj ?_
 first|refine aj<|GX e<|aI ?_|refine wpAny_bind<|wpAny_typeNameOf_itemiter e<|wpAny_pure ?_
 show aA _ _ (rM (.ref it) 2 .none >>= _) _ _ s;refine aj<|BF c O (by simp) ?_;show aA _ _ (yu (.type "StopIteration") [] >>= _) _ _ _;refine aj ?_;simp only[yu,Pu];refine aj<|no ?_ (by size_fits);refine aj (m:=Pz _ _)<|pA (a:=cA) (by first|rfl|(simp only[firstArgMember];rfl)) ?_;refine no ?_ (by size_fits);simp only[Po];refine aj<|Pe ?_;rw[show A.in1.handled=Z from j];refine aj<|aI<|O_ ?_;refine aj<|Ha (T:="StopIteration") (b:=af) (_,dF _ O,O) Pw ?_;exact aI<|l _<|((mC ..).extBut.push _).push _
end
section
variable{X:bf}
noncomputable def wQ(v d:Y):dh:=.i λh=>h.IsItemsView v d
inductive DU(x:ag)(vs:List ag)(H:ae)(Q:aS):Prop
 |a:∀d kvs,(x=.c d)->(vs=[])->(iY H d<|.c kvs)->(∀v,H v=Z->Q (.c v) (aw H v<|wQ v d))->DU x vs H Q
def Uy:EB X "dict.items" DU:=by
 intro f s w H x y v C Q I j l h;obtain⟨d,e,rfl,rfl,m,q⟩:=h;cases j;obtain rfl:=l.W;obtain⟨z,n,D,r,o,E,G,g,i,K,L,M⟩:=(show dt X.prog X.w H s.heap d (.c e) from m.j I.a);have a:s.TypeIs (.ref d) "dict":=(o,g,i.1);have t:MeetsIn X.prog X.w (Builtin.«dict.items» ([.ref d],[])) (λ_ R s=>s.TypeIs (.ref d) "dict"/\R (.ok<|.ret<|.ref s⁻¹) {s with heap:=s.heap.push {cls:=.type "dict_items",data:=.fields #[.ref d]}}):=
  .of_wp λA R s (a,h)=>by
   unfold Builtin.«dict.items»;refine aj ?_;unfold ahe;refine aj<|GZ a ?_;show aA _ _ (aU d) _ _ s;refine aI ?_;show aA _ _ (yM d >>= _) _ _ s;unfold yM;rw[ap (by rw[n];exact dT)];refine aj<|aI ?_;exact aj<|no<|aI (_,O,h)
 refine Ho aco a PySem.F.entry_dict_items (PySem.F.args_dict_items_1 _) t (a,?_);refine(.c s⁻¹,_,I.F (t':=s.toks) (o:=wQ s⁻¹ d) (λb P q=>cx _ q) (aW _) ?_,O,q _<|I.a.j<|aW _);refine((_,dF _ O,O,O),(_,dF _ O),λg i p k=>?_);obtain⟨o,u,c⟩:=p;exact(o,k o u,c)
def Tq(a:a_):a_:=λb H Q=>a b H λx c=>DU x [] c Q
def Ug{k:a_}{b c:cD}(u:bJ X o k)(g:BR o "items" X.env (dC o X.env)=dC o X.env:=by rfl)(i:(b.endLine==c.line)=af:=by rfl):bJ X (.Call (.Attribute o "items" b) [] [] c) (Tq k):=by
 intro f s l H Q I h;refine abe g i<|bM (u f s l H _ I h) λv m (x,n,p,w,q)=>?_;have y:=q;obtain⟨d,j,rfl,_,A,_⟩:=q;cases w;obtain⟨_,_,_,_,r,_,_,e,t,_⟩:=(show dt X.prog X.w n m.heap d (.c j) from A.j p.a);exact("dict","dict.items",acs,aco,PySem.F.type_dict_items,(r,e,t.1),(λa z=>by cases z;exact(r,e,t.2.1)),HK O<|abq<|Uy f m l n (.c d) [] (.ref d) [] Q p O .nil y)
end
abbrev oY:Type:=List Int×List Int
def ig(H:ae)(t:Y)(x:oY):Prop:=∃a b,H t=V (.b [.c a,.c b])/\cM H a x.1/\cM H b x.2
def dm(H:ae)(a:List Y)(b:List oY):Prop:=du (ig H) a b
noncomputable def ig.j{t:Y}(h:ig H t x)(s:aF H c):ig c t x:=let ⟨a,b,e,p,q⟩:=h;(a,b,s _ _ e,s.B p,s.B q)
noncomputable def dm.j{b:List Y}(h:dm H b c)(s:aF H a):dm a b c:=gf h λ_ _ q=>q.j s
def dm.q{b:List oY}(h:dm H a b):a.length=b.length:=fP h
def ig.q{d t:Y}{o i:dh}(h:ig H t x)(k:H d=V i)(l:∀m,i≠.b m):ig (aw H d o) t x:=by
 obtain⟨a,b,e,p,q⟩:=h;have f:∀{c:Y}{g:List ag},H c=V (.b g)->aw H d o c=V (.b g):=λ{c g} j=>by rw[bG<|ir j k λz=>l _ z.symm];exact j
 exact(a,b,f e,f<|show H a=V _ from p,f<|show H b=V _ from q)
def dm.J{o b:dh}(h:dm H c a)(e:H d=V b)(f:∀a,b≠.b a):dm (aw H d o) c a:=gf h λ_ _ q=>q.q e f
noncomputable def dm.F{b:List oY}{t:Y}(h:dm H a b)(q:ig H t x):dm H (a++[t]) (b++[x]):=tZ h q
noncomputable def dm.B:∀{a:List Y}{b:List oY}{i:Nat}{t:Y},dm H a b->a[i]?=V t->∃x,b[i]?=V x/\ig H t x
 |_,_,0,_,.cons h _,e=>by cases e;exact(_,O,h)
 |_,_,i+1,_,.cons _ t,e=>dm.B (i:=i) t (by simpa using e)
abbrev A_(K:aR):List ag->ae->aS->Prop:=wG K
section
variable{P:bw}{w:aX}{K:aR}{mg:au->Option aa}{base:aT}
def FB{q:List Y}{l:Ξ}{Q:aS}{p:List Int->Bool}{u:eG}{c:List (Option ag)}(s:∀(o:Y)(i:List Int)(H:ae)(R:Bool->ae->Prop),aF g H->cM H o i->i∈l->(∀w,aF H w->R (p i) w)->u (V (.c o)::c) H R)(M:bP K g L (q.map ag.c))(y:bC g q l)(X:l.length<=1000)(A:g D=Z)(k:∀b e,aF g b->b D=V (.a<|e.map ag.c)->bC b e (l.filter p)->Q (.c D) b):dY (gY K L) (dk 0) u (bH 0) (Z::c) g D Q:=by
 have t:=y.j;refine jh (xs:=q.map ag.c) (λj r m b=>∃(v:Option ag)(e:List Y),r=v::c/\aF g b/\b D=V (.a m)/\m=e.map ag.c/\bC b e ((l.take j).filter p)) ?_ ?_ ?_ ?_
 ·exact(Z,[],O,aF.q A,ay,O,.nil)
 ·rintro j r m b ⟨v,e,rfl,f,d,rfl,_⟩
  exact f.N M
 ·rintro j r m b x P C E ⟨v,e,rfl,f,d,rfl,n⟩
  obtain⟨o,S,rfl⟩:=dM P;obtain⟨i,h,G⟩:=y.q S;have T:(q.map ag.c).length<=bQ:=by rw[ax];exact bU ω
  refine s o i b _ f (f.B G) (dp h) λH4 a=>?_;cases I:p i
  ·refine eF<|qd C E (_,e,O,f.j a,a _ _ d,O,?_)
   rw[cq h,kT,pN (by rw[I];simp),zf,jm];exact a.J n
  ·refine fL (_,O,fz T C E (a _ _ d) (_,e++[o],O,(f.j a).F A,ay,by rw[bT];rfl,?_))
   rw[cq h,kT,pM I];exact kb (bC.B (a.J n)<|(f.j a).B G) (a _ _ d) (by intro U z;cases z)
 ·rintro r m b ⟨v,e,rfl,f,d,rfl,n⟩
  rw[ax,t,e_<|aW _] at n;exact k b e f d n
end
abbrev aM:=List Int×List Int
noncomputable def i'(x y:aM):Bool:=aC (y.1≠x.1)&&aC (y.1∈cC x.2)
def tF:i' x y=af↔y.1≠x.1/\y.1∈cC x.2:=by unfold i';rw[kW,iD,iD]
def By(A:List aM):Prop:=∀x∈A,∃y∈A,i' x y=af
def gz(l:List aM):Prop:=∀A:List aM,(∀x∈A,x∈l)->By A->A=[]
def tH{l m:List aM}(h:gz m)(a:∀x∈l,x∈m):gz l:=λA b c=>h A (λx d=>a x<|b x d) c
def Oo:gz []:=λA b _=>by
 cases A with
 |nil=>rfl
 |cons a r=>exact bu (b a dQ) (by simp)
noncomputable def mZ(l:List aM):List aM:=l.filter λx=>l.any<|i' x
def ya{x:aM}:x∈mZ l↔x∈l/\∃y∈l,i' x y=af:=by unfold mZ;rw[fA,wg]
def Zx{l A:List aM}(a:∀x∈A,x∈l)(c:By A):∀x∈A,x∈mZ l:=λx b=>by
 obtain⟨y,d,e⟩:=c x b;exact ya.mpr (a x b,y,a y d,e)
def Zy(h:(mZ l).length=l.length):By l:=λx a=>by
 have e:mZ l=l:=um.eq_of_length h;rw[<-e] at a;exact(ya.mp a).2
def ZQ:gz (mZ l)↔gz l:=
 (λh A b a=>h A (Zx b a) a,λh=>tH h λx c=>(ya.mp c).1)
def ZF(h:(mZ l).length=l.length):l=[]↔gz l:=
 (λe=>by rw[e];exact Oo,λa=>a l (λ_ b=>b)<|Zy h)
def Bx(a:List aM):Prop:=a≠[]/\∀i x,a[i]?=V x->∃y,a[(i+1)%a.length]?=V y/\i' x y=af
def ZA(h:Bx a):By a:=λx b=>by
 obtain⟨i,e⟩:=mD.mp b;obtain⟨y,c,d⟩:=h.2 i x e;exact(y,dp c,d)
def Oc{l b:List aM}(h:Bx b)(c:∀x∈b,x∈l):¬gz l:=λa=>h.1<|a b c<|ZA h
def ZR{l R:List aM}{z:aM}(h:gz l)(hR:∀x∈z::R,∀y∈z::l,i' x y=af->y≠z/\y∈R)(f:∀x∈R,x∈l):gz (l++[z]):=λA j k=>by
 have d:∀x∈A,(x=z\/x∈R)->∃y∈A,y∈R/\i' x y=af:=λx a m=>by
  obtain⟨y,c,e⟩:=k x a;have g:y∈z::l:=by
   rcases cy.mp (j y c) with h|h
   ·exact eV _ h
   ·rw[cJ.mp h];exact dQ
  have:=hR x (m.elim (λe=>by rw[e];exact dQ)<|eV _) y g e;exact(y,c,this.2,e)
 have n:(A.filter λx=>aC<|x∈R)=[]:=by
  refine h _ (λx a=>f x<|io (fA.mp a).2) λx a=>?_;obtain⟨o,p⟩:=fA.mp a;obtain⟨y,c,b,e⟩:=d x o<|.inr<|io p;exact(y,fA.mpr (c,cn b),e)
 have i:z∉A:=λi=>by
  obtain⟨y,c,b,_⟩:=d z i<|.inl O;have:y∈(A.filter λx=>aC<|x∈R):=fA.mpr (c,cn b);rw[n] at this;cases this
 refine h A (λx a=>?_) k;rcases cy.mp (j x a) with h|h
 ·exact h
 ·rw[cJ.mp h] at a;exact bu a i
noncomputable abbrev tu:cN:=eI 30
noncomputable abbrev xG:cN:=eI 29
def tD(H:ae)(a:List aV×ag)(x:aM):Prop:=a.1=x.1.map aQ/\∃b,a.2=.c b/\cM H b x.2
def mX(H:ae)(d:Y)(b:List aM):Prop:=∃a,H d=V (.c a)/\du (tD H) a b
noncomputable def mX.j(h:mX H d f)(s:aF H c):mX c d f:=let ⟨a,e,p⟩:=h;(a,s _ _ e,gf p λ_ _ (g,b,i,j)=>(g,b,i,s.B j))
def mX.q(h:mX H d c)(j:H e=V f)(k:∀l,f≠.b l)(m:d≠e):mX (aw H e o) d c:=let ⟨a,n,p⟩:=h;(a,by rw[bG m];exact n,gf p λ_ _ (q,b,r,g)=>(q,b,r,by
 show aw H e o b=_;rw[bG (λz=>by subst z;have i:H b=V _:=g;rw[j] at i;cases i;exact k _ O)];exact g))
def xq:∀{a:List (List aV×ag)}{d:List aM},du (tD H) a d->∀p:List Int,(fy a (p.map aQ)=Z/\p∉d.map (·.1))\/∃b q,fy a (p.map aQ)=V (.c b)/\(abd p q)∈d/\cM H b q
 |_,_,.nil,p=>.inl (O,by simp)
 |i::a,x::d,.cons (h,b,j,k) t,p=>by
  by_cases e:x.1=p
  ·refine .inr (b,x.2,?_,?_,k)
   ·rw[sC (by rw[h,e]),j]
   ·rw[<-e];exact dQ
  ·have c:¬i.1=p.map aQ:=λz=>e<|jZ.mp<|h.symm.trans z
   rcases xq t p with ⟨f,g⟩|⟨l,q,f,g,m⟩
   ·refine .inl (by rw[pT c];exact f,?_)
    rw[cI,bZ];rintro(z|z)
    ·exact e z.symm
    ·exact g z
   ·exact .inr (l,q,by rw[pT c];exact f,eV _ g,m)
def MP(h:du (tD H) a d){x:aM}{b:Y}(e:x.1∉d.map (·.1))(f:cM H b x.2):∃c,fB a (x.1.map aQ) (.c b)=c/\du (tD H) c (d++[x])/\c.length=a.length+1:=by
 have i:fy a (x.1.map aQ)=Z:=by
  rcases xq h x.1 with ⟨g,_⟩|⟨m,q,_,j,_⟩
  ·exact g
  ·exact bu (aP.mpr (_,j,O)) e
 refine(_,DY _ i,?_,by rw[ck];rfl);have k:∀{a:List (List aV×ag)}{d:List aM},du (tD H) a d->du (tD H) (a++[(abd (x.1.map aQ) (.c b))]) (d++[x]):=λ{a d} h=>by
  induction h with
  |nil=>exact .cons (O,b,O,f) .nil
  |cons r t l=>exact .cons r l
 exact k h
abbrev Wa(K:aR):eG:=mN<|eB (wI af K) (bH 0)<|eB (rf K) (bH 1)<|gW<|.d 0
section
variable{P:bw}{w:aX}{K:aR}{mg:au->Option aa}{base:aT}
noncomputable abbrev iw(x:aM):Ξ:=(cC x.2).filter λr=>!aC (r=x.1)
inductive xo(vs:List ag)(H:ae)(Q:aS)(E':cZ):Prop
 |a:∀t x,(vs=[.c t])->(ig H t x)->(x.2.length<=5)->(∀D H' bs,aF H H'->H D=Z->H' D=V (.a<|am ag.c bs)->bC H' bs (iw x)->Q (.c D) H')->xo vs H Q E'
def Wy:dK ["pair"] ["pair"] (b_ tu):=(O,O,O,δ,O,δ,δ)
def XE{f n:Y}(F:bN K "other_rims" "other_rims" tu f z)(a1:eY mg)(G:bN K "rims_of" "rims_of" rB n e)(X:cQ K e ["piece"] [])(mr:mg "rims_of"=V (.ref n)):bO P w K mg base bv 2 f z ["pair"] xo:=by
 have Gr:bO P w K mg base bv 1 n e ["piece"] vg:=Ba G a1;refine F.j Wy (λvs H Q E h=>?_) (λa0 A q s H vs Q E I h=>?_)
 ·obtain⟨t,x,rfl,_⟩:=h;rfl
 ·obtain⟨t,x,rfl,⟨a,b,L,ha,hb⟩,h5,k⟩:=h
  have g:=I.units;refine(_,bF (cY (ff ["pair"] ["rim","pair"] [Z,V 0] (dy<|dj Gr I O mr G.a X .nil cv<|aq (eX jf (ai 0) bg (λ_ _=>O)) aD) (λM C c d S=>ca (i:=0) (dX ["rim","pair"]) O<|ah O)
   (λM C c d S=>mO<|dW (Ec g) (ai 0) (eX jf (ai 1) bg (λ_ _=>O))<|dI _) (λM C c d S=>ai 0) (hfr:=gD (b_ tu) δ) (tc:=Wa K))),?_)
  refine(_,O,t,_,_,_,O,O,fM.j L,ge (j:=1) O,b,x.2,O,hb,h5,λRL H1 rs m _ l u=>(RL,O,(_,bP.j l),λD T=>?_));refine eP<|FB (p:=λr=>!aC (r=x.1)) (λo os H' R U ho _ hR=>(_,O,_,O,t,_,_,_,O,O,fM.j<|(m.j U) _ _ L,ge (j:=0) O,.inl (o,a,os,x.1,O,O,ho,(m.j U).B ha,_,O,?_))) (bP.j l) u (dg (m_ _) ω) T λH3 bs s3 v y=>k D H3 bs (m.j s3) (m.M T) v y;rw[az O];exact hR H'<|aF.S _
end
structure rH(z:aM)(R cs:List aM):Prop where
 c:∃r,cs=z::r
 d:∀(i:Nat)(x y:aM),cs[i]?=V x->cs[i+1]?=V y->i' x y=af
 b:cs.Nodup
 a:∀x∈cs,x=z\/x∈R
noncomputable def rH.j{R a b:List aM}(h:rH z R b)(c:∀x∈R,x∈a):rH z a b:=(h.c,h.d,h.b,λx d=>(h.a x d).imp id<|c x)
structure xY(ps:List aM)(z:aM)(R:List aM)(css:List (List aM)):Prop where
 a:∀y∈R,y∈ps
 b:(R.map (·.1)).Nodup
 c:∀cs∈css,rH z R cs
noncomputable def xY.j{a R:List aM}{b:List (List aM)}(h:xY a z R b):R.length<=a.length:=by
 have:=h.b.length_le_of_subset (l₂:=a.map (·.1)) λx c=>by
  obtain⟨y,d,rfl⟩:=aP.mp c;exact aP.mpr (y,h.a y d,O)
 rw[ax,ax] at this;exact this
def vD(a:List aM)(z:aM)(R:List aM)(x:aM):Prop:=∀r∈iw x,r≠z.1/\(r∈a.map (·.1)->r∈R.map (·.1))
noncomputable def vD.j{a R b:List aM}(h:vD a z R x)(d:∀y∈R,y∈b):vD a z b x:=λr c=>((h r c).1,λf=>by
 obtain⟨y,g,e⟩:=aP.mp<|(h r c).2 f;exact aP.mpr (y,d y g,e))
def qi{r:List Int}:r∈iw x↔r∈cC x.2/\r≠x.1:=by
 show r∈(cC x.2).filter _↔_;rw[fA,Rb,decide_eq_false_iff_not]
def Yf{f L:List aM}{z:aM}(u:(f.map (·.1)).Nodup)(g:gz f)(q:∀y∈L,y∈f)(v:∀x∈z::L,vD f z L x):gz (f++[z]):=by
 refine ZR g (R:=L) (λx w y A e=>?_) q;obtain⟨C,D⟩:=tF.mp e;obtain⟨E,G⟩:=v x w y.1<|qi.mpr (D,C);have i:y≠z:=λH=>E (by rw[H]);refine(i,?_);have j:y∈f:=(bZ.mp A).resolve_left i;obtain⟨n,k,I⟩:=aP.mp<|G<|aP.mpr (y,j,O);have:n=y:=by
  have o:∀{l:List aM},(l.map (·.1)).Nodup->∀a∈l,∀b∈l,a.1=b.1->a=b:=λ{l}=>by
   induction l with
   |nil=>intro _ a g;cases g
   |cons c r K=>
    intro h a g b s e;rw[cI,jA] at h;rcases bZ.mp g with t|m
    ·rcases bZ.mp s with p|d
     ·rw[t,p]
     ·exact bu (aP.mpr (b,d,by rw[<-e,t])) h.1
    ·rcases bZ.mp s with p|d
     ·exact bu (aP.mpr (a,m,by rw[e,p])) h.1
     ·exact K h.2 a m b d e
  exact o u n (q n k) y j I
 rw[<-this];exact k
def Xh{z x:aM}{R b:List aM}(h:rH z R (b++[x]))(c:i' x z=af):Bx (b++[x]):=by
 refine(by simp,λi y e=>?_);have d:=(cr.mp e).1;rw[ck,kR] at d
 by_cases f:i=b.length
 ·subst f
  rw[qN<|aW _,yT] at e;cases e;obtain⟨r,g⟩:=h.c;refine(z,?_,c);rw[ck,kR,Nat.mod_self,g]
  rfl
 ·have a:i+1<(b++[x]).length:=by rw[ck,kR];omega
  refine((b++[x])[i+1],?_,h.d i y _ e<|dq a);rw[Nat.mod_eq_of_lt a];exact dq a
def Xi{z x y:aM}{R g:List aM}(h:rH z R (g++[x]))(k:i' x y=af)(l:y≠z)(m:y∉R):rH z (R++[y]) (g++[x]++[y]):=by
 refine(?_,λi a b d f=>?_,?_,λa c=>?_)
 ·obtain⟨r,n⟩:=h.c
  exact(r++[y],by rw[n];rfl)
 ·have o:=(cr.mp f).1
  rw[ck,kR] at o
  by_cases j:i+1=(g++[x]).length
  ·rw[qN ω,j,yT] at f
   cases f;rw[sj ω] at d;have:i=g.length:=by rw[ck,kR] at j;omega
   subst this;rw[qN<|aW _,yT] at d;cases d;exact k
  ·rw[sj ω] at d f
   exact h.d i a b d f
 ·rw[iS]
  refine(h.b,by simp,λa c b p e=>?_);rw[cJ.mp p] at e;subst e;exact(h.a a c).elim l m
 ·rcases cy.mp c with c|c
  ·exact(h.a a c).imp id<|fR _
  ·exact .inr<|gh _ c
def NX:∀{d:List Y}{b:List aM}{x:aM},dm H d (b++[x])->∃a t,d=a++[t]/\dm H a b/\ig H t x
 |_,[],x,.cons r .nil=>([],_,O,.nil,r)
 |_,c::b,x,.cons r t=>by
  obtain⟨a,f,e,g,h⟩:=NX t;exact(_::a,f,by rw[e];rfl,.cons r g,h)
def xZ:∀{a:List Y}{b:List aM}{t:Y}{x:aM},dm H a b->ig H t x->dm H (a++[t]) (b++[x])
 |_,_,_,_,.nil,h=>.cons h .nil
 |_,_,_,_,.cons r q,h=>.cons r (xZ q h)
def NZ{t d:Y}{o i:dh}(h:ig H t x)(j:H d=V i)(k:∀g,i≠.b g):ig (aw H d o) t x:=by
 obtain⟨a,b,e,p,q⟩:=h;have f:∀{c:Y}{g:List ag},H c=V (.b g)->aw H d o c=V (.b g):=λ{c g} e=>by
  rw[bG (λz=>by subst z;rw[j] at e;cases e;exact k _ O)];exact e
 exact(a,b,f e,f p,f q)
def ot{b:List Y}(h:dm H b a)(e:H d=V c)(f:∀a,c≠.b a):dm (aw H d o) b a:=gf h λ_ _ q=>NZ q e f
def oq(b H:ae)(r:Y)(c:List aM):Prop:=b r=Z/\∃a,H r=V (.a<|am ag.c a)/\dm H a c
def oq.q{a H b:ae}(h:oq a H r c)(s:aF H b):oq a b r c:=(h.1,let ⟨d,e,p⟩:=h.2;(d,s _ _ e,p.j s))
noncomputable def oq.j{b:List aM}(h:oq a H r b)(f:H d=V c)(g:∀i,c≠.b i)(j:r≠d):oq a (aw H d o) r b:=(h.1,let ⟨k,e,p⟩:=h.2;(k,by rw[bG j];exact e,ot p f g))
abbrev Rows(c H:ae)(a:List Y)(b:List (List aM)):Prop:=du (oq c H) a b
noncomputable def Rows.j{c H:ae}{a:List Y}{b:List (List aM)}{d:Y}{o e:dh}(h:Rows c H a b)(g:H d=V e)(i:∀j,e≠.b j)(f:d∉a):Rows c (aw H d o) a b:=by
 induction h with
 |nil=>exact .nil
 |cons r t k=>exact .cons (r.j g i λz=>f (by rw[z];exact dQ))<|k λz=>f<|eV _ z
def Rows.q{b H:ae}:∀{a:List Y}{d:List (List aM)}{x:List aM},Rows b H a (d++[x])->∃f r,a=f++[r]/\Rows b H f d/\oq b H r x
 |_,[],x,.cons r .nil=>([],_,O,.nil,r)
 |_,c::d,x,.cons r t=>by
  obtain⟨g,h,e,i,j⟩:=Rows.q t;exact(_::g,h,by rw[e];rfl,.cons r i,j)
noncomputable def Rows.B{c H:ae}:∀{a:List Y}{b:List (List aM)}{r:Y}{d:List aM},Rows c H a b->oq c H r d->Rows c H (a++[r]) (b++[d])
 |_,_,_,_,.nil,h=>.cons h .nil
 |_,_,_,_,.cons r q,h=>.cons r (Rows.B q h)
def WV{b:List aM}:xY b z [] [[z]]:=by
 refine(λy c=>(by cases c),(by simp),λf a=>?_);rw[cJ.mp a];refine(([],O),λi x y g d=>?_,by simp,λx e=>.inl<|cJ.mp e);have:=(cr.mp d).1;simp at this
noncomputable abbrev Yg:List au:=["seconds","new","rows","seen","row","rim"]
section
variable{P:bw}{w:aX}{K:aR}{mg:au->Option aa}{base:aT}
inductive AC(vs:List ag)(H:ae)(Q:aS)(E':cZ):Prop
 |a:∀d t ps z,(vs=[.c d,.c t])->(mX H d ps)->(ig H t z)->((ps.map (·.1)).Nodup)->(z.1∉ps.map (·.1))->((∀x∈ps,x.2.length<=5))->(z.2.length<=5)->(ps.length<=1000)->(gz ps)->((∀D H',aF H H'->H D=Z->H' D=V (.a [])->gz (ps++[z])->Q (.c D) H'))->(∀D H' ts cs,aF H H'->H D=Z->H' D=V (.a<|am ag.c ts)->dm H' ts cs->Bx cs->cs.Nodup->(∀x∈cs,x∈ps++[z])->Q (.c D) H')->AC vs H Q E'
def xr:dK Yg ["seconds","new"] (b_ xG):=(O,O,O,δ,O,δ,δ)
def Xx(F:bN K "round_with" "round_with" xG f fd)(n7:eY mg)(Fo:bN K "other_rims" "other_rims" tu fo e9)(bo:cQ K e9 ["pair"] [])(mo:mg "other_rims"=V (.ref fo))(Go:bO P w K mg base bv 2 fo e9 ["pair"] xo):bO P w K mg base bv 3 f fd ["seconds","new"] AC:=by
 refine F.j xr (λvs H Q E h=>?_) (λm7 A j5 s H vs Q E hr h=>?_)
 ·obtain⟨d,t,S,z,rfl,_⟩:=h;rfl
 ·obtain⟨d,t,S,z,rfl,hd,ht,j6,hz,h5,z5,m8,j7,k0,k1⟩:=h
  have hu:=jP hr;have g6:=hr.units;refine(_,bx (cu (i:=2) xr.a O (ah O)<|iH<|aq (iH<|aq (ai 1) aD) aD)
   (bx (cu (i:=3) xr.a O (ah O) jO)
   (bx (DZ eL (dW pX (eC ie O n7.a gN<|aq (ai 2) aD) bg<|dI _)
    (bx (cu (i:=4) xr.a O (ah O)<|Uk oC ach PySem.F.type_list_pop Ux<|ai 2)
    (bF (eU eL O (dy<|dj Go hr O mo Fo.a bo .nil cv<|aq (eX lg (ai 4) (zX zK bg) (λ_ _=>O)) aD) (ca (i:=5) xr.a O<|ah O)
     (bx (fJ (dW (Ur g6) (ai 5) (eX jf (ai 1) bg (λ_ _=>O))<|dI _) (bF<|cY<|ai 4) fV)
     (bF (fJ (sP.j<|Ky (zU (wM hu (ai 5)<|ai 0) (by with_unfolding_all rfl))<|Kx<|zU (KO hu (ai 5)<|ai 3) (by with_unfolding_all rfl))
      (bx (jE hu (ai 3) (ai 5) kr O)
     <|bF<|nR<|mP oC ua vX rh (ai 2)<|aq (cg uN (ai 4)<|iH<|aq (iG<|aq (ai 5)<|aq (iq hu (ai 0) (ai 5) (λ_ _=>O)) aD) aD) aD) fV)))))))
  <|bF<|cY<|iH aD)),?_)
  refine(_,O,bU (by simp),λr1 g7=>(bU (by simp),λG f0=>?_));have s1:=aF.q (o:=.a [.c t]) g7;have s2:=aF.q (o:=.a [.c r1]) f0;have f1:=s1.j s2;have e1:aw (aw H r1<|.a [.c t]) G (.a [.c r1]) r1=V (.a<|[t].map ag.c):=s2 _ _ ay;have e2:aw (aw H r1<|.a [.c t]) G (.a [.c r1]) G=V (.a<|[r1].map ag.c):=ay;have j8:G≠r1:=eA<|dJ (ay (H:=H) (a:=r1) (o:=.a [.c t])) f0;have d3:H G=Z:=s1.M f0;generalize aw (aw H r1<|.a [.c t]) G (.a [.c r1])=H2 at f1 e1 e2;intro L f2;have s3:=aF.q (o:=.c []) f2;have g8:=f1.j s3;have g9:H L=Z:=f1.M f2;have f3:G≠L:=dJ e2 f2;refine(λm σ H3=>∃(l:List Y)(g:List (List aM))(R:List aM)(v4 v5:Option ag),m=2*(S.length-R.length)+g.length/\σ=[V<|.c d,V<|.c t,V<|.c G,V<|.c L,v4,v5]/\aF H H3/\H3 G=V (.a<|l.map ag.c)/\Rows H H3 l g/\G∉l/\H3 L=V (.c (dO (R.map (·.1))))/\xY S z R g/\(∀x∈z::R,(∃X,X++[x]∈g)\/vD S z R x)/\2*(S.length-R.length)+g.length<=2*S.length+1,
   (_,[r1],[[z]],[],Z,Z,O,O,g8,s3 _ _ e2,.cons (g7,[t],s3 _ _ e1,.cons (ht.j g8) .nil) .nil,by simpa using j8,ay,WV,λx hx=>.inl ([],by rw[cJ.mp hx];simp),by simp),?_)
  rintro m σ H3 ⟨l,g,R,v4,v5,rfl,rfl,sm,T,h0,h1,h2,ri,h3,j9⟩;have k2:=fP h0;refine(_,O,G,_,O,.inl<|bP.j T,_,_,O,O,_,O,?_);rw[ax,k2];rcases QI g with rfl|⟨a0,cs,b6⟩
  ·refine eF (bU (by simp),λD hD=>k0 D _ (sm.F<|sm.M hD) (sm.M hD) ay ?_)
   exact Yf j6 j7 ri.a λx hx=>(h3 x hx).elim (λ(X,hc)=>by cases hc) id
  have b6:g=a0++[cs]:=by rw[b6,QL]
  subst b6;rw[cn (show(0:Int)<(((a0++[cs]).length:Nat):Int) by rw[ck,kR];omega)];obtain⟨I,r,k3,h4,⟨h6,ts,h7,f4⟩⟩:=Rows.q h0;subst k3;have f5:rH z R cs:=ri.c cs (by simp);obtain⟨X,x,b6⟩:∃X x,cs=X++[x]:=by
   rcases QI cs with e|⟨X,x,e⟩
   ·obtain⟨r,er⟩:=f5.c
    rw[e] at er;cases er
   ·exact(X,x,by rw[e,QL])
  subst b6;obtain⟨t0,tx,k4,m9,k5⟩:=NX f4;have b8:r≠G:=λe=>h1 (by rw[e];simp);have d4:G∉I:=λe=>h1<|fR _ e;refine fL (λh8 H'=>∃m',m'<2*(S.length-R.length)+(a0++[X++[x]]).length/\∃(l:List Y)(g:List (List aM))(R:List aM)(v4 v5:Option ag),m'=2*(S.length-R.length)+g.length/\h8=[V<|.c d,V<|.c t,V<|.c G,V<|.c L,v4,v5]/\aF H H'/\H' G=V (.a<|l.map ag.c)/\Rows H H' l g/\G∉l/\H' L=V (.c (dO (R.map (·.1))))/\xY S z R g/\(∀x∈z::R,(∃X,X++[x]∈g)\/vD S z R x)/\2*(S.length-R.length)+g.length<=2*S.length+1,λh8 H' h=>h,?_);rw[ck,kR] at j9;refine(_,O,.inl (O,_,bP.j T),G,_,.c r,O,O,T,by rw[ax,bT];simp,?_);rw[show((I++[r]).map ag.c).dropLast=I.map ag.c by rw[bT];simp];have h9:aF H (aw H3 G<|.a<|I.map ag.c):=sm.F d3;have b9:=ay (H:=H3) (a:=G) (o:=.a<|I.map ag.c);have d5:Rows H (aw H3 G<|.a<|I.map ag.c) I a0:=Rows.j h4 T (by intro xs z;cases z) d4;have f6:oq H (aw H3 G<|.a<|I.map ag.c) r (X++[x]):=oq.j (h6,ts,h7,f4) T (by intro xs z;cases z) b8;have c2:aw H3 G (.a<|I.map ag.c) r=V (.a<|ts.map ag.c):=by rw[bG b8];exact h7
  have d6:dm (aw H3 G<|.a<|I.map ag.c) ts (X++[x]):=ot f4 T (by intro xs z;cases z);have d7:ig (aw H3 G<|.a<|I.map ag.c) tx x:=NZ k5 T (by intro xs z;cases z);have c3:aw H3 G (.a<|I.map ag.c) L=V (.c (dO (R.map (·.1)))):=by rw[bG<|eA f3];exact h2
  generalize aw H3 G (.a<|I.map ag.c)=H4 at h9 b9 d5 f6 c2 d6 d7 c3;have k6:x.2.length<=5:=by
   rcases f5.a x (by simp) with e|e
   ·rw[e];exact z5
   ·exact h5 x<|ri.a x e
  have f7:j_ (ts.map ag.c) (-1)=V (.c tx):=by rw[k4,bT];exact LX _ _
  refine(_,O,_,O,r,_,_,_,O,O,bP.j c2,f7,tx,x,O,d7,k6,λOL H5 os s5 d8 d9 i0=>(OL,O,(_,bP.j d9),?_));have k7:OL≠G:=eA<|dJ b9 d8;have k8:OL≠L:=eA<|dJ c3 d8;have k9:=i0.j;refine iI (K:=K) (a:=OL) (xs:=os.map ag.c) (λj σ M=>∃(l:List Y)(g:List (List aM))(C:List aM)(v5:Option ag),σ=[V<|.c d,V<|.c t,V<|.c G,V<|.c L,V<|.c r,v5]/\aF H M/\M OL=V (.a<|os.map ag.c)/\bC M os (iw x)/\M r=V (.a<|ts.map ag.c)/\dm M ts (X++[x])/\M G=V (.a<|l.map ag.c)/\Rows H M l g/\G∉l/\M L=V (.c (dO (C.map (·.1))))/\xY S z C g/\(∀y∈R,y∈C)/\
    (∀y∈z::C,y=x\/(∃X,X++[y]∈g)\/vD S z C y)/\(∀n∈(iw x).take j,n≠z.1/\(n∈S.map (·.1)->n∈C.map (·.1)))/\2*(S.length-C.length)+g.length<=2*(S.length-R.length)+a0.length)
   (I,a0,R,v5,O,h9.j s5,d9,i0,s5 _ _ c2,d6.j s5,s5 _ _ b9,gf d5 λ_ _ q=>q.q s5,d4,s5 _ _ c3,(ri.a,ri.b,λcs c4=>ri.c cs<|fR _ c4),λy hy=>hy,λy hy=>?_,by simp,aW _) (λi σ M _ (_,_,_,_,_,_,h,_)=>bP.j h) ?_ ?_
  ·rcases h3 y hy with ⟨c1,f8⟩|f9
   ·rcases cy.mp f8 with h|h
    ·exact .inr<|.inl (c1,h)
    ·have:=cJ.mp h
     have e:=List.append_inj' this O;exact .inl (by have:=e.2;simpa using this)
   ·exact .inr<|.inr f9
  ·rintro j v σ M hv ⟨l,g,C,l0,rfl,a4,b0,c5,a8,a5,a6,a1,a2,p,U,c6,a7,b4,g0⟩
   obtain⟨ea,l1,rfl⟩:=dM hv;obtain⟨n,g1,c7⟩:=c5.q l1;have l2:n∈iw x:=dp g1;obtain⟨i1,i2⟩:=qi.mp l2;obtain⟨za,zb,ez,l3,n0⟩:=ht.j a4;refine(_,O,_,O,t,_,_,_,O,O,fM.j ez,ge (j:=0) O,.inl (ea,za,n,z.1,O,O,c7,l3,_,O,?_));rw[show(if(aB:Bool)=af then !aC (n=z.1) else aC (n=z.1))=aC (n=z.1) from ap dT];have a3:rH z C (X++[x]):=f5.j c6
   by_cases a9:n=z.1
   ·rw[cn a9]
    refine fL (_,O,k1 r M ts (X++[x]) a4 h6 a8 a5 (Xh a3<|tF.mpr (by rw[<-a9];exact i2,by rw[<-a9];exact i1)) a3.b λy hy=>?_);rcases a3.a y hy with e|e
    ·rw[e];simp
    ·exact fR _<|U.a y e
   rw[cK a9];obtain⟨n1,l4,l5⟩:=hd.j a4;have e0:(n∈S.map (·.1)->n∈C.map (·.1))->∀q∈(iw x).take (j+1),q≠z.1/\(q∈S.map (·.1)->q∈C.map (·.1)):=λh q hq=>by
    rw[cq g1] at hq;rcases cy.mp hq with hq|hq
    ·exact b4 q hq
    ·rw[cJ.mp hq];exact(a9,h)
   refine eF (_,O,_,O,d,_,O,jr.t (k:=n.map aQ) l4 (by rw[cj];exact c7),_,O,?_);rcases xq l5 n with ⟨ev,g2⟩|⟨b,q,ev,l6,hb⟩
   ·rw[ev]
    exact eF (l,g,C,_,O,a4,b0,c5,a8,a5,a6,a1,a2,p,U,c6,a7,e0 λh=>bu h g2,g0)
   rw[ev];refine fL (_,O,_,O,L,_,O,jr.t (k:=n.map aQ) p (by rw[cj];exact c7),_,O,?_);rw[Be]
   by_cases b5:n∈C.map (·.1)
   ·rw[cn b5]
    exact eF (l,g,C,_,O,a4,b0,c5,a8,a5,a6,a1,a2,p,U,c6,a7,e0 λ_=>b5,g0)
   rw[cK b5];have n2:=U.j;refine fL (_,O,_,O,L,_,O,xf.t (k:=n.map aQ) p (by rw[cj];exact c7)<|gn<|dg (qj _) (by rw[ax];omega),?_);rw[qg];have d2:aF H (aw M L (.c (dO (C.map (·.1)++[n])))):=a4.F g9;have c8:∀xs,(dh.c (dO (C.map (·.1))))≠.b xs:=by intro xs z;cases z
   have tk:∀{c:Y}{xs:List ag},M c=V (.b xs)->aw M L (.c (dO (C.map (·.1)++[n]))) c=V (.b xs):=λ{c xs} e=>by
    rw[bG (λz=>by subst z;rw[p] at e;cases e)];exact e
   have e3:aw M L (.c (dO (C.map (·.1)++[n]))) OL=V (.a<|os.map ag.c):=by rw[bG k8];exact b0
   have i3:=kb (o:=.c (dO (C.map (·.1)++[n]))) c5 p c8;have l7:r≠L:=λe=>by rw[e,p] at a8;cases a8
   have g3:aw M L (.c (dO (C.map (·.1)++[n]))) r=V (.a<|ts.map ag.c):=by rw[bG l7];exact a8
   have b1:=ot (o:=.c (dO (C.map (·.1)++[n]))) a5 p c8;have b2:aw M L (.c (dO (C.map (·.1)++[n]))) G=V (.a<|l.map ag.c):=by rw[bG f3];exact a6
   have l8:L∉l:=λhm=>by
    obtain⟨cs,c4⟩:∃cs,oq H M L cs:=by
     have:∀{l:List Y}{g:List (List aM)},Rows H M l g->L∈l->∃cs,oq H M L cs:=λ{l g} h=>by
      induction h with
      |nil=>intro hm;cases hm
      |cons r t ih=>
       intro hm;rcases bZ.mp hm with rfl|hm
       ·exact(_,r)
       ·exact ih hm
     exact this a1 hm
    obtain⟨_,n3,e,_⟩:=c4;rw[p] at e;cases e
   have c9:Rows H (aw M L (.c (dO (C.map (·.1)++[n])))) l g:=Rows.j a1 p c8 l8;have e4:=ay (H:=M) (a:=L) (o:=.c (dO (C.map (·.1)++[n])));have d0:cM (aw M L (.c (dO (C.map (·.1)++[n])))) ea n:=tk c7;have i4:mX (aw M L (.c (dO (C.map (·.1)++[n])))) d S:=hd.j d2;generalize aw M L (.c (dO (C.map (·.1)++[n])))=H7 at d2 e3 i3 g3 b1 b2 c9 e4 d0 i4;obtain⟨i5,i6,i7⟩:=i4;obtain⟨b7,q7,l9,e5,m0⟩:∃b q,fy i5 (n.map aQ)=V (.c b)/\(abd n q)∈S/\cM H7 b q:=by
    rcases xq i7 n with ⟨_,g2⟩|h
    ·exact bu (aP.mpr (_,l6,O)) g2
    ·exact h
   have n4:=b1.q;have n5:(X++[x]).length<=S.length+1:=by
    have:=a3.b.length_le_of_subset (l₂:=z::C) λy hy=>(a3.a y hy).elim (λe=>by rw[e];exact dQ)<|eV _;rw[cO] at this;omega
   have i8:=jr.t (k:=n.map aQ) i6 (by rw[cj];exact d0);rw[l9] at i8;refine(_,O,.inl (O,_,bP.j b2),_,O,_,O,_,O,_,O,d,_,O,i8,bU (by simp),λTT m1=>(bU (by simp),λL1 m2=>?_));have u1:=aF.q (o:=.b [.c ea,.c b7]) m1;have u2:=aF.q (o:=.a [.c TT]) m2;have d1:=u1.j u2;have i9:ig (aw (aw H7 TT<|.b [.c ea,.c b7]) L1<|.a [.c TT]) TT (abd n q7):=(ea,b7,u2 _ _ ay,d1.B d0,d1.B m0);refine(r,L1,_,_,O,O,d1 _ _ g3,ay,bU (by rw[ax];simp;omega),λNR j0=>?_);have u3:=aF.q (o:=.a<|ts.map ag.c++[.c TT]) j0;have u:=d1.j u3;have e6:=ay (H:=aw (aw H7 TT<|.b [.c ea,.c b7]) L1<|.a [.c TT]) (a:=NR) (o:=.a<|ts.map ag.c++[.c TT]);have e7:H7 NR=Z:=d1.M j0;have e8:=i9.j u3;generalize aw (aw (aw H7 TT<|.b [.c ea,.c b7]) L1<|.a [.c TT]) NR (.a<|ts.map ag.c++[.c TT])=H9 at u e6 e8;have m3:=d2.j u;have b3:=u _ _ b2;have n6:l.length<=3000:=by have:=fP c9;omega
   refine(G,_,_,O,O,b3,by rw[ax];exact gn ω,?_);have j1:NR≠G:=eA<|dJ b2 e7;have g4:∀xs,(dh.a<|l.map ag.c)≠.b xs:=by intro xs z;cases z
   have j2:(abd n q7)∉C:=λh=>b5<|aP.mpr (_,h,O);have m4:(abd n q7)≠z:=λe=>a9 (by rw[<-e]);have m5:=Xi a3 (y:=(abd n q7)) (tF.mpr (i2,i1)) m4 j2;have g5:oq H H9 NR (X++[x]++[(abd n q7)]):=(d2.M e7,ts++[TT],by rw[e6,bT];rfl,xZ (b1.j u) e8);refine(l++[NR],g++[X++[x]++[(abd n q7)]],C++[(abd n q7)],_,O,m3.F d3,by rw[bG k7];exact u _ _ e3,kb (u.J i3) b3 g4,by rw[bG b8];exact u _ _ g3,ot (b1.j u) b3 g4,by rw[ay,bT];rfl,?_,?_,?_,(?_,?_,?_),λy hy=>fR _<|c6 y hy,λy hy=>?_,λqq j3=>?_,?_)
   ·exact Rows.j (Rows.B (gf c9 λ_ _ h=>h.q u) g5) b3 g4 λhm=>by
     rcases cy.mp hm with h|h
     ·exact a2 h
     ·exact j1 (cJ.mp h).symm
   ·intro hm
    rcases cy.mp hm with h|h
    ·exact a2 h
    ·exact j1 (cJ.mp h).symm
   ·rw[bG<|eA f3,bT];exact u _ _ e4
   ·intro y hy
    rcases cy.mp hy with h|h
    ·exact U.a y h
    ·rw[cJ.mp h];exact e5
   ·rw[bT,iS]
    refine(U.b,by simp,λa ha b hb e=>?_);rw[cJ.mp hb] at e;have e':a=n:=e;exact b5 (by rw[<-e'];exact ha)
   ·intro cs c4
    rcases cy.mp c4 with h|h
    ·exact(U.c cs h).j λy hy=>fR _ hy
    ·rw[cJ.mp h];exact m5
   ·have:y∈z::C\/y=(abd n q7):=by
     rcases bZ.mp hy with h|h
     ·exact .inl (by rw[h];exact dQ)
     ·rcases cy.mp h with h|h
      ·exact .inl<|eV _ h
      ·exact .inr<|cJ.mp h
    rcases this with h|rfl
    ·rcases a7 y h with e|⟨c1,f8⟩|f9
     ·exact .inl e
     ·exact .inr<|.inl (c1,fR _ f8)
     ·exact .inr<|.inr<|f9.j λy hy=>fR _ hy
    ·exact .inr<|.inl (X++[x],gh _<|cJ.mpr O)
   ·rw[cq g1] at j3
    rw[bT];rcases cy.mp j3 with h|h
    ·exact((b4 qq h).1,λhm=>fR _<|(b4 qq h).2 hm)
    ·rw[cJ.mp h]
     exact(a9,λ_=>gh _<|cJ.mpr O)
   ·have m6:C.length<S.length:=by
     have j4:((C++[(abd n q7)]).map (·.1)).Nodup:=by
      rw[bT,iS];refine(U.b,by simp,λa ha b hb e=>?_);rw[cJ.mp hb] at e;have e':a=n:=e;exact b5 (by rw[<-e'];exact ha)
     have:=j4.length_le_of_subset (l₂:=S.map (·.1)) λa ha=>by
      obtain⟨y,hy,rfl⟩:=aP.mp ha;rcases cy.mp hy with h|h
      ·exact aP.mpr (y,U.a y h,O)
      ·rw[cJ.mp h];exact aP.mpr (_,e5,O)
     rw[ax,ax,ck,kR] at this;omega
    rw[ck,ck,kR,kR];omega
  ·rintro σ M ⟨l,g,C,l0,rfl,a4,b0,c5,a8,a5,a6,a1,a2,p,U,c6,a7,b4,g0⟩
   rw[ax,k9,fN] at b4;refine(_,?_,l,g,C,_,_,O,O,a4,a6,a1,a2,p,U,λy hy=>?_,?_)
   ·rw[ck,kR];omega
   ·rcases a7 y hy with e|h|h
    ·rw[e];exact .inr b4
    ·exact .inl h
    ·exact .inr h
   ·omega
end
section
variable{X:bf}
def Kh{c:List Int}(I:aE X a d H s)(e:bP X.K H l (c.map ag.d)):∃b,Reads s.heap (.ref l) (.list<|c.map gQ) b:=by
 obtain⟨f,r,p,_⟩:=I.j e;obtain⟨o,g,h,n,i⟩:=p.isList;exact(_,.list g h i<|(ab0<|oW r).reads s.heap)
def Kc(a:List Int):tY (.list<|a.map gQ)=af:=by
 simp[tY,Cd,ab1,yG,abz]
def Le(a:List Int):(BW .int).has (.list<|a.map gQ)=af:=by simp[tV]
end
noncomputable abbrev AX:cN:=eI 27
noncomputable abbrev xO:cN:=eI 26
noncomputable abbrev AY:cN:=eI 28
noncomputable abbrev AV:cN:=eI 25
noncomputable def bW(a:List aM):Ξ:=a.flatMap λx=>[x.1,x.2]
def vf(a b:List aM):bW (a++b)=bW a++bW b:=by unfold bW;rw[CM]
def xk(x:aM):bW [x]=[x.1,x.2]:=O
structure kc(kn:Ξ)(ps:List aM):Prop where
 has:∀x∈ps,x.2∈kn/\x.1∈cC x.2
 a:(bW ps).Nodup
 b:gz ps
def xW(h:(bW a).Nodup):(a.map (·.1)).Nodup:=by
 have:(a.map (·.1)).Sublist (bW a):=by
  induction a with
  |nil=>exact QN
  |cons x r b=>
   have e:bW (x::r)=[x.1,x.2]++bW r:=O;rw[e,iS] at h;rw[e];exact((b h.2.1).cons x.2).cons_cons x.1
 exact h.sublist this
def Az{a:List aM}{x:aM}(h:x∈a):x.1∈bW a/\x.2∈bW a:=(ki.mpr (x,h,by simp),ki.mpr (x,h,by simp))
section
variable{P:bw}{w:aX}{K:aR}{mg:au->Option aa}{base:aT}
def Zr:∀{a:List Y}{b:List aM}{i:Nat}{t:Y},dm H a b->a[i]?=V t->∃x,b[i]?=V x/\ig H t x
 |_,_,_,_,.nil,e=>by simp at e
 |_,_,0,_,.cons r _,e=>by simp at e;subst e;exact(_,O,r)
 |_,_,i+1,t,.cons _ q,e=>by
  obtain⟨x,c,d⟩:=Zr (i:=i) (t:=t) q (by simpa using e);exact(x,by simpa using c,d)
inductive Fm(K:aR)(vs:List ag)(H:ae)(Q:aS)(E':cZ):Prop
 |a:∀l t as kn x,(vs=[.c l,.c t])->(bP K H l<|as.map ag.c)->(bC H as kn)->(ig H t x)->(x.2∈kn)->(x.1∈cC x.2)->(x.2.length<=5)->(∀H',aF H H'->Q (.e af) H')->Fm K vs H Q E'
def WD:dK ["every","pair"] ["every","pair"] (b_ AX):=(O,O,O,δ,O,δ,δ)
def XT{n d:cS}(F:bN K "is_pair" "is_pair" AX f n)(a0:eY mg)(o:bN K "rims_of" "rims_of" rB e d)(z:cQ K d ["piece"] [])(C:mg "rims_of"=V (.ref e)):bO P w K mg base bv 2 f n ["every","pair"] (Fm K):=by
 have D:bO P w K mg base bv 1 e d ["piece"] vg:=Ba o a0;refine F.j WD (λG H Q E h=>?_) (λI A g s H G Q E p h=>?_)
 ·obtain⟨l,t,q,u,x,rfl,_⟩:=h;rfl
 ·obtain⟨l,t,q,u,x,rfl,L,M,⟨a,b,i,R,v⟩,S,T,U,k⟩:=h
  have c:=p.units;refine(_,bF (cY (Ul (wL (r:=wH aB K) (KQ<|Ek c) (eX jf (ai 1) bg (λ_ _=>O)) (ai 0) (by with_unfolding_all rfl))
  <|Ue<|wL (r:=wH aB K) (KQ<|Ek c) (eX jf (ai 1) bg (λ_ _=>O)) (dj D p O C o.a z .nil cv<|aq (eX jf (ai 1) bg (λ_ _=>O)) aD) (by with_unfolding_all rfl))),?_)
  refine(_,O,t,_,_,_,O,O,fM.j i,ge (j:=1) O,_,O,b,l,x.2,q,u,O,O,v,L,M,?_);rw[ap ξ,cn S];refine(_,O,fL (_,O,t,_,_,_,O,O,fM.j i,ge (j:=0) O,_,O,t,_,_,_,O,O,fM.j i,ge (j:=1) O,b,x.2,O,v,U,λX H1 rs y _ hR m=>(a,X,x.1,rs,cC x.2,O,O,y.B R,bP.j hR,m,?_)));rw[ap ξ,cn T];exact k H1 y
def NS{i:ae}{t d D:Y}{Q:aS}(w:ig i t x)(q:i d=V (.c<|dO c))(n:i D=Z)(E:∀(g:ae),aF i g->g D=V (.a<|[aC<|x.1∈c,aC<|x.2∈c].map ag.e)->Q (.c D) g):dY (rq K t) (dk 0) gC (uI (bH 0)<|bH 1) [Z,V<|.c d] i D Q:=by
 obtain⟨a,b,z,A,C⟩:=w;refine Ly (xs:=[.c a,.c b]) (λj m l g=>∃(v:Option ag),m=[v,V<|.c d]/\aF i g/\g D=V (.a l)/\l=(([aC<|x.1∈c,aC<|x.2∈c]:List Bool).take j).map ag.e) ?_ ?_ ?_ ?_
 ·exact(Z,O,aF.q n,ay,O)
 ·rintro j m l g ⟨v,rfl,h,f,rfl⟩
  exact fM.j<|h _ _ z
 ·rintro j m l g y o r s ⟨v,rfl,h,f,rfl⟩
  have u:([.c a,.c b]:List ag).length<=bQ:=bU (by simp);have p:j=0\/j=1:=by have:=(cr.mp o).1;simp at this;omega
  rcases p with rfl|rfl
  ·have e:ag.c a=y:=by simpa using o
   subst e;refine iX (_,O,_,O,d,_,O,jr.t (k:=x.1.map aQ) (h _ _ q) (by rw[cj];exact h.B A),?_);rw[Be];exact fz u r s f (_,O,h.F n,ay,O)
  ·have e:ag.c b=y:=by simpa using o
   subst e;refine iX (_,O,_,O,d,_,O,jr.t (k:=x.2.map aQ) (h _ _ q) (by rw[cj];exact h.B C),?_);rw[Be];exact fz u r s f (_,O,h.F n,ay,O)
 ·rintro m l g ⟨v,rfl,h,f,rfl⟩
  exact E g h f
noncomputable abbrev Nl:List au:=["every","pairs","stands","k","pair","piece"]
inductive Fv(K:aR)(vs:List ag)(H:ae)(Q:aS)(E':cZ):Prop
 |a:∀l m as kn ts ps,(vs=[.c l,.c m])->(bP K H l<|as.map ag.c)->(bC H as kn)->(bP K H m<|ts.map ag.c)->(dm H ts ps)->((∀x∈ps,x.2∈kn/\x.1∈cC x.2))->((∀x∈ps,x.2.length<=5))->((bW ps).Nodup)->(ps.length<=1000)->(∀H',aF H H'->Q .g H')->Fv K vs H Q E'
def xC:dK Nl ["every","pairs"] (b_ xO):=(O,O,O,δ,O,δ,δ)
def XW(F:bN K "first_bad" "first_bad" xO f fd)(c0:eY mg)(a0:mg "any"=Z)(a1:hC "any"=V (.builtin "any"))(Fp:bN K "is_pair" "is_pair" AX fp R)(bp:cQ K R ["every","pair"] [])(mp:mg "is_pair"=V (.ref fp))(Gp:bO P w K mg base bv 2 fp R ["every","pair"] (Fm K)):bO P w K mg base bv 3 f fd ["every","pairs"] (Fv K):=by
 refine F.j xC (λvs H Q E h=>?_) (λb7 A a9 s H vs Q E hr h=>?_)
 ·obtain⟨l,m,as,kn,ts,b,rfl,_⟩:=h;rfl
 ·obtain⟨l,m,as,kn,ts,b,rfl,hl,hk,hm,ht,a2,h5,S,hz,k⟩:=h
  have hu:=jP hr;refine(_,bx (cu (i:=2) xC.a O (ar O) jO)
   (bx (eU eL O (KG O c0.f NT<|aq (ai 1) aD) (sH O<|k_ (ca (i:=3) xC.a O<|ah O)<|k_ (ca (i:=4) xC.a O<|ah O) sG)
    (bx (fJ (sP.j (DX (zT<|uK<|dj Gp hr O mp Fp.a bp .nil cv<|aq (ai 0)<|aq (ai 4) aD) (DW (uK (eC (LJ O) O a0 a1 (aq (ff Nl ["piece","stands"] [Z,V 2] (rg<|ai 4) (λcl C L M ex=>ca (i:=0) (dX ["piece","stands"]) O<|ah O) (λcl C L M ex=>gX)
     (λcl C L M ex=>Ea (wM hu (ai 0)<|ai 1) (by with_unfolding_all rfl)) (hfr:=gD (b_ xO) δ) (te:=uI (bH 0)<|bH 1)) aD)))))) (bF<|cY<|ai 3) fV)
   <|bF<|eU eL O (rg<|ai 4) (ca (i:=5) xC.a O<|ah O)<|bF<|jE hu (ai 2) (ai 5) kr O))
  <|bF<|cY KL),?_)
  intro d hd;have b8:=ht.q;have s1:=aF.q (o:=.c []) hd;refine(_,O,m,O,(_,s1.N hm),Vg (K:=K) (a:=m) (xs:=ts.map ag.c) (λi q H2=>∃(v3 v4 v5:Option ag),q=[V<|.c l,V<|.c m,V<|.c d,v3,v4,v5]/\aF H H2/\H2 d=V (.c<|dO<|bW<|b.take i))
   (Z,Z,Z,O,s1,ay) (λi q H2 _ (_,_,_,_,sm,_)=>sm.N hm) ?_ ?_)
  ·rintro i x p q H2 hx ⟨v3,v4,v5,rfl,sm,a3⟩ hp
   obtain⟨t,et,rfl⟩:=dM hx;obtain⟨y,ey,hy⟩:=ht.B et;have T:y∈b:=dp ey;have sp:=aF.q (o:=.b [.d i,.c t]) hp;have s3:=sm.j sp;have hi:i<b.length:=(cr.mp ey).1;refine(p,_,O,fM.j ay,O,_,_,O,_,_,O,O,?_);refine(_,O,_,O,l,t,as,kn,y,O,s3.N hl,s3.J hk,hy.j s3,(a2 y T).1,(a2 y T).2,h5 y T,λH4 s4=>(_,O,eF ?_));have a5:=s3.j s4;have a6:=(sp.j s4) _ _ a3;have a7:=hy.j a5;obtain⟨a4,b4,U,b0,b1⟩:=id a7;have u:bW b=bW (b.take i)++([y.1,y.2]++bW (b.drop<|i+1)):=by
    rw[<-xk,<-vf,<-vf]
    congr 1
    rw[<-gd,<-cq ey,pH]
   have a8:y.1∉bW (b.take i)/\y.2∉bW (b.take i):=by
    rw[u,iS] at S;exact(λh=>S.2.2 _ h y.1 (by simp) O,λh=>S.2.2 _ h y.2 (by simp) O)
   refine(_,O,t,O,(_,fM.j U),λD hD=>eP<|NS a7 a6 hD λH5 s5 b2=>(D,_,O,bP.j b2,_,O,?_));rw[cK a8.1,cK a8.2];have b3:=a5.j s5;have b9:(bW<|b.take i).length<=2*i:=by
    have:∀l:List aM,(bW l).length=2*l.length:=λl=>by
     induction l with
     |nil=>rfl
     |cons a r ih=>rw[show bW (a::r)=[a.1,a.2]++bW r from O,ck,ih];simp;omega
    rw[this,dR];omega
   refine eF (_,O,t,O,(_,fM.j<|s5 _ _ U),wS (K:=K) (a:=t) (xs:=[.c a4,.c b4]) (λj q n=>∃(v5:Option ag),q=[V<|.c l,V<|.c m,V<|.c d,V<|.d i,V<|.c t,v5]/\aF H n/\n t=V (.b [.c a4,.c b4])/\cM n a4 y.1/\cM n b4 y.2/\n d=V (.c<|dO<|bW (b.take i)++[y.1,y.2].take j))
    (_,O,b3,s5 _ _ U,s5.B b0,s5.B b1,by rw[sf,jm];exact s5 _ _ a6) (λj q n _ (_,_,_,h,_)=>fM.j h) ?_ ?_)
   ·rintro j v q n hv ⟨b5,rfl,s6,X,G,I,g⟩
    have b6:j=0\/j=1:=by have:=(cr.mp hv).1;simp at this;omega
    have tk:∀{c:Y}{xs:List ag}{o:dh},n c=V (.b xs)->aw n d o c=V (.b xs):=λ{c xs o} e=>by
     rw[bG (λz=>by subst z;rw[g] at e;cases e)];exact e
    rcases b6 with rfl|rfl
    ·have e:ag.c a4=v:=by simpa using hv
     subst e;refine(_,O,_,O,d,_,O,xf.t (k:=y.1.map aQ) g (by rw[cj];exact G)<|gn<|dg (qj _) (by simp;omega),(_,O,s6.F hd,tk X,tk G,tk I,?_));rw[ay,qg,gd];rfl
    ·have e:ag.c b4=v:=by simpa using hv
     subst e;refine(_,O,_,O,d,_,O,xf.t (k:=y.2.map aQ) g (by rw[cj];exact I)<|gn<|dg (qj _) (by simp;omega),(_,O,s6.F hd,tk X,tk G,tk I,?_));rw[ay,qg,gd];rfl
   ·rintro q n ⟨b5,rfl,s6,X,G,I,g⟩
    refine(_,_,_,O,s6,?_);rw[cq ey,vf,xk];exact g
  ·rintro q H2 ⟨v3,v4,v5,rfl,sm,a3⟩
   exact k H2 sm
end
section
variable{X:bf}
def KD(a:List Int):∀k,k<=a.length->Hj (λi=>(a[i]?).getD 0) k=(a.take k).sum
 |0,_=>by simp[Hj]
 |k+1,h=>by
  have b:=KD a k ω;have e:a[k]?=V a[k]:=dq ω;show Hj (λi=>(a[i]?).getD 0) k+(a[k]?).getD 0=_;rw[b,yX,e,yZ];simp
def uQ{a:List Int}{b:List aa}(r:cw (a.map ag.d) b){i:Nat}(h:b[i]?=V v):∃n t,a[i]?=V n/\v=.int n t:=by
 have d:b.length=a.length:=by rw[<-r.j,ax]
 have f:i<a.length:=by rw[<-d];exact(cr.mp h).1
 have e:a[i]?=V a[i]:=dq f;obtain⟨u,c,g⟩:=r.q (show(a.map ag.d)[i]?=V (ag.d a[i]) by rw[cB,e];rfl);rw[h] at c;obtain rfl:=cH c;obtain⟨t,rfl⟩:=g;exact(_,t,e,O)
def Eo(x:X.b=af):js X (.builtin "sum") (λk H Q=>∃(l:Y)(c:List Int),k=[.c l]/\bP X.K H l (c.map ag.d)/\Q (.d c.sum) H):=by
 intro m s L H k M Q I r h;obtain⟨l,c,rfl,y,q⟩:=h;obtain⟨u,rfl,z⟩:=iF r;cases z;obtain⟨a,p,C,_⟩:=I.j y;have D:=I.b.a x;have g:=C.isList;have d:l<s⁻¹:=by obtain⟨_,e,_⟩:=g;exact cR e
 have E:a.length=c.length:=by rw[<-p.j,ax]
 refine call_sum_walkAnyS<|tL g ?_;refine(s⁻¹,[s⁻¹,l],[s⁻¹],_,a.toArray.size,_,_,λi=>(c[i]?).getD 0,O,(rQ (A:=X.A.in1) D _ l (dz d) a.toArray).toS,
  ((_,dF _ O,O,O),g.push _),λb f=>?_,λi v G=>?_,λP R w=>?_)
 ·have j:b<=s⁻¹:=by
   simp only[bZ,pI,oM] at f;rcases f with rfl|rfl
   ·exact aW _
   ·exact yU d
  exact Ih j<|cR<|dF _ O
 ·obtain⟨n,t,e,rfl⟩:=uQ p (show a[i]?=V v by simpa using G)
  exact(t,by simp only[e,qI])
 ·have e:Hj (λi=>(c[i]?).getD 0) a.toArray.size=c.sum:=by
   rw[cT,E,KD c _<|aW _,e_<|aW _]
  rw[e,Moved.eq_with w];exact(.d _,H,I.B<|CB λb o f K=>w.heap b o f K,(_,O),q)
inductive DV(x:ag)(vs:List ag)(H:ae)(Q:aS):Prop
 |a:∀(l:Y)(ns:List Int)(n:Int),(x=.c l)->(vs=[.d n])->(H l=V (.a<|ns.map ag.d))->(Q (.d (ns.countP (·==n))) H)->DV x vs H Q
def Lx(n:Int):∀{b:List Int}{a:List aa},cw (b.map ag.d) a->a.countP (λu=>match u with|.int m _=>m==n|_=>aB)=b.countP (·==n)
 |[],_,.nil=>O
 |m::b,_,.cons r t=>by
  obtain⟨c,rfl⟩:=r;rw[ae4,ae4,Lx n t]
def UA:uX X "list.count" DV:=by
 intro b s A H K C v D Q I f g h;obtain⟨l,d,n,rfl,rfl,j,q⟩:=h;cases f;obtain⟨u,rfl,k⟩:=g.F;obtain⟨z,a,c,r,E,e⟩:=I.W j;refine rO acj (_,e,O) F.entry_list_count (F.args_list_count_2 _ _) (SeqAt.list_countAt l a.toArray c Z #[] u (λu=>match u with|.int m _=>m==n|_=>aB)) (e,λL o=>?_,?_)
 ·obtain⟨i,p⟩:=mD.mp (show L∈a by simpa using o)
  obtain⟨m,t,G,rfl⟩:=uQ r p;exact Vl (y:=.d m) (x:=.d n) (t,O) k O O
 ·have w:a.toArray.toList.countP (λu=>match u with|.int m _=>m==n|_=>aB)=d.countP (·==n):=Lx n r
  exact(.d (d.countP (·==n)),H,I.J _,(_,by rw[<-w]),q)
def LQ{bt:Nat->Nat->Bool}{val:Nat->Int}(a:∀i j,bt i j=aC (val j<val i)):∀k,qF bt k<=k/\∀i,i<=k->val i<=val (qF bt k)
 |0=>by
  rw[abw];exact(aW _,λi b=>by have:i=0:=ω;rw[this];exact nI _)
 |k+1=>by
  obtain⟨d,c⟩:=LQ a k;rw[PK,a]
  by_cases g:val (qF bt k)<val (k+1)
  ·rw[az<|cn g]
   refine(aW _,λi b=>?_);rcases nC i (k+1) with h|h
   ·have:=c i ω;omega
   ·have:i=k+1:=ω
    rw[this];exact nI _
  ·rw[ap (λz=>g<|io z)]
   refine(Ii d,λi b=>?_);rcases nC i (k+1) with h|h
   ·exact c i ω
   ·have:i=k+1:=ω
    rw[this];omega
end
section
open PySem
noncomputable abbrev wD(I S:Y)(d:aa):Code:=.builtin "max.loop" ([.ref I,.none,.ref S],[(abd ("default") d)])
section
variable{prog:bw}{w:aX}{A:bY}{R:Ca->ak->Prop}{I:Y}{fp wr:List Y}{n:Nat}{P:Nat->aa->Prop}{St:Nat->aT->Prop}
def SM(r:vS prog w A.in1 I fp wr n P St)(S:Y)(d:aa){t:ak}{a:aa}(g:S∉wr)(h:St n t.heap)(l:t.heap.get? S=V {cls:=.type "list",data:=.seq #[a,a] c})(p:∀f i,(∀b o,b∉wr->b≠S->t.heap.get? b=V o->f.get? b=V o)->R (.ok<|.ret a) {t with heap:=f,toks:=i}):lF (aH prog w) A (wD I S d) R t:=by
 refine lE vY ?_;rw[nv lI _];unfold Builtin.«max.loop»
 wp_delta
 refine aj<|jU l O ?_;dsimp only;refine aj<|qB<|r.done t _ _ h λf i m=>?_;have j:=m S _ g l;show aA _ _ (Hf S (λ_=>#[]) >>= λ_=>letGo [a] [a] >>= λ_=>ret a) _ _ _;refine aj<|ym (s:={t with heap:=f,toks:=i}) (hz:=by show 2<=bQ;rw[kM];decide) (_hz':=eM _) j O ?_;refine aj<|mw ?_;exact aI<|p _ _ λb o q k e=>(Cf _ _<|eA k).trans<|m b o q e
def SK(m:vS prog w A.in1 I fp wr n P St)(S:Y)(d:aa){s:ak}(h:n=0)(a:St 0 s.heap)(i:s.heap.get? S=V {cls:=.type "list",data:=.seq #[] c})(j:∀f g,(∀b o,b∉wr->b≠S->s.heap.get? b=V o->f.get? b=V o)->R (.ok<|.ret d) {s with heap:=f,toks:=g}):lF (aH prog w) A (wD I S d) R s:=by
 refine lE vY ?_;rw[nv lI _];unfold Builtin.«max.loop»
 wp_delta
 refine aj<|jU i O ?_;dsimp only;refine aj<|qB<|m.done s _ _ (by rw[h];exact a) λf g k=>?_;show aA _ _ (yt (yl "max"++yl ".default") >>= λ_=>ret d) _ _ _;refine aj<|lv ?_;exact aI<|j _ _ λb o l _ e=>k b o l e
def DF(a0:vS prog w A.in1 I fp wr n P St)(i:Nat->Nat->Bool)(L:CmpOf prog w A.in1 .Gt P i)(S:Y)(d:aa)(f:S∉fp):∀(k j:Nat)(s:ak)(l:aa)(c:Nat),n-(j+1)=k->j+1<=n->St (j+1) s.heap->P (qF i j) l->s.heap.get? S=V {cls:=.type "list",data:=.seq #[l,l] c}->
   (∀v g q,P (qF i<|n-1) v->(∀b o,b∉wr->b≠S->s.heap.get? b=V o->g.get? b=V o)->R (.ok<|.ret v) {s with heap:=g,toks:=q})->lF (aH prog w) A (wD I S d) R s
 |0,j,s,l,c,X,hj,r,G,H,K=>by
  have hn:j+1=n:=ω
  have M:n-1=j:=ω
  refine SM a0 S d (λz=>f<|a0.sub _ z) (hn▸r) H λg q D=>K l g q (by rw[M];exact G) D
 |k+1,j,s,l,c,X,hj,r,G,H,K=>by
  have Q:S∉wr:=λz=>f<|a0.sub _ z;refine lE vY ?_;rw[nv lI _];unfold Builtin.«max.loop»
  wp_delta
  refine aj<|jU H O ?_;dsimp only;refine aj<|qB<|a0.item (j+1) s _ _ ω r λv g q U m D=>?_;have t:=D S _ Q H;refine aj<|aI ?_
  try dsimp only
  refine aj<|qB<|il<|aj<|L (j+1) (qF i j) v l _ _ _ U G ?_;refine aj<|il<|qC ?_;refine aj<|mw<|aI ?_;cases a:i (j+1) (qF i j) with
  |true=>
   rw[az O];refine aj<|ym (s:={s with heap:=g,toks:=q}) (hz:=by show 2<=bQ;rw[kM];decide) (_hz':=by show 2<=bQ+1;rw[kM];decide) t O ?_;refine aj<|mw ?_;have E:=yI (de λ_=>#[v,v]) t O;have p:∀b o,b≠S->g.get? b=V o->(g.update S<|de λ_=>#[v,v]).get? b=V o:=λb o a e=>(Cf _ _<|eA a).trans e;refine aI (nq lI _,DF a0 i L S d f k (j+1) {s with heap:=g.update S<|de λ_=>#[v,v],toks:=q} v _ ω ω (a0.frame _ _ _ m λb a o e=>p b o (λz=>f<|z▸a) e) ?_ E λT u x y C=>K T u x y λb o a h e=>C b o a h<|p b o h<|D b o a e);rw[PK,a,az O];exact U
  |false=>
   rw[ap ξ];refine aj<|mw ?_;refine aI (nq lI _,DF a0 i L S d f k (j+1) {s with heap:=g,toks:=q} l c ω ω m ?_ t λT u x y C=>K T u x y λb o a h e=>C b o a h<|D b o a e);rw[PK,a,ap ξ];exact G
def SL(M:vS prog w A.in1 I fp wr n P St)(p:Nat->Nat->Bool)(E:CmpOf prog w A.in1 .Gt P p)(S:Y)(d:aa)(f:S∉fp){s:ak}(G:0<n)(q:St 0 s.heap)(C:s.heap.get? S=V {cls:=.type "list",data:=.seq #[] c})(H:∀v g m,P (qF p<|n-1) v->(∀b o,b∉wr->b≠S->s.heap.get? b=V o->g.get? b=V o)->R (.ok<|.ret v) {s with heap:=g,toks:=m}):lF (aH prog w) A (wD I S d) R s:=by
 have r:S∉wr:=λz=>f<|M.sub _ z;refine lE vY ?_;rw[nv lI _];unfold Builtin.«max.loop»
 wp_delta
 refine aj<|jU C O ?_;dsimp only;refine aj<|qB<|M.item 0 s _ _ G q λv g m K i D=>?_;have j:=D S _ r C;refine aj<|aI ?_
 try dsimp only
 show aA _ _ (Hf S (λ_=>#[v,v]) >>= λ_=>again<|wD I S d) _ _ _;refine aj<|ym (s:={s with heap:=g,toks:=m}) (hz:=eM _) (_hz':=by show 2<=bQ+1;rw[kM];decide) j O ?_;have k:=yI (de λ_=>#[v,v]) j O;have a:∀b o,b≠S->g.get? b=V o->(g.update S<|de λ_=>#[v,v]).get? b=V o:=λb o h e=>(Cf _ _<|eA h).trans e;exact aI (nq lI _,DF M p E S d f (n-1) 0 {s with heap:=g.update S<|de λ_=>#[v,v],toks:=m} v _ ω ω (M.frame _ _ _ i λb h o e=>a b o (λz=>f<|z▸h) e) (by rw[abw];exact K) k λL t u x y=>H L t u x λb o h l e=>y b o h l<|a b o l<|D b o h e)
end
end
section
open PySem
def SP(a d:aa):argsOk "max" ([a],[(abd ("default") d)]):=by unfold argsOk;kernel_rfl
def SO(d:aa):Qm "max" ["key","default"] 0 {kw:=[(abd ("default") d)]}=aU [Z,V d]:=by first|rfl|kernel_rfl|decide +kernel
def SN{A:bY}{E:Ω}{T:ak}{x d:aa}{Q:Ω}(h:aA (aH c w) A.in1 (pC x) (λC a=>∃I m j n P p q,C=.ref I/\vS c w A.in1 I m j n P p/\p 0 a.heap/\(∀b∈m,b<a⁻¹)/\CmpOf c w A.in1 .Gt P q/\
   (n=0->∀f i,(∀b o,b∉j->a.heap.get? b=V o->f.get? b=V o)->Q d {a with heap:=f,toks:=i})/\
   (0<n->∀v f i,P (qF q<|n-1) v->(∀b o,b∉j->a.heap.get? b=V o->f.get? b=V o)->Q v {a with heap:=f,toks:=i})) E T):
  aA (aH c w) A (jJ (.builtin "max") [x] [(abd ("default") d)]) Q E T:=by
 refine kmb_tree act acr acx (SP _ _) ?_;unfold Builtin.max
 wp_delta
 have r:¬(({pos:=[x],kw:=[(abd ("default") d)]}:Args).pos.isEmpty=af):=λz=>dT z;rw[ap r];refine aj<|pA (SO d) ?_
 try dsimp only
 refine aj<|aI ?_;refine aj<|kL h (λC a H=>?_) λ_ _ z=>z;obtain⟨I,m,j,n,P,p,q,rfl,U,t,u,K,L,M⟩:=H;refine aj<|no ?_;have D:(a.heap.push {cls:=.type "list",data:=.seq ([]:List aa).toArray}).get? a⁻¹=V {cls:=.type "list",data:=.seq #[] 0}:=dF _ O;have y:a⁻¹∉m:=λz=>oH _<|u _ z;have g:p 0 (a.heap.push {cls:=.type "list",data:=.seq ([]:List aa).toArray}):=U.frame _ _ _ t λb _ o e=>cx _ e;have G:∀{f:aT},(∀b o,b∉j->b≠a⁻¹->(a.heap.push {cls:=.type "list",data:=.seq ([]:List aa).toArray}).get? b=V o->f.get? b=V o)->∀b o,b∉j->a.heap.get? b=V o->f.get? b=V o:=
  λk b o R e=>k b o R (dz<|cR e)<|cx _ e
 refine aI (nq lI _,?_);rcases Qv n with l|l
 ·exact SK (s:={a with heap:=a.heap.push {cls:=.type "list",data:=.seq ([]:List aa).toArray}}) U _ d l g D λf i k=>L l f i<|G k
 ·exact SL (s:={a with heap:=a.heap.push {cls:=.type "list",data:=.seq ([]:List aa).toArray}}) U q K _ d y l g D λv f i S k=>M l v f i S<|G k
end
section
variable{X:bf}
def To(K:aR)(f:fX)(g:a_):a_:=λe H Q=>f e H λh i=>g e i λx c=>∃(l:Y)(b:List Int)(d:Int),h=[.c l]/\x=.d d/\bP K c l (b.map ag.d)/\(b=[]->Q (.d d) c)/\∀M,M∈b->(∀a∈b,a<=M)->Q (.d M) c
def Uf{a e:bB}{M:a_}{p o r:cD}(hg:kC X "max")(hm:X.c "max"=Z)(y:hC "max"=V (.builtin "max"))(C:jR X [a] L)(hd:bJ X e M)(hc:X.b=af)(P:fh [a] X.env=[(abd aB (dC a X.env))]:=by rfl):bJ X (.Call (.Name "max" p) [a] [(V "default",e,r)] o) (To X.K L M):=by
 intro k s R H Q I h;refine BH<|pZ I hg hm y ?_;refine callWith_kw ?_ (by rw[P];rfl) (by rw[P];rfl) O O;refine bM (C o k s R H _ I h) λus s1 (vs,H1,I1,r1,q1)=>?_;refine kws_cons<|bM (hd k s1 R H1 _ I1 q1) λdv n (x,S,D,r2,q2)=>kws_nil ?_;obtain⟨l,f,d,rfl,rfl,hq,q0,q⟩:=q2;obtain⟨u,rfl,ru⟩:=iF r1;cases ru;obtain⟨T,rfl⟩:=r2;show aA (aH X.prog X.w) X.A (jJ (.builtin "max") [.ref l] [(abd (kf "default") (.int d T))]) _ _ n;obtain⟨c,g,p1,_⟩:=D.j hq;have hh:=I.b.a hc;have E:=p1.isList;have w:l<n⁻¹:=by obtain⟨_,e,_⟩:=E;exact cR e
 have hn:c.length=f.length:=by rw[<-g.j,ax]
 refine SN<|tL E ?_;refine(n⁻¹,[n⁻¹,l],[n⁻¹],c.toArray.size,_,_,λi j=>aC<|(f[j]?).getD 0<(f[i]?).getD 0,O,rQ (A:=X.A.in1) hh _ l (dz w) c.toArray,
  ((_,dF _ O,O,O),E.push _),λb U=>?_,λi j vi vj s' Q' E' z hj hQ=>?_,λh0 h' tk G=>?_,λ_ v h' tk y G=>?_)
 ·have K:b<=n⁻¹:=by
   simp only[bZ,pI,oM] at U;rcases U with rfl|rfl
   ·exact aW _
   ·exact yU w
  exact Ih K<|cR<|dF _ O
 ·obtain⟨m,t,e,rfl⟩:=uQ g (show c[i]?=V vi by simpa using z)
  obtain⟨m',t',e',rfl⟩:=uQ g (show c[j]?=V vj by simpa using hj);simp only[e,e',qI] at hQ;exact gt_int hQ
 ·have:f=[]:=nE (by rw[cT] at h0;omega)
  exact(.d d,S,D.B<|CB G,(T,O),q0 this)
 ·rw[cT] at y
  obtain⟨b1,b2⟩:=LQ (bt:=λi j=>aC<|(f[j]?).getD 0<(f[i]?).getD 0) (val:=λi=>(f[i]?).getD 0) (λi j=>O)<|c.length-1;obtain⟨m,t,e,rfl⟩:=uQ g (show c[qF (λi j=>aC<|(f[j]?).getD 0<(f[i]?).getD 0) (c.length-1)]?=V v by simpa using y);refine(.d m,S,D.B<|CB G,(t,O),q m (dp e) λa C=>?_);obtain⟨i,z⟩:=mD.mp C;have a0:i<f.length:=(cr.mp z).1;have:=b2 i ω;simp only[z,e,qI] at this;exact this
noncomputable def nT(a:List Int)(b c d:Option Int):List Int:=(yr (im b c d a.length).fst (im b c d a.length).snd.fst (im b c d a.length).snd.snd).filterMap λi=>a[i]?
def KF{b:List Int}(r:cw (b.map ag.d) a):∀L:List Nat,cw ((L.filterMap λi=>b[i]?).map ag.d) (L.filterMap λi=>a.toArray[i]?)
 |[]=>.nil
 |i::L=>by
  have d:=KF r L;have h:a.length=b.length:=by rw[<-r.j,ax]
  have f:a.toArray[i]?=a[i]?:=by simp
  cases e:b[i]? with
  |none=>
   have c:a.toArray[i]?=Z:=by
    rw[f];rw[aew] at e ⊢;omega
   rw[aez e,aez c];exact d
  |some n=>
   have j:i<a.length:=by rw[h];exact(cr.mp e).1
   have c:a[i]?=V a[i]:=dq j;obtain⟨m,t,g,k⟩:=uQ r c;rw[e] at g;obtain rfl:=cH g;have l:a.toArray[i]?=V (.int n t):=by rw[f,c,k]
   rw[aey e,aey l,cI];exact .cons (t,O) d
def TY(a:List Int)(b c d:Option Int)(h:(yr (im b c d a.length).fst (im b c d a.length).snd.fst (im b c d a.length).snd.snd).length<=bQ):(nT a b c d).length<=bQ:=dg (List.length_filterMap_le _ _) h
def Th(K:aR)(e:a_)(f g h:sN):a_:=λb H Q=>e b H λx i=>f b i λl j=>g b j λu m=>h b m λk c=>∃(a:Y)(d:List Int),x=.c a/\bP K c a (d.map ag.d)/\k≠V 0/\(nT d l u k).length<=bQ/\
 ∀p,c p=Z->Q (.c p) (aw c p<|.a<|(nT d l u k).map ag.d)
def KJ{n p t:Option bB}{M P R:sN}(T:bJ X e L)(U:sQ X n M)(hu:sQ X p P)(z:sQ X t R)(hw:∀v a,∃d,BJ (.Slice n p t y) aB v (.ref a)=Hk d (pE v<|.ref a):=by intro _ _;exact(_,by with_unfolding_all rfl)):bJ X (.Subscript e (.Slice n p t y) w) (Th X.K L M P R):=by
 intro c s j H Q I h;refine HV<|bM (T c s j H _ I h) λv s1 (x,H1,I1,r1,q1)=>?_;refine wpAny_Slice<|bM (U c s1 j H1 _ I1 q1) λA s2 (l,H2,I2,pl,q2)=>bM (hu c s2 j H2 _ I2 q2) λC s3 (u,H3,I3,pu,q3)=>bM (z c s3 j H3 _ I3 q3) λD g (k,H4,I4,pk,q4)=>?_;obtain⟨a,m,rfl,hq,hk,hz,q⟩:=q4;cases r1;have E:aE X c j H4 {g with heap:=g.heap.push {cls:=.type "slice",data:=.fields #[A,C,D]}}:=I4.B (t':=g.toks) λb ob q=>cx _ q;obtain⟨G,r,S,K⟩:=E.j hq;have i:G.length=m.length:=by rw[<-r.j,ax]
 show aA (aH X.prog X.w) X.A (HN e (.Slice n p t y) (.ref a)<|.ref g⁻¹) (jj X c j Q) X.a {g with heap:=g.heap.push {cls:=.type "slice",data:=.fields #[A,C,D]}};obtain⟨d,ho⟩:=hw (.ref a) g⁻¹;refine tail_any (ops:=d) S.isList.typeIs Pj.lookup ?_ ho;refine aa7 S.isList (acf ..) pl pu pk hk ?_ (by rw[cT,i,<-ax (f:=ag.d)];exact K);refine(.c (g.heap.push {cls:=.type "slice",data:=.fields #[A,C,D]}).objs.size,_,E.F (t':=g.toks) (o:=.a<|(nT m l u k).map ag.d) (λb ob q=>cx _ q) (aW _) ?_,O,q _<|E.a.j<|aW _);refine(by rw[ax];exact hz,_,0,?_,dF _ O);have:=KF r<|yr (im l u k m.length).fst (im l u k m.length).snd.fst (im l u k m.length).snd.snd;unfold nT;rw[cT,i];exact this
end
noncomputable def ng(a:Ξ):List Int:=a.map λp=>(p.length:Int)
noncomputable def lr(a:Ξ):Nat:=a.foldr (λp m=>max p.length m) 0
noncomputable def md(a:Ξ)(k:Nat):Int:=((a.filter λp=>aC<|p.length=k+1).length:Int)
noncomputable def rK(a:Ξ):List Int:=(cV<|lr a).map<|md a
noncomputable def ox(a:List Int):Int:=((cV a.length).map λk=>a.getD k 0*(1-(k:Int)%2*2)).sum
def GM:∀{a:Ξ}{p:List Int},p∈a->p.length<=lr a
 |q::r,p,h=>by
  rcases bZ.mp h with rfl|h
  ·exact Nat.le_max_left _ _
  ·exact dg (GM h)<|Nat.le_max_right _ _
def GL:∀a:Ξ,lr a=0\/∃p∈a,p.length=lr a
 |[]=>.inl O
 |q::r=>by
  have e:lr (q::r)=max q.length (lr r):=O;rcases Nat.le_total (lr r) q.length with h|h
  ·exact .inr (q,dQ,by rw[e,Nat.max_eq_left h])
  ·rw[e,Nat.max_eq_right h]
   rcases GL r with g|⟨p,b,g⟩
   ·exact .inl g
   ·exact .inr (p,eV _ b,g)
def Oj{a:Ξ}{m:Nat}(h:∀p∈a,p.length<=m):lr a<=m:=by
 rcases GL a with g|⟨p,b,g⟩
 ·omega
 ·rw[<-g];exact h p b
def ZD{b:Ξ}{M:Int}(f:0<=M)(d:M=0\/M∈ng b)(e:∀a∈ng b,a<=M):M=(lr b:Int):=by
 have i:(lr b:Int)<=M:=by
  rcases GL b with g|⟨p,c,g⟩
  ·omega
  ·rw[<-g];exact e _<|aP.mpr (p,c,O)
 have j:M<=(lr b:Int):=by
  rcases d with h|h
  ·omega
  ·obtain⟨p,c,rfl⟩:=aP.mp h
   have:=GM c;omega
 omega
def ZG(a:Ξ)(k:Nat):(((ng a).countP (·==((k:Int)+1)):Nat):Int)=md a k:=by
 unfold md ng;rw[List.countP_map,<-List.countP_eq_length_filter]
 congr 1
 refine List.countP_congr λp _=>?_;simp only[ut,beq_iff_eq,iD];omega
def nh(a:Option Int)(n:Nat)(L:List Nat)(h:yr (im a Z (V 2) n).fst (im a Z (V 2) n).snd.fst (im a Z (V 2) n).snd.snd=L)(b:List Int)(c:b.length=n):nT b a Z (V 2)=L.filterMap λi=>b[i]?:=by
 unfold nT;rw[c,h]
def ZN(f:List Int)(h:f.length<=5):(nT f Z Z<|V 2).sum-(nT f (V 1) Z<|V 2).sum=ox f:=by
 match f,h with
 |[],_=>
  rw[nh Z 0 [] δ [] O,nh (V 1) 0 [] δ [] O];simp[ox,wf]
 |[a],_=>
  rw[nh Z 1 [0] δ [a] O,nh (V 1) 1 [] δ [a] O];simp[ox,wf]
 |[a,b],_=>
  rw[nh Z 2 [0] δ [a,b] O,nh (V 1) 2 [1] δ [a,b] O];simp[ox,wf];omega
 |[a,b,c],_=>
  rw[nh Z 3 [0,2] δ [a,b,c] O,nh (V 1) 3 [1] δ [a,b,c] O];simp[ox,wf];omega
 |[a,b,c,d],_=>
  rw[nh Z 4 [0,2] δ [a,b,c,d] O,nh (V 1) 4 [1,3] δ [a,b,c,d] O];simp[ox,wf];omega
 |[a,b,c,d,e],_=>
  rw[nh Z 5 [0,2,4] δ [a,b,c,d,e] O,nh (V 1) 5 [1,3] δ [a,b,c,d,e] O];simp[ox,wf];omega
 |_::_::_::_::_::_::_,h=>simp at h
noncomputable def ow(q:List Int):Int:=1-2*(1-(q.length:Int)%2)
noncomputable def jT(a:Ξ):Int:=(a.map ow).sum
def qt(q:List Int)(l:Ξ):jT (q::l)=ow q+jT l:=by unfold jT;rw[cI,jz]
def ZJ(l m:Ξ):jT (l++m)=jT l+jT m:=by unfold jT;rw[bT,yZ]
def ZI{l m:Ξ}(h:l.Perm m):jT l=jT m:=by
 induction h with
 |nil=>rfl
 |cons x _ c=>rw[qt,qt,c]
 |swap x y l=>rw[qt,qt,qt,qt];omega
 |trans _ _ a b=>rw[a,b]
noncomputable def qr(a:Ξ)(n:Nat):Int:=((cV n).map λk=>md a k*(1-(k:Int)%2*2)).sum
def GN(a:Ξ)(n:Nat):qr a (n+1)=qr a n+md a n*(1-(n:Int)%2*2):=by
 unfold qr;rw[wf,bT,yZ];simp
def ZH(q:List Int)(a:Ξ)(k:Nat):md (q::a) k=(if q.length=k+1 then 1 else 0)+md a k:=by
 unfold md
 by_cases h:q.length=k+1
 ·rw[pM (by simpa using h),az h,cO];omega
 ·rw[pN (by simpa using h),ap h];omega
def Om(q:List Int)(a:Ξ):∀n,qr (q::a) n=qr a n+(if 1<=q.length/\q.length<=n then ow q else 0)
 |0=>by rw[ap ω];simp[qr]
 |n+1=>by
  rw[GN,GN,Om q a n,ZH]
  by_cases h:q.length=n+1
  ·rw[az h,ap ω,az ω]
   have:ow q=1-(n:Int)%2*2:=by unfold ow;rw[h];omega
   rw[this,QX];omega
  ·rw[ap h,zi]
   by_cases b:1<=q.length/\q.length<=n
   ·rw[az b,az ω];omega
   ·rw[ap b,ap ω];omega
def Ol:∀n,qr [] n=0
 |0=>O
 |n+1=>by rw[GN,Ol n];simp[md]
def On(n:Nat):∀a:Ξ,(∀q∈a,1<=q.length/\q.length<=n)->qr a n=jT a
 |[],_=>Ol n
 |q::a,h=>by
  rw[Om,On n a λx b=>h x<|eV _ b,az<|h q dQ,qt];omega
def ZO{a:Ξ}(h:∀q∈a,1<=q.length):ox (rK a)=jT a:=by
 rw[<-On (lr a) a λq c=>(h q c,GM c)];unfold ox qr rK;rw[ax,mE]
 congr 1
 refine kj λk d=>?_;have b:=gB.mp d;rw[ul,cB,qM b]
 rfl
def ZC{q:List Int}(h:q≠[]):1<=q.length:=by
 cases q with
 |nil=>exact bu O h
 |cons _ _=>simp
def ZM{q:List Int}(h:q∈bR a):q≠[]:=by
 obtain⟨p,_,b⟩:=ki.mp<|Bu.mp h;exact(po.mp b).1
def vG{q:List Int}:q∈bR a↔q≠[]/\∃t∈a,q.Sublist t:=by
 rw[Bu,ki];constructor
 ·rintro⟨t,c,b⟩
  exact((po.mp b).1,t,c,(po.mp b).2)
 ·rintro⟨h,t,c,b⟩
  exact(t,c,po.mpr (h,b))
def ZP(a:Ξ):ox (rK<|bR a)=jT (bR a):=ZO λq b=>ZC<|ZM b
noncomputable abbrev afs(t p:List Int):Bool:=(p.map λx=>aC<|x∈t).all id
section
variable{pss:Ξ}{p:List Int}
def vI(hw:ii pss=af){q:List Int}(h:q∈bR pss):jS q=af:=by
 obtain⟨t,a,b⟩:=ki.mp<|Bu.mp h;exact Of ((qp hw).2.1 t a) b
end
section
variable{P:bw}{w:aX}{K:aR}{mg:au->Option aa}{base:aT}
def NU(h:gz a)(i:Nat):gz (a.take i):=tH h λx b=>uk b
inductive Fu(K:aR)(vs:List ag)(H:ae)(Q:aS)(E':cZ):Prop
 |a:∀m ts ps,(vs=[.c m])->(bP K H m<|ts.map ag.c)->(dm H ts ps)->((∀x∈ps,x.2.length<=5))->((ps.map (·.1)).Nodup)->(ps.length<=1000)->(gz ps)->(∀D H',aF H H'->H' D=V (.a [])->Q (.c D) H')->Fu K vs H Q E'
def AK:dK ["pairs","seconds","pair","found"] ["pairs"] (b_ AY):=(O,O,O,δ,O,δ,δ)
def XV(F:bN K "first_round" "first_round" AY f fd)(a7:eY mg)(Fr:bN K "round_with" "round_with" xG I l)(br:cQ K l ["seconds","new"] [])(mr:mg "round_with"=V (.ref I))(Gr:bO P w K mg base bv 3 I l ["seconds","new"] AC):bO P w K mg base bv 4 f fd ["pairs"] (Fu K):=by
 refine F.j AK (λvs H Q E h=>?_) (λa3 A L s H vs Q E hr h=>?_)
 ·obtain⟨m,ts,n,rfl,_⟩:=h;rfl
 ·obtain⟨m,ts,n,rfl,hm,ht,h5,M,hz,q,k⟩:=h
  have hu:=jP hr;refine(_,bx (cu (i:=1) AK.a O (ah O) jO)
   (bx (eU eL O (dy<|ai 0) (ca (i:=2) AK.a O<|ah O)
    (bx (cu (i:=3) AK.a O (ah O)<|dj Gr hr O mr Fr.a br .nil cv<|aq (ai 1)<|aq (ai 2) aD)
    (bx (fJ (dW pX (eC ie O a7.a gN<|aq (ai 3) aD) bg<|dI _) (bF<|cY<|ai 3) fV)
   <|bF<|jE hu (ai 1) (eX jf (ai 2) bg (λ_ _=>O)) (eX jf (ai 2) bg (λ_ _=>O)) O)))
  <|bF<|cY<|iH aD),?_)
  intro d hd;have s1:=aF.q (o:=.c []) hd;have a4:=ht.q;refine(_,O,m,O,(_,s1.N hm),iI (K:=K) (a:=m) (xs:=ts.map ag.c) (λi C r=>∃(R S:Option ag),C=[V<|.c m,V<|.c d,R,S]/\aF H r/\mX r d (n.take i))
   (Z,Z,O,s1,[],ay,.nil) (λi C r _ (_,_,_,g,_)=>g.N hm) ?_ ?_)
  ·rintro i x C r T ⟨R,S,rfl,g,c⟩
   obtain⟨t,et,rfl⟩:=dM T;obtain⟨y,G,hy⟩:=ht.B et;have U:y∈n:=dp G;have p:((n.take<|i+1).map (·.1)).Nodup:=M.sublist<|(aeb _ _).map _;rw[cq G,bT,iS] at p;have u:y.1∉(n.take i).map (·.1):=λh=>p.2.2 _ h y.1 (by simp) O;have X:gz (n.take i++[y]):=by rw[<-cq G];exact NU q _
   refine(_,O,_,O,d,t,n.take i,y,O,c,hy.j g,p.1,u,λx T=>h5 x<|uk T,h5 y U,by rw[dR];omega,NU q i,λD H3 s3 a5 hD _=>?_,λD H3 us cs _ _ _ _ a0 _ a1=>bu X<|Oc a0 a1);refine(_,O,D,[],O,.inl<|bP.j hD,_,_,O,O,_,O,eF ?_);obtain⟨a,b,e,ha,hb⟩:=hy.j<|g.j s3;obtain⟨a6,ek,hk⟩:=c.j s3;obtain⟨v,e1,e2,e3⟩:=MP hk u hb;have a2:=fP hk;refine(_,O,t,_,_,_,O,O,fM.j e,ge (j:=1) O,_,O,_,O,t,_,_,_,O,O,fM.j e,ge (j:=0) O,d,_,O,xf.t (k:=y.1.map aQ) ek (by rw[cj];exact ha)<|gn (by rw[a2,dR];omega),(_,_,O,(g.j s3).F hd,?_));rw[e1,cq G];exact(v,ay,gf e2 λkv x (h1,b,h2,h3)=>(h1,b,h2,by
    show aw H3 d _ b=_;rw[bG (λz=>by subst z;have h4:H3 b=V _:=h3;rw[ek] at h4;cases h4)];exact h3))
  ·rintro C r ⟨R,S,rfl,g,c⟩
   exact(bU (by simp),λD hD=>k D _ (g.F<|g.M hD) ay)
inductive Fg(K:aR)(vs:List ag)(H:ae)(Q:aS)(E':cZ):Prop
 |a:∀l m as pss ts ps,(vs=[.c l,.c m])->(bP K H l<|as.map ag.c)->(bC H as pss)->(lW pss)->(bP K H m<|ts.map ag.c)->(dm H ts ps)->(kc (bR pss) ps)->(ps.length<=1000)->(∀D H',aF H H'->H' D=V (.b [.f "pairing"])->Q (.c D) H')->Fg K vs H Q E'
def FF:dK ["web","pairs","bad","found"] ["web","pairs"] (b_ AV):=(O,O,O,δ,O,δ,δ)
def XR{f n o p:Y}{G b c d:cS}(F:bN K "judged" "judged" AV f G)(a1:eY mg)(Fb:bN K "first_bad" "first_bad" xO n b)(bb:cQ K b ["every","pairs"] [])(mb:mg "first_bad"=V (.ref n))(Gb:bO P w K mg base bv 3 n b ["every","pairs"] (Fv K))(Fr:bN K "first_round" "first_round" AY o c)(br:cQ K c ["pairs"] [])(mr:mg "first_round"=V (.ref o))(Gr:bO P w K mg base bv 4 o c ["pairs"] (Fu K))(Fp:bN K "pieces" "pieces" tt p d)(bp:cQ K d ["web"] [])(mp:mg "pieces"=V (.ref p))(Gp:bO P w K mg base bv 8 p d ["web"] (vh K)):bO P w K mg base bv 9 f G ["web","pairs"] (Fg K):=by
 refine F.j FF (λvs H Q E h=>?_) (λa0 A q s H vs Q E r h=>?_)
 ·obtain⟨l,m,I,e,t,j,rfl,_⟩:=h;rfl
 ·obtain⟨l,m,I,e,t,j,rfl,hl,ha,L,M,R,g,S,k⟩:=h
  have u:eQ 3 _:=r.j ξ;have v:eQ 4 _:=r.j ξ;refine(_,bx (cu (i:=2) FF.a O (ah O)<|dj Gb u O mb Fb.a bb .nil cv<|aq (dj Gp r O mp Fp.a bp .nil cv<|aq (ai 0) aD)<|aq (ai 1) aD)
   (bx (fJ (dW Um (ai 2) KL<|dI _) zV fV)
   (bx (cu (i:=3) FF.a O (ah O)<|dj Gr v O mr Fr.a br .nil cv<|aq (ai 1) aD)
   (bx (fJ (dW pX (eC ie O a1.a gN<|aq (ai 3) aD) bg<|dI _) zV fV)
  <|bF<|cY<|iG<|aq ic aD))),?_)
  have U:∀x∈j,x.2.length<=5:=λx hx=>(nc.mp<|vI L.1 (g.has x hx).1).2.1;refine(_,O,l,I,e,O,hl,ha,L,λKN H1 ks y _ z C=>?_);refine(_,O,KN,m,ks,bR e,t,j,O,bP.j z,C,y.N M,R.j y,g.has,U,g.a,S,λH2 s2=>?_);have a:=y.j s2;refine(_,O,O,_,O,eF (_,O,m,t,j,O,a.N M,R.j a,U,xW g.a,S,g.b,λD H3 X hD=>?_));refine(_,O,D,[],O,.inl<|bP.j hD,_,_,O,O,_,O,eF (bU (by simp),λT hT=>k T _ ((a.j X).F<|(a.j X).M hT) ay))
end
noncomputable def xb(K:aR)(a:Y)(n:Nat):iZ:=
 (λi H=>i<n/\∃b,bP K H a b/\b.length=n,λi H x c=>c=H/\∀b,bP K H a b->b.reverse[i]?=V x,λi H=>i=n/\∃b,bP K H a b/\b.length=n)
def S'{K:aR}(a j:Y)(n:Nat):oe P w K tg (xb K a n) [j] j (λi h=>h.IsRevIter j a<|(n:Int)-1-(i:Int)) where
 f:=by simp
 a:=λi h f b m=>by
  have e:b=j:=by simpa using m
  subst e;obtain⟨o,e,c,d⟩:=f;exact(o,e,λv z=>by rw[d] at z;cases z)
 c:=λi h t f k=>f.at λo e=>k j (by simp) o e
 d:=by
  intro X A C D U i g s σ H E I y f G;subst A C D;obtain⟨hi,r,L,hn⟩:=G;obtain⟨a0,rv,p,hz⟩:=I.j L;have hx:r.reverse[i]?=V (r[n-1-i]'ω):=by
   have e:r.length-1-i=n-1-i:=ω
   rw[List.getElem?_reverse ω,e];exact dq _
  obtain⟨u,hu,ru⟩:=rv.q<|dq (l:=r) (i:=n-1-i) ω;obtain⟨M,Q,f2,R,S,T⟩:=y j (by simp);have e:(n:Int)-1-(i:Int)=((n-1-i:Nat):Int):=ω
  rw[e] at f;refine wpAny_pyNext_rev_item f p.isList (x:=u) (by simpa using hu) λt q sb=>?_;rw[show((n-1-i:Nat):Int)-1=(n:Int)-1-((i+1:Nat):Int) from ω] at q;have I1:aE X g σ H {s with heap:=t}:=I.S (t':=s.toks) (λb o m e=>(sb.2 b m).trans e) M Q R S T;obtain⟨o,e,c,d⟩:=id q;exact(u,O,uR (s:={s with heap:=t}) e c d ξ (r[n-1-i]'ω,H,I1,ru,(O,λys hy=>by rw[I.A5 hy L];exact hx),q,λb m=>(y b m).1))
 done:=by
  intro X A C D U i g s σ H E I y f G;subst A C D;obtain⟨hi,r,L,hn⟩:=G;obtain⟨M,Q,f2,R,S,T⟩:=y j (by simp);rw[hi,show(n:Int)-1-(n:Int)=-1 from ω] at f;exact wpAny_pyNext_rev_end (I.b.a U) f λt eb=>(O,I.S (t':=s.toks) (λb o m e=>eb b o m e) M Q R S T)
 e:=λ_ _ _ _ _ f h=>aa0 f h
def UV(K:aR)(d:fX):ji:=λe H R=>d e H λf b=>∃a c,f=[.c a]/\bP K b a c/\R (xb K a c.length) b
section
variable{X:bf}{tg:bB}
def T'{e:bB}{j:fX}{p c:cD}(l:kC X "reversed")(m:X.c "reversed"=Z)(n:hC "reversed"=V (.type "reversed"))(r:jR X [e] j)(t:fh [e] X.env=[(abd aB (dC e X.env))]:=by rfl):jp X tg (.Call (.Name "reversed" p) [e] [] c) (UV X.K j):=by
 intro d M v H R I h;refine CC<|pZ I l m n<|yR (bM (r c d M v H _ I h) λG f (K,w,i,x,y)=>?_) t O;obtain⟨a,k,rfl,z,q⟩:=y;obtain⟨u,rfl,A⟩:=iF x;cases A;obtain⟨g,C,D,L⟩:=i.j z;refine call_reversed_list D.isList ?_;refine aa0 (s:={f with heap:=f.heap.push<|revObj a<|(g.toArray.size:Int)-1}) (_,dF _ O,O,O) ?_;refine(f⁻¹,[f⁻¹],_,_,w,O,i.B λb o e=>cx _ e,S' a _ k.length,(_,dF _ O,O,?_),λb E=>?_,q)
 ·show d_ #[.ref a,iy ((g.toArray.size:Int)-1)]=d_ #[.ref a,iy ((k.length:Int)-1-((0:Nat):Int))]
  rw[cT,C.j];simp
 ·have e:b=f⁻¹:=by simpa using E
  subst e;exact i.M (aW _)<|i.a.j<|aW _
end
def Ve{K:aR}{xs:List ag}{g:gj}{l:gi}{D:og}{b:aO}(c:Nat->aO->ae->Prop)(o:c 0 b H)(r:∀i b H,i<=xs.length->c i b H->bP K H a xs)(s:∀i x b H,xs.reverse[i]?=V x->c i b H->g x b H λd k=>l {D with a:=c<|i+1,b:=c<|i+1,c:=D.a} d k)(t:∀b H,c xs.length b H->D.a b H):∃w:Nat->Nat->aO->ae->Prop,(∃m,w 0 m b H)/\∀i m b H,w i m b H->
   ((xb K a xs.length).b i H/\D.a b H)\/((xb K a xs.length).a i H/\∃z:aO->ae->Prop,(∀f h,z f h->∃n,n<m/\w (i+1) n f h)/\∀x h,(xb K a xs.length).c i H x h->g x b h λd k=>l {D with a:=z,b:=z,c:=D.a} d k):=by
 refine(λi m b H=>m=xs.length-i/\i<=xs.length/\c i b H,(xs.length,by simp,eM _,o),?_);rintro i m b H ⟨rfl,u,p⟩;have q:=r i b H u p
 by_cases j:i<xs.length
 ·refine .inr ((j,xs,q,O),c<|i+1,λf h v=>(xs.length-(i+1),ω,O,j,v),λx h y=>?_)
  obtain⟨e,y⟩:=y;subst e;exact s i x b _ (y xs q) p
 ·have e:i=xs.length:=ω
  subst e;exact .inl ((O,xs,q,O),t b H p)
noncomputable abbrev xH:cN:=eI 32
noncomputable abbrev xI:cN:=eI 31
noncomputable def rG(a:Ξ):List aM:=a.reverse.flatMap λp=>(cC p).map λr=>(abd r p)
def Nn{x:aM}:x∈rG a↔x.2∈a/\x.1∈cC x.2:=by
 unfold rG;rw[ki];constructor
 ·rintro⟨p,b,c⟩
  obtain⟨r,d,rfl⟩:=aP.mp c;exact(It.mp b,d)
 ·rintro⟨e,f⟩
  exact(x.2,It.mpr e,aP.mpr (x.1,f,O))
def NY:∀{a b:List Y}{c d:List aM},dm H a c->dm H b d->dm H (a++b) (c++d)
 |_,_,_,_,.nil,h=>h
 |_,_,_,_,.cons r q,h=>.cons r (NY q h)
def Zq{b:List Y}(h:bC H b a):bC H b.reverse a.reverse:=by
 induction h with
 |nil=>exact .nil
 |cons r t c=>rw[Ip,Ip];exact bC.B c r
abbrev MF:a_:=kq<|dE (bH 0)<|dE (bH 1) fI
section
variable{P:bw}{w:aX}{K:aR}{mg:au->Option aa}{base:aT}
def Xl{m:List Y}{i:Ξ}{Q:aS}(w:bP K d L (m.map ag.c))(t:bC d m i)(y:cM d g p)(U:i.length<=1000)(u:d D=Z)(k:∀(a:ae)(c:List Y),aF d a->a D=V (.a<|c.map ag.c)->dm a c (i.map λr=>(abd r p))->Q (.c D) a):dY (gY K L) (dk 0) gC MF [Z,V<|.c g] d D Q:=by
 have A:=t.j;refine jh (xs:=m.map ag.c) (λj n l a=>∃(v:Option ag)(c:List Y),n=[v,V<|.c g]/\aF d a/\a D=V (.a l)/\l=c.map ag.c/\dm a c ((i.map λr=>(abd r p)).take j)) ?_ ?_ ?_ ?_
 ·exact(Z,[],O,aF.q u,ay,O,.nil)
 ·rintro j n l a ⟨v,c,rfl,f,b,rfl,_⟩
  exact f.N w
 ·rintro j n l a x C E G ⟨v,c,rfl,f,b,rfl,q⟩
  obtain⟨X,H,rfl⟩:=dM C;obtain⟨r,I,M⟩:=t.q H;have P:(m.map ag.c).length<=bQ:=by rw[ax];exact bU ω
  have e:(i.map λr=>(abd r p))[j]?=V (abd r p):=by rw[cB,I];rfl
  refine iX (_,O,_,O,bU (by simp),λT R=>?_);have h:=aF.q (o:=.b [.c X,.c g]) R;have s:ig (aw a T<|.b [.c X,.c g]) T (abd r p):=(X,g,ay,(f.j h).B M,(f.j h).B y);refine fz P E G (h _ _ b) (_,c++[T],O,(f.j h).F u,ay,by rw[bT];rfl,?_);rw[cq e];exact ot (xZ (q.j h) s) (h _ _ b) (by intro S z;cases z)
 ·rintro n l a ⟨v,c,rfl,f,b,rfl,q⟩
  rw[e_ (by rw[ax,ax];omega)] at q;exact k a c f b q
inductive EY(K:aR)(vs:List ag)(H:ae)(Q:aS)(E':cZ):Prop
 |a:∀l as kn,(vs=[.c l])->(bP K H l<|as.map ag.c)->(bC H as kn)->((∀p∈kn,p.length<=5))->(kn.length<=1000)->(∀D H' ts,aF H H'->H' D=V (.a<|am ag.c ts)->dm H' ts (rG kn)->Q (.c D) H')->EY K vs H Q E'
def FE:dK ["every","told","piece"] ["every"] (b_ xH):=(O,O,O,δ,O,δ,δ)
def Xz{fd j:cS}(F:bN K "pairs_of" "pairs_of" xH f fd)(a8:eY mg)(Fr:bN K "rims_of" "rims_of" rB R j)(br:cQ K j ["piece"] [])(mr:mg "rims_of"=V (.ref R)):bO P w K mg base bv 2 f fd ["every"] (EY K):=by
 have Gr:bO P w K mg base bv 1 R j ["piece"] vg:=Ba Fr a8;refine F.j FE (λvs H Q E h=>?_) (λa4 A S s H vs Q E hr h=>?_)
 ·obtain⟨l,as,t,rfl,_⟩:=h;rfl
 ·obtain⟨l,as,t,rfl,hl,ht,I,hz,k⟩:=h
  refine(_,bx (cu (i:=1) FE.a O (ah O)<|iH aD)
   (bx (eU eL O (T' O a8.i Zk<|aq (ai 0) aD) (ca (i:=2) FE.a O<|ar O)
    (bF (nR (mP oC Qa acg KV (ai 1) (aq (ff ["every","told","piece"] ["rim","piece"] [Z,V 2] (dy<|dj Gr hr O mr Fr.a br .nil cv<|aq (ai 2) aD) (λcl C e g ex=>ca (i:=0) (dX ["rim","piece"]) O<|ah O) (λcl C e g ex=>gX)
     (λcl C e g ex=>iG<|aq (ai 0)<|aq (ai 1) aD) (hfr:=gD (b_ xH) δ) (te:=MF)) aD)))))
  <|bF<|cY<|ai 1),?_)
  have T:=ht.j;refine(bU (by simp),λL hL=>?_);have s1:=aF.q (o:=.a []) hL;have U:=Zq ht;refine(_,O,l,_,O,s1.N hl,Ve (K:=K) (a:=l) (xs:=as.map ag.c) (λi M m=>∃(X:Option ag)(u:List Y),M=[V<|.c l,V<|.c L,X]/\aF H m/\m L=V (.a<|u.map ag.c)/\dm m u ((t.reverse.take i).flatMap λp=>(cC p).map λr=>(abd r p)))
   (Z,[],O,s1,ay,.nil) (λi M m _ (_,_,_,n,_)=>n.N hl) ?_ ?_)
  ·rintro i x M m hx ⟨X,u,rfl,n,b,c⟩
   rw[<-List.map_reverse] at hx;obtain⟨a,ea,rfl⟩:=dM hx;obtain⟨p,ep,v⟩:=U.q ea;have q:p∈t:=It.mp<|dp ep;have hi:i<t.length:=by have:=(cr.mp ep).1;rw[QC] at this;exact this
   have a3:((t.reverse.take i).flatMap λp=>(cC p).map λr=>(abd r p)).length<=5*i:=by
    have:∀l:Ξ,(∀p∈l,p.length<=5)->(l.flatMap λp=>(cC p).map λr=>(abd r p)).length<=5*l.length:=λl=>by
     induction l with
     |nil=>intro _;simp
     |cons a r ih=>
      intro h;rw[so,ck,ax,cO];have h1:=m_ a;have h2:=h a dQ;have h3:=ih λp v=>h p<|eV _ v;omega
    have h:=this (t.reverse.take i) λp v=>I p<|It.mp<|uk v;rw[dR,QC] at h;omega
   have a5:=c.q;refine(_,O,.inl (O,_,bP.j b),_,O,a,p,O,n.B v,I p q,λRL H3 rs s3 _ y a0=>(RL,O,(_,bP.j y),λD hD=>eP<|Xl (bP.j y) a0 ((n.j s3).B v) (dg (m_ _) (by have:=I p q;omega)) hD λH4 us s4 a1 G=>?_));have a2:=G.q;rw[ax] at a2;have a6:=m_ p;have a7:=I p q;have d:=s3.j s4;refine(L,D,_,_,O,O,d _ _ b,a1,by rw[ax,ax];exact bU ω,(_,u++us,O,(n.j d).F hL,by rw[ay,bT],?_));rw[cq ep,CM,List.flatMap_singleton];exact ot (NY (c.j d) G) (d _ _ b) (by intro xs z;cases z)
  ·rintro M m ⟨X,u,rfl,n,b,c⟩
   rw[ax,T,e_ (by rw[QC];omega)] at c;exact(_,O,k L m u n b c)
end
def Bo(b:Ξ)(a:List aM):Prop:=∀x:aM,x.2∈b->x.1∈cC x.2->x.1∈bW a\/x.2∈bW a\/¬gz (a++[x])
def tz{p:List Int}:p∈bW c↔∃x∈c,p=x.1\/p=x.2:=by
 unfold bW;rw[ki];exact(λ(x,a,b)=>(x,a,by simpa using b),λ(x,a,b)=>(x,a,by simpa using b))
def ET{a b:List aM}(h:a.Perm b):(bW a).Perm (bW b):=h.flatMap_right _
def Xn{b:Ξ}{c d:List aM}(h:c.Perm d)(g:kc b c):kc b d:=(λx a=>g.has x<|h.mem_iff.mpr a,(ET h).nodup_iff.mp g.a,tH g.b λx a=>h.mem_iff.mpr a)
def YK{e f:List aM}(h:e.Perm f)(g:Bo d e):Bo d f:=λx i j=>by
 rcases g x i j with a|a|a
 ·exact .inl<|(ET h).mem_iff.mp a
 ·exact .inr<|.inl<|(ET h).mem_iff.mp a
 ·exact .inr (.inr λc=>a (tH c λy b=>by
   rcases cy.mp b with b|b
   ·exact fR _<|h.mem_iff.mp b
   ·exact gh _ b))
def YM{l:List aM}(h:(l.map (·.1)).Nodup):∀a∈l,∀b∈l,a.1=b.1->a=b:=by
 induction l with
 |nil=>intro a g;cases g
 |cons c r m=>
  intro a g b j e;rw[cI,jA] at h;rcases bZ.mp g with k|f
  ·rcases bZ.mp j with i|d
   ·rw[k,i]
   ·exact bu (aP.mpr (b,d,by rw[<-e,k])) h.1
  ·rcases bZ.mp j with i|d
   ·exact bu (aP.mpr (a,f,by rw[e,i])) h.1
   ·exact m h.2 a f b d e
def YL{d c:List aM}(g:∀x∈d,x∈c)(f:(c.map (·.1)).Nodup)(i:(d.map (·.1)).Perm (c.map (·.1))):d.Perm c:=by
 have l:d.Nodup:=(QQ (·.1) (λa b h e=>h (by rw[e])) (zd.mp<|i.nodup_iff.mpr f):d.Pairwise (·≠·));have m:c.Nodup:=(QQ (·.1) (λa b h e=>h (by rw[e])) (zd.mp f):c.Pairwise (·≠·));refine(Ir l m).mpr λx=>(g x,λj=>?_);obtain⟨y,k,e⟩:=aP.mp<|i.mem_iff.mpr<|aP.mpr (x,j,O);rw[<-YM f y (g y k) x j e];exact k
def WU{r p:List Int}(h:r∈cC p):r≠p:=λe=>by
 obtain⟨_,k,a,b⟩:=Bt.mp h;have:=(GK a b).2;rw[e] at this;omega
def EU(l:List aM):(bW l).length=2*l.length:=by
 induction l with
 |nil=>rfl
 |cons a r b=>rw[show bW (a::r)=[a.1,a.2]++bW r from O,ck,b];simp;omega
abbrev Mz:a_:=kq<|dE (bH 0)<|dE (oT (bH 1)<|bH 0) fI
noncomputable abbrev FT:List au:=["web","seconds","stands","pair","piece"]
section
variable{P:bw}{w:aX}{K:aR}{mg:au->Option aa}{base:aT}
def Wr{i:ae}{w:List Y}{n:Ξ}{Q:aS}(X:bP K i L (w.map ag.c))(P:bC i w n)(hs:mX i d A)(G:∀p∈n,p∈A.map (·.1))(hz:n.length<=1000)(R:i D=Z)(k:∀(c:ae)(f:List Y)(a:List aM),aF i c->c D=V (.a<|f.map ag.c)->dm c f a->a.map (·.1)=n->(∀x∈a,x∈A)->Q (.c D) c):dY (gY K L) (dk 0) gC Mz [Z,V<|.c d] i D Q:=by
 have a0:=P.j;refine jh (xs:=w.map ag.c) (λj C s c=>∃(v:Option ag)(f:List Y)(a:List aM),C=[v,V<|.c d]/\aF i c/\c D=V (.a s)/\s=f.map ag.c/\dm c f a/\a.map (·.1)=n.take j/\∀x∈a,x∈A) ?_ ?_ ?_ ?_
 ·exact(Z,[],[],O,aF.q R,ay,O,.nil,O,λx t=>(by cases t))
 ·rintro j C s c ⟨v,f,a,rfl,g,e,rfl,_⟩
  exact g.N X
 ·rintro j C s c y t hj hy ⟨v,f,a,rfl,g,e,rfl,H,E,l⟩
  obtain⟨o,eo,rfl⟩:=dM t;obtain⟨r,S,U⟩:=P.q eo;have hn:(w.map ag.c).length<=bQ:=by rw[ax];exact bU ω
  obtain⟨a1,ek,hk⟩:=hs.j g;rcases xq hk r with ⟨_,h0⟩|⟨b,q,ev,hq,I⟩
  ·exact bu (G r<|dp S) h0
  have u:=jr.t (k:=r.map aQ) ek (by rw[cj];exact g.B U);rw[ev] at u;refine iX (_,O,_,O,_,O,d,_,O,u,bU (by simp),λT hT=>?_);have m:=aF.q (o:=.b [.c o,.c b]) hT;have M:ig (aw c T<|.b [.c o,.c b]) T (abd r q):=(o,b,ay,(g.j m).B U,m.B I);refine fz hn hj hy (m _ _ e) (_,f++[T],a++[(abd r q)],O,(g.j m).F R,ay,by rw[bT];rfl,ot (xZ (H.j m) M) (m _ _ e) (by intro a z;cases z),by rw[cq S,bT,E];rfl,λx t=>?_);rcases cy.mp t with h|h
  ·exact l x h
  ·rw[cJ.mp h];exact hq
 ·rintro C s c ⟨v,f,a,rfl,g,e,rfl,H,E,l⟩
  rw[e_ (by rw[ax];omega)] at E;exact k c f a g e H E l
inductive AD(K:aR)(vs:List ag)(H:ae)(Q:aS)(E':cZ):Prop
 |c:∀l as pss,(vs=[.c l])->(bP K H l<|as.map ag.c)->(bC H as pss)->(lW pss)->(∀D H' ts fps,aF H H'->H D=Z->H' D=V (.a<|am ag.c ts)->dm H' ts fps->kc (bR pss) fps->Bo (bR pss) fps->(fps.map (·.1)).Pairwise (λa b=>rJ a b=af)->Q (.c D) H')->AD K vs H Q E'
def xt:dK FT ["web"] (b_ xI):=(O,O,O,δ,O,δ,δ)
def XD(F:bN K "pairing" "pairing" xI f fd)(k2:eY mg)(e6:mg "any"=Z)(e7:hC "any"=V (.builtin "any"))(Fp:bN K "pieces" "pieces" tt fp c7)(bp:cQ K c7 ["web"] [])(mp:mg "pieces"=V (.ref fp))(Gp:bO P w K mg base bv 8 fp c7 ["web"] (vh K))(Fo:bN K "pairs_of" "pairs_of" xH fo c8)(bo:cQ K c8 ["every"] [])(mo:mg "pairs_of"=V (.ref fo))(Go:bO P w K mg base bv 2 fo c8 ["every"] (EY K))(Fr:bN K "round_with" "round_with" xG fr c9)(br:cQ K c9 ["seconds","new"] [])(mr:mg "round_with"=V (.ref fr))(Gr:bO P w K mg base bv 3 fr c9 ["seconds","new"] AC)(Fq:bN K "in_order" "in_order" vt fq d0)(bq:cQ K d0 ["some"] [])(mq:mg "in_order"=V (.ref fq))(Fk:bN K "order_key" "order_key" tw fk e5)(bk:cQ K e5 ["piece"] [])(mk:mg "order_key"=V (.ref fk)):bO P w K mg base bv 9 f fd ["web"] (AD K):=by
 have Gq:bO P w K mg base bv 4 fq d0 ["some"] (AE K):=Nf Fq k2 Fk bk mk;refine F.j xt (λvs H Q E h=>?_) (λj8 A g4 s H vs Q E hr h=>?_)
 ·obtain⟨l,as,M,rfl,_⟩:=h;rfl
 ·obtain⟨l,as,M,rfl,hl,ha,hw,k⟩:=h
  have hu:=jP hr;have g5:eQ 2 _:=hr.j ξ;have g6:eQ 3 _:=hr.j ξ;have g7:eQ 4 _:=hr.j ξ;refine(_,bx (cu (i:=1) xt.a O (ar O) jO)
   (bx (cu (i:=2) xt.a O (ar O) jO)
   (bx (eU eL O (dy<|dj Go g5 O mo Fo.a bo .nil cv<|aq (dj Gp hr O mp Fp.a bp .nil cv<|aq (ai 0) aD) aD) (ca (i:=3) xt.a O<|ah O)
    (bx (fJ (sP.j (DX (uK (eC (LJ O) O e6 e7 (aq (ff FT ["piece","stands"] [Z,V 2] (rg<|ai 3) (λcl C T U ex=>ca (i:=0) (dX ["piece","stands"]) O<|ah O) (λcl C T U ex=>gX)
      (λcl C T U ex=>Ea (wM hu (ai 0)<|ai 1) (by with_unfolding_all rfl)) (hfr:=gD (b_ xI) δ) (te:=uI (bH 0)<|bH 1)) aD)))<|DW<|dW pX (eC ie O k2.a gN<|aq (dj Gr g6 O mr Fr.a br .nil cv<|aq (ai 1)<|aq (ai 3) aD) aD) bg<|dI _)) (bF TU) fV)
    (bx (jE hu (ai 1) (eX jf (ai 3) bg (λ_ _=>O)) (eX jf (ai 3) bg (λ_ _=>O)) O)
   <|bF<|eU eL O (rg<|ai 3) (ca (i:=4) xt.a O<|ah O)<|bF<|jE hu (ai 2) (ai 4) kr O)))
   (bF (cY (ff FT ["piece","seconds"] [Z,V 1] (dy<|dj Gq g7 O mq Fq.a bq .nil cv<|aq (fg (Er O) O k2.b iK<|aq (ai 1) aD) aD) (λcl C T U ex=>ca (i:=0) (dX ["piece","seconds"]) O<|ah O) (λcl C T U ex=>gX)
    (λcl C T U ex=>iG<|aq (ai 0)<|aq (iq hu (ai 1) (ai 0) (λ_ _=>O)) aD) (hfr:=gD (b_ xI) δ) (te:=Mz)))))),?_)
  obtain⟨_,_,_,e8⟩:=qp hw.1;rw[<-qu] at e8;have c5:∀p∈bR M,p.length<=5:=λp hp=>(nc.mp<|vI hw.1 hp).2.1;intro d hd;have s1:=aF.q (o:=.c []) hd;have d1:=ay (H:=H) (a:=d) (o:=.c []);generalize aw H d (.c [])=H1 at s1 d1;intro sd d2;have s2:=aF.q (o:=.c []) d2;have b9:H sd=Z:=s1.M d2;have d3:d≠sd:=dJ d1 d2;have d4:=s1.j s2;refine(_,O,l,as,M,O,d4.N hl,d4.J ha,hw,λKN H3 ks s3 _ g8 g9=>?_);refine(KN,ks,bR M,O,bP.j g8,g9,c5,ω,λPL H4 ts s4 e9 h4=>?_);have d5:=s3.j s4;have h5:=d4.j d5;refine(PL,O,(_,bP.j e9),?_);have c0:∀{n:List aM},kc (bR M) n->2*n.length<=200:=λ{n} g=>by
   have:=g.a.length_le_of_subset (l₂:=bR M) λp hp=>by
    obtain⟨x,hx,e⟩:=tz.mp hp;obtain⟨h1,h2⟩:=g.has x hx;rcases e with rfl|rfl
    ·obtain⟨h3,kk,h7,er⟩:=Bt.mp h2
     obtain⟨a8,j9⟩:=GK h7 er;have h0:x.1≠[]:=λz=>by
      rw[z] at er;have:=eW ao er;rw[ck,dR,mG,mF] at this;have:=CL.mpr (nc.mp<|vI hw.1 h1).1;omega
     obtain⟨_,t,ht,h8⟩:=vG.mp h1;exact vG.mpr (h0,t,ht,a8.trans h8)
    ·exact h1
   rw[EU] at this;omega
  refine iI (K:=K) (a:=PL) (xs:=ts.map ag.c) (λi σ H5=>∃(v3 v4:Option ag)(n:List aM),σ=[V<|.c l,V<|.c d,V<|.c sd,v3,v4]/\aF H H5/\H5 PL=V (.a<|ts.map ag.c)/\dm H5 ts (rG<|bR M)/\mX H5 d n/\H5 sd=V (.c<|dO<|bW n)/\kc (bR M) n/\∀x∈(rG<|bR M).take i,x.1∈bW n\/x.2∈bW n\/¬gz (n++[x]))
   (Z,Z,[],O,h5,e9,h4,([],d5 _ _<|s2 _ _ d1,.nil),d5 _ _ ay,(λx hx=>(by cases hx),(by simp[bW]),Oo),by simp) (λi σ H5 _ (_,_,_,_,_,h,_)=>bP.j h) ?_ ?_
  ·rintro i v σ H5 hv ⟨v3,v4,n,rfl,s5,a9,a6,R,X,pg,b2⟩
   obtain⟨t,et,rfl⟩:=dM hv;obtain⟨x,ex,hx⟩:=a6.B et;obtain⟨a,b,b3,f0,f1⟩:=id hx;obtain⟨f2,f3⟩:=Nn.mp<|dp ex;have h9:=c0 pg;have a1:∀{a0:List aM},(∀y∈n,y∈a0)->(x.1∈bW a0\/x.2∈bW a0\/¬gz (a0++[x]))->∀y∈(rG<|bR M).take (i+1),y.1∈bW a0\/y.2∈bW a0\/¬gz (a0++[y]):=λ{a0} a8 i0 y hy=>by
    rw[cq ex] at hy;rcases cy.mp hy with hy|hy
    ·rcases b2 y hy with h|h|h
     ·obtain⟨z,hz,e⟩:=tz.mp h
      exact .inl<|tz.mpr (z,a8 z hz,e)
     ·obtain⟨z,hz,e⟩:=tz.mp h
      exact .inr<|.inl<|tz.mpr (z,a8 z hz,e)
     ·exact .inr (.inr λc=>h (tH c λz hz=>by
       rcases cy.mp hz with hz|hz
       ·exact fR _<|a8 z hz
       ·exact gh _ hz))
    ·rw[cJ.mp hy];exact i0
   refine(_,O,t,O,(_,fM.j b3),λD hD=>eP<|NS hx X hD λH6 s6 h6=>(D,_,O,bP.j h6,_,O,?_));have i1:=s5.j s6
   by_cases b4:x.1∈bW n\/x.2∈bW n
   ·rw[show([aC<|x.1∈bW n,aC<|x.2∈bW n].any id)=af by
     rcases b4 with h|h
     ·rw[cn h];rfl
     ·rw[cn h];simp]
    exact fL (_,_,n,O,i1,s6 _ _ a9,a6.j s6,R.j s6,s6 _ _ X,pg,a1 (λ_ h=>h)<|b4.elim .inl λh=>.inr<|.inl h)
   have d6:x.1∉bW n:=λh=>b4<|.inl h;have f4:x.2∉bW n:=λh=>b4<|.inr h;rw[show([aC<|x.1∈bW n,aC<|x.2∈bW n].any id)=aB by rw[cK d6,cK f4];rfl];have f5:x.1∉n.map (·.1):=λh=>by
    obtain⟨y,hy,e⟩:=aP.mp h;exact d6<|tz.mpr (y,hy,.inl e.symm)
   refine eF (_,O,_,O,d,t,n,x,O,R.j s6,hx.j s6,xW pg.a,f5,λy hy=>c5 _ (pg.has y hy).1,c5 _ f2,ω,pg.b,λD2 H7 s7 _ b0 i2=>?_,λD2 H7 us cs s7 _ b0 i3 f6 _ d7=>?_)
   ·refine(D2,[],O,.inl<|bP.j b0,_,_,O,O,_,O,eF ?_)
    have u:=s6.j s7;have i4:=s5.j u;obtain⟨a2,ek,hk⟩:=R.j u;obtain⟨G,e1,e2,e3⟩:=MP hk f5<|u.B f1;have i5:=fP hk;refine(_,O,t,_,_,_,O,O,fM.j<|u _ _ b3,ge (j:=1) O,_,O,_,O,t,_,_,_,O,O,fM.j<|u _ _ b3,ge (j:=0) O,d,_,O,xf.t (k:=x.1.map aQ) ek (by rw[cj];exact u.B f0)<|gn ω,?_);rw[e1];have b5:∀{c:Y}{S:List ag},H7 c=V (.b S)->aw H7 d (.c G) c=V (.b S):=λ{c S} e=>by
     rw[bG (λz=>by subst z;rw[ek] at e;cases e)];exact e
    have i6:∀S,(dh.c a2)≠.b S:=by intro S z;cases z
    have i7:PL≠d:=λz=>by have:=u _ _ a9;rw[z,ek] at this;cases this
    have c1:mX (aw H7 d<|.c G) d (n++[x]):=(G,ay,gf e2 λkv y (h1,b,h2,h3)=>(h1,b,h2,b5 h3));have c2:aw H7 d (.c G) sd=V (.c<|dO<|bW n):=by rw[bG<|eA d3];exact u _ _ X
    have f7:aw H7 d (.c G) PL=V (.a<|ts.map ag.c):=by rw[bG i7];exact u _ _ a9
    have f8:dm (aw H7 d<|.c G) ts (rG<|bR M):=ot (a6.j u) ek i6;have b1:=b5<|u _ _ b3;have c3:cM (aw H7 d<|.c G) a x.1:=b5<|u.B f0;have c4:cM (aw H7 d<|.c G) b x.2:=b5<|u.B f1;have f9:aF H (aw H7 d<|.c G):=i4.F hd;generalize aw H7 d (.c G)=H8 at c1 c2 f7 f8 b1 c3 c4 f9;have k0:=EU n;refine(_,O,t,O,(_,fM.j b1),wS (K:=K) (a:=t) (xs:=[.c a,.c b]) (λj σ H9=>∃(v4:Option ag),σ=[V<|.c l,V<|.c d,V<|.c sd,V<|.c t,v4]/\aF H H9/\H9 t=V (.b [.c a,.c b])/\cM H9 a x.1/\cM H9 b x.2/\H9 PL=V (.a<|ts.map ag.c)/\dm H9 ts (rG<|bR M)/\mX H9 d (n++[x])/\H9 sd=V (.c<|dO<|bW n++[x.1,x.2].take j))
     (_,O,f9,b1,c3,c4,f7,f8,c1,by rw[sf,jm];exact c2) (λj σ H9 _ (_,_,_,h,_)=>fM.j h) ?_ ?_)
    ·rintro j v σ H9 hv ⟨i8,rfl,s9,d8,b6,b7,a7,b8,a4,I⟩
     have i9:j=0\/j=1:=by have:=(cr.mp hv).1;simp at this;omega
     have a5:∀S,(dh.c<|dO<|bW n++[x.1,x.2].take j)≠.b S:=by intro S z;cases z
     have tk:∀{c:Y}{S:List ag}{o:dh},H9 c=V (.b S)->aw H9 sd o c=V (.b S):=λ{c S o} e=>by
      rw[bG (λz=>by subst z;rw[I] at e;cases e)];exact e
     have g0:PL≠sd:=λz=>by rw[z,I] at a7;cases a7
     rcases i9 with rfl|rfl
     ·have e:ag.c a=v:=by simpa using hv
      subst e;refine(_,O,_,O,sd,_,O,xf.t (k:=x.1.map aQ) I (by rw[cj];exact b6)<|gn<|dg (qj _) (by simp;omega),(_,O,s9.F b9,tk d8,tk b6,tk b7,by rw[bG g0];exact a7,ot b8 I a5,mX.q a4 I a5 d3,?_));rw[ay,qg,gd];rfl
     ·have e:ag.c b=v:=by simpa using hv
      subst e;refine(_,O,_,O,sd,_,O,xf.t (k:=x.2.map aQ) I (by rw[cj];exact b7)<|gn<|dg (qj _) (by simp;omega),(_,O,s9.F b9,tk d8,tk b6,tk b7,by rw[bG g0];exact a7,ot b8 I a5,mX.q a4 I a5 d3,?_));rw[ay,qg,gd];rfl
    ·rintro σ H9 ⟨i8,rfl,s9,d8,b6,b7,a7,b8,a4,I⟩
     refine(_,_,n++[x],O,s9,a7,b8,a4,by rw[vf,xk];exact I,(λy hy=>?_,?_,i2),a1 (λy hy=>fR _ hy)<|.inl<|tz.mpr (x,by simp,.inl O))
     ·rcases cy.mp hy with h|h
      ·exact pg.has y h
      ·rw[cJ.mp h];exact(f2,f3)
     ·rw[vf,xk,iS]
      refine(pg.a,by simpa using WU f3,λy hy z hz e=>?_);subst e;have:y=x.1\/y=x.2:=by simpa using hz
      rcases this with rfl|rfl
      ·exact d6 hy
      ·exact f4 hy
   ·have j0:=i3.q
    have k1:=CL.mpr f6.1;refine(D2,_,O,.inl<|bP.j b0,_,_,O,O,_,O,?_);rw[ax,j0,cn (show(0:Int)<((cs.length:Nat):Int) from ω)];have u:=s6.j s7;exact fL (_,_,n,O,s5.j u,u _ _ a9,a6.j u,R.j u,u _ _ X,pg,a1 (λ_ h=>h)<|.inr<|.inr<|Oc f6 d7)
  ·rintro σ H5 ⟨v3,v4,n,rfl,s5,a9,a6,R,X,pg,b2⟩
   have j1:=a6.q;rw[ax,j1,fN] at b2;have d9:Bo (bR M) n:=λx h1 h2=>b2 x<|Nn.mpr (h1,h2);have h9:=c0 pg;obtain⟨a2,ek,hk⟩:=R;have i5:=fP hk;refine(_,O,d,_,O,ek,λbs hb L hL=>?_);have tb:bC H5 bs (n.map (·.1)):=by
    have:∀{a2:List (List aV×ag)}{n:List aM}{bs:List Y},du (tD H5) a2 n->du (λ(p:List aV×ag) b=>H5 b=V (.b<|p.1.map dr)) a2 bs->bC H5 bs (n.map (·.1)):=λ{a2 n bs} h=>by
     induction h generalizing bs with
     |nil=>intro h2;cases h2;exact .nil
     |cons r t ih=>
      intro h2;cases h2 with
      |cons r2 t2=>
       refine .cons ?_<|ih t2;rw[r.1,cj] at r2;exact r2
    exact this hk hb
   have sL:=aF.q (o:=.a<|bs.map ag.c) hL;have j2:=tb.j;rw[ax] at j2;refine(L,bs,_,O,bP.j ay,sL.J tb,by rw[ax];omega,λD H6 qs s6 hD j3 hp hs=>?_);have hq:∀q∈qs,cM H6 q.2 q.1:=λq hq=>by
    obtain⟨m,em⟩:=mD.mp<|hp.mem_iff.mp hq;rw[pR] at em;cases e1:(n.map (·.1))[m]? with
    |none=>rw[e1] at em;cases em
    |some f=>
     cases e2:bs[m]? with
     |none=>rw[e1,e2] at em;cases em
     |some b=>
      rw[e1,e2] at em;obtain rfl:(abd f b)=q:=cH em;exact s6.B<|pW (sL.J tb) m b f e2 e1
   have a3:(qs.map (·.1)).Perm (n.map (·.1)):=by
    have:=hp.map (·.1);rw[Iw (by rw[ax];omega)] at this;exact this
   have e0:(qs.map (·.1)).Pairwise (λa b=>rJ a b=af):=(jK.mpr hs).imp λh=>vH.mpr h;have c6:H6 D=V (.a ((qs.map (·.2)).map ag.c)):=by rw[j3,cj];rfl
   have tq:bC H6 (qs.map (·.2)) (qs.map (·.1)):=FP hq;have e4:=sL.j s6;have j4:(qs.map (·.1)).length<=1000:=by rw[a3.length_eq,ax];omega
   refine(D,O,(_,bP.j c6),λD2 g1=>eP<|Wr (bP.j c6) tq (mX.j ((a2,ek,hk):mX H5 d n) e4) (λp j5=>a3.mem_iff.mp j5) j4 g1 λH7 us S s7 b0 j6 g2 j7=>?_);have g3:S.Perm n:=YL j7 (xW pg.a) (by rw[g2];exact a3);exact k D2 H7 us S ((s5.j e4).j s7) ((s5.j e4).M g1) b0 j6 (Xn g3.symm pg) (YK g3.symm d9) (by rw[g2];exact e0)
end
section
variable{X:bf}
inductive Kp(x:ag)(y:ag)(H:ae)(Q:aS):Prop
 |c:∀a b z z',(x=.c a)->(y=.c b)->(H a=V (.b [.f z]))->(H b=V (.b [.f z']))->(PV z=af)->(PV z'=af)->(Q (.e<|!aC (z=z')) H)->Kp x y H Q
def Kg{b:Ψ}(I:aE X b d H s)(e:H a=V (.b [.f z])):∃c,Reads s.heap (.ref a) (.tuple [.str z]) c:=by
 obtain⟨f,r,p,_⟩:=I.q<|fM.j e;obtain⟨o,g,h,n,i⟩:=id p;obtain⟨u,rfl,t,rfl⟩:=iF r;exact(_,.tuple g h i (by simpa using ReadsAll.cons (.str z t) .nil))
def Uo(g:X.A.units+64<c_):fE X (iz .NotEq) Kp:=by
 intro d s r H x y v u Q I i j h;obtain⟨a,b,z,c,rfl,rfl,k,l,m,n,q⟩:=h;cases i;cases j;obtain⟨_,o⟩:=Kg I k;obtain⟨_,p⟩:=Kg I l;have f:∀z:au,PV z=af->tY (.tuple [.str z])=af:=λz h=>by simp[tY,Cd,PX,yG,PW,h]
 refine HQ o p (f z m) (f c n) g (yF (.tuples .str) O _ _ (by simp[tV]) (by simp[tV])) ?_;have e:nt (.tuple [.str z]) (.tuple [.str c])=aC (z=c):=by
  simp only[nt,yB];rw[uu];simp
 rw[e];exact(.e _,H,I,O,q)
end
noncomputable abbrev xL:cN:=eI 33
noncomputable abbrev Nh:List au:=["web","pairs","stands","pair","piece"]
section
variable{P:bw}{w:aX}{K:aR}{mg:au->Option aa}{base:aT}
inductive ti(K:aR)(vs:List ag)(H:ae)(Q:aS)(E':cZ):Prop
 |a:∀l m as pss ts ps,(vs=[.c l,.c m])->(bP K H l<|as.map ag.c)->(bC H as pss)->(lW pss)->(bP K H m<|ts.map ag.c)->(dm H ts ps)->(kc (bR pss) ps)->(ps.length<=100)->(∀D H' bs,aF H H'->H D=Z->H' D=V (.a<|am ag.c bs)->bC H' bs ((bR pss).filter λp=>!aC (p∈bW ps))->Q (.c D) H')->ti K vs H Q E'
def AI:dK Nh ["web","pairs"] (b_ xL):=(O,O,O,δ,O,δ,δ)
def XN{fd L M:cS}(F:bN K "left_over" "left_over" xL f fd)(c2:eY mg)(Fj:bN K "judged" "judged" AV fj L)(bj:cQ K L ["web","pairs"] [])(mj:mg "judged"=V (.ref fj))(Gj:bO P w K mg base bv 9 fj L ["web","pairs"] (Fg K))(Fp:bN K "pieces" "pieces" tt fp M)(bp:cQ K M ["web"] [])(mp:mg "pieces"=V (.ref fp))(Gp:bO P w K mg base bv 8 fp M ["web"] (vh K)):bO P w K mg base bv 10 f fd ["web","pairs"] (ti K):=by
 refine F.j AI (λvs H Q E h=>?_) (λc0 A a9 s H vs Q E hr h=>?_)
 ·obtain⟨l,m,as,S,ts,U,rfl,_⟩:=h;rfl
 ·obtain⟨l,m,as,S,ts,U,rfl,hl,ha,hw,hm,ht,pg,hz,k⟩:=h
  have hu:=jP hr;have a1:=hr.units;have b0:eQ 8 _:=hr.j ξ;refine(_,bx (fJ (dW (Uo a1) (dj Gj hr O mj Fj.a bj .nil cv<|aq (ai 0)<|aq (ai 1) aD) (iG<|aq ic aD)<|dI _) zV fV)
   (bx (cu (i:=2) AI.a O (ar O) jO)
   (bx (eU eL O (dy<|ai 1) (ca (i:=3) AI.a O<|ah O)
   <|bF<|eU eL O (rg<|ai 3) (ca (i:=4) AI.a O<|ah O)<|bF<|jE hu (ai 2) (ai 4) kr O)
   (bF (cY (ff Nh ["piece","stands"] [Z,V 2] (dy<|dj Gp b0 O mp Fp.a bp .nil cv<|aq (ai 0) aD) (λcl C G I ex=>ca (i:=0) (dX ["piece","stands"]) O<|ah O)
    (λcl C G I ex=>mO<|zU (KO hu (ai 0)<|ai 1) (by with_unfolding_all rfl)) (λcl C G I ex=>ai 0) (hfr:=gD (b_ xL) δ) (tc:=DP<|JZ (bH 0)<|bH 1)))))),?_)
  obtain⟨_,_,_,a2⟩:=qp hw.1;rw[<-qu] at a2;have b1:=ht.q;refine(_,O,_,O,l,m,as,S,ts,U,O,hl,ha,hw,hm,ht,pg,ω,λD H1 s1 hD=>(bU (by simp),λT hT=>?_));have s2:=aF.q (o:=.b [.f "pairing"]) hT;refine(D,T,"pairing","pairing",O,O,s2 _ _ hD,ay,δ,δ,_,O,?_);rw[cn O];have X:=s1.j s2;generalize aw H1 T (.b [.f "pairing"])=H2 at s2 X;refine eF λd hd=>?_;have s3:=aF.q (o:=.c []) hd;have a3:=X.j s3;have a5:H d=Z:=X.M hd;refine(_,O,m,O,(_,a3.N hm),iI (K:=K) (a:=m) (xs:=ts.map ag.c) (λi q H4=>∃(v3 v4:Option ag),q=[V<|.c l,V<|.c m,V<|.c d,v3,v4]/\aF H H4/\H4 d=V (.c<|dO<|bW<|U.take i))
   (Z,Z,O,a3,ay) (λi q H4 _ (_,_,_,r,_)=>r.N hm) ?_ ?_)
  ·rintro i v q H4 hv ⟨v3,v4,rfl,r,u⟩
   obtain⟨t,et,rfl⟩:=dM hv;obtain⟨y,ey,hy⟩:=ht.B et;obtain⟨a4,b4,a6,b2,b3⟩:=hy.j r;have hi:i<U.length:=(cr.mp ey).1;have c1:(bW<|U.take i).length<=2*i:=by rw[EU,dR];omega
   refine(_,O,t,O,(_,fM.j a6),wS (K:=K) (a:=t) (xs:=[.c a4,.c b4]) (λj q g=>∃(v4:Option ag),q=[V<|.c l,V<|.c m,V<|.c d,V<|.c t,v4]/\aF H g/\g t=V (.b [.c a4,.c b4])/\cM g a4 y.1/\cM g b4 y.2/\g d=V (.c<|dO<|bW (U.take i)++[y.1,y.2].take j))
    (_,O,r,a6,b2,b3,by rw[sf,jm];exact u) (λj q g _ (_,_,_,h,_)=>fM.j h) ?_ ?_)
   ·rintro j v q g hv ⟨b5,rfl,s6,a0,x,b,n⟩
    have b6:j=0\/j=1:=by have:=(cr.mp hv).1;simp at this;omega
    have tk:∀{c:Y}{xs:List ag}{o:dh},g c=V (.b xs)->aw g d o c=V (.b xs):=λ{c xs o} e=>by
     rw[bG (λz=>by subst z;rw[n] at e;cases e)];exact e
    rcases b6 with rfl|rfl
    ·have e:ag.c a4=v:=by simpa using hv
     subst e;refine(_,O,_,O,d,_,O,xf.t (k:=y.1.map aQ) n (by rw[cj];exact x)<|gn<|dg (qj _) (by simp;omega),(_,O,s6.F a5,tk a0,tk x,tk b,?_));rw[ay,qg,gd];rfl
    ·have e:ag.c b4=v:=by simpa using hv
     subst e;refine(_,O,_,O,d,_,O,xf.t (k:=y.2.map aQ) n (by rw[cj];exact b)<|gn<|dg (qj _) (by simp;omega),(_,O,s6.F a5,tk a0,tk x,tk b,?_));rw[ay,qg,gd];rfl
   ·rintro q g ⟨b5,rfl,s6,a0,x,b,n⟩
    refine(_,_,O,s6,?_);rw[cq ey,vf,xk];exact n
  ·rintro q H4 ⟨v3,v4,rfl,r,u⟩
   rw[ax,b1,fN] at u;refine(_,O,l,as,S,O,r.N hl,r.J ha,hw,λKN H5 ks s5 _ a7 b7=>(KN,O,(_,bP.j a7),λD2 a8=>?_));refine eP<|FB (p:=λp=>!aC (p∈bW U)) (λo os H' R b8 ho _ hR=>(_,O,_,O,d,_,O,jr.t (k:=os.map aQ) ((s5.j b8) _ _ u) (by rw[cj];exact ho),_,O,?_)) (bP.j a7) b7 ω a8 λg bs s6 b9 b=>k D2 g bs ((r.j s5).j s6) ((r.j s5).M a8) b9 b;rw[Be];exact hR H'<|aF.S _
end
def GO:mroOf (.type "dict")=aU [.type "dict",.type "object"]:=by rw[mroOf_type];kernel_rfl
def aah:Hg (.type "dict") "__new__"=aU (V<|.builtin "dict.__new__"):=by rw[abg,abv];kernel_rfl
def qv:TypeCalled "dict" "dict.__new__" "dict.__init__":=
 (δ,δ,(_,_,GO),madeBy_type GO aah δ,δ,by rw[isSubtype_type];kernel_rfl,PySem.F.slot_dict_init)
def aaf(a:aa):checkTypeCall "dict" ([a],[])=aU ():=by kernel_rfl
def aag(a:aa):PF "dict.__new__" ([.type "dict",a],[])=aU ():=by kernel_rfl
def aai:PA table "dict.__new__"=V Builtin.«dict.__new__»:=abr (by kernel_rfl)
def OD:plainId "dict.__new__"=af:=δ
def OC:isSubtype (.type "dict") (.type "dict")=aU af:=by rw[isSubtype_type];kernel_rfl
section
variable{prog:bw}{w:aX}{A:bY}{E:Ω}{s:ak}
def aaj(j:aa){Q₁:Ω}(h:Q₁ (.ref s⁻¹) {s with heap:=s.heap.push {cls:=.type "dict",data:=.dict #[]}}):lF (aH prog w) A (.call (.builtin "dict.__new__") ([.type "dict",j],[])) (BI Q₁ E) s:=by
 refine Hn<|show aA _ A.in1 (do PF "dict.__new__" ([.type "dict",j],[]);again (.builtin "dict.__new__" ([.type "dict",j],[]))) _ _ s from aj (pA (aag j)<|aI (nq OD _,lE aai ?_));rw[nv OD _];unfold Builtin.«dict.__new__»;have b:=OC;have c:=GO;obtain⟨e,g,d,f,i⟩:=s;dsimp only;refine aj<|pA (a:=af) O ?_;simp only[nK,dD,dc];refine aj<|pA b ?_;simp only[nK,dD,dc];refine aj<|pA c ?_;rw[ap ξ];refine aj<|no ?_;exact aI h
end
def Va(a:List Int):di (fW P w) (a.map aQ)=di (qD P w) a:=by
 unfold di;rw[cj]
 rfl
section
variable{prog:bw}{w:aX}{A:bY}{E:Ω}{s:ak}
def ψ:Hg (.type "list") "keys"=aU Z:=by rw[abg,abv];kernel_rfl
def aaa{k:Nat}{Q:Option aa->ak->Prop}(m:s.heap.get? a=V o)(n:o.cls=.type "list")(b:o.data=.seq l k)(p:o.dict=Z)(t:A.handled=Z)(h:∀j q e,Heap.NewExcOf s.heap j e "AttributeError"->Q Z {s with heap:=j,toks:=q}):aA (aH prog w) A (getAttr? (.ref a) "keys") Q E s:=by
 obtain⟨c,u,v,x⟩:=o;simp only at n b p;subst n b p;obtain⟨y,g,d,q,z⟩:=s;have r:∀f,((y,g,d,f,z):ak).TypeIs (.ref a) "list":=λ_=>(_,m,O);have C:=sub_AttributeError;have D:=P'.lookup;have G:=P'.bind<|.ref a;have H:=am_list_getattr_none;unfold getAttr? getAttrBy? getAttrBy
 repeat(any_goals(first|assumption|exact r _|((with_reducible show aA _ _ (jJ (eJ "list.__getattribute__") _ _) _ _ _);refine rO P' (r _) am_entry_list_getattribute (F.args_list_getattribute_2 _ _) (meets_getattribute_miss_list a l k x "keys" _ ψ ξ (by size_fits)) (m,t,λj f e i=>?_))|wp_step))
 obtain⟨I,K,L⟩:=i.there;show aA _ _ (abo _ _ _ _ _ _ _) _ _ _;unfold abo
 repeat(any_goals(first|assumption|wp_step))
 exact h _ _ _ i.of
def OA:PA table "dict.update.loop"=V Builtin.«dict.update.loop»:=abr (by kernel_rfl)
def BA:plainId "dict.update.loop"=af:=δ
noncomputable abbrev Δ(D I:Y)(i:Int):Code:=.builtin "dict.update.loop" ([.ref D,.ref I,iy i,.none],[])
variable{K:Type}[DecidableEq K]{knd:rS prog w K}
abbrev vJ(K:Type):Type:=Y×List K×Y×aa
def vK(knd:rS prog w K)(h:aT)(x:vJ K):Prop:=h.IsTuple x.1 #[.ref x.2.2.1,x.2.2.2]/\ga knd h x.2.1 x.2.2.1
noncomputable def ye(b:List (List K×Y×aa))(c:List (vJ K)):List (List K×Y×aa):=c.foldl (λa x=>BK a x.2.1 x.2.2.1 x.2.2.2) b
def Oz{h m:aT}{o:bA}(g:vK knd h x)(q:∃o,h.get? D=V o/\o.cls=.type "dict")(r:∃o,h.get? I=V o/\o.cls=.type "list_iterator")(p:∀b o,b≠D->b≠I->h.get? b=V o->m.get? b=V o):vK knd m x:=by
 obtain⟨⟨s,f,i,t⟩,u,v,n,j,k,w⟩:=g;obtain⟨G,y,A⟩:=q;obtain⟨H,C,E⟩:=r;have c:∀{a:Y}{l:bA},h.get? a=V l->l.cls=.type "tuple"->a≠D/\a≠I:=λ{a l} d e=>by
  refine(λz=>?_,λz=>?_)
  ·rw[z,y] at d
   rw[<-cH d,A] at e;exact bu e ξ
  ·rw[z,C] at d
   rw[<-cH d,E] at e;exact bu e ξ
 exact((s,p _ _ (c f i).1 (c f i).2 f,i,t),u,v,n,p _ _ (c j k).1 (c j k).2 j,k,w)
def OB{h g:aT}{D I:Y}{i:List (List K×Y×aa)}(d:h.DictOfH (jV knd) D i)(a:D≠I)(k:∃o,h.get? I=V o/\o.cls=.type "list_iterator")(j:∀b o,b≠I->h.get? b=V o->g.get? b=V o):g.DictOfH (jV knd) D i:=by
 obtain⟨o,l,m,p,q,r,s,c,t⟩:=d;obtain⟨E,u,v⟩:=k;refine(o,l,m,j _ _ a p,q,r,s,λx w=>?_,t);obtain⟨y,A,n,e,f,C⟩:=c x w;refine(y,A,n,j _ _ (λz=>?_) e,f,C);rw[z,u] at e;rw[<-cH e,v] at f;exact bu f ξ
def χ{t:Y}{Q:List aa->ak->Prop}(c:s.heap.IsTuple t a)(h:Q a.toList s):aA (aH prog w) A (adm<|.ref t) Q E s:=by
 obtain⟨o,b,d,n,e⟩:=c;unfold adm;refine aj<|yn (show s.TypeIs (.ref t) "tuple" from(o,b,d)) ?_;rw[az ξ];exact aj<|jU b e<|aI h
def υ(b:List (List K×Y×aa))(k:List K)(a:Y)(v:aa):(BK b k a v).length<=b.length+1:=by
 unfold BK;split
 ·rw[ax];omega
 ·rw[ck];simp
def Oy{D I L:Y}{ts:List (vJ K)}{R:Ca->ak->Prop}(S:A.handled=Z)(hu:A.units+1<c_)(g:D≠I)(p:L≠D)(h:L≠I):∀(k j:Nat)(s:ak)(i:List (List K×Y×aa)),ts.length-j=k->j<=ts.length->s.heap.IsListIter I L j->s.heap.IsList L (ts.map λx=>ab x.1).toArray->(∀x∈ts,vK knd s.heap x)->
   s.heap.DictOfH (jV knd) D i->i.length+k<=bQ->
   (∀l n,l.DictOfH (jV knd) D (ye i<|ts.drop j)->(∀b o,b≠D->b≠I->s.heap.get? b=V o->l.get? b=V o)->R (.ok<|.ret .none) {s with heap:=l,toks:=n})->
   lF (aH prog w) A (Δ D I j) R s
 |0,j,s,i,hk,hj,d,T,H,M,hz,U=>by
  have hn:j=ts.length:=ω
  subst hn;have a7:=rQ (prog:=prog) (w:=w) (A:=A.in1) S I L h (ts.map λx=>ab x.1).toArray;refine lE OA ?_;rw[nv BA _];unfold Builtin.«dict.update.loop»;dsimp only[iy];refine aj<|a7.done s _ _ (by simpa using d,T) λl n q=>?_;dsimp only;unfold ahh;refine aj<|pA (a:=()) O ?_;obtain⟨m,r,t,_⟩:=d;refine aI<|U l n ?_ λb o _ c e=>q b o (by simpa using c) e;rw[ae1];exact OB M g (m,r,t) λb o c e=>q b o (by simpa using c) e
 |k+1,j,s,i,hk,hj,d,T,H,M,hz,U=>by
  have a7:=rQ (prog:=prog) (w:=w) (A:=A.in1) S I L h (ts.map λx=>ab x.1).toArray;have f:j<ts.length:=ω
  refine lE OA ?_;rw[nv BA _];unfold Builtin.«dict.update.loop»;dsimp only[iy];refine aj<|a7.item j s _ _ (by simpa using f) (d,T) λv u n hv y q=>?_;have X:v=.ref (ts[j]).1:=by
   have:(ts.map λx=>ab x.1).toArray[j]?=V (ab (ts[j]).1):=by simp[f]
   exact cH<|hv.symm.trans this
  subst X;have a6:=H ts[j]<|pL f;obtain⟨m,r,t,_⟩:=id d;have z:∃o,s.heap.get? D=V o/\o.cls=.type "dict":=by
   obtain⟨o,es,ep,ho,hc,_⟩:=M;exact(o,ho,hc.1)
  have C:∀b o,b≠D->b≠I->s.heap.get? b=V o->u.get? b=V o:=λb o _ c e=>q b o (by simpa using c) e;have a0:∀x∈ts,vK knd u x:=λx hx=>Oz (o:=m) (H x hx) z (m,r,t) C;have a1:u.DictOfH (jV knd) D i:=OB M g (m,r,t) λb o c e=>q b o (by simpa using c) e;obtain⟨gt,gk⟩:=a0 ts[j]<|pL f;dsimp only;refine aj<|il<|aj<|qB<|χ (s:={s with heap:=u,toks:=n}) gt ?_;dsimp only;refine il<|aba (knd:=jV knd) (s:={s with heap:=u,toks:=n}) (hsz:=by omega) (yq hu) gk a1 λP a2 sb=>?_;have E:∀b o,b≠D->b≠I->s.heap.get? b=V o->P.get? b=V o:=λb o c Q e=>by rw[sb.2 b c];exact C b o c Q e
  have G:P.IsListIter I L (j+1):=y.1.at λo e=>by rw[sb.2 I<|eA g];exact e
  have a3:P.IsList L (ts.map λx=>ab x.1).toArray:=y.2.at λo e=>by rw[sb.2 L p];exact e
  refine aI (nq BA _,?_);refine Oy S hu g p h k (j+1) {s with heap:=P,toks:=_} _ ω ω G a3 (λx hx=>Oz (o:=m) (H x hx) z (m,r,t) E) a2 (by have:=υ i (ts[j]).2.1 (ts[j]).2.2.1 (ts[j]).2.2.2;omega) λl a4 a5 k3=>U l a4 ?_ λb o c Q e=>k3 b o c Q<|E b o c Q e;rw[mH f];exact a5
end
section
variable{prog:bw}{w:aX}{A:bY}{E:Ω}{s:ak}{K:Type}[DecidableEq K]{knd:rS prog w K}
def aab{n:Nat}{ts:List (vJ K)}{Q:Ω}(hh:A.handled=Z)(hu:A.units+2<c_)(ho:s.heap.get? L=V o)(S:o.cls=.type "list")(k:o.data=.seq (ts.map λx=>ab x.1).toArray n)(T:o.dict=Z)(hg:∀x∈ts,vK knd s.heap x)(hz:ts.length<=bQ)(h:∀g U,g.DictOfH (jV knd) s⁻¹ (ye [] ts)->(∀b o,b<s⁻¹->s.heap.get? b=V o->g.get? b=V o)->Q (.ref s⁻¹) {s with heap:=g,toks:=U}):aA (aH prog w) A (jJ (.type "dict") [.ref L]) Q E s:=by
 obtain⟨c,tl,a3⟩:=qv.mro;have X:=qv.made;have a4:=qv.sub;refine He<|Hn ?_;show aA _ _ (callAny (.type "dict") _) _ _ _;refine aI (ac7 _ δ,lE acv ?_);rw[ado (abf "dict" [.ref L] []) O];have h1:=qv.notType;have i:=qv.canCreate;have a5:=aaf<|.ref L
 repeat(any_goals(first|assumption|wp_step))
 refine tP (aaj (.ref L) (E:=E) (Q₁:=λv l=>v=.ref s⁻¹/\l={s with heap:=s.heap.push {cls:=.type "dict",data:=.dict #[]}}) (O,O)) λr l hr=>?_;cases r with
 |error e=>exact hr
 |ok fl=>
  cases fl with
  |ret v=>
   obtain⟨rfl,rfl⟩:=hr;have hS:(s.heap.push {cls:=.type "dict",data:=.dict #[]}).get? s⁻¹=V {cls:=.type "dict",data:=.dict #[]}:=dF _ O;have y:yC {s with heap:=s.heap.push {cls:=.type "dict",data:=.dict #[]}} (.ref s⁻¹) "dict":=(_,hS,O);have a6:=qv.init.lookup;have a7:=qv.init.bind<|.ref s⁻¹
   repeat(any_goals(first|assumption|wp_step))
   refine tP (abt (R:=BI (λr p=>r=.none/\∃g U,p={s with heap:=g,toks:=U}/\g.DictOfH (jV knd) s⁻¹ (ye [] ts)/\
     (∀b o,b<s⁻¹->s.heap.get? b=V o->g.get? b=V o)) E) qv.init.plain F.entry_dict_init<|qv.init.check _ _ _ _ _ _ _ _ y (F.args_dict_init_2 _ _) ?_) λz p a=>?_
   ·have C:L<s⁻¹:=cR ho
    have q:(s.heap.push {cls:=.type "dict",data:=.dict #[]}).get? L=V o:=cx _ ho;have a0:yC {s with heap:=s.heap.push {cls:=.type "dict",data:=.dict #[]}} (.ref L) "list":=(o,q,S);unfold Builtin.«dict.__init__»;refine aj ?_;unfold ahc;refine aj<|GZ y ?_;refine aj<|show aA _ _ (aU s⁻¹) _ _ _ from aI ?_;refine aI ?_;show aA _ _ (adl "dict.__init__" "dict" s⁻¹ [ab L] []) _ _ _;unfold adl ahb;dsimp only;refine aj<|yn a0 ?_;rw[az ξ];refine aj<|aaa (s:={s with heap:=s.heap.push {cls:=.type "dict",data:=.dict #[]}}) q S k T hh λi G e2 x2=>?_;rw[az (by rfl)];refine aj<|lv ?_;have H:i.IsList L (ts.map λx=>ab x.1).toArray:=(o,x2.keeps _ _ q,S,n,k);refine aj<|tL (s:={s with heap:=i,toks:=G}) H ?_;have M:i.get? s⁻¹=V {cls:=.type "dict",data:=.dict #[]}:=x2.keeps _ _ hS;have t:s⁻¹<i.objs.size:=cR M;have d:∀b j,i.get? b=V j->(i.push {cls:=.type "list_iterator",data:=.fields #[.ref L,.int 0 0]}).get? b=V j:=λb j e=>cx _ e;have f:∀b j,s.heap.get? b=V j->(i.push {cls:=.type "list_iterator",data:=.fields #[.ref L,.int 0 0]}).get? b=V j:=λb j e=>d _ _<|x2.keeps _ _<|cx _ e;refine aI (nq BA _,?_);refine Oy (knd:=knd) (ts:=ts) (L:=L) (D:=s⁻¹) (I:=i.objs.size) (by exact hh) (by first|exact hu|(show A.units+1<cLine;omega)) (dz t) (dz C) (dz<|CE C t) ts.length 0 {s with heap:=i.push {cls:=.type "list_iterator",data:=.fields #[.ref L,.int 0 0]},toks:=G} [] ω (eM _)
     (_,dF _ O,O,O) (H.at λj e=>d _ _ e) (λx hx=>?_) (_,#[],0,d _ _ M,(O,O,O),O,O,(λx hx=>nomatch hx),qL) (by simpa using hz) λg P dd k3=>(O,g,P,O,dd,λb j hb e=>k3 b j (dz hb) (dz<|CE hb t)<|f _ _ e)
    obtain⟨⟨o1,e1,c1⟩,o2,it,m,e2,c2⟩:=hg x hx;exact((o1,f _ _ e1,c1),o2,it,m,f _ _ e2,c2)
   ·cases z with
    |error e=>exact a
    |ok u=>
     cases u with
     |ret r=>
      obtain⟨rfl,g,P,rfl,a1,a2⟩:=a
      repeat(any_goals(first|assumption|wp_step))
      exact h _ _ a1 a2
     |_=>exact a.elim
  |_=>exact hr.elim
end
noncomputable def wU(a:List (List aV×ag)):List (List aV×ag):=a.foldl (λb c=>fB b c.1 c.2) []
section
variable{X:bf}
def Lj:∀(c a:List (List aV×ag)),(c.foldl (λa b=>fB a b.1 b.2) a).length<=a.length+c.length
 |[],a=>by simp
 |b::r,a=>by
  rw[qO];have d:=Lj r<|fB a b.1 b.2;have e:=Eh a b.1 b.2;rw[cO];omega
def wY(S:X.b=af)(hu:X.A.units+64<c_):js X (.type "dict") (λG H Q=>∃(l:Y)(f:List Y)(a:List (List aV×ag)),G=[.c l]/\bP X.K H l (f.map ag.c)/\
  du (λt(d:List aV×ag)=>∃b,H t=V (.b [.c b,d.2])/\H b=V (.b<|d.1.map dr)) f a/\∀D,H D=Z->Q (.c D) (aw H D<|.c<|wU a)):=by
 intro L s σ H G us Q I r h;obtain⟨l,f,a,rfl,T,M,q⟩:=h;obtain⟨u,rfl,U⟩:=iF r;cases U;obtain⟨i,r1,⟨o,n,e1,c1,d1,s1⟩,hz⟩:=I.j T;obtain rfl:=oR r1;have hl:=fP M;have w:∀{f:List Y}{a:List (List aV×ag)},du (λt(d:List aV×ag)=>∃b,H t=V (.b [.c b,d.2])/\H b=V (.b<|d.1.map dr)) f a->
   ∃g:List (vJ aV),g.map (λx=>ab x.1)=f.map ab/\(∀x∈g,vK (fW X.prog X.w) s.heap x)/\∀c(j:List (List aV×Y×aa)),jq H c j->jq H (a.foldl (λc d=>fB c d.1 d.2) c) (ye j g):=by
  intro f a z
  induction z with
  |nil=>exact([],O,(λx m=>nomatch m),λc j k=>k)
  |@cons t d f a hh t' ih=>
   obtain⟨g,p,y,A⟩:=ih;obtain⟨b,ht,P⟩:=hh;obtain⟨i,ri,pi,_⟩:=I.q<|fM.j (K:=X.K) ht;obtain⟨vs,e2,rv⟩:∃v,i=[.ref b,v]/\co d.2 v:=by
    cases ri with
    |cons ra rb=>
     cases rb with
     |cons rc rd=>
      cases rd;cases ra;exact(_,O,rc)
   subst e2;refine((abd t (abd d.1 (abd b vs)))::g,by rw[cI,cI,p],λx m=>?_,λc j k=>?_)
   ·rcases bZ.mp m with rfl|m
    ·exact(pi,rj I.a P)
    ·exact y x m
   ·exact A _ _<|k.B d.1 P rv
 obtain⟨g,p,y,A⟩:=w M;have a0:g.length=a.length:=by
  have:=eW ao p;rw[ax,ax] at this;omega
 rw[ax] at hz;refine aab (knd:=fW X.prog X.w) (ts:=g) (n:=n) (I.b.a S) ω e1 c1 (by rw[p];exact s1) d1 y ω λh' tk dd kk=>?_;have C:=A [] [] .nil;have R:H s⁻¹=Z:=I.a.j<|aW _;obtain⟨q',es,ep,E,h2,h3,h4,h6,h5⟩:=dd;refine(.c s⁻¹,_,I.F (o:=.c<|wU a) (λb u e=>kk b u (cR e) e) (aW _) (?_,?_,ye [] g,C.j λb j e=>?_,q',es,ep,E,h2,h3,h4,h5),O,q _ R)
 ·have:=Lj a []
  unfold wU;simp at this;omega
 ·exact beq_eq_false_iff_ne.mpr<|lL I.A7
 ·rw[bG<|dJ e R];exact e
end
def ο:PA table "dict_itemiterator.__iter__"=V Builtin.«dict_keyiterator.__iter__»:=
 entryFor_alias (id':="dict_keyiterator.__iter__") (by kernel_rfl) O δ (by kernel_rfl)
section
variable{prog:bw}{w:aX}{A:bY}{E:Ω}{s:ak}{it d:Y}{i n ep:Nat}
def μ{Q:Ω}(a:pq s.heap it d i n ep)(h:Q (.ref it) s):aA (aH prog w) A (pC<|.ref it) Q E s:=by
 obtain⟨f,b,k,v,_,e⟩:=a;have c:s.TypeIs (.ref it) "dict_itemiterator":=(_,e,O);refine Pc c acp<|lC acp c ο ?_<|PySem.F.args_dict_itemiterator_iter_1 _;show aA _ _ (ret<|.ref it) _ _ s;exact aI (_,O,"dict_itemiterator",_,c,yK.lookup,h)
def ν{q:Nat}{Q:Unit->ak->Prop}(h:pq s.heap it d i n ep)(p:∀f,pq f it d i n ep->(∀b o,b≠it->s.heap.get? b=V o->f.get? b=V o)->Q () {s with heap:=f}):aA (aH prog w) A (BP (.Tuple c q g) (.ref it)<|.ref a) Q E s:=by
 obtain⟨r,t,k,v,u,j⟩:=h;unfold BP;refine aj<|wpAny_load j ?_;show aA _ _ (if(["enumerate","zip","dict_itemiterator","dict_reverseitemiterator","odict_iterator","itertools.zip_longest","itertools.pairwise"].contains "dict_itemiterator" &&
   (#[r,.bool t,.ref d,.int i 0,.int n 0,.int ep 0,k,v]:Array aa)[0]?==V (iy a))=af then _ else _) Q E s
 refine aa4 (λ_=>?_) (λ_=>?_)
 ·refine aj<|lv ?_
  show aA _ _ (rM (.ref it) 0 .none) Q E s;exact nj j (by simp) λf l m=>p f (_,_,_,_,.inl O,l) λb o x e=>m.extBut b o x e
 ·exact aI<|p s.heap (_,_,_,_,u,j) λb o _ e=>e
end
noncomputable def EF(d:Y)(o:bA)(a:List (List aV×ag)):iZ:=(λi H=>i<a.length/\H d=V (.d o<|.c a),λi H v e=>∃p c b,a[i]?=V c/\v=.c p/\H p=Z/\H b=V (.b<|c.1.map dr)/\e=aw H p (.b [.c b,c.2]),λi H=>i=a.length/\H d=V (.d o<|.c a))
def Td{K:aR}{q:List bB}(d g:Y){o:bA}{a:List (List aV×ag)}{t:Nat}(a7:g≠d)(j:o.data=.dict l t)(u:l.size=a.length)(hx:o.ExactDict):oe P w K (.Tuple q x1 r) (EF d o a) [g] g (λi h=>pq h g d i l.size t) where
 f:=by simp
 a:=λi h m b c=>by
  have e:b=g:=by simpa using c
  subst e;obtain⟨x,fb,k0,v0,_,e⟩:=m;exact(_,e,λv z=>by cases z)
 c:=λi h p m k=>m.j λo e=>k g (by simp) o e
 d:=by
  intro X T U hK hc i f s σ H E I R m hg;subst T U hK;obtain⟨S,hH⟩:=hg;obtain⟨g0,z,hs,ys,C,o',a0,a1,h1,h2,h3,h4,h5⟩:=(show dt X.prog X.w H s.heap d (.d o<|.c a) from I.a d _ hH);obtain rfl:o=o':=cH<|g0.symm.trans h1;have a2:l=a0/\t=a1:=by rw[h3] at j;cases j;exact(O,O)
  obtain⟨rfl,rfl⟩:=a2;have hm:jk s.heap d l t:=(o,h1,hx,h3);have n:i<l.size:=by rw[u];exact S
  have ek:a[i]?=V a[i]:=dq S;obtain⟨y,ey,g1,g2⟩:=KY C ek;obtain⟨y',D,g3⟩:=Ej C ek;rw[ey] at D;obtain rfl:=cH D;have g8:l.toList[i]?=V l[i]:=by simp[n]
  rw[h4,cB,ey] at g8;simp only[nB,rZ] at g8;refine ι m hm n λp a3 ht hk=>?_;have a4:H s⁻¹=Z:=I.a.j<|aW _;have eT:p.get? s⁻¹=V {cls:=.type "tuple",data:=.seq #[.ref y.2.1,y.2.2]}:=by rw[ht,<-g8];rfl
  have I1:aE X f σ (aw H s⁻¹<|.b [.c y.2.1,a[i].2]) {s with heap:=p}:=
   I.C1 (ch:=[g]) (t':=s.toks) (λb c=>R b c) (λb o c e=>hk b o (by simpa using c) e) (aW _)<|show dt X.prog X.w _ p _ (.b [.c y.2.1,a[i].2]) from(by show 2<=bQ;rw[kM];omega,[.ref y.2.1,y.2.2],.cons O<|.cons g2 .nil,(_,eT,O,_,O))
  have a5:g<s⁻¹:=by
   obtain⟨x,fb,k0,v0,_,e⟩:=m;exact cR e
  have G:∀b∈[g],gl X f (aw H s⁻¹<|.b [.c y.2.1,a[i].2]) b:=λb c=>by
   obtain⟨x,fr⟩:=R b c;have e:b=g:=by simpa using c
   subst e;exact(by rw[bG<|dz a5];exact x,fr)
  refine(_,O,ν (s:={s with heap:=p}) a3 λa6 L M=>?_);have I2:aE X f σ (aw H s⁻¹<|.b [.c y.2.1,a[i].2]) {s with heap:=a6}:=I1.N (s:={s with heap:=p}) (t':=s.toks) (ch:=[g]) G (λb o c e=>M b o (by simpa using c) e);exact(.c s⁻¹,_,I2,O,(_,_,y.2.1,ek,O,a4,g3,O),L,λb c=>(G b c).1)
 done:=by
  intro X T U hK hc i f s σ H E I R m hg;subst T U hK;obtain⟨x,f1,f2,f3,f4,f5⟩:=R g (by simp);obtain⟨S,hH⟩:=hg;have hm:jk s.heap d l t:=(o,(show dt X.prog X.w H s.heap d (.d o<|.c a) from I.a d _ hH).1,hx,j);have n:i=l.size:=by rw[u];exact S
  subst n;exact π (I.b.a hc) m hm λp eb=>(O,I.S (t':=s.toks) (λb o c e=>eb b o c e) x f1 f3 f4 f5)
 e:=λA i s Q E m h=>μ m h
section
variable{X:bf}
def UX(c:a_):ji:=λe H R=>c e H λx b=>∃v d o a,x=.c v/\b v=V (wQ v d)/\b d=V (.d o<|.c a)/\R (EF d o a) b
def Ub{t:a_}(E:bJ X l t):jp X (.Tuple c D f) l (UX t):=by
 intro g s G H R I h;refine bM (E g s G H _ I h) λv a (x,k,i,K,L)=>?_;obtain⟨v,d,o,j,e,M,P,q⟩:=L;subst e;cases K;have m:a.heap.IsItemsView v d:=(show dt X.prog X.w k a.heap v (wQ v d) from i.a v _ M).1;obtain⟨Q,z,hs,ys,n,S,u,T,w,y,A,U,h5⟩:=(show dt X.prog X.w k a.heap d (.d o<|.c j) from i.a d _ P);obtain rfl:o=S:=cH<|Q.symm.trans w;have p:u.size=j.length:=by
  have:=eW ao U;rw[ax,<-fP n] at this
  simpa using this
 have C:jk a.heap d u T:=(o,w,y,A);refine θ m C ?_;have r:k a⁻¹=Z:=i.a.j<|aW _;refine(a⁻¹,[a⁻¹],_,_,_,O,i.B (t':=a.toks) λb o e=>cx _ e,Td d _ (lL C.q) A p y,(_,_,_,_,.inl O,dF _ O),λb hb=>?_,q);have e:b=a⁻¹:=by simpa using hb
 subst e;exact i.M (aW _) r
def Ts(t:a_):a_:=λc H Q=>t c H λx b=>∃d a,x=.c d/\b d=V (.c a)/\∀o,Q (.c d) (aw b d<|.d o<|.c a)
def D_{t:a_}(h:bJ X e t):bJ X e (Ts t):=by
 intro c s r H Q I q;refine bM (h c s r H _ I q) λv l (x,m,n,u,d,a,w,f,k)=>?_;subst w;obtain⟨z,y,p,g,o,A,C,i,D,E,G,K⟩:=(show dt X.prog X.w m l.heap d (.c a) from n.a d _ f);have j:jq (aw m d<|.d o<|.c a) a p:=jq.j g λb M e=>by rw[bG (λL=>by rw[L,f] at e;cases e)];exact e
 exact(.c d,_,wV (ob:=.d o<|.c a) (t':=l.toks) n (by rw[f];exact vM) (HC _ _) (o,i) (i,z,y,p,j,o,A,C,i,D,E,G,K),u,k o)
def JY(c d:a_):a_:=λe H Q=>∀p,H p=Z->DN [(abd c d)] e (aw H p<|.c []) λf a=>∃b k v,f=[(abd (.c b) v)]/\a p=V (.c [])/\a b=V (.b<|am dr k)/\Q (.c p) (aw a p<|.c [(abd k v)])
def KM{m n:bB}(hu:X.A.units+1<c_)(A:bJ X m p)(C:bJ X n r):bJ X (.Dict [V m] [n] g) (JY p r):=by
 intro f s D H Q I q;have E:=I.a.j<|aW s⁻¹;have G:=I.F (a:=s⁻¹) (o:=.c []) (h':=s.heap.push {cls:=.type "dict",data:=.dict #[]}) (t':=s.toks) (λ_ _ q=>cx _ q) (aW _)<|Ln s.heap I.A7;refine wpAny_Dict_any O O (by simp) (by simp)<|bM (TX A C TW f _ D _ _ G<|q _ E) λws s2 (ps,H2,i,d,b,k,v,j,e,u,K)=>?_;subst j;cases d with
 |@cons p' L M P h t=>
  cases t;obtain⟨R,w2⟩:=L;obtain⟨S,T⟩:=h;cases(show R=ab b from S);obtain⟨z,U,xs,d,dd⟩:=Lm i.a e;cases d;unfold storeAll;rw[ID];refine aj<|aj<|aba (hsz:=eM _) (knd:=jV<|fW X.prog X.w) (by show X.A.units<c_;omega) (rj i.a u) dd λh' l hs=>aI ?_;show aA _ _ (lO _ _ _) _ _ _;rw[QF];refine aI (.c s⁻¹,_,?_,O,K);obtain⟨w,es,j,x,h2,h3,h4,_,h5⟩:=l;refine wV i (by rw[e];exact vM) hs (w,x) (by show 1<=bQ;rw[kM];omega,U,_,(jq.B (kvs:=[]) .nil k u T).j λc ys y=>?_,w,es,j,x,h2,h3,h4,h5);rw[bG<|ir y e (λz=>nomatch z)];exact y
end
noncomputable abbrev vp:cN:=eI 22
noncomputable abbrev AO:cN:=eI 23
def fY{b:Y}(h:cM H b a):H b=V (.b<|(a.map aQ:List aV).map dr):=by rw[cj];exact h
abbrev aG:Type:=List<|List Int×Int
noncomputable def aJ(a:aG):Ξ:=a.map (·.1)
noncomputable def bI(a:aG):List (List aV×ag):=a.map λc=>(abd ((c.1.map aQ:List aV)) (ag.d c.2))
noncomputable def gJ(a:aG)(b:List Int)(n:Int):aG:=if b∈aJ a then a.map (λc=>if c.1=b then(abd c.1 n) else c) else a++[(abd b n)]
def qk(a:aG):(bI a).length=a.length:=ax _
def pf(a:aG):(aJ a).length=a.length:=ax _
def vw(b:aG)(a:List Int)(n:Int):fB (bI b) (a.map aQ) (.d n)=bI (gJ b a n):=by
 unfold fB bI gJ;have f:((b.map λc=>(abd ((c.1.map aQ:List aV)) (ag.d c.2))).any λg=>aC<|g.1=a.map aQ)=aC (a∈aJ b):=by
  rw[QM]
  by_cases h:a∈aJ b
  ·rw[cn h,wg]
   obtain⟨c,d,e⟩:=aP.mp h;exact(c,d,cn<|jZ.mpr e)
  ·rw[cK h,IH]
   intro c d;simp only[ut,iD,jZ];rintro rfl;exact h<|aP.mpr (c,d,O)
 rw[f]
 by_cases h:a∈aJ b
 ·rw[cn h,az O,az h,cj,cj]
  refine kj λc d=>?_;simp only[ut]
  by_cases e:c.1=a
  ·rw[az e,az<|jZ.mpr e]
  ·rw[ap e,ap (λz=>e<|jZ.mp z)]
 ·rw[cK h,ap (by simp),ap h,bT]
  rfl
def FO(a:aG)(b:List Int)(n:Int):aJ (gJ a b n)=if b∈aJ a then aJ a else aJ a++[b]:=by
 unfold gJ
 by_cases h:b∈aJ a
 ·rw[az h,az h]
  unfold aJ;rw[cj];refine kj λc _=>?_;simp only[ut];split<;>rfl
 ·rw[ap h,ap h]
  unfold aJ;rw[bT]
  rfl
def FN(d:List Int)(n:Int)(h:(aJ c).Nodup):(aJ<|gJ c d n).Nodup:=by
 rw[FO]
 by_cases e:d∈aJ c
 ·rw[az e];exact h
 ·rw[ap e,iS]
  refine(h,by simp,λa g b f z=>?_);rw[cJ] at f;subst f;subst z;exact e g
def MY{b q:List Int}{n:Int}(h:q∈aJ (gJ a b n)):q∈aJ a\/q=b:=by
 rw[FO] at h
 by_cases e:b∈aJ a
 ·rw[az e] at h;exact .inl h
 ·rw[ap e] at h
  rcases cy.mp h with h|h
  ·exact .inl h
  ·exact .inr<|cJ.mp h
def MZ(a:aG)(b:List Int)(n:Int):(gJ a b n).length<=a.length+1:=by
 unfold gJ;split
 ·rw[ax];omega
 ·rw[ck];simp
def oh:∀{b:aG},(aJ b).Nodup->∀c∈b,fy (bI b) (c.1.map aQ)=V (.d c.2)
 |[],_,c,a=>bu a (by simp)
 |d::b,h,c,a=>by
  have e:(d.1::aJ b).Nodup:=h;rw[jA] at e;unfold fy bI;rw[cI,qQ];rcases bZ.mp a with rfl|a
  ·rw[cn O];rfl
  ·have f:¬d.1.map aQ=(c.1.map aQ:List aV):=λz=>e.1 (by rw[jZ.mp z];exact aP.mpr (c,a,O))
   rw[cK f];exact oh e.2 c a
def mV{H:ae}(h:du (λ(p:List aV×ag) b=>H b=V (.b<|p.1.map dr)) (bI a) c):bC H c (aJ a):=by
 unfold bI at h;unfold aJ
 induction a generalizing c with
 |nil=>cases h;exact .nil
 |cons x l d=>
  rw[cI] at h;cases h with
  |cons r t=>
   refine .cons ?_<|d t;show H _=_;rw[r,cj]
   rfl
noncomputable abbrev gZ(c:List Int×Int):Bool:=!aC (ag.d c.2=ag.d 0)
def GC(H:ae)(t:Y)(c:List Int×Int):Prop:=∃b,H t=V (.b [.c b,.d c.2])/\cM H b c.1
def fZ(H:ae)(a:List Y)(b:aG):Prop:=du (GC H) a b
noncomputable def fZ.j(h:fZ H c d)(s:aF H a):fZ a c d:=gf h λ_ _ (b,e,f)=>(b,s _ _ e,s.B f)
noncomputable def fZ.F{b:aG}(h:fZ H a b):a.length=b.length:=fP h
def fZ.q(h:fZ H e f)(g:H d=V a)(i:∀l,a≠.b l):fZ (aw H d o) e f:=
 gf h λt c (b,j,k)=>(b,by rw[bG<|ir j g λz=>i _ z.symm];exact j,by show aw H d o b=_;rw[bG<|ir (show H b=V _ from k) g λz=>i _ z.symm];exact k)
noncomputable def fZ.B{b:aG}{t:Y}(h:fZ H a b)(q:GC H t c):fZ H (a++[t]) (b++[c]):=tZ h q
def fZ.M{a b:List Y}(h:fZ H a c)(q:fZ H b d):fZ H (a++b) (c++d):=by
 induction h with
 |nil=>exact q
 |cons r t e=>exact .cons r e
def fZ.J:∀{a:List Y}{b:aG}{i:Nat}{t:Y},fZ H a b->a[i]?=V t->∃c,b[i]?=V c/\GC H t c
 |_,_,0,_,.cons h _,e=>by cases e;exact(_,O,h)
 |_,_,i+1,_,.cons _ t,e=>fZ.J (i:=i) t (by simpa using e)
noncomputable def aZ(a:aG)(q:List Int):Int:=((a.find? λc=>aC<|c.1=q).map (·.2)).getD 0
def Ar(a:aG)(q:List Int):(fy (bI a)<|q.map aQ).getD (.d 0)=.d (aZ a q):=by
 unfold fy aZ bI
 induction a with
 |nil=>rfl
 |cons c r b=>
  rw[cI,qQ,qQ]
  by_cases e:c.1=q
  ·rw[cn e,cn<|jZ.mpr e];rfl
  ·rw[cK e,cK (λz=>e<|jZ.mp z)];exact b
noncomputable def Bm(a:aG)(t:List Int×Int):aG:=gJ a t.1<|aZ a t.1+t.2
noncomputable def gm(a:aG):aG:=a.foldl Bm []
noncomputable def mT(a:aG):aG:=(gm a).filter gZ
def sZ(a:aG)(t:List Int×Int):gm (a++[t])=Bm (gm a) t:=by unfold gm;rw[qP];rfl
def rD{b:Type}{P:List b->Prop}(d:P [])(e:∀l x,P l->P (l++[x]))(l:List b):P l:=by
 have:∀n,∀l:List b,l.length=n->P l:=by
  intro n
  induction n with
  |zero=>intro l a;rw[nE a];exact d
  |succ n f=>
   intro l a;have c:l≠[]:=λz=>by rw[z] at a;simp at a
   rw[<-ae3 c];exact e _ _<|f _ (by rw[aeq];omega)
 exact this _ l O
def s_(a:aG):(aJ<|gm a).Nodup:=rD (P:=λa=>(aJ<|gm a).Nodup) qL (λl x h=>by rw[sZ];exact FN _ _ h) a
def xi(a:aG):(gm a).length<=a.length:=rD (P:=λa=>(gm a).length<=a.length) (aW _) (λl x h=>by
 rw[sZ,ck];have:=MZ (gm l) x.1<|aZ (gm l) x.1+x.2;unfold Bm;simp;omega) a
def MX{q:List Int}(v:Int)(h:q∉aJ a):gJ a q v=a++[(abd q v)]:=by unfold gJ;rw[ap h]
noncomputable def gG(k:Nat)(n:Int):Int:=if(k:Int)%2=0 then n else -n
noncomputable def cX(a:List Int)(n:Int):aG:=(cC a).zipIdx.map λq=>(abd q.1 (gG q.2 n))
def Ay(a:List Int)(n:Int):(cX a n).length=(cC a).length:=by unfold cX;rw[ax,aeo]
abbrev Mw:a_:=kq<|dE (bH 1)<|dE (JX (mN<|eB wJ (eB (kZ (λ_ j=>0<j) λi j=>.d<|i%j) (bH 0)<|gW<|.d 2)<|gW<|.d 0) (bH 2)<|DK (wF λi=>.d<|-i)<|bH 2) fI
section
variable{P:bw}{w:aX}{K:aR}{mg:au->Option aa}{base:aT}
def VZ{l:ae}{C:List Y}{w:Ξ}{n:Int}{Q:aS}(M:l L=V (.a<|C.map ag.c))(U:bC l C w)(hz:w.length<=1000)(X:l D=Z)(k:∀(b:ae)(c:List Y),aF l b->b D=V (.a<|c.map ag.c)->fZ b c (w.zipIdx.map λq=>(abd q.1 (gG q.2 n)))->Q (.c D) b):dY (uY K L) (uS K 2<|nY (dk 0)<|nY (dk 1) uT) gC Mw [Z,Z,V<|.d n] l D Q:=by
 have P:=U.j;refine sK C.length (λj m g b=>∃(s u:Option ag)(c:List Y),m=[s,u,V<|.d n]/\aF l b/\b D=V (.a g)/\g=c.map ag.c/\fZ b c ((w.zipIdx.map λq=>(abd q.1 (gG q.2 n))).take j)) ?_ ?_ ?_ ?_ ?_
 ·exact(Z,Z,[],O,aF.q X,ay,O,.nil)
 ·rintro m g b ⟨s,u,c,rfl,h,d,rfl,A⟩
  exact(_,bP.j<|h _ _ M,by rw[ax])
 ·rintro i m g b R ⟨s,u,c,rfl,h,d,rfl,A⟩
  exact(_,bP.j<|h _ _ M,by rw[ax];exact R)
 ·rintro i m g b x H' R hy ⟨s,u,c,rfl,h,d,rfl,A⟩ ⟨p,y,rfl,S,rfl,T⟩
  have ey:=T _<|bP.j<|h _ _ M;obtain⟨a,ea,rfl⟩:=dM ey;obtain⟨r,er,hr⟩:=U.q ea;have s1:=aF.q (o:=.b [.d i,.c a]) S;have e:(w.zipIdx.map λq=>(abd q.1 (gG q.2 n)))[i]?=V (abd r (gG i n)):=by rw[cB,QD,er];simp
  have hn:C.length<=bQ:=bU ω;have E:∀(t:Y)(v:Int),v=gG i n->aw b p (.b [.d i,.c a]) t=Z->rr C.length (λj m g b=>∃(s u:Option ag)(c:List Y),m=[s,u,V<|.d n]/\aF l b/\b D=V (.a g)/\g=c.map ag.c/\fZ b c ((w.zipIdx.map λq=>(abd q.1 (gG q.2 n))).take j)) D i [V<|.d i,V<|.c a,V<|.d n] (.c t) (aw (aw b p<|.b [.d i,.c a]) t<|.b [.c a,.d v]):=by
   intro t v hv f;have H:=s1.j<|aF.q (o:=.b [.c a,.d v]) f;have G:=H _ _ d;refine fz hn R hy G (_,_,c++[t],O,(h.j H).F X,ay,by rw[bT];rfl,?_);rw[cq e];exact fZ.q (fZ.B (A.j H) (a,by rw[ay,hv],H.B<|h.B hr)) G (by intro xs z;cases z)
  refine(p,_,O,fM.j ay,O,_,_,O,_,_,O,O,zJ ?_);refine(_,O,_,O,_,_,O,O,(by show(0:Int)<2;decide),O,_,O,?_)
  by_cases I:(i:Int)%2=0
  ·rw[cn<|eW ag.d I]
   exact fL (_,O,bU (by simp),λt f=>E t n (by unfold gG;rw[az I]) f)
  ·rw[cK (λz=>I (by injection z))]
   exact eF (_,O,_,O,bU (by simp),λt f=>E t (-n) (by unfold gG;rw[ap I]) f)
 ·rintro m g b ⟨s,u,c,rfl,h,d,rfl,A⟩
  rw[P,e_ (by rw[ax,aeo];exact aW _)] at A;exact k b c h d A
inductive xm(vs:List ag)(H:ae)(Q:aS)(E':cZ):Prop
 |b:∀a ps n,(vs=[.c a,.d n])->(cM H a ps)->(ps.length<=5)->(∀D H2(ts:List Y),aF H H2->H D=Z->H2 D=V (.a<|ts.map ag.c)->fZ H2 ts (cX ps n)->Q (.c D) H2)->xm vs H Q E'
def Wu:dK ["piece","often"] ["piece","often"] (b_ vp):=(O,O,O,δ,O,δ,δ)
def Xu(F:bN K "seam_terms" "seam_terms" vp f r)(a0:eY mg)(t:bN K "rims_of" "rims_of" rB l d)(y:cQ K d ["piece"] [])(z:mg "rims_of"=V (.ref l)):bO P w K mg base bv 2 f r ["piece","often"] xm:=by
 have G:bO P w K mg base bv 1 l d ["piece"] vg:=Ba t a0;refine F.j Wu (λI H Q E h=>?_) (λM A m s H I Q E R h=>?_)
 ·obtain⟨a,o,n,rfl,_⟩:=h;rfl
 ·obtain⟨a,o,n,rfl,S,T,k⟩:=h
  refine(_,bF (cY (ff ["piece","often"] ["k","rim","often"] [Z,Z,V 1] (KG O a0.f NT<|aq (dj G R O z t.a y .nil cv<|aq (ai 0) aD) aD)
   (λu C b c v=>sH O<|k_ (ca (i:=0) (dX ["k","rim","often"]) O<|ah O)<|k_ (ca (i:=1) (dX ["k","rim","often"]) O<|ah O) sG)
   (λu C b c v=>gX) (λu C b c v=>iG<|aq (ai 1)<|aq (Uh (dW nV (cg lf (ai 0) bg) bg<|dI _) (ai 2)<|zX zK<|ai 2) aD)
   (hfr:=gD (b_ vp) δ) (g:=uS K 2<|nY (dk 0)<|nY (dk 1) uT) (te:=Mw))),?_)
  have U:=m_ o;exact(_,O,a,o,O,S,T,λL H1 bs e X j hb=>(L,O,(_,bP.j j),λD x=>eP<|VZ j hb ω x λH3 ts p q hp=>k D H3 ts (e.j p) (e.M x) q hp))
inductive EW(K:aR)(vs:List ag)(H:ae)(Q:aS)(E':cZ):Prop
 |a:∀l ts cs,(vs=[.c l])->(bP K H l<|ts.map ag.c)->(fZ H ts cs)->(cs.length<=1000)->(∀D H',aF H H'->H D=Z->H' D=V (.c<|bI<|mT cs)->Q (.c D) H')->EW K vs H Q E'
def vo:dK ["terms","sums","piece","weight","told"] ["terms"] (b_ AO):=(O,O,O,δ,O,δ,δ)
def Xv(F:bN K "sum_of" "sum_of" AO f fd):bO P w K mg base bv 1 f fd ["terms"] (EW K):=by
 refine F.j vo (λvs H Q E h=>?_) (λb1 A a3 s H vs Q E hr h=>?_)
 ·obtain⟨l,ts,R,rfl,_⟩:=h;rfl
 ·obtain⟨l,ts,R,rfl,hl,hp,hz,k⟩:=h
  have hu:=jP hr;have a4:=hp.F;refine(_,bx (cu (i:=1) vo.a O (ah O) jO)
   (bx (eU eL O (dy<|ai 0) (sH O<|k_ (ca (i:=2) vo.a O<|ah O)<|k_ (ca (i:=3) vo.a O<|ah O) sG)
   <|bF<|jE hu (ai 1) (ai 2) (cg iW (zZ hu (ai 1) (ai 2) bg (O,O,O,O))<|ai 3) O)
   (bx (cu (i:=4) vo.a O (ah O) jO)
   (bx (eU eL O (Ua<|ai 1) (ca (i:=2) vo.a O<|ah O)
   <|bF<|fJ (dW uM (iq hu (ai 1) (ai 2) (λ_ _=>O)) bg<|dI _) (bF<|jE hu (ai 4) (ai 2) (iq hu (ai 1) (ai 2) (λ_ _=>O)) O) fV)
  <|bF<|cY<|ai 4))),?_)
  intro d hd;refine(_,O,l,O,(_,(aF.q hd).N hl),iI (K:=K) (a:=l) (xs:=ts.map ag.c) (λi r H2=>∃(S v3:Option ag),r=[V<|.c l,V<|.c d,S,v3,Z]/\aF H H2/\H2 d=V (.c<|bI<|gm<|R.take i))
   (Z,Z,O,aF.q hd,ay) (λi r H2 _ (_,_,_,I,_)=>I.N hl) ?_ ?_)
  ·rintro i x r H2 hx ⟨S,v3,rfl,I,n⟩
   obtain⟨t,et,rfl⟩:=dM hx;obtain⟨c,ec,b,e1,e2⟩:=hp.J et;have a0:H2 b=V (.b<|(c.1.map aQ:List aV).map dr):=by rw[cj];exact I.B e2
   have p:(bI<|gm<|R.take i).length<bQ:=by
    rw[qk];have:=xi<|R.take i;rw[dR] at this;exact gn ω
   refine(t,_,O,fM.j<|I _ _ e1,O,_,_,O,_,_,O,O,?_);refine(_,O,d,O,.inr (_,.inl n),_,O,_,jr.t (k:=c.1.map aQ) n a0,?_);rw[Ar];refine(_,O,_,_,O,O,_,O,_,O,d,_,O,xf.t (k:=c.1.map aQ) n a0 p,(_,_,O,I.F hd,?_));rw[ay,vw,cq ec,sZ]
   rfl
  ·rintro r H2 ⟨S,v3,rfl,I,n⟩
   rw[ax,a4,fN] at n;intro T hT;have U:H T=Z:=I.M hT;have v:d≠T:=dJ n hT;have hn:=s_ R;have a5:=xi R;unfold mT at k;generalize gm R=m at n hn a5 k;refine(_,O,d,bI m,O,.inl (by rw[bG v];exact n),λo H3 a6 L=>Vf (λi r M=>∃(S:Option ag),r=[V<|.c l,V<|.c d,S,v3,V<|.c T]/\aF H M/\M d=V (.d o<|.c<|bI m)/\M T=V (.c<|bI<|(m.take i).filter gZ))
    (_,O,λb u e=>by rw[L b<|dJ e hd,bG<|dJ e U];exact I _ _ e,a6,by rw[L T<|eA v];exact ay) (λi r M _ (_,_,_,h,_)=>h) ?_ ?_)
   ·rintro i kv b r M y hb ⟨S,rfl,C,D,q⟩
    have hi:i<m.length:=by
     have:=(cr.mp y).1;rw[qk] at this;exact this
    have ec:m[i]?=V m[i]:=dq hi;obtain rfl:(abd (((m[i]).1.map aQ:List aV)) (ag.d (m[i]).2))=kv:=by
     unfold bI at y;rw[cB,ec] at y;exact cH y
    have a1:m[i]∈m:=pL hi;have a2:(m[i]).1∉aJ ((m.take i).filter gZ):=λz=>by
     obtain⟨c',a7,e'⟩:=aP.mp z;obtain⟨j,hj⟩:=IB<|(fA.mp a7).1;have a8:j<i:=by
      have:=(cr.mp hj).1;rw[dR] at this;omega
     rw[IA a8] at hj;have h1:(aJ m)[j]?=V (m[i]).1:=by unfold aJ;rw[cB,hj];exact eW V e'
     have h2:(aJ m)[i]?=V (m[i]).1:=by unfold aJ;rw[cB,ec];rfl
     have a9:j<(aJ m).length:=by rw[pf];omega
     have:=(aev a9 hn).mp<|h1.trans h2.symm;omega
    have p:(bI<|(m.take i).filter gZ).length<bQ:=by
     rw[qk];have:=pJ gZ<|m.take i;rw[dR] at this;exact gn ω
    have g:jr M d (.c b) (V<|.d (m[i]).2):=.inr (bI m,(m[i]).1.map aQ,b,.inr (o,D),O,hb,(oh hn _ a1).symm);have b0:T≠d:=eA v;refine(_,O,_,O,d,_,O,g,O,_,O,?_);cases G:gZ m[i] with
    |true=>
     have X:(!aC (ag.d (m[i]).2=ag.d 0))=af:=G;rw[X];refine fL (_,O,_,O,d,_,O,g,_,O,_,O,T,_,O,xf.t (k:=(m[i]).1.map aQ) q hb p,(_,O,C.F U,by rw[bG v];exact D,?_));rw[ay,vw,MX _ a2,cq ec,kT,pM G]
     rfl
    |false=>
     have X:(!aC (ag.d (m[i]).2=ag.d 0))=aB:=G;rw[X];refine eF (_,O,C,D,?_);rw[cq ec,kT,pN (by rw[G];decide),zf,jm];exact q
   ·rintro r M ⟨S,rfl,C,D,q⟩
    rw[qk,fN] at q;exact(_,O,k T M C U q)
end
def mW(c:List Int×Int)(r:aG)(x:List Int):aZ (c::r) x=if c.1=x then c.2 else aZ r x:=by
 unfold aZ;rw[qQ]
 by_cases e:c.1=x
 ·rw[cn e,az e];rfl
 ·rw[cK e,ap e]
def rE:∀{a:aG}{x:List Int},x∉aJ a->aZ a x=0
 |[],_,_=>O
 |c::r,x,h=>by
  rw[mW,ap (λz=>h (by unfold aJ;rw[cI,z];exact dQ))];exact rE λz=>h<|eV _ z
def NC(q:List Int)(v:Int)(x:List Int):∀a:aG,aZ (a.map λc=>if c.1=q then(abd c.1 v) else c) x=if x=q/\q∈aJ a then v else aZ a x
 |[]=>by simp[aZ,aJ]
 |c::r=>by
  rw[cI,mW,mW,NC q v x r];have b:(q∈aJ (c::r))↔(c.1=q\/q∈aJ r):=by
   show q∈c.1::aJ r↔_;rw[bZ];constructor
   ·rintro(h|h)
    ·exact .inl h.symm
    ·exact .inr h
   ·rintro(h|h)
    ·exact .inl h.symm
    ·exact .inr h
  by_cases e:c.1=q
  ·rw[az e]
   by_cases f:x=q
   ·subst f
    rw[az e,az (O,b.mpr<|.inl e)]
   ·rw[ap (λz=>f<|z.symm.trans e),ap (λz=>f z.1),ap (λz=>f z.1),ap (λz=>f<|z.symm.trans e)]
  ·rw[ap e]
   by_cases f:c.1=x
   ·rw[az f,az f,ap (λz=>e<|f.trans z.1)]
   ·rw[ap f,ap f]
    by_cases g:x=q/\q∈aJ r
    ·rw[az g,az (g.1,b.mpr<|.inr g.2)]
    ·rw[ap g,ap (λz=>g (z.1,(b.mp z.2).resolve_left e))]
def ND(q:List Int)(v:Int)(x:List Int):∀a:aG,aZ (a++[(abd q v)]) x=if x∈aJ a then aZ a x else if q=x then v else 0
 |[]=>by simp[aZ,aJ];split<;>rfl
 |c::r=>by
  rw[List.cons_append,mW,mW,ND q v x r]
  by_cases e:c.1=x
  ·rw[az e,az e,az (by show x∈c.1::aJ r;rw[e];exact dQ)]
  ·rw[ap e,ap e]
   by_cases h:x∈aJ r
   ·rw[az h,az<|show x∈aJ (c::r) from eV _ h]
   ·have b:¬x∈aJ (c::r):=λz=>by
     rcases bZ.mp (show x∈c.1::aJ r from z) with z|z
     ·exact e z.symm
     ·exact h z
    rw[ap h,ap b]
def Gd(a:aG)(q:List Int)(v:Int)(x:List Int):aZ (gJ a q v) x=if x=q then v else aZ a x:=by
 unfold gJ
 by_cases h:q∈aJ a
 ·rw[az h,NC]
  by_cases e:x=q
  ·rw[az (e,h),az e]
  ·rw[ap (λz=>e z.1),ap e]
 ·rw[ap h,ND]
  by_cases e:x=q
  ·subst e
   rw[ap h,az O,az O]
  ·rw[ap e]
   by_cases g:x∈aJ a
   ·rw[az g]
   ·rw[ap g,ap (λz=>e z.symm),rE g]
noncomputable def eH(a:aG)(x:List Int):Int:=(a.map λc=>if c.1=x then c.2 else 0).sum
def Ml(a:aG)(t:List Int×Int)(x:List Int):eH (a++[t]) x=eH a x+if t.1=x then t.2 else 0:=by
 unfold eH;rw[bT,yZ];simp
def vd(a:aG)(t:List Int×Int)(x:List Int):eH (t::a) x=(if t.1=x then t.2 else 0)+eH a x:=by unfold eH;rw[cI,jz]
def EL(a b:aG)(x:List Int):eH (a++b) x=eH a x+eH b x:=by unfold eH;rw[bT,yZ]
def MI(x:List Int)(a:aG):aZ (gm a) x=eH a x:=rD (P:=λa=>aZ (gm a) x=eH a x) O (λl t h=>by
 rw[sZ,Ml];unfold Bm;rw[Gd]
 by_cases e:x=t.1
 ·subst e
  rw[az O,az O,h]
 ·rw[ap e,ap (λz=>e z.symm),h];omega) a
def Bf(x:List Int):∀{a:aG},(aJ a).Nodup->aZ (a.filter gZ) x=aZ a x
 |[],_=>O
 |i::r,h=>by
  have b:(i.1::aJ r).Nodup:=h;rw[jA] at b;have f:=Bf x b.2;cases d:gZ i with
  |true=>rw[pM d,mW,mW,f]
  |false=>
   have g:i.2=0:=by
    have:(!aC (ag.d i.2=ag.d 0))=aB:=d;have:=io (by simpa using this:decide (ag.d i.2=ag.d 0)=true);injection this
   rw[pN (by rw[d];decide),mW,f]
   by_cases e:i.1=x
   ·rw[az e,g]
    exact rE (by rw[<-e];exact b.1)
   ·rw[ap e]
def ER(a:aG)(x:List Int):aZ (mT a) x=eH a x:=by unfold mT;rw[Bf x<|s_ a,MI]
def Wc(a:aG):(aJ<|mT a).Nodup:=(s_ a).sublist<|(um (p:=gZ) (l:=gm a)).map _
def kH:∀{b:aG},(aJ b).Nodup->∀c∈b,aZ b c.1=c.2
 |[],_,c,h=>bu h (by simp)
 |d::r,h,c,g=>by
  have f:(d.1::aJ r).Nodup:=h;rw[jA] at f;rw[mW];rcases bZ.mp g with e|a
  ·rw[e,az O]
  ·rw[ap (λz=>f.1 (by rw[z];exact aP.mpr (c,a,O)))]
   exact kH f.2 c a
def MJ{c:List Int×Int}(h:c∈mT a):c.2≠0/\eH a c.1=c.2:=by
 refine(λz=>?_,?_)
 ·have:=(fA.mp h).2
  have:(!aC (ag.d c.2=ag.d 0))=af:=this;rw[z] at this;exact bu this ξ
 ·rw[<-ER]
  exact kH (Wc a) c h
def Mm{a:aG}{x:List Int}(h:∀t∈a,t.1≠x):eH a x=0:=by
 induction a with
 |nil=>rfl
 |cons t r b=>rw[vd,ap<|h t dQ,b λu c=>h u<|eV _ c];rfl
noncomputable def gM(b:aG):aG:=b.foldl (λa t=>gJ a t.1 t.2) []
def NF:∀(b a:aG),(bI b).foldl (λa c=>fB a c.1 c.2) (bI a)=bI (b.foldl (λa t=>gJ a t.1 t.2) a)
 |[],_=>O
 |t::r,a=>by
  show(bI r).foldl _ (fB (bI a) (t.1.map aQ)<|.d t.2)=_;rw[vw];exact NF r _
def Bg(a:aG):wU (bI a)=bI (gM a):=NF a []
def Y_(x:List Int)(a:aG):(aJ a).Nodup->aZ (gM a) x=eH a x:=rD (P:=λa=>(aJ a).Nodup->aZ (gM a) x=eH a x) (λ_=>O) (λl t c h=>by
 have b:(aJ l++[t.1]).Nodup:=by
  have:aJ (l++[t])=aJ l++[t.1]:=by unfold aJ;rw[bT];rfl
  rw[<-this];exact h
 rw[iS] at b;have d:gM (l++[t])=gJ (gM l) t.1 t.2:=by unfold gM;rw[qP];rfl
 rw[d,Gd,Ml,c b.1]
 by_cases e:x=t.1
 ·rw[az e,az e.symm,Mm λu f z=>b.2.2 u.1 (aP.mpr (u,f,O)) t.1 (by simp)<|z.trans e]
  omega
 ·rw[ap e,ap (λz=>e z.symm)];omega) a
def xT{c:List Int}(h:c.Nodup):(cC c).Nodup:=by
 unfold cC;split
 ·exact qL
 ·have d:∀j k,j<k->k<c.length->c.take j++c.drop (j+1)≠c.take k++c.drop (k+1):=by
   intro j k f o e;have g:(c.take j++c.drop (j+1))[j]?=(c.take k++c.drop (k+1))[j]?:=by rw[e]
   rw[qN (by rw[dR];omega),sj (by rw[dR];omega),IA f,aex,dR,Ie ω] at g;rw[show j+1+(j-j)=j+1 from ω] at g;have:=(aev ω h).mp g;omega
  unfold bD;rw[jK];refine(y_ (n:=c.length)).imp_of_mem λ{a b} l m i e=>?_;rw[gB] at l m;rcases ad7 i with z|z
  ·exact d a b z m e
  ·exact d b a z l e.symm
def ve(a:List Int)(n:Int):aJ (cX a n)=cC a:=by
 unfold aJ cX;rw[cj];exact List.zipIdx_map_fst 0<|cC a
def We(a:List Int)(n:Int)(x:List Int):eH (cX a n) x=n*eH (cX a 1) x:=by
 unfold cX;generalize (cC a).zipIdx=l
 induction l with
 |nil=>simp[eH]
 |cons q r b=>
  rw[cI,cI,vd,vd,b,CW]
  congr 1
  by_cases e:q.1=x
  ·rw[az e,az e]
   unfold gG;split<;>simp
  ·rw[ap e,ap e];simp
def Mn(f:List Int×Int->aG)(x:List Int):∀a:aG,eH (a.flatMap f) x=(a.map λc=>eH (f c) x).sum
 |[]=>O
 |c::r=>by rw[so,EL,cI,jz,Mn f x r]
def Xj(h:fZ H a c):du (λt(d:List aV×ag)=>∃b,H t=V (.b [.c b,d.2])/\H b=V (.b<|d.1.map dr)) a (bI c):=by
 unfold bI
 induction h with
 |nil=>exact .nil
 |cons r t e=>
  obtain⟨b,f,g⟩:=r;exact .cons (b,f,fY g) e
def Xg{b:aG}{n:Int}{c:List Int×Int}(h:c∈gJ b a n):c∈b\/c=(abd a n):=by
 unfold gJ at h;split at h
 ·obtain⟨d,f,e⟩:=aP.mp h
  by_cases z:d.1=a
  ·rw[az z] at e;exact .inr (by rw[<-e,z])
  ·rw[ap z] at e;exact .inl<|e▸f
 ·rcases cy.mp h with h|h
  ·exact .inl h
  ·exact .inr<|cJ.mp h
def M_{q b:List Int}{n:Int}(h:q∈aJ a\/q=b):q∈aJ (gJ a b n):=by
 rw[FO]
 by_cases e:b∈aJ a
 ·rw[az e];exact h.elim id λz=>z▸e
 ·rw[ap e,cy,cJ];exact h
def Y'{P:Int->Prop}(a:aG):(∀t∈a,P t.2)->(∀c∈gM a,P c.2)/\∀t∈a,t.1∈aJ (gM a):=rD (P:=λa=>(∀t∈a,P t.2)->(∀c∈gM a,P c.2)/\∀t∈a,t.1∈aJ (gM a)) (λ_=>(λc d=>(by cases d),λt b=>(by cases b))) (λl x f h=>by
 obtain⟨g,i⟩:=f λt b=>h t<|fR _ b;have e:gM (l++[x])=gJ (gM l) x.1 x.2:=by unfold gM;rw[qP];rfl
 rw[e];refine(λc d=>?_,λt b=>?_)
 ·rcases Xg d with d|rfl
  ·exact g c d
  ·exact h x (by simp)
 ·rcases cy.mp b with b|b
  ·exact M_<|.inl<|i t b
  ·exact M_<|.inr (by rw[cJ.mp b])) a
def EJ:∀{a:aG}{q:List Int},q∈aJ a->∃c∈a,c.1=q/\fy (bI a) (q.map aQ)=V (.d c.2)
 |[],q,h=>by cases h
 |d::a,q,h=>by
  by_cases e:d.1=q
  ·exact(d,dQ,e,by unfold bI;rw[cI,sC (by show d.1.map aQ=_;rw[e])])
  ·have b:q∈aJ a:=by
    rcases bZ.mp (show q∈d.1::aJ a from h) with z|z
    ·exact bu z.symm e
    ·exact z
   obtain⟨c,f,g,i⟩:=EJ b;exact(c,eV _ f,g,by
    unfold bI;rw[cI,pT (by show ¬d.1.map aQ=_;exact λz=>e<|jZ.mp z)];exact i)
def Wd{q:List Int}(h:q∈aJ (mT a)):∃t∈a,t.1=q:=by
 have b:q∈aJ (gm a):=by
  obtain⟨c,d,e⟩:=aP.mp h;exact aP.mpr (c,(fA.mp d).1,e)
 exact rD (P:=λa=>q∈aJ (gm a)->∃t∈a,t.1=q) (λh=>by cases h) (λl x f h=>by
  rw[sZ] at h;rcases MY h with h|h
  ·obtain⟨t,g,e⟩:=f h
   exact(t,fR _ g,e)
  ·exact(x,by simp,h.symm)) a b
def Ax(a:aG):(aJ<|mT a).Nodup:=by
 unfold mT aJ;exact(s_ a).sublist<|um.map _
def ES{n:Int}{t:List Int×Int}(h:t∈cX p n):t.1∈cC p/\(t.2=n\/t.2=-n):=by
 unfold cX at h;obtain⟨q,a,rfl⟩:=aP.mp h;refine((List.mem_zipIdx' a).2▸pL _,?_);show gG q.2 n=n\/gG q.2 n=-n;unfold gG;split
 ·exact .inl O
 ·exact .inr O
def Wg{p r:List Int}{n:Int}(h:r∈cC p):∃t∈cX p n,t.1=r:=by
 obtain⟨b,a⟩:=IB h;refine((abd r (gG b n)),dp (i:=b) ?_,O);unfold cX;rw[cB,QD,a];simp
noncomputable def lX(p r:List Int):Int:=eH (cX p 1) r
noncomputable def mQ(x:aM)(r:List Int):Int:=-(lX x.2 r)*lX x.2 x.1
noncomputable def kD:Nat->List aM->List aM
 |0,l=>l
 |n+1,l=>mZ (kD n l)
def Mk(a:gz l):∀n,gz (kD n l)
 |0=>a
 |n+1=>ZQ.mpr (Mk a n)
def Mj(a:gz l):∀n,(kD n l).length<=l.length-n
 |0=>aW _
 |n+1=>by
  have b:=Mj a n;have c:(mZ<|kD n l).length<=(kD n l).length:=pJ _ _
  by_cases h:(mZ<|kD n l).length=(kD n l).length
  ·have e:=(ZF h).mpr<|Mk a n
   show(mZ<|kD n l).length<=_;rw[h,e];exact eM _
  ·show(mZ<|kD n l).length<=_
   omega
def VV{l:List aM}{x y:aM}{n:Nat}(g:x∈l)(f:y∈kD n l)(h:i' x y=af):∀k,k<=n+1->x∈kD k l/\(k<=n->y∈kD k l):=by
 have a:∀k m,k<=m->∀z,z∈kD m l->z∈kD k l:=λk m i=>by
  induction m with
  |zero=>
   intro z b;have:k=0:=ω
   subst this;exact b
  |succ m c=>
   intro z b
   by_cases e:k=m+1
   ·subst e;exact b
   ·exact c ω z (ya.mp b).1
 intro k
 induction k with
 |zero=>exact λ_=>(g,λ_=>a 0 n (eM _) y f)
 |succ k c=>
  intro i;obtain⟨j,o⟩:=c ω;exact(ya.mpr (j,y,o ω,h),λd=>a (k+1) n d y f)
def Bp(a:List aM)(n:Nat)(q:List Int):Prop:=∀x∈kD n a,x.1≠q
def YX{b:List aM}(a:gz b)(q:List Int):Bp b b.length q:=λx c=>by
 have:=Mj a b.length;rw[yT] at this;rw[nE<|Nat.le_zero.mp this] at c;cases c
def YW{a:List aM}{n:Nat}{x:aM}(b:x∈a)(h:Bp a (n+1) x.1){r:List Int}(c:r∈iw x):Bp a n r:=λy d e=>by
 obtain⟨f,g⟩:=qi.mp c;have i:i' x y=af:=tF.mpr (by rw[e];exact g,by rw[e];exact f);exact h x (VV b d i (n+1)<|aW _).1 O
def FV{d i:Type}{f:d->i}:∀{l:List d},(l.map f).Nodup->∀{x y:d},x∈l->y∈l->f x=f y->x=y
 |[],_,x,_,g,_,_=>by cases g
 |a::l,h,x,y,g,j,e=>by
  rw[cI,jA] at h;rcases bZ.mp g with b|b<;>rcases bZ.mp j with c|c
  ·rw[b,c]
  ·exact bu (aP.mpr (y,c,by rw[<-e,b])) h.1
  ·exact bu (aP.mpr (x,b,by rw[e,c])) h.1
  ·exact FV h.2 b c e
noncomputable def qm(a:List aM)(q:List Int):Option aM:=a.find? λx=>aC<|x.1=q
def YO{a:List aM}(c:(a.map (·.1)).Nodup){x:aM}(b:x∈a):qm a x.1=V x:=by
 unfold qm;cases e:a.find? λy=>aC<|y.1=x.1 with
 |none=>exact bu (cn O)<|IE.mp e x b
 |some y=>rw[FV c (Iu e) b (by have:=QG e;simpa using this)]
def Gf{a:List aM}{q:List Int}(h:∀x∈a,x.1≠q):qm a q=Z:=IE.mpr λx b=>by simpa using h x b
def YP{q:List Int}(h:qm a q=V x):x∈a/\x.1=q:=(Iu h,by have:=QG h;simpa using this)
noncomputable def kI(a:Ξ)(b:List aM):Nat->List Int->List Int->Int
 |0,q,e=>if q∈a/\q=e then 1 else 0
 |n+1,q,e=>match qm b q with
  |some x=>((iw x).map λr=>mQ x r*kI a b n r e).sum
  |none=>if q∈a/\q=e then 1 else 0
def MW{b:List aM}(e:List Int):∀(n:Nat)(q:List Int),Bp b n q->∀m k,n<=m->n<=k->kI a b m q e=kI a b k q e
 |0,q,h,m,k,_,_=>by
  have d:qm b q=Z:=Gf h;have c:∀m,kI a b m q e=if q∈a/\q=e then 1 else 0:=λm=>by
   cases m with
   |zero=>rfl
   |succ m=>rw[kI,d]
  rw[c,c]
 |n+1,q,h,m,k,o,p=>by
  obtain⟨m,rfl⟩:∃f,m=f+1:=(m-1,ω);obtain⟨k,rfl⟩:∃g,k=g+1:=(k-1,ω);rw[kI,kI];cases i:qm b q with
  |none=>rfl
  |some x=>
   obtain⟨j,rfl⟩:=YP i;show((iw x).map λr=>mQ x r*kI a b m r e).sum=((iw x).map λr=>mQ x r*kI a b k r e).sum
   congr 1
   exact kj λr l=>by rw[MW e n r (YW j h l) m k ω ω]
def xj:∀a:List aM,(bW a).Perm (a.map (·.1)++a.map (·.2))
 |[]=>.nil
 |x::a=>by
  have h:=((xj a).cons x.2).cons x.1;exact h.trans<|IM _<|aeh.symm
structure vA(left:Ξ)(ps:List aM)(R:List Int->List Int->Int):Prop where
 b:∀q∈left,∀e,R q e=if q=e then 1 else 0
 a:∀x∈ps,∀e,R x.2 e=0
 c:∀x∈ps,∀e,R x.1 e=((iw x).map λr=>mQ x r*R r e).sum
def YE{i a:Ξ}{b:List aM}(f:kc i b)(j:∀p,p∈a↔p∈i/\p∉bW b):∃R,vA a b R:=by
 have l:=xW f.a;have d:=(xj b).nodup_iff.mp f.a;rw[iS] at d;have g:∀q e,kI a b b.length q e=kI a b (b.length+1) q e:=λq e=>MW e b.length q (YX f.b q) _ _ (aW _)<|oI _;refine(kI a b b.length,λq k e=>?_,λx c e=>?_,λx c e=>?_)
 ·have h:qm b q=Z:=Gf λx c z=>((j q).mp k).2<|z▸(Az c).1
  rw[g,kI,h];show(if q∈a/\q=e then(1:Int) else 0)=_;simp[k]
 ·have h:qm b x.2=Z:=Gf λy m z=>d.2.2 y.1 (aP.mpr (y,m,O)) x.2 (aP.mpr (x,c,O)) z
  rw[g,kI,h];show(if x.2∈a/\x.2=e then(1:Int) else 0)=0;rw[ap λz=>((j x.2).mp z.1).2 (Az c).2]
 ·rw[g,kI,YO l c]
def vb(h:(aJ c).Nodup)(x:List Int):eH c x=aZ c x:=by
 have:∀{c:aG},(aJ c).Nodup->eH c x=aZ c x:=by
  intro c
  induction c with
  |nil=>intro _;rfl
  |cons a r d=>
   intro h;have b:a.1∉aJ r/\(aJ r).Nodup:=jA.mp h;rw[vd,mW,d b.2]
   by_cases e:a.1=x
   ·rw[az e,az e,rE (by rw[<-e];exact b.1)];simp
   ·rw[ap e,ap e];simp
 exact this h
def EK(n:Int)(x:List Int):∀c:aG,eH (c.map λt=>(abd t.1 (n*t.2))) x=n*eH c x
 |[]=>by simp[eH]
 |a::r=>by
  rw[cI,vd,vd,EK n x r,CW]
  by_cases e:a.1=x
  ·simp[e]
  ·simp[e]
noncomputable abbrev vu:cN:=eI 37
noncomputable abbrev Nk:List au:=["terms","ends","told","rim","often"]
abbrev i_:Type:=List Int×aG
def vC(H:ae)(a:List aV×ag)(x:i_):Prop:=a.1=x.1.map aQ/\∃b o,a.2=.c b/\H b=V (.d o<|.c<|bI x.2)
def kJ(H:ae)(d:Y)(b:List i_):Prop:=∃a,H d=V (.c a)/\du (vC H) a b
noncomputable def kJ.j(h:kJ H d f)(s:aF H c):kJ c d f:=let ⟨a,e,p⟩:=h;(a,s _ _ e,gf p λ_ _ (g,b,o,i,j)=>(g,b,o,i,s _ _ j))
noncomputable def kJ.B(h:kJ H d f)(i:H e=V g)(j:∀p q,g≠.d p q)(k:d≠e):kJ (aw H e o) d f:=let ⟨a,l,p⟩:=h;(a,by rw[bG k];exact l,gf p λ_ _ (m,b,n,r,c)=>(m,b,n,r,by
 rw[bG (λz=>by subst z;rw[i] at c;cases c;exact j _ _ O)];exact c))
def Bh:∀{a:List (List aV×ag)}{f:List i_},du (vC H) a f->∀p:List Int,(fy a (p.map aQ)=Z/\p∉f.map (·.1))\/∃b o c,fy a (p.map aQ)=V (.c b)/\(abd p c)∈f/\H b=V (.d o<|.c<|bI c)
 |_,_,.nil,p=>.inl (O,by simp)
 |j::a,x::f,.cons (i,b,o,k,l) t,p=>by
  by_cases e:x.1=p
  ·refine .inr (b,o,x.2,?_,?_,l)
   ·rw[sC (by rw[i,e]),k]
   ·rw[<-e];exact dQ
  ·have d:¬j.1=p.map aQ:=λz=>e<|jZ.mp<|i.symm.trans z
   rcases Bh t p with ⟨g,h⟩|⟨m,n,c,g,h,q⟩
   ·refine .inl (by rw[pT d];exact g,?_)
    rw[cI,bZ];rintro(z|z)
    ·exact e z.symm
    ·exact h z
   ·exact .inr (m,n,c,by rw[pT d];exact g,eV _ h,q)
def YS(h:du (vC H) a d){x:i_}{b:Y}(f:x.1∉d.map (·.1))(i:H b=V (.d o<|.c<|bI x.2)):∃c,fB a (x.1.map aQ) (.c b)=c/\du (vC H) c (d++[x]):=by
 have j:fy a (x.1.map aQ)=Z:=by
  rcases Bh h x.1 with ⟨g,_⟩|⟨n,p,q,_,k,_⟩
  ·exact g
  ·exact bu (aP.mpr (_,k,O)) f
 refine(_,DY _ j,?_);have l:∀{a:List (List aV×ag)}{e:List i_},du (vC H) a e->du (vC H) (a++[(abd (x.1.map aQ) (.c b))]) (e++[x]):=λ{a e} h=>by
  induction h with
  |nil=>exact .cons (O,b,o,O,i) .nil
  |cons r t m=>exact .cons r m
 exact l h
def Zn{i:Nat}{b:List aV×ag}(h:(bI a)[i]?=V b):∃c,a[i]?=V c/\b=(abd ((c.1.map aQ:List aV)) (ag.d c.2)):=by
 unfold bI at h;rw[cB] at h;cases e:a[i]? with
 |none=>rw[e] at h;cases h
 |some c=>rw[e] at h;exact(c,O,(cH h).symm)
def VW{H:ae}{b:Y}{a:List Int}(h:H b=V (.b<|(a.map aQ:List aV).map dr)):cM H b a:=by rw[cj] at h;exact h
def vz(l:Ξ)(R:List Int->List Int->Int)(a:List i_):Prop:=∀x∈a,x.2.length<=200/\(∀k∈aJ x.2,k∈l)/\∀e,eH x.2 e=R x.1 e
abbrev MG:a_:=kq<|dE (bH 0)<|dE (eB (kZ rt λi j=>.d<|i*j) (bH 2)<|bH 1) fI
section
variable{P:bw}{w:aX}{K:aR}{mg:au->Option aa}{base:aT}
def Ye{r:ae}{n:Int}{Q:aS}(I:r d=V (.d o<|.c<|bI h))(U:h.length<=1000)(M:n=1\/n=-1)(L:r D=Z)(k:∀(a:ae)(f:List Y),aF r a->a D=V (.a<|f.map ag.c)->fZ a f (h.map λc=>(abd c.1 (n*c.2)))->Q (.c D) a):dY (EF d o<|bI h) (uS K 2<|nY (dk 0)<|nY (dk 1) uT) gC MG [Z,Z,V<|.d n] r D Q:=by
 refine sK h.length (λj s m a=>∃(u v:Option ag)(f:List Y),s=[u,v,V<|.d n]/\aF r a/\a D=V (.a m)/\m=f.map ag.c/\fZ a f ((h.map λc=>(abd c.1 (n*c.2))).take j)) ?_ ?_ ?_ ?_ ?_
 ·exact(Z,Z,[],O,aF.q L,ay,O,.nil)
 ·rintro s m a ⟨u,v,f,rfl,l,g,rfl,q⟩
  exact(by rw[qk],l _ _ I)
 ·rintro i s m a A ⟨u,v,f,rfl,l,g,rfl,q⟩
  exact(by rw[qk];exact A,l _ _ I)
 ·rintro i s m a x X A P ⟨u,v,f,rfl,l,g,rfl,q⟩ ⟨p,kv,b,C,rfl,E,R,rfl⟩
  obtain⟨c,S,rfl⟩:=Zn C;have T:=aF.q (o:=.b [.c b,.d c.2]) E;have e:(h.map λc=>(abd c.1 (n*c.2)))[i]?=V (abd c.1 (n*c.2)):=by rw[cB,S];rfl
  have G:h.length<=bQ:=bU ω;refine(p,_,O,fM.j ay,O,_,_,O,_,_,O,O,zJ ?_);refine(_,O,_,O,_,O,_,_,O,O,.inl (by rcases M with rfl|rfl<;>decide),bU (by simp),λt H=>?_);have y:=T.j<|aF.q (o:=.b [.c b,.d<|n*c.2]) H;have w:=y _ _ g;refine fz G A P w (_,_,f++[t],O,(l.j y).F L,ay,by rw[bT];rfl,?_);rw[cq e];exact fZ.q (fZ.B (q.j y) (b,ay,y.B<|VW R)) w (by intro xs z;cases z)
 ·rintro s m a ⟨u,v,f,rfl,l,g,rfl,q⟩
  rw[e_ (by rw[ax];exact aW _)] at q;exact k a f l g q
inductive xp(K:aR)(vs:List ag)(H:ae)(Q:aS)(E':cZ):Prop
 |a:∀l d ts cs es L R,(vs=[.c l,.c d])->(bP K H l<|ts.map ag.c)->(fZ H ts cs)->(kJ H d es)->((∀c∈cs,c.1∈es.map (·.1)/\(c.2=1\/c.2=-1)))->(cs.length<=5)->(vz L R es)->(∀D H' c,aF H H'->H D=Z->H' D=V (.c<|bI c)->(aJ c).Nodup->(∀k∈aJ c,k∈L)->(∀t∈c,t.2≠0)->(∀e,eH c e=(cs.map λt=>t.2*R t.1 e).sum)->Q (.c D) H')->xp K vs H Q E'
def AL:dK Nk ["terms","ends"] (b_ vu):=(O,O,O,δ,O,δ,δ)
def X_{fd M:cS}(F:bN K "brought_to_ends" "brought_to_ends" vu f fd)(Fs:bN K "sum_of" "sum_of" AO fs M)(bs:cQ K M ["terms"] [])(ms:mg "sum_of"=V (.ref fs)):bO P w K mg base bv 2 f fd ["terms","ends"] (xp K):=by
 have Gs:bO P w K mg base bv 1 fs M ["terms"] (EW K):=Xv Fs;refine F.j AL (λvs H Q E h=>?_) (λb4 A a2 s H vs Q E hr h=>?_)
 ·obtain⟨l,d,ts,cs,es,L,R,rfl,_⟩:=h;rfl
 ·obtain⟨l,d,ts,cs,es,L,R,rfl,hl,hp,he,hc,h5,a3,k⟩:=h
  have hu:=jP hr;refine(_,bx (cu (i:=2) AL.a O (ah O)<|iH aD)
   (bx (eU eL O (dy<|ai 0) (sH O<|k_ (ca (i:=3) AL.a O<|ah O)<|k_ (ca (i:=4) AL.a O<|ar O) sG)
    (bF (nR (mP oC Qa acg KV (ai 2) (aq
     (ff Nk ["piece","worth","often"] [Z,Z,V 4] (Ub<|Ug<|iq hu (ai 1) (ai 3) (λ_ _=>O))
      (λcl C u G ex=>sH O<|k_ (ca (i:=0) (dX ["piece","worth","often"]) O<|ah O)<|k_ (ca (i:=1) (dX ["piece","worth","often"]) O<|ah O) sG)
      (λcl C u G ex=>gX) (λcl C u G ex=>iG<|aq (ai 0)<|aq (cg lR (ai 2)<|ai 1) aD)
      (hfr:=gD (b_ vu) δ) (g:=uS K 2<|nY (dk 0)<|nY (dk 1) uT) (te:=MG)) aD)))))
  <|bF<|cY<|dj Gs hr O ms Fs.a bs .nil cv<|aq (ai 2) aD),?_)
  refine(bU (by simp),λT hT=>?_);have sT:=aF.q (o:=.a []) hT;have a4:=hp.F;refine(_,O,l,O,(_,sT.N hl),iI (K:=K) (a:=l) (xs:=ts.map ag.c) (λi σ U=>∃(v3 v4:Option ag)(X:List Y)(I:aG),σ=[V<|.c l,V<|.c d,V<|.c T,v3,v4]/\aF H U/\U T=V (.a<|X.map ag.c)/\fZ U X I/\I.length<=200*i/\(∀t∈I,t.1∈L)/\∀e,eH I e=((cs.take i).map λt=>t.2*R t.1 e).sum)
   (Z,Z,[],[],O,sT,ay,.nil,by simp,(λt ht=>(by cases ht)),λe=>O) (λi σ U _ (_,_,_,_,_,n,_)=>n.N hl) ?_ ?_)
  ·rintro i v σ U hv ⟨v3,v4,X,I,rfl,n,j,p,a0,S,m⟩
   obtain⟨t,et,rfl⟩:=dM hv;obtain⟨c,ec,b,e1,e2⟩:=hp.J et;have hi:i<cs.length:=(cr.mp ec).1;obtain⟨a5,a6⟩:=hc c<|dp ec;obtain⟨a7,a8,a9⟩:=he.j n;rcases Bh a9 c.1 with ⟨_,g⟩|⟨q,o,x,g1,g2,g3⟩
   ·exact bu a5 g
   have hx:=a3 _ g2;have b5:x.length<=200:=hx.1;refine(t,_,O,fM.j<|n _ _ e1,O,_,_,O,_,_,O,O,?_);refine(_,O,.inl (O,_,bP.j j),_,O,_,O,d,_,O,.inr (a7,c.1.map aQ,b,.inl a8,O,fY<|n.B e2,g1.symm),q,bI x,O,O,.inr (o,g3),λv hv=>?_);have s5:=aF.q (o:=wQ v q) hv;refine(v,q,o,bI x,O,ay,s5 _ _ g3,λD hD=>eP<|Ye (s5 _ _ g3) ω a6 hD λH6 ws s6 b0 a1=>?_);have r:=s5.j s6;have b6:=p.F;have b1:=a1.F;rw[ax] at b1;refine(T,D,_,_,O,O,r _ _ j,b0,by rw[ax,ax];exact bU ω,(_,_,X++ws,I++x.map λy=>(abd y.1 (c.2*y.2)),O,(n.j r).F hT,by rw[ay,bT],?_,?_,?_,λe=>?_))
   ·exact fZ.q ((p.j r).M a1) (r _ _ j) (by intro xs z;cases z)
   ·rw[ck,ax];omega
   ·intro y hy
    rcases cy.mp hy with hy|hy
    ·exact S y hy
    ·obtain⟨z,hz,rfl⟩:=aP.mp hy
     exact hx.2.1 _<|aP.mpr (z,hz,O)
   ·rw[EL,EK,m,hx.2.2 e,cq ec,bT,yZ]
    simp
  ·rintro σ U ⟨v3,v4,X,I,rfl,n,j,p,a0,S,m⟩
   rw[ax,a4] at a0 m;rw[e_<|aW _] at m;refine(_,O,T,X,I,O,bP.j j,p,ω,λD H5 s5 b2 b3=>k D H5 _ (n.j s5) (n.M b2) b3 (Ax _) (λq hq=>?_) (λt ht=>(MJ ht).1) λe=>?_)
   ·obtain⟨t,ht,rfl⟩:=Wd hq
    exact S t ht
   ·rw[vb<|Ax _,ER,m]
end
noncomputable abbrev xF:cN:=eI 36
def Zf:hC "dict"=V (.type "dict"):=δ
def YZ(a:aG):(aJ<|gM a).Nodup:=rD (P:=λa=>(aJ<|gM a).Nodup) qL (λl x h=>by
 have e:gM (l++[x])=gJ (gM l) x.1 x.2:=by unfold gM;rw[qP];rfl
 rw[e];exact FN _ _ h) a
def YY{p:List Int}(h:p.Nodup):∀c∈gM (cX p 1),c.2=lX p c.1:=λc a=>by
 rw[<-kH (YZ _) c a,Y_ c.1 (cX p 1) (by rw[ve];exact xT h)]
 rfl
abbrev Mx(K:aR):a_:=kq<|dE (bH 0)<|dE (eB (kZ rt λi j=>.d<|i*j) (DK (wF λi=>.d<|-i)<|oT (bH 1)<|bH 0)<|oT (bH 1)<|eB (rf K) (bH 2)<|gW<|.d 0) fI
section
variable{P:bw}{w:aX}{K:aR}{mg:au->Option aa}{base:aT}
def Wi{l:ae}{L D a0 t:Y}{G:List Y}{Q:aS}(hl:l L=V (.a<|G.map ag.c))(U:bC l G s)(hz:s.length<=1000)(hx:ig l t x)(X:l a0=V (.c<|bI u))(hr:∀r∈s,r∈aJ u)(h0:x.1∈aJ u)(hw:∀c∈u,c.2=1\/c.2=-1)(w:∀c∈u,c.2=lX x.2 c.1)(hD:l D=Z)(k:∀(f:ae)(h:List Y)(d:aG),aF l f->f D=V (.a<|h.map ag.c)->fZ f h d->d=(s.map λr=>(abd r (mQ x r)))->(∀c∈d,c.2=1\/c.2=-1)->Q (.c D) f):dY (gY K L) (dk 0) gC (Mx K) [Z,V<|.c a0,V<|.c t] l D Q:=by
 have P:=U.j;refine jh (xs:=G.map ag.c) (λj H y f=>∃(I:Option ag)(h:List Y)(d:aG),H=[I,V<|.c a0,V<|.c t]/\aF l f/\f D=V (.a y)/\y=h.map ag.c/\fZ f h d/\d=((s.take j).map λr=>(abd r (mQ x r)))/\∀c∈d,c.2=1\/c.2=-1) ?_ ?_ ?_ ?_
 ·exact(Z,[],[],O,aF.q hD,ay,O,.nil,O,λc m=>(by cases m))
 ·rintro j H y f ⟨I,h,d,rfl,i,g,rfl,_⟩
  exact bP.j<|i _ _ hl
 ·rintro j H y f v hv hj hy ⟨I,h,d,rfl,i,g,rfl,R,M,S⟩
  obtain⟨o,eo,rfl⟩:=dM hv;obtain⟨r,er,ho⟩:=U.q eo;have hn:(G.map ag.c).length<=bQ:=by rw[ax];exact bU ω
  obtain⟨a,b,et,ha,hb⟩:=hx.j i;obtain⟨n,A,e1,g1⟩:=EJ<|hr r<|dp er;obtain⟨q,C,e2,g2⟩:=EJ h0;have w1:=hw n A;have w2:=hw q C;refine iX (_,O,_,O,_,O,a0,_,O,.inr (_,r.map aQ,o,.inl<|i _ _ X,O,fY<|i.B ho,g1.symm),_,O,_,O,_,O,t,_,_,_,O,O,fM.j et,ge (j:=0) O,a0,_,O,.inr (_,x.1.map aQ,a,.inl<|i _ _ X,O,fY ha,g2.symm),_,_,O,O,.inr (by rcases w2 with e|e<;>rw[e]<;>decide),bU (by simp),λp T=>?_);have E:=aF.q (o:=.b [.c o,.d<|-n.2*q.2]) T;refine fz hn hj hy (E _ _ g) (_,h++[p],d++[(abd r (-n.2*q.2))],O,(i.j E).F hD,ay,by rw[bT];rfl,?_,?_,λc m=>?_)
  ·exact fZ.q (fZ.B (R.j E) (o,ay,E.B<|i.B ho)) (E _ _ g) (by intro xs z;cases z)
  ·rw[cq er,bT,<-M]
   show d++[(abd r (-n.2*q.2))]=d++[(abd r (mQ x r))];unfold mQ;rw[w n A,w q C,e1,e2]
  ·rcases cy.mp m with m|m
   ·exact S c m
   ·rw[cJ.mp m]
    show -n.2*q.2=1\/-n.2*q.2=-1;rcases w1 with e|e<;>rcases w2 with e'|e'<;>rw[e,e']<;>decide
 ·rintro H y f ⟨I,h,d,rfl,i,g,rfl,R,M,S⟩
  rw[ax,P,e_<|aW _] at M;exact k f h d i g R M S
inductive EX(vs:List ag)(H:ae)(Q:aS)(E':cZ):Prop
 |a:∀t x,(vs=[.c t])->(ig H t x)->(x.2.length<=5)->(x.2.Nodup)->(x.1∈cC x.2)->(∀D H' ts cs,aF H H'->H D=Z->H' D=V (.a<|am ag.c ts)->fZ H' ts cs->cs=((iw x).map λr=>(abd r (mQ x r)))->(∀c∈cs,c.2=1\/c.2=-1)->Q (.c D) H')->EX vs H Q E'
def MQ:dK ["pair","weights"] ["pair"] (b_ xF):=(O,O,O,δ,O,δ,δ)
def Xw(F:bN K "step_terms" "step_terms" xF f fd)(a8:eY mg)(m:mg "dict"=Z)(Fo:bN K "other_rims" "other_rims" tu I g)(bo:cQ K g ["pair"] [])(mo:mg "other_rims"=V (.ref I))(Go:bO P w K mg base bv 2 I g ["pair"] xo)(Ft:bN K "seam_terms" "seam_terms" vp L l)(bt:cQ K l ["piece","often"] [])(mt:mg "seam_terms"=V (.ref L))(Gt:bO P w K mg base bv 2 L l ["piece","often"] xm):bO P w K mg base bv 3 f fd ["pair"] EX:=by
 refine F.j MQ (λvs H Q E h=>?_) (λa5 A M s H vs Q E c h=>?_)
 ·obtain⟨t,x,rfl,_⟩:=h;rfl
 ·obtain⟨t,x,rfl,R,h5,S,h0,k⟩:=h
  have p:=jP c;have q:=c.units;refine(_,bx (cu (i:=1) MQ.a O (ar O)<|fg (wY O q) O m Zf<|aq (dj Gt c O mt Ft.a bt .nil cv<|aq (eX jf (ai 0) bg (λ_ _=>O))<|aq bg aD) aD)
   (bF (cY (ff ["pair","weights"] ["rim","weights","pair"] [Z,V 1,V 0] (dy<|dj Go c O mo Fo.a bo .nil cv<|aq (ai 0) aD) (λcl C d e ex=>ca (i:=0) (dX ["rim","weights","pair"]) O<|ah O)
    (λcl C d e ex=>gX) (λcl C d e ex=>iG<|aq (ai 0)<|aq (cg lR (zX zK<|iq p (ai 1) (ai 0) (λ_ _=>O))<|iq p (ai 1) (eX jf (ai 2) bg (λ_ _=>O)) (λ_ _=>O)) aD)
    (hfr:=gD (b_ xF) δ) (te:=Mx K)))),?_)
  obtain⟨a,b,et,ha,hb⟩:=id R;refine(_,O,t,_,_,_,O,O,fM.j et,ge (j:=1) O,b,x.2,1,O,hb,h5,λD1 H1 us s1 a4 T U=>?_);refine(D1,us,bI<|cX x.2 1,O,bP.j T,Xj U,λa9 hW=>?_);rw[Bg];have sW:=aF.q (o:=.c<|bI<|gM<|cX x.2 1) hW;have z:=s1.j sW;obtain⟨d1,d2⟩:=Y' (P:=λn=>n=1\/n=-1) (cX x.2 1) λu p=>(ES p).2;have v:∀r∈cC x.2,r∈aJ (gM<|cX x.2 1):=λr c=>by
   obtain⟨u,p,rfl⟩:=Wg (n:=1) c;exact d2 u p
  refine(_,O,t,x,O,R.j z,h5,λRL H3 rs G _ y X=>(RL,O,(_,bP.j y),λD hD=>?_));have a6:=m_ x.2;have a7:(iw x).length<=(cC x.2).length:=pJ _ _;exact eP<|Wi y X ω (R.j<|z.j G) (G _ _ ay) (λr c=>v r (qi.mp c).1) (v _ h0) d1 (YY S) hD λH4 ts cs s4 a0 a1 a2 a3=>k D H4 ts cs ((z.j G).j s4) ((z.j G).M hD) a0 a1 a2 a3
def YF{g:ae}{p:List Y}{i:List i_}{Q:aS}(z:g L=V (.a<|p.map ag.c))(x:bC g p l)(U:l.length<=1000)(A:kJ g d i)(y:g D=Z)(k:∀(f:ae),aF g f->f D=V (.a ((l.map λr=>aC (r∈i.map (·.1))).map ag.e))->Q (.c D) f):dY (gY K L) (dk 0) gC (uI (bH 0)<|bH 1) [Z,V<|.c d] g D Q:=by
 have t:=x.j;refine jh (xs:=p.map ag.c) (λj q m f=>∃(s:Option ag),q=[s,V<|.c d]/\aF g f/\f D=V (.a m)/\m=(((l.map λr=>aC (r∈i.map (·.1))).take j).map ag.e)) ?_ ?_ ?_ ?_
 ·exact(Z,O,aF.q y,ay,O)
 ·rintro j q m f ⟨s,rfl,h,a,rfl⟩
  exact bP.j<|h _ _ z
 ·rintro j q m f v C E G ⟨s,rfl,h,a,rfl⟩
  obtain⟨o,H,rfl⟩:=dM C;obtain⟨r,I,M⟩:=x.q H;have P:(p.map ag.c).length<=bQ:=by rw[ax];exact bU ω
  obtain⟨n,R,S⟩:=A.j h;have e:(l.map λr=>aC (r∈i.map (·.1)))[j]?=V (aC (r∈i.map (·.1))):=by rw[cB,I];rfl
  refine iX (_,O,_,O,d,_,O,.inr (n,r.map aQ,o,.inl R,O,fY<|h.B M,O),?_);have T:(fy n<|r.map aQ).isSome=aC (r∈i.map (·.1)):=by
   rcases Bh S r with ⟨u,w⟩|⟨b,X,c,u,w,g3⟩
   ·rw[u,cK w];rfl
   ·rw[u,cn<|aP.mpr (_,w,O)];rfl
  rw[T];refine fz P E G a (_,O,h.F y,ay,?_);rw[cq e,bT];rfl
 ·rintro q m f ⟨s,rfl,h,a,rfl⟩
  rw[ax,t,e_ (by rw[ax];exact aW _)] at a;exact k f h a
end
structure tE(left:Ξ)(R:List Int->List Int->Int)(ps:List aM)(N:Nat)(es:List i_)(W:List aM):Prop where
 a:W.Sublist ps
 g:es.length+W.length=N
 d:∀x∈ps,x∈W\/x.1∈es.map (·.1)
 f:∀x∈W,x.1∉es.map (·.1)
 b:∀p∈left,p∈es.map (·.1)
 c:∀x∈ps,x.2∈es.map (·.1)
 e:vz left R es
noncomputable def tE.j{b a:Ξ}{f u:List aM}{m:List i_}(e:tE a R f v m u)(n:kc b f)(q:∀p∈b,p∉bW f->p∈a)(s:∀p∈b,∀r∈cC p,r∈b)(h:∀x∈u,∃r∈iw x,r∉m.map (·.1)):u=[]:=by
 refine n.b u (λx g=>e.a.subset g) λx g=>?_;obtain⟨r,t,i⟩:=h x g;obtain⟨c,j⟩:=qi.mp t;have k:r∈b:=s x.2 (n.has x<|e.a.subset g).1 r c;have l:r∈bW f:=kU λz=>i<|e.b r<|q r k z;obtain⟨y,o,d⟩:=ki.mp l;simp only[bZ,pI,oM] at d;rcases d with rfl|rfl
 ·rcases e.d y o with z|z
  ·exact(y,z,tF.mpr (j,c))
  ·exact bu z i
 ·exact bu (e.c y o) i
def tE.q{b:Ξ}{j A s:List aM}{t:Nat}{f:List i_}{x:aM}{c:aG}(e:tE b R j t f (A++x::s))(m:(j.map (·.1)).Nodup)(n:c.length<=200/\(∀k∈aJ c,k∈b)/\∀e,eH c e=R x.1 e):tE b R j t (f++[(abd x.1 c)]) (A++s):=by
 have g:(A++s).Sublist (A++x::s):=ae7 (CQ _)<|List.sublist_cons_self _ _;have l:∀{q},q∈f.map (·.1)->q∈(f++[(abd x.1 c)]).map (·.1):=λ{q} h=>by rw[bT];exact fR _ h
 have o:x.1∈(f++[(abd x.1 c)]).map (·.1):=by rw[bT];simp
 have d:((A++x::s).map (·.1)).Nodup:=m.sublist<|e.a.map _;refine(g.trans e.a,?_,λy a=>?_,λy a h=>?_,λp r=>l<|e.b p r,λy a=>l<|e.c y a,λy a=>?_)
 ·have:=e.g
  rw[ck,cO] at this;rw[ck,ck,kR];omega
 ·rcases e.d y a with h|h
  ·rcases cy.mp h with h|h
   ·exact .inl<|fR _ h
   ·rcases bZ.mp h with rfl|h
    ·exact .inr o
    ·exact .inl<|gh _ h
  ·exact .inr<|l h
 ·rw[bT] at h
  rcases cy.mp h with h|h
  ·exact e.f y (g.subset a) h
  ·have i:y.1=x.1:=by simpa using h
   rw[bT,cI,iS,jA] at d;rcases cy.mp a with a|a
   ·exact d.2.2 _ (aP.mpr (y,a,O)) x.1 dQ i
   ·exact d.2.1.1<|aP.mpr (y,a,i)
 ·rcases cy.mp a with a|a
  ·exact e.e y a
  ·rw[cJ.mp a];exact n
noncomputable abbrev xQ:cN:=eI 35
noncomputable abbrev Nj:List au:=["left","pairs","ends","piece","pair","waiting","later"]
def kJ.q{T b j:Y}{x:i_}(h:kJ H T f)(p:x.1∉f.map (·.1))(q:H b=V (.d o<|.c<|bI x.2))(r:cM H j x.1)(y:f.length<=1000):∃a,xf H T (.c j) (.c b) (aw H T<|.c a)/\kJ (aw H T<|.c a) T (f++[x]):=by
 obtain⟨s,l,m⟩:=h;obtain⟨a,e,g⟩:=YS m p q;have n:=fP m;have d:=xf.t (k:=x.1.map aQ) (v:=.c b) l (fY r)<|gn ω;rw[e] at d;refine(a,d,a,ay,gf g λ_ _ (t,c,u,w,i)=>(t,c,u,w,?_));rw[bG (λz=>by subst z;rw[l] at i;cases i)];exact i
def Nm{l:Ξ}(h:(aJ c).Nodup)(a:∀k∈aJ c,k∈l):c.length<=l.length:=by
 have:=h.length_le_of_subset (l₂:=l) λx b=>a x b;rw[pf] at this;exact this
section
variable{P:bw}{w:aX}{K:aR}{mg:au->Option aa}{base:aT}
inductive Fw(K:aR)(vs:List ag)(H:ae)(Q:aS)(E':cZ):Prop
 |a:∀l m as ts kn ps R,(vs=[.c l,.c m])->(bP K H l<|as.map ag.c)->(bC H as<|kn.filter λp=>!aC (p∈bW ps))->(bP K H m<|ts.map ag.c)->(dm H ts ps)->(kc kn ps)->(kn.Nodup)->((∀p∈kn,∀r∈cC p,r∈kn))->((∀p∈kn,p.length<=5))->(kn.length<=200)->(ps.length<=100)->((∀p∈kn,p.Nodup))->(vA (kn.filter λp=>!aC (p∈bW ps)) ps R)->(∀D H' es,aF H H'->H D=Z->kJ H' D es->(∀p∈kn,p∈es.map (·.1))->vz (kn.filter λp=>!aC (p∈bW ps)) R es->Q (.c D) H')->Fw K vs H Q E'
def rA:dK Nj ["left","pairs"] (b_ xQ):=(O,O,O,δ,O,δ,δ)
def XX(F:bN K "ends_of" "ends_of" xQ f fd)(k2:eY mg)(Fo:bN K "other_rims" "other_rims" tu fo c4)(bo:cQ K c4 ["pair"] [])(mo:mg "other_rims"=V (.ref fo))(Go:bO P w K mg base bv 2 fo c4 ["pair"] xo)(Fs:bN K "step_terms" "step_terms" xF fs c5)(bs:cQ K c5 ["pair"] [])(ms:mg "step_terms"=V (.ref fs))(Gs:bO P w K mg base bv 3 fs c5 ["pair"] EX)(Fb:bN K "brought_to_ends" "brought_to_ends" vu fb c6)(bb:cQ K c6 ["terms","ends"] [])(mb:mg "brought_to_ends"=V (.ref fb))(Gb:bO P w K mg base bv 2 fb c6 ["terms","ends"] (xp K)):bO P w K mg base bv 4 f fd ["left","pairs"] (Fw K):=by
 refine F.j rA (λvs H Q E h=>?_) (λj3 A f8 s H vs Q E hr h=>?_)
 ·obtain⟨l,m,as,ts,kn,L,R,rfl,_⟩:=h;rfl
 ·obtain⟨l,m,as,ts,kn,L,R,rfl,hl,ha,hm,ht,pg,f9,g0,h5,hz,j4,d5,hR,k⟩:=h
  have hu:=jP hr;have d6:eQ 2 _:=hr.j ξ;refine(_,bx (cu (i:=2) rA.a O (ar O) jO)
   (bx (eU eL O (dy<|ai 0) (ca (i:=3) rA.a O<|ah O)<|bF<|jE hu (ai 2) (ai 3) (D_<|KM hu (ai 3) bg) O)
   (bx (eU eL O (dy<|ai 1) (ca (i:=4) rA.a O<|ah O)<|bF<|jE hu (ai 2) (eX jf (ai 4) bg (λ_ _=>O)) (D_ jO) O)
   (bx (cu (i:=5) rA.a O (ah O)<|fg sM O k2.b iK<|aq (ai 1) aD)
   (bx (DZ eL (dW pX (eC ie O k2.a gN<|aq (ai 5) aD) bg<|dI _)
    (bx (cu (i:=6) rA.a O (ah O)<|iH aD)
    (bx (eU eL O (dy<|ai 5) (ca (i:=4) rA.a O<|ah O)
     (bF (fJ (uK (eC (Es O) O k2.all Gy (aq (ff Nj ["rim","ends"] [Z,V 2] (dy<|dj Go d6 O mo Fo.a bo .nil cv<|aq (ai 4) aD) (λcl C c1 c2 ex=>ca (i:=0) (dX ["rim","ends"]) O<|ah O) (λcl C c1 c2 ex=>gX)
       (λcl C c1 c2 ex=>Ea (wM hu (ai 0)<|ai 1) (by with_unfolding_all rfl)) (hfr:=gD (b_ xQ) δ) (te:=uI (bH 0)<|bH 1)) aD)))
      (bF<|jE hu (ai 2) (eX jf (ai 4) bg (λ_ _=>O)) (D_<|dj Gb d6 O mb Fb.a bb .nil cv<|aq (dj Gs hr O ms Fs.a bs .nil cv<|aq (ai 4) aD)<|aq (ai 2) aD) O)
     <|bF<|nR<|mP oC ua vX rh (ai 6)<|aq (ai 4) aD)))
   <|bF<|cu (i:=5) rA.a O (ah O)<|ai 6)))
  <|bF<|cY<|ai 2)))),?_)
  generalize c7:(kn.filter λp=>!aC (p∈bW L))=g at ha hR k;have a7:∀p,p∈g↔p∈kn/\p∉bW L:=λp=>by rw[<-c7,fA];simp
  have g1:g.Nodup:=by rw[<-c7];exact f9.sublist um
  have g2:g.length<=200:=by rw[<-c7];exact dg (pJ _ _) hz
  have d7:=(xj L).nodup_iff.mp pg.a;rw[iS] at d7;obtain⟨g3,g4,g5⟩:=d7;have g6:=ha.j;have g7:=ht.q;intro T hT;have sT:=aF.q (o:=.c []) hT;refine(_,O,l,O,(_,sT.N hl),iI (K:=K) (a:=l) (xs:=as.map ag.c) (λi S H3=>∃(v3:Option ag)(u:List i_),S=[V<|.c l,V<|.c m,V<|.c T,v3,Z,Z,Z]/\aF H H3/\kJ H3 T u/\u.map (·.1)=g.take i/\vz g R u)
   (Z,[],O,sT,([],ay,.nil),O,λx M=>(by cases M)) (λi S H3 _ (_,_,_,sm,_)=>sm.N hl) ?_ ?_)
  ·rintro i v S H3 hv ⟨v3,u,rfl,sm,hE,U,a0⟩
   obtain⟨b,eb,rfl⟩:=dM hv;obtain⟨p,ep,hp⟩:=ha.q eb;have hi:i<g.length:=(cr.mp ep).1;have d8:p∈g:=dp ep;have X:p∉u.map (·.1):=by
    rw[U];intro z;have:=g1;rw[<-pH i g,iS] at this;exact this.2.2 p z p (by rw[mH hi];rw[(cr.mp ep).2];exact dQ) O
   have a9:u.length=i:=by have:=eW ao U;rw[ax,dR] at this;omega
   intro q hq;have sq:=aF.q (o:=.c []) hq;refine(_,O,b,p.map aQ,.d 1,O,ay,fY<|sq.B<|sm.B hp,q,_,O,ay,λo=>?_);have s3:aF H3 (aw (aw (aw H3 q<|.c []) q<|.c [(abd (p.map aQ) (.d 1))]) q<|.d o<|.c [(abd (p.map aQ) (.d 1))]):=(sq.F hq).F hq;obtain⟨c3,d,a3⟩:=(hE.j s3).q (x:=(abd p ([(abd p 1)]))) X ay (s3.B<|sm.B hp) ω;refine(_,O,_,O,T,_,O,d,(_,_,O,(sm.j s3).F hT,a3,?_,λx M=>?_))
   ·rw[bT,U,cq ep];rfl
   ·rcases cy.mp M with M|M
    ·exact a0 x M
    ·rw[cJ.mp M]
     refine(by show 1<=200;decide,λkk c8=>?_,λe=>?_)
     ·have:kk=p:=by simpa[aJ] using c8
      rw[this];exact d8
     ·rw[hR.b p d8 e];simp[eH]
  ·rintro S H3 ⟨v3,u,rfl,sm,hE,U,a0⟩
   rw[ax,g6,fN] at U;have a9:u.length=g.length:=by have:=eW ao U;rw[ax] at this;exact this
   refine(_,O,m,O,(_,sm.N hm),iI (K:=K) (a:=m) (xs:=ts.map ag.c) (λi S H3=>∃(v4:Option ag)(u:List i_),S=[V<|.c l,V<|.c m,V<|.c T,v3,v4,Z,Z]/\aF H H3/\kJ H3 T u/\u.map (·.1)=g++(L.map (·.2)).take i/\vz g R u)
    (Z,u,O,sm,hE,by rw[sf,jm];exact U,a0) (λi S H3 _ (_,_,_,sm,_)=>sm.N hm) ?_ ?_)
   ·rintro i v S H4 hv ⟨v4,u,rfl,sm,hE,U,a0⟩
    obtain⟨t,et,rfl⟩:=dM hv;obtain⟨x,ex,M⟩:=ht.B et;have hi:i<L.length:=(cr.mp ex).1;have d9:x∈L:=dp ex;have e0:(L.map (·.2))[i]?=V x.2:=by rw[cB,ex];rfl
    have g8:i<(L.map (·.2)).length:=by rw[ax];exact hi
    have X:x.2∉u.map (·.1):=by
     rw[U,cy];rintro(z|z)
     ·exact((a7 _).mp z).2 (Az d9).2
     ·have:=g4
      rw[<-pH i (L.map (·.2)),iS] at this;exact this.2.2 x.2 z x.2 (by rw[mH g8];rw[(cr.mp e0).2];exact dQ) O
    have a9:u.length<=300:=by
     have:=eW ao U;rw[ax,ck,dR,ax] at this;omega
    obtain⟨a4,b4,g9,j5,h0⟩:=M.j sm;intro q hq;have sq:=aF.q (o:=.c []) hq;refine(q,_,O,ay,λo=>?_);have s3:aF H4 (aw (aw H4 q<|.c []) q<|.d o<|.c []):=sq.F hq;obtain⟨c3,d,a3⟩:=(hE.j s3).q (x:=(abd x.2 ([]))) X ay (s3.B h0) ω;refine(_,O,_,O,t,_,_,_,O,O,fM.j<|s3 _ _ g9,ge (j:=1) O,T,_,O,d,(_,_,O,(sm.j s3).F hT,a3,?_,λy hy=>?_))
    ·rw[bT,U,cq e0,gd];rfl
    ·rcases cy.mp hy with hy|hy
     ·exact a0 y hy
     ·rw[cJ.mp hy]
      exact(eM _,(λkk c8=>(by cases c8)),λe=>(hR.a x d9 e).symm)
   ·rintro S H4 ⟨v4,u,rfl,sm,hE,U,a0⟩
    rw[ax,g7,<-ax (f:=(·.2)),fN] at U;refine(_,O,m,_,O,.inl<|sm.N hm,λWL h4=>?_);have sW:=aF.q (o:=.a<|ts.map ag.c) h4;have a9:u.length+L.length=g.length+2*L.length:=by
     have:=eW ao U;rw[ax,ck,ax] at this;omega
    have ei:tE g R L (g.length+2*L.length) u L:=by
     refine(CQ _,a9,λx M=>.inl M,λx M h=>?_,λp hp=>by rw[U];exact fR _ hp,λx M=>by rw[U];exact gh _<|aP.mpr (x,M,O),a0);rw[U,cy] at h;rcases h with z|z
     ·exact((a7 _).mp z).2 (Az M).1
     ·exact g5 x.1 (aP.mpr (x,M,O)) _ z O
    refine(λn S H3=>∃(WL:Y)(us:List Y)(k3:List aM)(u:List i_)(v3 v4 v6:Option ag),n=k3.length/\S=[V<|.c l,V<|.c m,V<|.c T,v3,v4,V<|.c WL,v6]/\aF H H3/\H3 WL=V (.a<|us.map ag.c)/\dm H us k3/\kJ H3 T u/\tE g R L (g.length+2*L.length) u k3,
     (_,WL,ts,L,u,v3,v4,Z,O,O,sm.j sW,ay,ht,hE.j sW,ei),?_)
    rintro n S H5 ⟨WL,us,k3,u,v3,v4,v6,rfl,rfl,c9,a1,e1,b0,ei⟩;have e2:=e1.q;refine(_,O,WL,_,O,.inl<|bP.j a1,_,_,O,O,_,O,?_);rw[ax,e2]
    by_cases d0:k3=[]
    ·subst d0
     refine eF (_,O,k T H5 u c9 hT b0 (λp hp=>?_) ei.e)
     by_cases hs:p∈bW L
     ·obtain⟨y,hy,e3⟩:=ki.mp hs
      simp only[bZ,pI,oM] at e3;rcases e3 with rfl|rfl
      ·exact(ei.d y hy).elim (λz=>by cases z) id
      ·exact ei.c y hy
     ·exact ei.b p<|(a7 p).mpr (hp,hs)
    have j6:0<k3.length:=CL.mpr d0;rw[cn (show(0:Int)<((k3.length:Nat):Int) from ω)];refine fL (λe4 H'=>∃n',n'<k3.length/\∃(WL:Y)(us:List Y)(k3:List aM)(u:List i_)(v3 v4 v6:Option ag),n'=k3.length/\e4=[V<|.c l,V<|.c m,V<|.c T,v3,v4,V<|.c WL,v6]/\aF H H'/\H' WL=V (.a<|us.map ag.c)/\dm H us k3/\kJ H' T u/\tE g R L (g.length+2*L.length) u k3,λe4 H' h=>h,?_);refine(bU (by simp),λLL b1=>?_);have sL:=aF.q (o:=.a []) b1;have e5:H LL=Z:=c9.M b1;have h6:WL≠LL:=dJ a1 b1;have e6:T≠LL:=by obtain⟨kv,e,_⟩:=b0;exact dJ e b1
    have h7:WL≠T:=by obtain⟨kv,e,_⟩:=b0;intro z;rw[z,e] at a1;cases a1
    refine(_,O,WL,O,(_,bP.j<|sL _ _ a1),iI (K:=K) (a:=WL) (xs:=us.map ag.c) (λi S H6=>∃(vs:List Y)(LP:List aM)(G:List i_)(v4:Option ag),S=[V<|.c l,V<|.c m,V<|.c T,v3,v4,V<|.c WL,V<|.c LL]/\aF H H6/\H6 WL=V (.a<|us.map ag.c)/\H6 LL=V (.a<|vs.map ag.c)/\dm H vs LP/\kJ H6 T G/\tE g R L (g.length+2*L.length) G (LP++k3.drop i)/\LP.length<=i/\
      (LP.length<i\/(LP=k3.take i/\G=u/\∀x∈LP,∃r∈iw x,r∉u.map (·.1))))
     ([],[],u,v4,O,c9.j sL,sL _ _ a1,ay,.nil,b0.j sL,ei,aW _,.inr (O,O,λx M=>(by cases M))) (λi S H6 _ (_,_,_,_,_,_,h,_)=>bP.j h) ?_ ?_)
    ·rintro i v S H6 hv ⟨vs,LP,G,v4,rfl,b2,d1,b3,a5,a6,I,e7,b5⟩
     obtain⟨t,et,rfl⟩:=dM hv;obtain⟨x,ex,M⟩:=e1.B et;have hi:i<k3.length:=(cr.mp ex).1;have h8:k3.drop i=x::k3.drop (i+1):=by rw[mH hi,(cr.mp ex).2]
     rw[h8] at I;have e8:x∈L:=I.a.subset<|gh _ dQ;obtain⟨e9,h9⟩:=pg.has x e8;have f0:=h5 _ e9;have f1:=I.g;refine(_,O,t,x,O,M.j b2,f0,λRL H7 rs s7 _ d2 f2=>(RL,O,(_,bP.j d2),λD hD=>?_));have j7:=m_ x.2;have j8:(iw x).length<=(cC x.2).length:=pJ _ _;refine eP<|YF d2 f2 ω (a6.j s7) hD λH8 s8 f3=>(D,_,O,bP.j f3,_,O,?_);have b6:=s7.j s8;have b7:=b2.j b6;have d3:=a6.j b6;have f4:=b6 _ _ d1;have b9:=b6 _ _ b3;clear f3 d2 f2 hD a6 d1 b3;cases f5:((iw x).map λr=>aC (r∈G.map (·.1))).all id with
     |true=>
      have i0:∀r∈iw x,r∈G.map (·.1):=λr hr=>by
       have:=pO.mp f5 _<|aP.mpr (r,hr,O);exact io this
      obtain⟨a8,b8,i1,i2,j9⟩:=M.j b7;refine fL (_,O,t,x,O,M.j b7,f0,d5 _ e9,h9,λD9 H9 i3 i4 s9 _ i5 i6 d4 i7=>(_,O,D9,T,i3,i4,G,g,R,O,bP.j i5,i6,d3.j s9,λc hc=>(i0 c.1 (by rw[d4] at hc;obtain⟨r,hr,rfl⟩:=aP.mp hc;exact hr),i7 c hc),?_,I.e,λD0 H0 c0 s0 f6 i8 i9 f7 k0 j0=>(D0,_,O,i8,λo=>?_)))
      ·rw[d4,ax];omega
      ·have a2:aF H8 (aw H0 D0<|.d o<|.c<|bI c0):=(s9.j s0).F<|s9.M f6
       have X:x.1∉G.map (·.1):=I.f x<|gh _ dQ;have j1:G.length<=1000:=by rw[ck] at f1;omega
       obtain⟨c3,d,a3⟩:=(d3.j a2).q (x:=(abd x.1 c0)) X ay (a2.B i2) j1;refine(_,O,_,O,t,_,_,_,O,O,fM.j<|a2 _ _ i1,ge (j:=0) O,T,_,O,d,(vs,LP,_,_,O,(b7.j a2).F hT,?_,?_,a5,a3,I.q g3 (dg (Nm i9 f7) g2,f7,λe=>by rw[j0 e,d4,cj,hR.c x e8 e];rfl),ω,.inl ω))
       ·rw[bG h7];exact a2 _ _ f4
       ·rw[bG<|eA e6];exact a2 _ _ b9
     |false=>
      have j2:∃r∈iw x,r∉G.map (·.1):=by
       obtain⟨b,hb,hf⟩:=List.all_eq_false.mp f5;obtain⟨r,hr,rfl⟩:=aP.mp hb;exact(r,hr,λz=>hf<|cn z)
      have k1:=a5.q;refine eF (_,O,.inl (O,_,bP.j b9),_,O,LL,_,_,O,O,b9,by rw[ax];exact gn (by have:=I.a.length_le;rw[ck] at this;omega),(vs++[t],LP++[x],G,_,O,b7.F e5,by rw[bG h6];exact f4,by rw[ay,bT];rfl,xZ a5 M,d3.B b9 (by intro p q z;cases z) e6,?_,by rw[ck,kR];omega,?_))
      ·rw[gd];exact I
      ·rcases b5 with h|⟨h1,h2,h3⟩
       ·exact .inl (by rw[ck,kR];omega)
       ·refine .inr (by rw[h1,cq ex],h2,λy hy=>?_)
        rcases cy.mp hy with hy|hy
        ·exact h3 y hy
        ·rw[cJ.mp hy,<-h2];exact j2
    ·rintro S H6 ⟨vs,LP,G,v4,rfl,b2,d1,b3,a5,a6,I,e7,b5⟩
     rw[ax,e2] at I e7 b5;rw[ae1,jm] at I;refine(_,O,LP.length,?_,LL,vs,LP,G,v3,v4,_,O,O,b2,b3,a5,a6,I);rcases b5 with h|⟨h1,h2,h3⟩
     ·exact h
     ·rw[fN] at h1
      subst h2 h1;exact bu (ei.j pg (λp hp hs=>(a7 p).mpr (hp,hs)) g0 h3) d0
end
noncomputable abbrev AN:cN:=eI 34
def lY(hw:ii a=af){p r:List Int}(f:p∈bR a)(g:r∈cC p):r∈bR a:=by
 obtain⟨k,l,b,c⟩:=Bt.mp g;obtain⟨d,h⟩:=GK b c;have i:r≠[]:=λz=>by
  rw[z] at c;have:=eW ao c;rw[ck,dR,mG,mF] at this;have:=CL.mpr (nc.mp<|vI hw f).1;omega
 obtain⟨_,t,j,e⟩:=vG.mp f;exact vG.mpr (i,t,j,d.trans e)
def Ze{cs:aG}{f:List Int->Int}(h:∀c∈cs,c.2=f c.1):cs=(aJ cs).map λq=>(abd q (f q)):=by
 unfold aJ;rw[cj]
 conv=>lhs;rw[<-List.map_id cs]
 exact kj λc a=>Prod.ext O<|h c a
def ML{p:List Int}(h:p.Nodup):cX p 1=(cC p).map λq=>(abd q (lX p q)):=by
 have a:(aJ<|cX p 1).Nodup:=by rw[ve];exact xT h
 have:=Ze (cs:=cX p 1) (f:=lX p) λc b=>by unfold lX;rw[vb a,kH a c b]
 rw[ve] at this;exact this
structure vy(R:List Int->List Int->Int)(x:List Int×aG):Prop where
 a:(aJ x.2).Nodup
 c:∀t∈x.2,t.2≠0
 b:∀e,eH x.2 e=((cC x.1).map λr=>lX x.1 r*R r e).sum
def xX(H:ae)(t:Y×Y)(x:List Int×aG):Prop:=∃b,H t.1=V (.b [.c b,.c t.2])/\cM H b x.1/\H t.2=V (.c<|bI x.2)
def mY(H:ae)(a:List (Y×Y))(b:List (List Int×aG)):Prop:=du (xX H) a b
def mY.q(h:mY H d e)(s:aF H a):mY a d e:=gf h λt c (b,f,g,i)=>(b,s _ _ f,s.B g,s _ _ i)
noncomputable def xX.j{t:Y×Y}(h:xX H t x)(f:H d=V (.a e)):xX (aw H d o) t x:=by
 obtain⟨b,i,j,k⟩:=h;have a:∀{c:Y}{q:dh},H c=V q->q≠.a e->aw H d o c=V q:=λ{c q} g l=>by rw[bG λz=>l (by subst z;rw[g] at f;exact cH f)];exact g
 exact(b,a i (by intro z;cases z),a (show H b=V _ from j) (by intro z;cases z),a k (by intro z;cases z))
noncomputable def mY.B{b:List (List Int×aG)}(h:mY H a b)(e:H d=V (.a c)):mY (aw H d o) a b:=gf h λ_ _ q=>q.j e
noncomputable def mY.j:∀{a:List (Y×Y)}{b:List (List Int×aG)}{i:Nat}{t:Y×Y},mY H a b->a[i]?=V t->∃c,b[i]?=V c/\xX H t c
 |_,_,0,_,.cons h _,e=>by cases e;exact(_,O,h)
 |_,_,i+1,_,.cons _ t,e=>mY.j (i:=i) t (by simpa using e)
noncomputable abbrev rC(t:Y×Y):ag:=.c t.1
abbrev MD(K:aR):a_:=kq<|dE (bH 0)<|dE (sE (xp K) [] sR<|dE (sE xm [] sR<|dE (bH 0)<|dE (gW<|.d 1) fI)<|dE (bH 1) fI) fI
section
variable{P:bw}{w:aX}{K:aR}{mg:au->Option aa}{base:aT}
def WK{u:ae}{as:List Y}{Q:aS}(hl:u L=V (.a<|as.map ag.c))(ht:bC u as I)(hz:I.length<=1000)(h5:∀r∈I,r.length<=5/\r.Nodup)(he:kJ u d es)(a1:∀r∈I,∀q∈cC r,q∈es.map (·.1))(a2:vz l R es)(a3:l.length<=200)(hD:u D=Z)(k:∀(g:ae)(f:List (Y×Y))(m:List (List Int×aG)),aF u g->g D=V (.a<|f.map rC)->mY g f m->m.map (·.1)=I->(∀x∈m,vy R x/\x.2.length<=200)->(f.map (·.2)).Nodup->(∀t∈f,u t.2=Z)->Q (.c D) g):dY (gY K L) (dk 0) gC (MD K) [Z,V<|.c d] u D Q:=by
 have a4:=ht.j;refine jh (xs:=as.map ag.c) (λj σ P g=>∃(v0:Option ag)(f:List (Y×Y))(m:List (List Int×aG)),σ=[v0,V<|.c d]/\aF u g/\g D=V (.a P)/\P=f.map rC/\mY g f m/\m.map (·.1)=I.take j/\(∀x∈m,vy R x/\x.2.length<=200)/\(f.map (·.2)).Nodup/\∀t∈f,u t.2=Z) ?_ ?_ ?_ ?_
 ·exact(Z,[],[],O,aF.q hD,ay,O,.nil,O,(λx w=>by cases w),qL,(λx w=>by cases w))
 ·rintro j σ P g ⟨v0,f,m,rfl,y,n,rfl,_⟩
  exact bP.j<|y _ _ hl
 ·rintro j σ P g v hv hj hy ⟨v0,f,m,rfl,y,n,rfl,hp,z,C,E,G⟩
  obtain⟨o,eo,rfl⟩:=dM hv;obtain⟨r,er,ho⟩:=ht.q eo;have A:=dp er;have hn:(as.map ag.c).length<=bQ:=by rw[ax];exact bU ω
  refine iX (_,O,_,O,o,r,1,O,y.B ho,(h5 r A).1,λD4 H4 us s4 _ a5 a6=>(_,O,D4,d,us,_,es,l,R,O,bP.j a5,a6,he.j<|y.j s4,λc hc=>(a1 r A c.1 (ES hc).1,(ES hc).2),?_,a2,λM H5 c s5 S a7 T a8 a9 b0=>(bU (by simp),λp U=>?_)))
  ·rw[Ay];have:=m_ r;have:=(h5 r A).1;omega
  have b1:=s4.j s5;have X:=b1.j<|aF.q (o:=.b [.c o,.c M]) U;have b2:vy R (abd r c):=(T,a9,λe=>by rw[b0 e,ML (h5 r A).2,cj];rfl);have a0:xX (aw H5 p<|.b [.c o,.c M]) (abd p M) (abd r c):=(o,ay,X.B<|y.B ho,aF.q U _ _ a7);have s:g M=Z:=s4.M S;refine fz hn hj hy (X _ _ n) (_,f++[(abd p M)],m++[(abd r c)],O,(y.j X).F hD,ay,by rw[bT];rfl,?_,?_,?_,?_,?_)
  ·exact mY.B (tZ (hp.q X) a0)<|X _ _ n
  ·rw[cq er,bT,z];rfl
  ·intro x w
   rcases cy.mp w with w|w
   ·exact C x w
   ·rw[cJ.mp w];exact(b2,dg (Nm T a8) a3)
  ·rw[bT,iS]
   refine(E,by simp,λa ha b hb e=>?_);have b3:b=M:=by simpa using hb
   obtain⟨t,H,rfl⟩:=aP.mp ha;obtain⟨i,hi⟩:=IB H;obtain⟨c',_,b',_,_,e3⟩:=hp.j hi;rw[e,b3,s] at e3;cases e3
  ·intro t H
   rcases cy.mp H with h|h
   ·exact G t h
   ·rw[cJ.mp h];exact y.M s
 ·rintro σ P g ⟨v0,f,m,rfl,y,n,rfl,hp,z,C,E,G⟩
  rw[ax,a4,e_<|aW _] at z;exact k g f m y n hp z C E G
inductive AA(K:aR)(vs:List ag)(H:ae)(Q:aS)(E':cZ):Prop
 |a:∀l m as pss ts ps R,(vs=[.c l,.c m])->(bP K H l<|as.map ag.c)->(bC H as pss)->(lW pss)->(bP K H m<|ts.map ag.c)->(dm H ts ps)->(ps.length<=100)->(kc (bR pss) ps)->(vA ((bR pss).filter λp=>!aC (p∈bW ps)) ps R)->(∀D H' rs xs,aF H H'->H D=Z->H' D=V (.a<|am rC rs)->mY H' rs xs->xs.map (·.1)=((bR pss).filter λp=>!aC (p∈bW ps))->(∀x∈xs,vy R x/\x.2.length<=200)->(rs.map (·.2)).Nodup->(∀t∈rs,H t.2=Z)->Q (.c D) H')->AA K vs H Q E'
def FC:dK ["web","pairs","left","ends"] ["web","pairs"] (b_ AN):=(O,O,O,δ,O,δ,δ)
def Xt{fd j n o u:cS}(F:bN K "thin_seams" "thin_seams" AN f fd)(b5:eY mg)(Fl:bN K "left_over" "left_over" xL X j)(bl:cQ K j ["web","pairs"] [])(ml:mg "left_over"=V (.ref X))(Gl:bO P w K mg base bv 10 X j ["web","pairs"] (ti K))(Fe:bN K "ends_of" "ends_of" xQ fe n)(be:cQ K n ["left","pairs"] [])(me:mg "ends_of"=V (.ref fe))(Ge:bO P w K mg base bv 4 fe n ["left","pairs"] (Fw K))(Ft:bN K "seam_terms" "seam_terms" vp ft o)(bt:cQ K o ["piece","often"] [])(mt:mg "seam_terms"=V (.ref ft))(Gt:bO P w K mg base bv 2 ft o ["piece","often"] xm)(Fb:bN K "brought_to_ends" "brought_to_ends" vu fb u)(bb:cQ K u ["terms","ends"] [])(mb:mg "brought_to_ends"=V (.ref fb))(Gb:bO P w K mg base bv 2 fb u ["terms","ends"] (xp K)):bO P w K mg base bv 11 f fd ["web","pairs"] (AA K):=by
 refine F.j FC (λvs H Q E h=>?_) (λb1 A a0 s H vs Q E b h=>?_)
 ·obtain⟨l,m,as,a,ts,y,R,rfl,_⟩:=h;rfl
 ·obtain⟨l,m,as,a,ts,y,R,rfl,hl,ha,G,hm,T,hz,pg,hR,k⟩:=h
  have I:eQ 2 _:=b.j ξ;have a1:eQ 4 _:=b.j ξ;refine(_,bx (cu (i:=2) FC.a O (ah O)<|dj Gl b O ml Fl.a bl .nil cv<|aq (ai 0)<|aq (ai 1) aD)
   (bx (cu (i:=3) FC.a O (ar O)<|dj Ge a1 O me Fe.a be .nil cv<|aq (ai 2)<|aq (ai 1) aD)
   (bF (cY (ff ["web","pairs","left","ends"] ["piece","ends"] [Z,V 3] (dy<|ai 2) (λcl C d e ex=>ca (i:=0) (dX ["piece","ends"]) O<|ah O)
    (λcl C d e ex=>gX) (λcl C d e ex=>iG<|aq (ai 0)<|aq (dj Gb I O mb Fb.a bb .nil cv<|aq (dj Gt I O mt Ft.a bt .nil cv<|aq (ai 0)<|aq bg aD)<|aq (ai 1) aD) aD)
    (hfr:=gD (b_ AN) δ) (te:=MD K))))),?_)
  obtain⟨_,_,_,g⟩:=qp G.1;rw[<-qu] at g;have cp:∀p∈bR a,p.length<=5/\p.Nodup:=λp c=>by
   obtain⟨_,h5,_,a2⟩:=nc.mp<|vI G.1 c;exact(h5,a2.imp λh z=>bu (z▸h) ω)
  refine(_,O,_,O,l,m,as,a,ts,y,O,hl,ha,G,hm,T,pg,hz,λLD H2 bs s2 b2 v L=>?_);refine(_,O,_,O,LD,m,bs,ts,bR a,y,R,O,bP.j v,L,s2.N hm,T.j s2,pg,pn a,λp c r b=>lY G.1 c b,λp c=>(cp p c).1,g,hz,λp c=>(cp p c).2,hR,λED H3 es U b3 a3 M a4=>?_);have b4:((bR a).filter λp=>!aC (p∈bW y)).length<=(bR a).length:=pJ _ _;have S:∀p∈(bR a).filter (λp=>!aC (p∈bW y)),p∈bR a:=λp c=>(fA.mp c).1;have x:=s2.j U;refine(_,O,LD,O,(_,bP.j<|U _ _ v),λD hD=>eP<|WK (U _ _ v) (U.J L) ω (λr b=>cp r<|S r b) a3 (λr b q hq=>M q<|lY G.1 (S r b) hq) a4 ω hD λH4 us xs s4 a5 a6 a7 a8 a9 b0=>k D H4 us xs (x.j s4) (x.M hD) a5 a6 a7 a8 a9 λt T=>x.M<|b0 t T)
end
abbrev dZ:=Nat->Int
structure qA(p:Int):Prop where
 d:2<=p
 c:∀a b,p ∣ a*b->p ∣ a\/p ∣ b
 e:∀w g,¬p ∣ w->∃k:Nat,(k:Int)<p/\p ∣ (k:Int)*w-g
def BB{n:Nat}(p:2<=n)(h:∀a:Fin n,∀b:Fin n,(a.1*b.1)%n=0->a.1=0\/b.1=0)(i:∀w:Fin n,∀g:Fin n,w.1=0\/∃k:Fin n,(k.1*w.1)%n=g.1):qA (n:Int):=by
 have c:∀a:Int,∃x:Fin n,(x.1:Int)=a%n:=λa=>by
  have q:0<=a%(n:Int):=qR _ ω;have r:a%(n:Int)<n:=qS _ ω;exact(((a%(n:Int)).toNat,ω),by simp only;omega)
 refine(ω,λa b j=>?_,λw g l=>?_)
 ·obtain⟨x,d⟩:=c a
  obtain⟨y,f⟩:=c b;have e:(a*b)%(n:Int)=0:=QV j;rw[IT,<-d,<-f] at e;have m:(x.1*y.1)%n=0:=by exact_mod_cast e
  rcases h x y m with z|z
  ·left
   refine IV ?_;rw[<-d,z];rfl
  ·right
   refine IV ?_;rw[<-f,z];rfl
 ·obtain⟨x,d⟩:=c w
  obtain⟨y,f⟩:=c g;rcases i x y with z|⟨k,o⟩
  ·refine bu (IV ?_) l
   rw[<-d,z];rfl
  ·refine(k.1,by exact_mod_cast k.2,?_)
   refine IV ?_;have e:((k.1:Int)*w)%n=g%n:=by
    rw[IT,<-d,<-f,<-o]
    push_cast
    rw[IT,afd,<-IT]
   rw[Int.sub_emod,e,wj]
   rfl
def aao:qA 2:=BB (n:=2) ξ ξ ξ
def aan:qA 3:=BB (n:=3) ξ ξ ξ
def aam:qA 5:=BB (n:=5) ξ ξ ξ
def aal:qA 7:=BB (n:=7) ξ ξ ξ
def tJ(p:Int)(f:dZ):Prop:=∀u,p ∣ f u
def mm(p:Int)(f:dZ)(t:Nat):Prop:=¬p ∣ f t/\∀u,t<u->p ∣ f u
def OY(p:Int)(f:dZ)(T:Nat):Prop:=∀u,T<=u->p ∣ f u
noncomputable abbrev mh(f:dZ)(a:Int)(g:dZ):dZ:=λu=>f u-a*g u
def yi{p a x y:Int}(h:p ∣ x)(k:p ∣ y):p ∣ x-a*y:=mJ h<|jX k<|ur _ _
def aap{p a x y:Int}(h:p ∣ x-a*y)(k:p ∣ y):p ∣ x:=by
 have:=mK h<|jX k<|ur a y
 rwa [ae9] at this
noncomputable def mm.j{a b:Nat}(h:mm p f a)(k:mm p f b):a=b:=by
 rcases If a b with z|z|z
 ·exact bu (h.2 b z) k.1
 ·exact z
 ·exact bu (k.2 a z) h.1
def mm.q(h:mm p f a):¬tJ p f:=λz=>h.1<|z a
def rL(p:Int):List (Nat×dZ)->dZ->Prop
 |[],f=>tJ p f
 |r::L,f=>∃a,rL p L (mh f a r.2)
def GP{p:Int}:∀{L:List (Nat×dZ)}{f g:dZ},(∀u,p ∣ f u-g u)->rL p L g->rL p L f
 |[],f,g,h,b=>λu=>by
  have:=mK (h u)<|b u
  rwa [ae9] at this
 |r::L,f,g,h,(a,b)=>(a,GP (λu=>by
   have e:mh f a r.2 u-mh g a r.2 u=f u-g u:=by show f u-a*r.2 u-(g u-a*r.2 u)=_;omega
   rw[e];exact h u) b)
def OF:∀{L:List (Nat×dZ)}{f:dZ},tJ p f->rL p L f
 |[],f,h=>h
 |r::L,f,h=>(0,OF λu=>by show p ∣ f u-0*r.2 u;rw[nG,uo];exact h u)
def afu{r:Nat×dZ}(h:rL p L f):rL p (r::L) f:=
 (0,GP (λu=>by
  have e:mh f 0 r.2 u-f u=0:=by show f u-0*r.2 u-f u=0;rw[nG];omega
  rw[e];exact fw _) h)
def OG(P:qA p):∀{L:List (Nat×dZ)},(L.map (·.1)).Nodup->(∀r∈L,mm p r.2 r.1)->∀{f:dZ},rL p L f->tJ p f\/∃r∈L,mm p f r.1
 |[],_,_,f,h=>.inl h
 |r::L,j,n,f,(a,h)=>by
  rw[cI,jA] at j;have g:=n r<|.head _;have b:∀u,f u=mh f a r.2 u+a*r.2 u:=λu=>by show f u=f u-a*r.2 u+a*r.2 u;omega
  rcases OG P j.2 (λq i=>n q<|.tail _ i) h with z|⟨q,i,z⟩
  ·by_cases c:p ∣ a
   ·left
    intro u;rw[b u];exact mK (z u)<|jX c<|qT _ _
   ·right
    refine(r,.head _,λe=>?_,λu d=>?_)
    ·have:p ∣ a*r.2 r.1:=by
      have:=mJ e<|z r.1
      rwa [show f r.1-mh f a r.2 r.1=a*r.2 r.1 from by rw[b r.1];omega] at this
     rcases P.c _ _ this with k|k
     ·exact c k
     ·exact g.1 k
    ·rw[b u]
     exact mK (z u)<|jX (g.2 u d)<|ur _ _
  ·have l:q.1≠r.1:=λe=>j.1<|e▸List.mem_map_of_mem i
   by_cases c:p ∣ a
   ·right
    refine(q,.tail _ i,λe=>z.1 ?_,λu d=>?_)
    ·exact dvd_of e c
    ·rw[b u]
     exact mK (z.2 u d)<|jX c<|qT _ _
   ·rcases ad7 l with m|m
    ·right
     refine(r,.head _,λe=>?_,λu d=>?_)
     ·have k:=mJ e<|z.2 r.1 m
      rw[show f r.1-mh f a r.2 r.1=a*r.2 r.1 from by rw[b r.1];omega] at k;rcases P.c _ _ k with k|k
      ·exact c k
      ·exact g.1 k
     ·rw[b u]
      exact mK (z.2 u ω)<|jX (g.2 u d)<|ur _ _
    ·right
     refine(q,.tail _ i,λe=>z.1<|yi e<|g.2 q.1 m,λu d=>?_);rw[b u];exact mK (z.2 u d)<|jX (g.2 u ω)<|ur _ _
where
 dvd_of {p a x y:Int} (e:p ∣ x) (c:p ∣ a):p ∣ x-a*y:=mJ e<|jX c<|qT _ _
structure aar(p:Int)(S:dZ->dZ):Prop where
 b:∀f a g u,S (mh f a g) u=S f u-a*S g u
 z:∀{f},tJ p f->tJ p (S f)
structure yk where
 b:Nat
 d:Option Nat
 r:dZ
 g:dZ
structure aas(p:Int)(S:dZ->dZ)(T:Nat)(x:yk):Prop where
 b:x.b<T
 a:mm p x.r x.b
 d:tJ p (S x.r)
 c:∀t,x.d=V t->t<T/\x.b<t/\mm p x.g t/\∀u,p ∣ S x.g u-x.r u
structure RoW(p:Int)(S:dZ->dZ)(T:Nat)(L:List yk):Prop where
 a:∀x∈L,aas p S T x
 e:(L.map (·.b)).Nodup
 all:∀t,t<T->(∃x∈L,x.b=t)\/∃x∈L,x.d=V t
 d:∀x∈L,∀y∈L,y.d≠V x.b
 c:∀x∈L,∀y∈L,∀t,x.d=V t->y.d=V t->x=y
noncomputable def afw(t:Nat)(L:List yk):List (Nat×dZ):=(L.filter λx=>match x.d with|some d=>aC (d<t)|none=>aB).map λx=>(abd x.b x.r)
structure OX(p:Int)(S:dZ->dZ)(T:Nat)(left fill:dZ):Prop where
 c:∀u,p ∣ S fill u-left u
 a:mm p fill T
 b:OY p left T
def OX.step{S:dZ->dZ}(e:aar p S)(R:RoW p S T L)(r:OX p S T l f){x:yk}(g:x∈L)(h:x.d=V d)(i:mm p l x.b){k:Int}(j:p ∣ k*x.r x.b-l x.b):OX p S T (mh l k x.r) (mh f k x.g)/\OY p (mh l k x.r) x.b:=by
 have o:=R.a x g;obtain⟨m,q,c,n⟩:=o.c d h;refine((λu=>?_,(λz=>r.a.1<|aap z<|c.2 T m,λu b=>yi (r.a.2 u b)<|c.2 u ω),λu b=>yi (r.b u b)<|o.a.2 u (by have:=o.b;omega)),λu b=>?_)
 ·rw[e.b]
  have:=yi (a:=k) (r.c u)<|n u
  rwa [show S f u-l u-k*(S x.g u-x.r u)=S f u-k*S x.g u-mh l k x.r u from by show _=S f u-k*S x.g u-(l u-k*x.r u);rw[IS];omega] at this
 ·rcases Nat.eq_or_lt_of_le b with rfl|b
  ·have:=zj.mpr j
   rwa [show -(k*x.r x.b-l x.b)=mh l k x.r x.b from by show _=l x.b-k*x.r x.b;omega] at this
  ·exact yi (i.2 u b)<|o.a.2 u b
noncomputable def ju(a:Ξ)(F:List Int->Int):dZ:=λu=>match a[u]? with
 |some x=>F x
 |none=>0
def BD{a:Ξ}{F:List Int->Int}{u:Nat}(h:a[u]?=V x):ju a F u=F x:=by unfold ju;rw[h]
def aaq{a:Ξ}{F:List Int->Int}{u:Nat}(h:a.length<=u):ju a F u=0:=by unfold ju;rw[si h]
noncomputable def afv(b:Ξ)(a:List Int->List Int->Int)(f:dZ):dZ:=λu=>match b[u]? with
 |some y=>(b.zipIdx.map λq=>f q.2*a q.1 y).sum
 |none=>0
def aft{a:Ξ}{q:List Int×Nat}(h:q∈a.zipIdx):a[q.2]?=V q.1:=by
 have:=List.mem_zipIdx_iff_getElem? (x:=q) (l:=a);exact this.mp h
section
variable{κ:Type}
noncomputable def bh:List Int->List (κ->Int)->κ->Int
 |a::c,v::L=>λu=>a*v u+bh c L u
 |_,_=>λ_=>0
noncomputable def pz(p:Nat):Nat->Ξ
 |0=>[[]]
 |n+1=>(pz p n).flatMap λc=>(cV p).map λa:Nat=>(a:Int)::c
def GU(p:Nat):∀n,(pz p n).length=p ^ n
 |0=>O
 |n+1=>by
  have:∀l:Ξ,(l.flatMap λc=>(cV p).map λa:Nat=>(a:Int)::c).length=l.length*p:=by
   intro l
   induction l with
   |nil=>simp
   |cons c l b=>rw[so,ck,ax,mE,b,cO,Nat.add_mul];omega
  show(((pz p n).flatMap λc=>(cV p).map λa:Nat=>(a:Int)::c)).length=_;rw[this,GU p n,CD]
def yj:∀{n:Nat}{c:List Int},c∈pz p n↔c.length=n/\∀x∈c,0<=x/\x<(p:Int)
 |0,c=>by
  show c∈[[]]↔_;rw[cJ];constructor
  ·rintro rfl;exact(O,λx b=>nomatch b)
  ·intro h;exact nE h.1
 |n+1,c=>by
  show c∈(pz p n).flatMap (λc=>(cV p).map λa:Nat=>(a:Int)::c)↔_;rw[ki];constructor
  ·rintro⟨d,i,h⟩
   obtain⟨a,g,rfl⟩:=aP.mp h;obtain⟨e,f⟩:=yj.mp i;have:=gB.mp g;refine(by rw[cO,e],λx b=>?_);rcases bZ.mp b with rfl|b
   ·omega
   ·exact f x b
  ·rintro⟨e,f⟩
   cases c with
   |nil=>simp at e
   |cons a d=>
    have g:=f a<|.head _;refine(d,yj.mpr (by simpa using e,λx b=>f x<|.tail _ b),aP.mpr (a.toNat,gB.mpr ω,?_));rw[Int.toNat_of_nonneg g.1]
def OW(p:Nat):∀n,(pz p n).Nodup
 |0=>by simp[pz]
 |n+1=>by
  show((pz p n).flatMap λc=>(cV p).map λa:Nat=>(a:Int)::c).Pairwise (·≠·);rw[List.pairwise_flatMap];refine(λc _=>?_,(OW p n).imp λ{a b} h x d y f g=>?_)
  ·rw[jK]
   exact y_.imp λh g=>h (by injection g with g;omega)
  ·obtain⟨i,_,rfl⟩:=aP.mp d
   obtain⟨j,_,rfl⟩:=aP.mp f;injection g with _ g
   exact h g
def OR:∀(c d:List Int)(L:List (κ->Int)),c.length=L.length->d.length=L.length->∀u,bh (Io (λa b=>a-b) c d) L u=bh c L u-bh d L u
 |c,d,[],e,f,u=>by rw[nE e,nE f];rfl
 |[],_,_::_,e,_,_=>by simp at e
 |_::_,[],_::_,_,f,_=>by simp at f
 |a::c,b::d,v::L,e,f,u=>by
  show(a-b)*v u+bh _ L u=a*v u+bh c L u-(b*v u+bh d L u);rw[OR c d L (by simpa using e) (by simpa using f),ae8];omega
def OS(p:Int):∀(c:List Int)(L:List (κ->Int))(u:κ),p ∣ bh c L u-bh (c.map (·%p)) L u
 |[],[],_=>fw _
 |[],_::_,_=>fw _
 |_::_,[],_=>fw _
 |a::c,v::L,u=>by
  show p ∣ a*v u+bh c L u-(a%p*v u+bh (c.map (·%p)) L u);have b:=OS p c L u;have d:p ∣ (a-a%p)*v u:=jX (a / p,by have:=afe a p;omega)<|qT _ _;have:=mK d b
  rwa [show(a-a%p)*v u+(bh c L u-bh (c.map (·%p)) L u)=a*v u+bh c L u-(a%p*v u+bh (c.map (·%p)) L u) by rw[ae8];omega] at this
def OT(k:Int):∀(c d:List Int)(L:List (κ->Int)),c.length=L.length->d.length=L.length->∀u,bh (Io (λa b=>k*a+b) c d) L u=k*bh c L u+bh d L u
 |c,d,[],e,f,u=>by rw[nE e,nE f];show(0:Int)=k*0+0;omega
 |[],_,_::_,e,_,_=>by simp at e
 |_::_,[],_::_,_,f,_=>by simp at f
 |a::c,b::d,v::L,e,f,u=>by
  show(k*a+b)*v u+bh _ L u=k*(a*v u+bh c L u)+(b*v u+bh d L u);rw[OT k c d L (by simpa using e) (by simpa using f),QX,CW,IU];omega
def eR(p:Int)(a:List (κ->Int))(f:κ->Int):Prop:=∃d:List Int,d.length=a.length/\∀u,p ∣ f u-bh d a u
def GR:∀(L:List (κ->Int))(u:κ),bh (L.map λ_=>0) L u=0
 |[],_=>O
 |v::L,u=>by show 0*v u+bh (L.map λ_=>0) L u=0;rw[GR L u];omega
def vL{p:Int}{f:κ->Int}(h:∀u,p ∣ f u):eR p a f:=(a.map λ_=>0,ax _,λu=>by rw[GR];simpa using h u)
def tI{p k:Int}{n:List (κ->Int)}(e:eR p n f)(h:eR p n g):eR p n λu=>k*f u+g u:=by
 obtain⟨c,i,j⟩:=e;obtain⟨d,l,m⟩:=h;refine(Io (λa b=>k*a+b) c d,by rw[aen];omega,λu=>?_);rw[OT k c d n i l];have:=mK (jX (j u)<|ur k _)<|m u
 rwa [show k*(f u-bh c n u)+(g u-bh d n u)=k*f u+g u-(k*bh c n u+bh d n u) by rw[IS];omega] at this
def qw{p:Int}{f g:κ->Int}(h:∀u,p ∣ f u-g u)(a:eR p e g):eR p e f:=by
 obtain⟨d,b,c⟩:=a;refine(d,b,λu=>?_);have:=mK (h u)<|c u
 rwa [show f u-g u+(g u-bh d e u)=f u-bh d e u from ω] at this
def yg:∀(c:List Int)(A:List (κ->Int)),(∀v∈A,eR p d v)->eR p d (bh c A)
 |[],[],_=>vL λu=>fw _
 |[],_::_,_=>vL λu=>fw _
 |_::_,[],_=>vL λu=>fw _
 |a::c,v::A,h=>tI (h v<|.head _) (yg c A λw b=>h w<|.tail _ b)
def yf(h:eR p A f)(a:∀v∈A,eR p e v):eR p e f:=by
 obtain⟨d,c,b⟩:=h;exact qw b<|yg d A a
def pv:∀{c:List (κ->Int)}{v:κ->Int},v∈c->eR p c v
 |w::c,v,h=>by
  rcases bZ.mp h with rfl|h
  ·refine(1::c.map λ_=>0,by rw[cO,ax,cO],λu=>?_)
   show p ∣ v u-(1*v u+bh (c.map λ_=>0) c u);rw[GR,QS,QW,wj];exact fw _
  ·obtain⟨d,a,b⟩:=pv h
   refine(0::d,by rw[cO,cO,a],λu=>?_);show p ∣ v u-(0*w u+bh d c u);rw[nG,zi];exact b u
def tK(p:Int)(A:List (κ->Int)):Prop:=∀c:List Int,c.length=A.length->(∀u,p ∣ bh c A u)->∀x∈c,p ∣ x
def OE{p:Int}:∀{c d:List Int},c.length=d.length->(∀x∈c,0<=x/\x<p)->(∀x∈d,0<=x/\x<p)->(∀x∈Io (λa b=>a-b) c d,p ∣ x)->c=d
 |[],[],_,_,_,_=>O
 |a::c,b::d,j,g,i,h=>by
  have e:p ∣ a-b:=h _<|.head _;have l:=g a<|.head _;have m:=i b<|.head _;have:a=b:=by
   obtain⟨k,n⟩:=e;have:k=0:=by
    rcases Int.lt_trichotomy k 0 with z|z|z
    ·have:p*k<=p*(-1):=afb ω ω
     omega
    ·exact z
    ·have:p*1<=p*k:=afb ω ω
     omega
   subst this;omega
  rw[this,OE (by simpa using j) (λx f=>g x<|.tail _ f) (λx f=>i x<|.tail _ f) λx f=>h x<|.tail _ f]
def OV{E:Nat}(D:2<=E){A B:List (κ->Int)}(g:tK (E:Int) A)(j:∀v∈A,eR (E:Int) B v):A.length<=B.length:=by
 have f:∀c:List Int,∃d:List Int,d.length=B.length/\(∀x∈d,0<=x/\x<(E:Int))/\∀u,(E:Int) ∣ bh c A u-bh d B u:=λc=>by
  obtain⟨d,k,l⟩:=yg c A j;refine(d.map (·%(E:Int)),by rw[ax];exact k,λx m=>?_,λu=>?_)
  ·obtain⟨y,_,rfl⟩:=aP.mp m
   exact(qR _ ω,qS _ ω)
  ·have:=mK (l u)<|OS (E:Int) d B u
   rwa [show bh c A u-bh d B u+(bh d B u-bh (d.map (·%(E:Int))) B u)=bh c A u-bh (d.map (·%(E:Int))) B u from ω] at this
 have n:((pz E A.length).map λc=>(f c).choose).Nodup:=by
  unfold bD;rw[jK];refine(OW E A.length).imp_of_mem λ{a b} o q h e=>h ?_;obtain⟨r,s⟩:=yj.mp o;obtain⟨t,w⟩:=yj.mp q;refine OE (p:=(E:Int)) ω s w<|g _ (by rw[aen];omega) λu=>?_;rw[OR a b A r t];have i:=(f a).choose_spec.2.2 u;have z:=(f b).choose_spec.2.2 u;rw[e] at i;have:=mJ i z
  rwa [show bh a A u-bh (f b).choose B u-(bh b A u-bh (f b).choose B u)=bh a A u-bh b A u from ω] at this
 have:=n.length_le_of_subset (l₂:=pz E B.length) λd C=>by
  obtain⟨c,_,rfl⟩:=aP.mp C;exact yj.mpr ((f c).choose_spec.1,(f c).choose_spec.2.1)
 rw[ax,GU,GU] at this;exact(Nat.pow_le_pow_iff_right ω).mp this
end
def OH:∀(c:List Int)(L:List (Nat×dZ)),rL p L (bh c (L.map (·.2)))
 |[],[]=>λu=>fw _
 |_::_,[]=>λu=>fw _
 |[],_::_=>OF λu=>fw _
 |a::c,r::L=>(a,GP (λu=>by
   show p ∣ a*r.2 u+bh c (L.map (·.2)) u-a*r.2 u-bh c (L.map (·.2)) u;rw[show a*r.2 u+bh c (L.map (·.2)) u-a*r.2 u-bh c (L.map (·.2)) u=0 from ω];exact fw _)<|OH c L)
def OJ(P:qA p):∀{L:List (Nat×dZ)},(L.map (·.1)).Nodup->(∀r∈L,mm p r.2 r.1)->tK p (L.map (·.2))
 |[],_,_,c,f,_,x,b=>by
  rw[CI,mF] at f;rw[nE f] at b;cases b
 |r::L,g,h,c,f,l,x,b=>by
  rw[cI,jA] at g;cases c with
  |nil=>cases b
  |cons a c=>
   have d:∀u,p ∣ a*r.2 u+bh c (L.map (·.2)) u:=l;have i:=h r<|.head _;have j:p ∣ a:=kU λm=>by
    have k:mm p (bh c (L.map (·.2))) r.1:=by
     refine(λz=>?_,λu n=>?_)
     ·have:=mJ (d r.1) z
      rw[show a*r.2 r.1+bh c (L.map (·.2)) r.1-bh c (L.map (·.2)) r.1=a*r.2 r.1 from ω] at this;exact(P.c _ _ this).elim m i.1
     ·have:=mJ (d u)<|jX (i.2 u n)<|ur a _
      rwa [show a*r.2 u+bh c (L.map (·.2)) u-a*r.2 u=bh c (L.map (·.2)) u from ω] at this
    rcases OG P g.2 (λq e=>h q<|.tail _ e) (OH c L) with z|⟨q,e,z⟩
    ·exact k.q z
    ·exact g.1<|aP.mpr (q,e,z.j k)
   have o:∀u,p ∣ bh c (L.map (·.2)) u:=λu=>by
    have:=mJ (d u)<|jX j<|qT a<|r.2 u
    rwa [show a*r.2 u+bh c (L.map (·.2)) u-a*r.2 u=bh c (L.map (·.2)) u from ω] at this
   rcases bZ.mp b with rfl|b
   ·exact j
   ·exact OJ P g.2 (λq e=>h q<|.tail _ e) c (by simpa using f) o x b
structure BE(p:Int)(order:Ξ)(A:List (Nat×(List Int->Int))):Prop where
 b:(A.map (·.1)).Nodup
 a:∀r∈A,mm p (ju order r.2) r.1
def OU(b:Ξ):∀(c:List Int)(A:List (List Int->Int))(u:Nat),ju b (bh c A) u=bh c (A.map<|ju b) u
 |[],[],u=>by unfold ju;cases b[u]?<;>rfl
 |[],_::_,u=>by unfold ju;cases b[u]?<;>rfl
 |_::_,[],u=>by unfold ju;cases b[u]?<;>rfl
 |a::c,v::A,u=>by
  have d:=OU b c A u;show _=a*ju b v u+bh c (A.map<|ju b) u;rw[<-d];cases e:b[u]? with
  |none=>unfold ju;rw[e];show(0:Int)=a*0+0;omega
  |some x=>rw[BD e,BD e,BD e];rfl
def BE.ind(P:qA p){a:Ξ}(h:BE p a A):tK p (A.map (·.2)):=λc b d=>by
 have e:(A.map λr=>(abd r.1 (ju a r.2))).map (·.1)=A.map (·.1):=by rw[cj];rfl
 have f:(A.map λr=>(abd r.1 (ju a r.2))).map (·.2)=(A.map (·.2)).map (ju a):=by rw[cj,cj];rfl
 have:=OJ P (L:=A.map λr=>(abd r.1 (ju a r.2))) (by rw[e];exact h.b) (λr g=>by
  obtain⟨q,i,rfl⟩:=aP.mp g;exact h.a q i)
 rw[f] at this;refine this c (by rw[ax];exact b) λu=>?_;rw[<-OU];unfold ju;cases a[u]? with
 |none=>exact fw _
 |some x=>exact d x
def YQ{a:aG}{i:Nat}(f:List Int×Int->aG)(h:a[i]?=V c):(a.take<|i+1).flatMap f=(a.take i).flatMap f++f c:=by rw[cq h,CM];simp
def NG{cs:aG}(h:∀c∈cs,c.1.length<=5):(cs.flatMap λc=>cX c.1 c.2).length<=5*cs.length:=by
 induction cs with
 |nil=>simp
 |cons c r a=>
  rw[so,ck,cO,Ay];have:=a λd b=>h d<|eV _ b;have:=m_ c.1;have:=h c dQ;omega
noncomputable abbrev AG(a:aG):aG:=mT<|a.flatMap λc=>cX c.1 c.2
noncomputable def dL(q x:List Int):Int:=eH (cX q 1) x
noncomputable def lp(a:aG)(x:List Int):Int:=(a.map λc=>c.2*dL c.1 x).sum
def Ys(c:List Int×Int)(r:aG)(x:List Int):lp (c::r) x=c.2*dL c.1 x+lp r x:=by unfold lp;rw[cI,jz]
def Ws(a:aG)(x:List Int):aZ (AG a) x=lp a x:=by
 rw[ER,Mn];unfold lp
 congr 1
 exact kj λc _=>We c.1 c.2 x
noncomputable def Gh(x l:List Int):Int:=if l=x then 1 else 0
def Av(q x:List Int):dL q x=((cC q).zipIdx.map λr=>gG r.2 1*Gh x r.1).sum:=by
 unfold dL eH cX;rw[cj]
 congr 1
 refine kj λr _=>?_;show(if r.1=x then gG r.2 1 else 0)=gG r.2 1*Gh x r.1;unfold Gh
 by_cases e:r.1=x
 ·rw[az e,az e,CV]
 ·rw[ap e,ap e,wl]
def Za(x:List Int):∀f:List Int,f.length<=5->lp (cX f 1) x=0
 |[],_=>by simp[lp,cX,cC,cV,CG]
 |[a],_=>by simp[lp,cX,cC]
 |[a,b],_=>by simp[lp,cX,cC,Av,cV,CG]
 |[a,b,c],_=>by
  simp[lp,cX,cC,Av,cV,CG,gG];omega
 |[a,b,c,d],_=>by
  simp[lp,cX,cC,Av,cV,CG,gG];omega
 |[a,b,c,d,e],_=>by
  simp[lp,cX,cC,Av,cV,CG,gG];omega
 |_::_::_::_::_::_::_,h=>by simp at h
def NE{g:Int->Int}(a:g 0=0)(x:List Int):∀b:aG,aZ (b.map λc=>(abd c.1 (g c.2))) x=g (aZ b x)
 |[]=>a.symm
 |c::r=>by
  rw[cI,mW,mW,NE a x r];split<;>rfl
def F'(g:List Int×Int->Int)(a:aG):aJ (a.map λc=>(abd c.1 (g c)))=aJ a:=by unfold aJ;rw[cj];rfl
structure ph(p:Int)(cs:aG):Prop where
 a:(aJ cs).Nodup
 lo:∀c∈cs,1<=c.2/\c.2<p
def ph.q{p:Int}(d:0<p){a:aG}(h:ph p a)(x:List Int):0<=aZ a x/\aZ a x<p:=by
 by_cases e:x∈aJ a
 ·obtain⟨c,b,rfl⟩:=aP.mp e
  rw[kH h.a c b];have:=h.lo c b;omega
 ·rw[rE e];omega
noncomputable def ph.j{a:aG}(h:ph p a){x:List Int}(d:x∈aJ a):1<=aZ a x/\aZ a x<p:=by
 obtain⟨c,b,rfl⟩:=aP.mp d;rw[kH h.a c b];exact h.lo c b
noncomputable abbrev Gv(a:Ξ)(b:aG):dZ:=ju a<|aZ b
def NP{a:Ξ}{b:aG}{u:Nat}(h:a[u]?=V x):Gv a b u=aZ b x:=BD h
def Zd{a:Ξ}{b:aG}{u:Nat}(h:a.length<=u):Gv a b u=0:=aaq h
def Bi(a p:Int):p ∣ a-a%p:=(a / p,by have:=afe a p;omega)
def ql(p:Int):Prop:=p=2\/p=3\/p=5\/p=7
noncomputable def ql.j(h:ql p):qA p/\p<=7:=by
 rcases h with rfl|rfl|rfl|rfl
 ·exact(aao,ξ)
 ·exact(aan,ξ)
 ·exact(aam,ξ)
 ·exact(aal,ξ)
section
variable{X:bf}{scope:hG}{N':List au}{caps:List (Option Nat)}{tg iter elt:bB}{ifs:List bB}{wi:ji}{g:gj}{tc:eG}{te:a_}{pos:cD}
def KB{i:Nat}{x:au}{d w:cD}(P:X.b=af)(hk:scope.kind=.function)(l:∀y∈scope.names,y.2=.cell->scope.names.lookup y.1=V .cell)(p:∀y∈scope.names,y.2=.free->scope.names.lookup y.1=V .free)(r:∀y∈scope.names,y.2=.local->scope.names.lookup y.1=V .local)(Q:∀y∈scope.names,y.2=.free->X.env.kindOf y.1=V .cell\/X.env.kindOf y.1=V .free)(E:u_ X.N N' caps scope)(hi:jp X tg iter wi)(hg:∀G C j k K,kx (jg X scope N' G C j k K) tg g)(ht:∀G C j k K,of (jg X scope N' G C j k K) ifs tc)(he:∀G C j k K,bJ (jg X scope N' G C j k K) elt te)(hs:∀x,rN iter X.env x=aU x)(hN:X.N.Nodup)(S:X.N[i]?=V x)(A:rp X.env.scope x)(hf:X.f x=af\/X.env.scope.names.lookup x=V .local)(T:vP (.ListComp elt [(tg,iter,ifs,0)] scope pos) (V<|.Name x d) w.line X.env=aU af):kw X (.Assign [.Name x d] (.ListComp elt [(tg,iter,ifs,0)] scope pos) w) (uJ (oS wi caps g tc te)<|dk i):=by
 intro M s σ H D I h;rw[exec_Assign_Name_used _ _ _ _ T];refine aj<|O'<|aj ?_;show aA _ X.A (do let _ <-PC (.ListComp elt [(tg,iter,ifs,0)] scope pos) scope X.env _ (newList []) (Py [(tg,iter,ifs,0)]) (Px [(tg,iter,ifs,0)] X.env) (V<|vR (.Name x d) X.env)) _ _ s;refine aj<|kL (Lz (use:=V<|vR (.Name x d) X.env) (R:=λ_ s'=>w_ X M D .next s') P hk l p r Q E hi hg ht he hs I h λDl C H' s4 f L q=>?_) (λ_ s' hq=>aI<|aI hq) λ_ _ e=>e;show aA _ X.A (vR (.Name x d) X.env<|.ref Dl) _ _ s4;refine abb<|J' (v:=.c Dl) (L.f s4.heap<|HC _ _) hN S A O (λs5 U (a,a0,ha)=>?_) hf;have a1:C≠a:=by
  rcases ha with e|e
  ·rw[e];exact L.b
  ·exact λz=>L.d x a e z.symm
 obtain⟨m,hn⟩:=L.a;refine(m,hn.sameBut a0 a1,λh' t=>(_,H',?_,q));refine U.B3 (s':={s5 with heap:=h'}) (ch:=[C]) O (λb o q n hb A=>?_,λb o q n hb A=>?_,λb o q n A=>n,λb o q A=>?_,λb xs q=>q,λb o u q=>q,λb ps q=>(#[],by simpa using q)) ?_ U.f λb hb=>?_
 ·exact(t.2 b (by simpa using A)).trans q
 ·exact(o.slots,(t.2 b (by simpa using A)).trans q)
 ·exact(o,(t.2 b (by simpa using A)).trans q)
 ·intro b u e
  refine(U.a b u e).j (λc v P q=>(t.2 c ?_).trans q) (λ_ q=>q) λ_ _ q=>q;rintro rfl;rcases P with z|z
  ·rw[<-z,L.e] at e;cases e
  ·rw[L.e] at z;cases z
 ·have e:b=C:=by simpa using hb
  subst e;exact(.inr L.h,L.b,L.d,L.g)
def TS{i:Nat}{x:au}{k l:cD}(q:X.b=af)(r:scope.kind=.function)(c:∀y∈scope.names,y.2≠.cell)(h:∀y∈scope.names,y.2=.free->scope.names.lookup y.1=V .free)(j:∀y∈scope.names,y.2=.local->scope.names.lookup y.1=V .local)(n:∀y∈scope.names,y.2=.free->X.env.kindOf y.1=V .cell\/X.env.kindOf y.1=V .free)(m:u_ X.N N' caps scope)(s:jp X tg iter wi)(t:∀d C a b f,kx (jQ X scope N' d C a b f) tg g)(u:∀d C a b f,of (jQ X scope N' d C a b f) ifs tc)(v:∀d C a b f,bJ (jQ X scope N' d C a b f) elt te)(w:∀x,rN iter X.env x=aU x)(z:X.N.Nodup)(o:X.N[i]?=V x)(A:rp X.env.scope x)(D:X.f x=af\/X.env.scope.names.lookup x=V .local)(p:vP (.ListComp elt [(tg,iter,ifs,0)] scope pos) (V<|.Name x k) l.line X.env=aU af):kw X (.Assign [.Name x k] (.ListComp elt [(tg,iter,ifs,0)] scope pos) l) (uJ (oS wi caps g tc te)<|dk i):=
 KB q r (λy E e=>bu e<|c y E) h j n m s (λd C a b f=>uV (X:=X) (N':=N') c d C a b f▸t d C a b f) (λd C a b f=>uV (X:=X) (N':=N') c d C a b f▸u d C a b f) (λd C a b f=>uV (X:=X) (N':=N') c d C a b f▸v d C a b f) w z o A D p
end
section
variable{X:bf}{scope:hG}{caps:List (Option Nat)}{tg iter elt:bB}{ifs:List bB}{wi:ji}{g:gj}{tc:eG}{te:a_}{pos:cD}
def KA{i:Nat}{e f:cD}(n:X.N.Nodup)(o:X.N[i]?=V x)(q:rp X.env.scope x)(E m:List au)(caps:List (Option Nat))(r:jp X tg iter wi)(s:∀j C a b k,kx (jQ X scope m j C a b k) tg g)(t:∀j C a b k,of (jQ X scope m j C a b k) ifs tc)(u:∀j C a b k,bJ (jQ X scope m j C a b k) elt te)(v:X.b=af:=by rfl)(w:scope.kind=.function:=by rfl)(h:∀y∈scope.names,y.2≠.cell:=by decide +kernel)(c:∀y∈scope.names,y.2=.free->scope.names.lookup y.1=V .free:=by decide +kernel)(d:∀y∈scope.names,y.2=.local->scope.names.lookup y.1=V .local:=by decide +kernel)(hfr:∀y∈scope.names,y.2=.free->X.env.kindOf y.1=V .cell\/X.env.kindOf y.1=V .free)(z:X.N=E:=by rfl)(l:wX E m caps scope=af:=by decide +kernel)(A:∀x,rN iter X.env x=aU x:=by intro _;rfl)(D:X.f x=af\/X.env.scope.names.lookup x=V .local:=by first|exact .inl rfl|exact .inr rfl|assumption)(p:vP (.ListComp elt [(tg,iter,ifs,0)] scope pos) (V<|.Name x e) f.line X.env=aU af:=by rfl):kw X (.Assign [.Name x e] (.ListComp elt [(tg,iter,ifs,0)] scope pos) f) (uJ (oS wi caps g tc te)<|dk i):=
 TS v w h c d hfr (En (by rw[z];exact l)) r s t u A n o q D p
end
def Lf{c d:gb}{a b:hG}(f:c.scope=relabel b d)(h:a.names.all (λy=>aC (y.2≠.free)|| decide (b.names.lookup y.1=V .cell)|| decide (b.names.lookup y.1=V .free))=af):∀y∈a.names,y.2=.free->c.kindOf y.1=V .cell\/c.kindOf y.1=V .free:=by
 intro y i e;have:=pO.mp h y i;simp only[Q_,iD] at this;have g:b.names.lookup y.1=V .free\/b.names.lookup y.1=V .cell:=by
  rcases this with (q|q)|q
  ·exact bu e q
  ·exact .inr q
  ·exact .inl q
 have:=DR (scope:=b) (env:=d) g;unfold Qg;rw[f];rcases this with q|q
 ·exact .inr q
 ·exact .inl q
noncomputable abbrev AT:cN:=eI 51
def Bl:hC "dict"=V (.type "dict"):=δ
def Gu(a:aG):(aJ a).Nodup->gM a=a:=rD (P:=λa=>(aJ a).Nodup->gM a=a) (λ_=>O) (λl t c h=>by
 have b:(aJ l++[t.1]).Nodup:=by
  have:aJ (l++[t])=aJ l++[t.1]:=by unfold aJ;rw[bT];rfl
  rw[<-this];exact h
 rw[iS] at b;have d:gM (l++[t])=gJ (gM l) t.1 t.2:=by unfold gM;rw[qP];rfl
 rw[d,c b.1,MX _ (λz=>b.2.2 t.1 z t.1 (by simp) O)]) a
def Wf{a:List Int}(h:a.length=1)(n:Int):cX a n=[]:=by unfold cX cC;rw[az h];rfl
def Wq(k:Nat)(n:Int):n*(1-(k:Int)%2*2)=gG k n:=by
 unfold gG
 by_cases h:(k:Int)%2=0
 ·rw[az h,h];simp
 ·have:(k:Int)%2=1:=ω
  rw[ap h,this];simp
def Wh{a:List Int}(h:a.length≠1)(n:Int){k:Nat}(b:k<a.length):(cX a n)[k]?=V (abd (a.take k++a.drop (k+1)) (gG k n)):=by
 unfold cX cC;rw[ap h,cB,QD,cB,qM b];simp
abbrev xh:eG:=mN<|eB DT (oT (bH 1)<|bH 0)<|gW<|.d 0
abbrev EP:a_:=kq<|dE (bH 0)<|dE (oT (bH 1)<|bH 0) fI
section
variable{P:bw}{w:aX}{K:aR}{mg:au->Option aa}{base:aT}
def M'{q:ae}{A:List Y}{Q:aS}(T:q L=V (.a<|A.map ag.c))(M:bC q A (aJ l))(U:q d=V (.c<|bI l))(X:(aJ l).Nodup)(hz:l.length<=3000)(P:q D=Z)(k:∀(b:ae)(i:List Y),aF q b->b D=V (.a<|i.map ag.c)->fZ b i (l.filter gZ)->Q (.c D) b):dY (gY K L) (dk 0) xh EP [Z,V<|.c d] q D Q:=by
 have u:=M.j;rw[pf] at u;refine jh (xs:=A.map ag.c) (λj C w b=>∃(v:Option ag)(i:List Y),C=[v,V<|.c d]/\aF q b/\b D=V (.a w)/\w=i.map ag.c/\fZ b i ((l.take j).filter gZ)) ?_ ?_ ?_ ?_
 ·exact(Z,[],O,aF.q P,ay,O,.nil)
 ·rintro j C w b ⟨v,i,rfl,m,e,rfl,s⟩
  exact bP.j<|m _ _ T
 ·rintro j C w b x hx R S ⟨v,i,rfl,m,e,rfl,s⟩
  obtain⟨a,ea,rfl⟩:=dM hx;obtain⟨ps,f,y⟩:=M.q ea;unfold aJ at f;rw[cB] at f;obtain⟨c,E,rfl⟩:∃c,l[j]?=V c/\c.1=ps:=by
   cases h:l[j]? with
   |none=>rw[h] at f;cases f
   |some c=>rw[h] at f;exact(c,O,cH f)
  have G:(A.map ag.c).length<=bQ:=by rw[ax];exact bU ω
  have g:∀H,aF b H->jr H d (.c a) (V<|.d c.2):=λH p=>.inr (bI l,c.1.map aQ,a,.inl<|p _ _<|m _ _ U,O,fY<|p.B<|m.B y,(oh X c<|dp E).symm);refine(_,O,_,O,d,_,O,g b<|aF.S _,O,_,O,?_);cases n:gZ c with
  |true=>
   have r:(!aC (ag.d c.2=ag.d 0))=af:=n;rw[r];refine fL (_,O,_,O,_,O,d,_,O,g b<|aF.S _,bU (by simp),λt I=>?_);have p:=aF.q (o:=.b [.c a,.d c.2]) I;refine fz G R S (p _ _ e) (_,i++[t],O,(m.j p).F P,ay,by rw[bT];rfl,?_);rw[cq E,kT,pM n];exact fZ.q (fZ.B (s.j p) (a,ay,p.B<|m.B y)) (p _ _ e) (by intro xs z;cases z)
  |false=>
   have r:(!aC (ag.d c.2=ag.d 0))=aB:=n;rw[r];refine eF<|qd R S (_,i,O,m,e,O,?_);rw[cq E,kT,pN (by rw[n];decide),zf,jm];exact s
 ·rintro C w b ⟨v,i,rfl,m,e,rfl,s⟩
  rw[ax,u,fN] at s;exact k b i m e s
def F_(h:fZ H a c):du (λt(d:List aV×ag)=>∃b,H t=V (.b [.c b,d.2])/\H b=V (.b<|d.1.map dr)) a (bI c):=by
 unfold bI
 induction h with
 |nil=>exact .nil
 |cons r t e=>
  obtain⟨b,f,g⟩:=r;exact .cons (b,f,fY g) e
inductive vk(vs:List ag)(H:ae)(Q:aS)(E':cZ):Prop
 |a:∀d cs,(vs=[.c d])->(iY H d<|.c<|bI cs)->((aJ cs).Nodup)->((∀c∈cs,c.1.length<=5/\c.1≠[]))->(cs.length<=100)->(∀D H',aF H H'->H D=Z->H' D=V (.c<|bI<|mT<|cs.flatMap λc=>cX c.1 c.2)->Q (.c D) H')->vk vs H Q E'
def xy:dK ["chain","found","piece","k","rim"] ["chain"] (b_ AT):=(O,O,O,δ,O,δ,δ)
def XI(F:bN K "_law_seam" "_law_seam" AT f fd)(d1:eY mg)(b3:mg "dict"=Z):bO P w K mg base bv 1 f fd ["chain"] vk:=by
 refine F.j xy (λvs H Q E h=>?_) (λc9 A b4 s H vs Q E hr h=>?_)
 ·obtain⟨d,e,rfl,_⟩:=h;rfl
 ·obtain⟨d,e,rfl,hd,b5,h5,hz,k⟩:=h
  have hu:=jP hr;have X:=hr.units;refine(_,bx (cu (i:=1) xy.a O (ar O) jO)
   (bx (eU eL O (dy<|fg (nZ O) O d1.b iK<|aq (ai 0) aD) (ca (i:=2) xy.a O<|ah O)
    (bF (eU eL O (sF O d1.c<|aq (eC ie O d1.a gN<|aq (ai 2) aD) aD) (ca (i:=3) xy.a O<|ah O)
     (bx (cu (i:=4) xy.a O (ah O)<|cg z_ (uL zN (ai 2) pV<|pU<|ai 3)<|uL zN (ai 2) (pU<|cg iW (ai 3) bg) pV)
     (bF (fJ (dW (Ec X) (ai 4) (iG aD)<|dI _)
      (bF<|jE hu (ai 1) (ai 4) (cg iW (zZ hu (ai 1) (ai 4) bg (O,O,O,O))<|cg lR (iq hu (ai 0) (ai 2) (λ_ _=>O))<|cg nU bg<|cg lR (cg lf (ai 3) bg) bg) O) fV))))))
   (bF (cY (fg (wY O X) O b3 Bl (aq
    (ff ["chain","found","piece","k","rim"] ["rim","found"] [Z,V 1] (dy<|fg (nZ O) O d1.b iK<|aq (ai 1) aD) (λcl C a0 a1 ex=>ca (i:=0) (dX ["rim","found"]) O<|ah O)
     (λcl C a0 a1 ex=>mO<|dW uM (iq hu (ai 1) (ai 0) (λ_ _=>O)) bg<|dI _) (λcl C a0 a1 ex=>iG<|aq (ai 0)<|aq (iq hu (ai 1) (ai 0) (λ_ _=>O)) aD) (hfr:=gD (b_ AT) δ) (tc:=xh) (te:=EP)) aD))))),?_)
  intro S hS;have sS:=aF.q (o:=.c []) hS;refine(_,O,d,bI e,O,hd.q sS,λbs pb L hL=>?_);have tb:=mV pb;have sL:=aF.q (o:=.a<|bs.map ag.c) hL;have b6:S≠L:=dJ (ay (H:=H) (a:=S) (o:=.c [])) hL;have a5:=tb.j;rw[pf] at a5;refine(L,O,(_,bP.j ay),iI (K:=K) (a:=L) (xs:=bs.map ag.c) (λi σ H2=>∃(v2 v3 v4:Option ag),σ=[V<|.c d,V<|.c S,v2,v3,v4]/\aF H H2/\H2 L=V (.a<|bs.map ag.c)/\bC H2 bs (aJ e)/\H2 S=V (.c<|bI<|gm<|(e.take i).flatMap λc=>cX c.1 c.2))
   (Z,Z,Z,O,sS.j sL,ay,sL.J tb,sL _ _ ay) (λi σ H2 _ (_,_,_,_,_,h,_)=>bP.j h) ?_ ?_)
  ·rintro i x σ H2 hx ⟨v2,v3,v4,rfl,sm,a6,a3,m⟩
   obtain⟨b,eb,rfl⟩:=dM hx;obtain⟨ps,q,a7⟩:=a3.q eb;unfold aJ at q;rw[cB] at q;obtain⟨c,ec,rfl⟩:∃c,e[i]?=V c/\c.1=ps:=by
    cases h:e[i]? with
    |none=>rw[h] at q;cases q
    |some c=>rw[h] at q;exact(c,O,cH q)
   have a2:=dp ec;obtain⟨d0,b7⟩:=h5 c a2;have hi:i<e.length:=(cr.mp ec).1;refine(_,O,b,_,O,.inr<|fM.j a7,_,O,by rw[ax];omega,by rw[ax];omega,?_);rw[ax];refine wT (lo:=0) (n:=((c.1.length:Int)).toNat) (λj σ H3=>∃(v3 v4:Option ag),σ=[V<|.c d,V<|.c S,V<|.c b,v3,v4]/\aF H H3/\H3 L=V (.a<|bs.map ag.c)/\bC H3 bs (aJ e)/\cM H3 b c.1/\H3 S=V (.c<|bI<|gm<|(e.take i).flatMap (λc=>cX c.1 c.2)++(cX c.1 c.2).take j))
    (_,_,O,sm,a6,a3,a7,by rw[sf,jm];exact m) ?_ ?_
   ·rintro j σ H3 hj ⟨v3,v4,rfl,v,I,T,g,r⟩
    have b8:j<c.1.length:=ω
    refine(_,O,_,O,_,O,b,_,O,g,λp1 H4 U a8=>(_,O,_,O,_,_,O,O,_,O,b,_,O,U _ _ g,λp2 H5 a9 b0=>?_));rw[show(0:Int)+((j:Nat):Int)=((j:Nat):Int) from ω,NN _ _ (by rw[ax];omega),<-QB] at a8;rw[show(0:Int)+((j:Nat):Int)+1=((j+1:Nat):Int) from ω,NO _ _ (by rw[ax];omega),<-Ix] at b0;refine(p1,p2,_,_,O,O,a9 _ _ a8,b0,bU (by simp;omega),λp3 H6 b9 b1=>?_);rw[<-bT] at b1;have s6:=(U.j a9).j b9;refine(_,O,bU (by simp),λt c0=>?_);have sT:=aF.q (o:=.b []) c0;have u:=s6.j sT;have a4:cM _ p3 (c.1.take j++c.1.drop (j+1)):=sT _ _ b1;refine .inl (p3,t,_,[],O,O,a4,ay,_,O,?_);rw[az O];have G:=u _ _ r
    by_cases h1:c.1.length=1
    ·have c1:j=0:=ω
     subst c1;have e0:c.1.take 0++c.1.drop (0+1)=[]:=by
      rw[sf,List.nil_append];exact QK ω
     rw[e0,cn O];refine eF (_,_,O,v.j u,u _ _ I,u.J T,u.B g,?_);rw[Wf h1,List.take_nil] at r ⊢;exact u _ _ r
    ·have c2:¬(c.1.take j++c.1.drop (j+1)=[]):=λz=>by
      have e9:=eW ao z;rw[ck,dR,mG,mF] at e9;have:c.1.length≠0:=λy=>b7<|nE y;omega
     rw[cK c2];have c3:=Wh h1 c.2 b8;have c4:((e.take i).flatMap (λc=>cX c.1 c.2)++(cX c.1 c.2).take j).length<=600:=by
      have:=NG (cs:=e.take i) λc hc=>(h5 c<|uk hc).1;rw[dR] at this;have h2:=Ay c.1 c.2;have h3:=m_ c.1;rw[ck,dR];omega
     have b2:(bI<|gm<|(e.take i).flatMap (λc=>cX c.1 c.2)++(cX c.1 c.2).take j).length<bQ:=by
      rw[qk];have:=xi<|(e.take i).flatMap (λc=>cX c.1 c.2)++(cX c.1 c.2).take j;exact gn ω
     have c5:=(hd.q<|v.j u);refine fL (_,O,S,O,.inr (_,.inl G),_,O,_,.inr (_,(c.1.take j++c.1.drop (j+1)).map aQ,p3,.inl G,O,fY a4,O),?_);rw[Ar];refine(_,O,_,O,d,.d c.2,O,.inr (bI e,c.1.map aQ,b,c5,O,fY<|u.B g,(oh b5 c a2).symm),_,O,_,_,O,O,(by show(0:Int)<2;decide),_,_,O,O,.inr (ξ,ξ),_,_,O,O,_,_,O,O,.inr (?_,?_),_,_,O,O,_,O,_,O,S,_,O,xf.t (k:=(c.1.take j++c.1.drop (j+1)).map aQ) G (fY a4) b2,(_,_,O,(v.j u).F hS,?_,kb (u.J T) G (by intro xs z;cases z),?_,?_))
     ·show -(18446744073709551616:Int)<1-(0+(j:Int))%2*2
      omega
     ·show 1-(0+(j:Int))%2*2<(18446744073709551616:Int)
      omega
     ·rw[bG<|eA b6];exact u _ _ I
     ·show aw _ S _ b=_
      rw[bG<|ir (show _=V _ from u.B g) G (by intro z;cases z)];exact u.B g
     ·rw[ay,show(0:Int)+(j:Int)=(j:Int) from ω,Wq,vw,cq c3,<-gd,sZ]
      rfl
   ·rintro σ H3 ⟨v3,v4,rfl,v,I,T,g,r⟩
    refine(_,_,_,O,v,I,T,?_);rw[YQ _ ec];rw[show(cX c.1 c.2).take ((c.1.length:Int)).toNat=cX c.1 c.2 from e_ (by rw[Ay];have:=m_ c.1;omega)] at r;exact r
  ·rintro σ H2 ⟨v2,v3,v4,rfl,sm,a6,a3,m⟩
   rw[ax,a5,fN] at m;unfold mT at k;have hn:=s_<|e.flatMap λc=>cX c.1 c.2;have c6:=xi<|e.flatMap λc=>cX c.1 c.2;have c4:=NG (cs:=e) λc hc=>(h5 c hc).1;generalize gm (e.flatMap λc=>cX c.1 c.2)=ss at m hn c6 k;refine(_,O,S,bI ss,O,.inl m,λes pe M hM=>(M,O,(_,bP.j ay),λD hD=>eP<|M' ay ((aF.q hM).J<|mV pe) (aF.q hM _ _ m) hn ω hD λH4 ts U c7 c8=>?_));refine(D,ts,bI<|ss.filter gZ,O,bP.j c7,F_ c8,λR hR=>?_);rw[Bg,Gu _<|hn.sublist<|(um (p:=gZ) (l:=ss)).map _];have s4:=(sm.j<|aF.q hM).j U;exact k R _ (s4.j<|aF.q hR) (s4.M hR) ay
end
def DH:∀{a:List aa}{b:List Int}{i:Nat},gg a b->(h:i<a.length)->∃n t,b[i]?=V n/\a[i]=.int n t
 |_,_,0,.cons n t _,_=>(n,t,O,O)
 |_,_,i+1,.cons n t r,h=>by
  obtain⟨m,c,d,e⟩:=DH (i:=i) r (by simpa using h);exact(m,c,by simpa using d,by simpa using e)
def DG:∀{a:List aa}{b:List Int},gg a b->a.length=b.length
 |_,_,.nil=>O
 |_,_,.cons _ _ r=>by rw[cO,cO,DG r]
def SS{b:bw}{a c:Int}{t u:iM}{Q:Ω}(h:Q (.bool<|aC<|c<a) s):aA (aH b w) A (BN .Gt (.int a t)<|.int c u) Q E s:=gt_int h
def SQ(l b:Y)(j f:Array aa)(n n2:Nat)(dd v:Option Y)(sl C:Array (Option aa))(o p:List Int):Meets (Builtin.«tuple.__gt__» ([.ref l,.ref b],[]))
   (λA R s=>s.heap.get? l=V {cls:=.type "tuple",dict:=dd,data:=.seq j n,slots:=sl}/\s.heap.get? b=V {cls:=.type "tuple",dict:=v,data:=.seq f n2,slots:=C}/\
    gg j.toList o/\gg f.toList p/\R (.ok<|.ret<|.bool<|bV p o) s):=
 .of_wp λP w A R s h=>by
  obtain⟨Q,g,d,S,T⟩:=s;obtain⟨hl,hb,U,X,h⟩:=h;have f2:=adn;have n1:=DG U;have D:=DG X;have hZ:(j.toList.zip f.toList).length=gc j.size f.size:=by simp
  wp_walk using aa3 hl,aa3 hb,yp _ (λk b E=>b.1=Z/\E=(Q,g,d,S,T)/\∃i,k=(j.toList.zip f.toList).drop i/\i<=gc j.size f.size/\
   R (.ok<|.ret<|.bool<|bV (p.drop i)<|o.drop i) (Q,g,d,S,T)) _
  case turn=>
   rintro⟨y,x⟩ k b E ⟨q,rfl,i,r,hi,m⟩;have u:i<(j.toList.zip f.toList).length:=by
    rcases nC i (j.toList.zip f.toList).length with t|t
    ·exact t
    ·rw[QJ t] at r;cases r
   have hm:i<gc j.size f.size:=hZ▸u;have h1:i<j.size:=iB hm<|ad6 _ _;have h2:i<f.size:=iB hm<|Ib _ _;rw[mH u] at r;injection r with hyx hrest
   have hy:y=j[i]:=by have:=eW rX hyx;simpa using this
   have hx:x=f[i]:=by have:=eW nA hyx;simpa using this
   obtain⟨a,ta,ea,va⟩:=DH U (i:=i) (by simpa using h1);obtain⟨c,tc,ec,vc⟩:=DH X (i:=i) (by simpa using h2);have G:y=.int a ta:=by rw[hy];simpa using va
   have H:x=.int c tc:=by rw[hx];simpa using vc
   subst G H;obtain⟨la,I⟩:=cr.mp ea;obtain⟨lc,K⟩:=cr.mp ec;rw[mH la,mH lc,I,K,mf] at m;refine aj<|Pf ?_
   by_cases e:a=c
   ·subst e
    rw[az O] at m;simp only[beq_self_eq_true]
    wp_walk
    exact(O,O,i+1,hrest,ω,m)
   ·have L:(a==c)=aB:=by simpa using e
    rw[ap (λz=>e z.symm)] at m;rw[L]
    wp_walk using SS
    exact(_,O,m)
  case fin=>
   rintro⟨b1,b2⟩ E ⟨q,rfl,i,r,hi,m⟩;simp only at q;subst q;have a0:gc j.size f.size<=i:=by
    rcases nC i (j.toList.zip f.toList).length with t|t
    ·rw[mH t] at r;cases r
    ·exact hZ▸t
   have ei:i=gc j.size f.size:=ω
   wp_walk
   refine(_,O,?_);have e1:o.length=j.size:=by rw[<-n1];simp
   have e2:p.length=f.size:=by rw[<-D];simp
   have:bV (p.drop i) (o.drop i)=aC (f.size<j.size):=by
    by_cases z:f.size<j.size
    ·rw[cn z,QJ (show p.length<=i from ω)]
     have M:i<o.length:=ω
     rw[mH M];rfl
    ·rw[cK z,QJ (show o.length<=i from ω)]
     cases p.drop i<;>rfl
   rw[this] at m
   simpa[ade] using m
  case h=>
   exact(O,O,0,O,eM _,by simpa using h)
def SR{A:bY}{s:ak}{l b:Y}{Q:Ω}(v:s.heap.IsTuple l c)(y:s.heap.IsTuple b a)(z:gg c.toList e)(C:gg a.toList f)(D:A.units<c_)(h:Q (.bool<|bV f e) s):aA (aH d w) A (BN .Gt (.ref l)<|.ref b) Q E s:=by
 obtain⟨⟨G,H,p,I⟩,q,r,n,t⟩:=id v;obtain⟨⟨u,k,m,o⟩,g,i,K,j⟩:=id y;simp only at r t i j;subst r t i j;exact abi (op:=.Gt) (_,q,O) (_,g,O) F.slot_tuple_gt F.entry_tuple_gt (F.args_tuple_gt_2 _ _) (SQ l b c a n K H k I o e f)
  (q,g,z,C,show fm (bV f e)≠ab2/\Q (.bool<|bV f e) s from((λx=>nomatch x),h)) D
def wP:∀{a b:List Int},bV a b=af->bV b a=aB
 |[],[],h=>by cases h
 |[],_::_,_=>O
 |_::_,[],h=>by cases h
 |x::a,y::b,h=>by
  rw[mf] at h ⊢
  by_cases e:x=y
  ·rw[az e] at h;rw[az e.symm];exact wP h
  ·rw[ap e] at h;rw[ap (λz=>e z.symm)]
   have:=io h;exact cK ω
def Eg:∀{a b c:List Int},bV b a=aB->bV c b=aB->bV c a=aB
 |[],_,[],_,_=>O
 |[],_,_::_,_,_=>O
 |x::a,[],_,h,_=>by cases h
 |x::a,y::b,[],_,h=>by cases h
 |x::a,y::b,z::c,e,d=>by
  rw[mf] at e d ⊢
  by_cases g:y=x
  ·subst g
   rw[az O] at e
   by_cases f:z=y
   ·rw[az f] at d ⊢;exact Eg e d
   ·rw[ap f] at d ⊢;exact d
  ·rw[ap g] at e
   have e:=nM e
   by_cases f:z=y
   ·rw[f,ap g];exact cK e
   ·rw[ap f] at d
    have d:=nM d;rw[ap ω];exact cK ω
section
variable{X:bf}{pins:Ψ}{σ:aO}{H:ae}{s:ak}
def UC{l S I:Y}{h:List Y}{R:Ca->ak->Prop}(hh:X.A.handled=Z)(hu:X.A.units+1<c_)(hl:bP X.K H l (h.map ag.c))(ht:bC H h D)(U:gl X pins H S)(a0:gl X pins H I)(G:S≠I)(a8:l≠I)(hR:∀(j:Nat) a n f,aE X pins σ H f->h[j]?=V a->D[j]?=V n->(∀m∈D,bV n m=aB)->R (.ok<|.ret<|.ref a) f):∀(r j i:Nat)(f:ak)(a:Y)(n:List Int)(c:Nat),h.length-(j+1)=r->j+1<=h.length->aE X pins σ H f->f.heap.get? S=V (cF "list" #[.ref a,.ref a] c)->
   f.heap.IsListIter I l (j+1)->h[i]?=V a->D[i]?=V n->(∀(y:Nat) m,y<=j->D[y]?=V m->bV n m=aB)->
   lF (aH X.prog X.w) X.A (.builtin "max.loop" ([.ref I,.none,.ref S],[])) R f:=by
 have b7:=ht.j;have t:(yl "max"++yl ".loop":String)="max.loop":=ξ
 have c0:=rQ (prog:=X.prog) (w:=X.w) (A:=X.A.in1) hh I l a8 (h.map ab).toArray;have a1:(h.map ab).toArray.size=h.length:=by rw[cT,ax]
 have a3:∀f,aE X pins σ H f->f.heap.IsList l (h.map ab).toArray:=λf L=>by
  obtain⟨b8,r1,p1,_⟩:=L.j hl;obtain rfl:=oR r1;exact p1.isList
 intro r
 induction r with
 |zero=>
  intro j i f a n c hr hj L nS M ea en g;have a9:j+1=h.length:=ω
  refine lE vY ?_;rw[nv lI _];show aA _ X.A.in1 (BM (.ref S) >>= _) _ _ _;refine aj<|jU nS O ?_;show aA _ X.A.in1 (Im (kd<|.ref I) _ >>= _) _ _ _;refine aj<|qB<|c0.done _ _ _ (by rw[a1,<-a9];exact M,a3 _ L) λC d u=>?_;have T:aE X pins σ H {f with heap:=C,toks:=d}:=aE.N (t':=d) (ch:=[I]) L (rn a0) λb o P q=>u b o P q;have x:=u S _ (by simpa using G) nS;have s1:=mC C S<|de λ_=>(#[]:Array aa);show aA _ X.A.in1 (Hf S (λ_=>#[]) >>= _) _ _ _;refine aj ?_;refine ym (s:={f with heap:=C,toks:=d}) x O<|aj<|mw<|aI ?_;refine hR i a n _ (aE.N (s:={f with heap:=C,toks:=d}) (t':=d) (ch:=[S]) T (rn U) λb o P q=>(s1.2 b (λz=>P (by simp[z]))).trans q) ea en λm hm=>?_;obtain⟨y,e'⟩:=mD.mp hm;have:=(cr.mp e').1;exact g y m ω e'
 |succ r ih=>
  intro j i f a n c hr hj L nS M ea en g;have k:j+1<h.length:=ω
  refine lE vY ?_;rw[nv lI _];show aA _ X.A.in1 (BM (.ref S) >>= _) _ _ _;refine aj<|jU nS O ?_;show aA _ X.A.in1 (Im (kd<|.ref I) _ >>= _) _ _ _;refine aj<|qB<|c0.item (j+1) _ _ _ (by rw[a1];exact k) (M,a3 _ L) λv C d hP E u=>?_;have e1:h[j+1]?=V (h[j+1]'(k)):=dq k;have e2:D[j+1]?=V (D[j+1]'ω):=dq ω;have hv:v=.ref (h[j+1]'(k)):=by
   have:(h.map ab)[j+1]?=V v:=by simpa using hP
   rw[cB,e1] at this;exact(cH this).symm
  subst hv;have T:aE X pins σ H {f with heap:=C,toks:=d}:=aE.N (t':=d) (ch:=[I]) L (rn a0) λb o P q=>u b o P q;have x:=u S _ (by simpa using G) nS;generalize h[j+1]'(k)=p at e1 ⊢;generalize (D[j+1]'ω)=n2 at e2;obtain⟨b9,a4,b0⟩:=ht.q e1;rw[e2] at a4;obtain rfl:=cH a4;obtain⟨n',a5,b1⟩:=ht.q ea;rw[en] at a5;obtain rfl:=cH a5;obtain⟨i1,r1,p1,_⟩:=T.q<|fM.j (K:=X.K) b0;obtain⟨i2,r2,p2,_⟩:=T.q<|fM.j (K:=X.K) b1;show aA _ X.A.in1 (Im (yv [.ref p,.ref p]<|BN .Gt (.ref p) (.ref a) >>= _) _ >>= _) _ _ _;refine aj<|qB<|il<|aj<|SR p1 p2 (by simpa using oW r1) (by simpa using oW r2) (by show X.A.units+1<c_;exact hu) ?_;refine aj<|il<|qC ?_;refine aj<|mw<|aI ?_;cases a6:bV n n2 with
  |true=>
   have s1:=mC C S<|de λ_=>#[.ref p,.ref p];obtain⟨c2,b2⟩:∃c2,(C.update S<|de λ_=>#[.ref p,.ref p]).get? S=V (cF "list" #[.ref p,.ref p] c2):=(_,we x λ_=>#[.ref p,.ref p]);simp only[dU];refine aj ?_;refine ym (s:={f with heap:=C,toks:=d}) x O<|aj<|mw ?_;rw[t];obtain⟨b3,a7,b4,b5⟩:=id E.1;refine aI (nq lI _,ih (j+1) (j+1) _ p n2 c2 ω k (aE.N (s:={f with heap:=C,toks:=d}) (t':=d) (ch:=[S]) T (rn U) λb o P q=>(s1.2 b (λz=>P (by simp[z]))).trans q) b2 (b3,(s1.2 I G.symm).trans a7,b4,b5) e1 e2 λy m b6 Q=>?_)
   by_cases e:y=j+1
   ·subst e
    rw[e2] at Q;cases Q;cases q:bV n2 n2 with
    |false=>rfl
    |true=>rw[wP q] at q;cases q
   ·exact Eg (g y m ω Q)<|wP a6
  |false=>
   simp only[dD,dc];refine aj<|mw ?_;rw[t];refine aI (nq lI _,ih (j+1) i _ a n c ω k T x E.1 ea en λy m b6 Q=>?_)
   by_cases e:y=j+1
   ·subst e
    rw[e2] at Q;cases Q;exact a6
   ·exact g y m ω Q
def Ep(hc:X.b=af)(hu:X.A.units+64<c_):js X (.builtin "max") (λxs H Q=>∃(l:Y)(c:List Y)(i:Ξ),xs=[.c l]/\bP X.K H l (c.map ag.c)/\bC H c i/\i≠[]/\∀(j:Nat) a n,c[j]?=V a->i[j]?=V n->(∀m∈i,bV n m=aB)->Q (.c a) H):=by
 intro pins s σ H xs us Q I r h;obtain⟨l,c,i,rfl,hl,ht,p,h⟩:=h;obtain⟨u,rfl,ru⟩:=iF r;cases ru;have hh:=I.b.a hc;have a6:=ht.j;have d:0<c.length:=by have:=CL.mpr p;omega
 have e:(yl "max"++yl ".loop":String)="max.loop":=ξ
 have t:∀R,aE X pins σ H R->R.heap.IsList l (c.map ab).toArray:=λR Ik=>by
  obtain⟨a7,r1,p1,_⟩:=Ik.j hl;obtain rfl:=oR r1;exact p1.isList
 have x:=t s I;obtain⟨ol,T,_⟩:=id x;have U:l<s⁻¹:=cR T;refine call_function_tree act acr acx (PySem.F.args_max1 _) ?_;show aA _ X.A.in1 (Qm "max" ["key","default"] 0 ([],[]) >>= _) _ _ s;refine aj<|pA (show Qm "max" ["key","default"] 0 ([],[])=aU [Z,Z] from O) ?_;refine aj<|aI ?_;refine aj<|tL x ?_;refine aj<|BG ?_<|eM _;rw[e];have hS:(s.heap.push {cls:=.type "list_iterator",data:=.fields #[.ref l,.int 0 0]}).objs.size=s⁻¹+1:=Cv ..;have y:l≠s⁻¹:=dz U;have k:(s.heap.push {cls:=.type "list_iterator",data:=.fields #[.ref l,.int 0 0]}).objs.size≠s⁻¹:=by rw[hS];exact lL<|Qt _
 have C:gl X pins H s⁻¹:=I.M (aW _)<|I.a.j<|aW _;have D:gl X pins H (s.heap.push {cls:=.type "list_iterator",data:=.fields #[.ref l,.int 0 0]}).objs.size:=I.M (by rw[hS];exact oI _)<|I.a.j (by rw[hS];exact oI _);refine aI (nq lI _,?_);have I0:aE X pins σ H {s with heap:=(s.heap.push {cls:=.type "list_iterator",data:=.fields #[.ref l,.int 0 0]}).push<|cF "list" #[] 0}:=I.B (t':=s.toks) λb u q=>cx _<|cx _ q;have gI:((s.heap.push {cls:=.type "list_iterator",data:=.fields #[.ref l,.int 0 0]}).push<|cF "list" #[] 0).get? s⁻¹=V {cls:=.type "list_iterator",data:=.fields #[.ref l,.int 0 0]}:=
  cx _<|dF _ O
 have gS:((s.heap.push {cls:=.type "list_iterator",data:=.fields #[.ref l,.int 0 0]}).push<|cF "list" #[] 0).get? (s.heap.push {cls:=.type "list_iterator",data:=.fields #[.ref l,.int 0 0]}).objs.size=V (cF "list" #[] 0):=dF _ O;have a9:=rQ (prog:=X.prog) (w:=X.w) (A:=X.A.in1) hh s⁻¹ l y (c.map ab).toArray;have a0:(c.map ab).toArray.size=c.length:=by rw[cT,ax]
 generalize (s.heap.push {cls:=.type "list_iterator",data:=.fields #[.ref l,.int 0 0]}).objs.size=S at *;refine lE vY ?_;rw[nv lI _];show aA _ X.A.in1 (BM (.ref S) >>= _) _ _ _;refine aj<|jU gS O ?_;show aA _ X.A.in1 (Im (kd<|.ref s⁻¹) _ >>= _) _ _ _;refine aj<|qB<|a9.item 0 _ _ _ (by rw[a0];exact d) ((_,gI,O,O),t _ I0) λv E f hP G K=>?_;have e1:c[0]?=V (c[0]'(d)):=dq d;have e2:i[0]?=V (i[0]'ω):=dq ω;have hv:v=.ref (c[0]'(d)):=by
  have:(c.map ab)[0]?=V v:=by simpa using hP
  rw[cB,e1] at this;exact(cH this).symm
 subst hv;obtain⟨a1,L,a3,a4⟩:=id G.1;have I1:aE X pins σ H {s with heap:=E,toks:=f}:=aE.N (s:={s with heap:=(s.heap.push {cls:=.type "list_iterator",data:=.fields #[.ref l,.int 0 0]}).push<|cF "list" #[] 0}) (t':=f) (ch:=[s⁻¹]) I0 (rn C) λb o M q=>K b o M q;have P:=K S _ (by simpa using k) gS;generalize c[0]'(d)=g at e1 ⊢;generalize (i[0]'ω)=n2 at e2;have s1:=mC E S<|de λ_=>#[.ref g,.ref g];obtain⟨c2,a5⟩:∃c2,(E.update S<|de λ_=>#[.ref g,.ref g]).get? S=V (cF "list" #[.ref g,.ref g] c2):=(_,we P λ_=>#[.ref g,.ref g]);show aA _ X.A.in1 (Hf S (λ_=>#[.ref g,.ref g]) >>= _) _ _ _;refine aj ?_;refine ym (s:={s with heap:=E,toks:=f}) P O ?_;rw[e];refine aI (nq lI _,UC hh ω hl ht D C k y (λj a n R Ij ea en M=>?_) _ 0 0 _ g n2 c2 O d (aE.N (s:={s with heap:=E,toks:=f}) (t':=f) (ch:=[S]) I1 (rn D) λb o M q=>(s1.2 b (λz=>M (by simp[z]))).trans q) a5 (a1,(s1.2 _ k.symm).trans L,a3,a4) e1 e2 λj' m a8 em=>?_)
 ·exact(.c a,H,Ij,O,h j a n ea en M)
 ·obtain rfl:j'=0:=ω
  rw[e2] at em;cases em;cases q:bV n2 n2 with
  |false=>rfl
  |true=>rw[wP q] at q;cases q
end
def FW(h:(aJ a).Nodup):(aJ<|a.filter gZ).Nodup:=(um.map _).nodup h
def FS:gZ c=af↔c.2≠0:=by
 unfold gZ;simp
noncomputable def lm(p:Int)(a:aG):aG:=(a.map λc=>(abd c.1 (c.2%p))).filter gZ
def No(b:(aJ a).Nodup):(aJ<|lm p a).Nodup:=FW (by rw[F'];exact b)
def Np(b:(aJ a).Nodup)(x:List Int):aZ (lm p a) x=aZ a x%p:=by
 unfold lm;rw[Bf x (by rw[F'];exact b),NE (g:=λv=>v%p)<|Int.zero_emod p]
def Yj{p:Int}(f:0<p)(g:(aJ a).Nodup):ph p (lm p a):=(No g,λc h=>by
 obtain⟨i,e⟩:=fA.mp h;obtain⟨d,j,rfl⟩:=aP.mp i;have:=FS.mp e;have:=qR d.2 (b:=p) ω;have:=qS d.2 f;show 1<=d.2%p/\d.2%p<p;have k:d.2%p≠0:=FS.mp e;omega)
def Ny{a:aG}{q:List Int}(h:q∈aJ (a.filter gZ)):q∈aJ a:=by
 obtain⟨c,b,rfl⟩:=aP.mp h;exact aP.mpr (c,(fA.mp b).1,O)
def Xf{b:List Int}{n:Int}{c:List Int×Int}(h:c∈gJ a b n):c∈a\/c=(abd b n):=by
 unfold gJ at h;split at h
 ·obtain⟨d,f,e⟩:=aP.mp h
  split at e
  ·rename_i q
   exact .inr (by rw[<-e,q])
  ·exact .inl<|e▸f
 ·rcases cy.mp h with h|h
  ·exact .inl h
  ·exact .inr<|cJ.mp h
def Yk{q:List Int}(h:q∈aJ (lm p a)):q∈aJ a:=by
 rw[<-F' (λc=>c.2%p) a];exact Ny h
noncomputable def ln(p k:Int)(h:aG)(c:List Int×Int):aG:=gJ h c.1<|(aZ h c.1-k*c.2)%p
noncomputable def om(p k:Int)(h b:aG):aG:=(b.foldl (ln p k) h).filter gZ
def Bc{p k:Int}:∀(b h:aG),(aJ h).Nodup->(aJ<|b.foldl (ln p k) h).Nodup
 |[],_,n=>n
 |c::b,h,n=>Bc b _ (FN _ _ n)
def Nt{p k:Int}(e:0<p):∀(b h:aG),(∀c∈h,0<=c.2/\c.2<p)->∀c∈b.foldl (ln p k) h,0<=c.2/\c.2<p
 |[],_,n=>n
 |c::b,h,n=>Nt e b _ λd a=>by
  rcases Xf a with a|rfl
  ·exact n d a
  ·exact(qR _ ω,qS _ e)
def Nu{p k:Int}:∀(b h:aG){q:List Int},q∈aJ (b.foldl (ln p k) h)->q∈aJ h\/q∈aJ b
 |[],_,_,n=>.inl n
 |c::b,h,q,n=>by
  rcases Nu b _ n with n|n
  ·rcases MY n with n|rfl
   ·exact .inl n
   ·exact .inr<|.head _
  ·exact .inr<|.tail _ n
def Nv{p k:Int}(x:List Int):∀(b h:aG),(aJ b).Nodup->aZ (b.foldl (ln p k) h) x=if x∈aJ b then(aZ h x-k*aZ b x)%p else aZ h x
 |[],h,_=>(ap (λz=>nomatch z)).symm
 |c::b,h,n=>by
  have d:c.1∉aJ b/\(aJ b).Nodup:=jA.mp n;show aZ (b.foldl (ln p k)<|ln p k h c) x=_;rw[Nv x b _ d.2];unfold ln;rw[Gd];have f:aJ (c::b)=c.1::aJ b:=O
  by_cases e:x=c.1
  ·subst e
   rw[ap d.1,az O,az (by rw[f];exact .head _),kH n c<|.head _]
  ·rw[ap e,f]
   have g:aZ (c::b) x=aZ b x:=by
    unfold aZ;rw[List.find?_cons_of_neg (by simpa using λz=>e z.symm)]
   by_cases a:x∈aJ b
   ·rw[az a,az<|.tail _ a,g]
   ·rw[ap a,ap (λz=>(bZ.mp z).elim e a)]
def Nw{p k:Int}(e:0<p){h b:aG}(a:ph p h):ph p (om p k h b):=(FW<|Bc _ _ a.a,λc f=>by
 obtain⟨g,i⟩:=fA.mp f;have:=FS.mp i;have:=Nt e b h (λd j=>by have:=a.lo d j;omega) c g;omega)
def Ym{p k:Int}(c:0<p){h b:aG}(a:ph p h)(d:(aJ b).Nodup)(x:List Int):aZ (om p k h b) x=(aZ h x-k*aZ b x)%p:=by
 unfold om;rw[Bf x<|Bc _ _ a.a,Nv x b h d]
 by_cases e:x∈aJ b
 ·rw[az e]
 ·rw[ap e,rE e,wl,uo]
  have:=a.q c x;exact(afc this.1 this.2).symm
def Yl{p k:Int}{h b:aG}{q:List Int}(a:q∈aJ (om p k h b)):q∈aJ h\/q∈aJ b:=Nu b h<|Ny a
abbrev rI(U:Ξ):Prop:=U.Pairwise λa b=>bV a b=af
def Yt{e b f:List Int}(h:bV e b=af)(g:bV b f=af):bV e f=af:=by
 cases d:bV e f with
 |true=>rfl
 |false=>rw[Eg (a:=f) (b:=e) (c:=b) d<|wP h] at g;cases g
def Nq:∀(U:Ξ)(k:List Int),rI U->∃o,rI o/\o.length<=U.length+1/\∀x,x∈o↔x=k\/x∈U
 |[],k,_=>([k],aej _ _,aW _,λx=>by simp)
 |a::U,k,h=>by
  obtain⟨g,j⟩:=qK.mp h
  by_cases e:k=a
  ·exact(a::U,h,oI _,λx=>by subst e;simp)
  cases c:bV k a with
  |true=>
   refine(k::a::U,qK.mpr (λb f=>?_,h),aW _,λx=>by simp);rcases bZ.mp f with rfl|f
   ·exact c
   ·exact Yt c<|g b f
  |false=>
   have l:bV a k=af:=by
    cases d:bV a k with
    |true=>rfl
    |false=>exact bu (Bv k a c d) e
   obtain⟨o,m,n,i⟩:=Nq U k j;refine(a::o,qK.mpr (λb f=>?_,m),ad5 n,λx=>?_)
   ·rcases(i b).mp f with rfl|f
    ·exact l
    ·exact g b f
   ·rw[bZ,i,bZ]
    constructor
    ·rintro(q|q|q)
     ·exact .inr<|.inl q
     ·exact .inl q
     ·exact .inr<|.inr q
    ·rintro(q|q|q)
     ·exact .inr<|.inl q
     ·exact .inl q
     ·exact .inr<|.inr q
def Nr:∀a:Ξ,∃U,rI U/\U.length<=a.length/\∀x,x∈U↔x∈a
 |[]=>([],IP,aW _,λ_=>Iff.rfl)
 |k::a=>by
  obtain⟨U,b,f,c⟩:=Nr a;obtain⟨h,d,g,e⟩:=Nq U k b;exact(h,d,by rw[cO];omega,λx=>by rw[e,c,bZ])
def tC(a:aG)(y:List Int):Prop:=y∈aJ a/\∀m∈aJ a,bV y m=aB
section
variable{p:Int}{U:Ξ}{R:List aG}{es:List (List Int×aG)}{row here:aG}{m:Nat}
def Ns(h:rI U){u t:Nat}(a:U[u]?=V x)(b:U[t]?=V y)(l:bV y x=aB):u<=t:=by
 refine ad8 λz=>?_;obtain⟨c,rfl⟩:=cr.mp a;obtain⟨d,rfl⟩:=cr.mp b;rw[uj.mp h t u d c z] at l;cases l
def VX(h:rI U)(g:0<p)(d:ph p a)(b:tC a y){t:Nat}(c:U[t]?=V y):mm p (Gv U a) t:=by
 refine(λz=>?_,λu i=>?_)
 ·rw[NP c] at z
  have:=d.j b.1;have:=QT ω z;omega
 ·cases e:U[u]? with
  |none=>rw[Zd (by simpa using e)];exact fw _
  |some x=>
   rw[NP e];have:x∉aJ a:=λf=>by have:=Ns h e c<|b.2 x f;omega
   rw[rE this];exact fw _
structure x'(p:Int)(U:Ξ)(R:List aG)(es:List (List Int×aG)):Prop where
 b:(es.map (·.1)).Nodup
 a:∀e∈es,ph p e.2/\tC e.2 e.1/\∀q∈aJ e.2,q∈U
 sp:∀e∈es,eR p (R.map aZ) (aZ e.2)
noncomputable abbrev sX(es:List (List Int×aG)):List (List Int->Int):=es.map λe=>aZ e.2
def Gc{y:List Int}(h:y∈U):U[U.idxOf y]?=V y:=by
 rw[dq<|List.idxOf_lt_length_of_mem h,List.getElem_idxOf]
noncomputable def x'.j(h:x' p U R es)(i:0<p)(j:rI U):BE p U (es.map λe=>(abd (U.idxOf e.1) (aZ e.2))):=by
 have c:∀e∈es,e.1∈U:=λe d=>(h.a e d).2.2 _ (h.a e d).2.1.1;refine(?_,λr k=>?_)
 ·rw[cj]
  have:=h.b;rw[zd,jK] at this ⊢;refine(ahl.mp this).imp λ{a b} (l,m,f) z=>f ?_;have g:=Gc<|c a l;have n:=Gc<|c b m;rw[show U.idxOf a.1=U.idxOf b.1 from z] at g;exact cH<|g.symm.trans n
 ·obtain⟨e,d,rfl⟩:=aP.mp k
  exact VX j i (h.a e d).1 (h.a e d).2.1<|Gc<|c e d
def VS:(es.map λe=>(abd (U.idxOf e.1) (aZ e.2))).map (·.2)=sX es:=by rw[cj];rfl
structure vB(p:Int)(U:Ξ)(R:List aG)(es:List (List Int×aG))(row here:aG)(m:Nat):Prop where
 a:ph p here
 u:∀q∈aJ here,∃u,u<m/\U[u]?=V q
 b:eR p (sX es) λx=>aZ row x-aZ here x
 c:eR p (R.map aZ) (aZ here)
def YH(b:0<p)(c:row∈R)(a:(aJ row).Nodup)(d:∀q∈aJ row,q∈U):vB p U R es row (lm p row) U.length:=by
 refine(Yj b a,λq f=>?_,vL λx=>?_,qw (λx=>?_)<|pv<|aP.mpr (row,c,O))
 ·obtain⟨u,e⟩:=mD.mp<|d q<|Yk f
  exact(u,(cr.mp e).1,e)
 ·rw[Np a];exact Bi _ _
 ·rw[Np a]
  have:=Bi (aZ row x) p;rw[show aZ row x%p-aZ row x=-(aZ row x-aZ row x%p) from ω];exact zj.mpr this
def YG(f:0<p)(v:rI U)(j:x' p U R es)(h:vB p U R es row here m){b:aG}(g:(abd y b)∈es)(n:tC here y){G:Int}(w:G*aZ b y%p=aZ here y):∃u,u<m/\vB p U R es row (om p G here b) u:=by
 obtain⟨o,A,r⟩:=h.u y n.1;obtain⟨i,C,D⟩:=j.a _ g;have c:=λx=>Ym (k:=G) f h.a i.a x;have s:∀x,p ∣ (aZ here x-G*aZ b x)-aZ (om p G here b) x:=λx=>by rw[c];exact Bi _ _
 refine(o,A,Nw f h.a,λq a=>?_,qw (λx=>?_)<|tI (k:=G) (pv<|aP.mpr (_,g,O)) h.b,qw (λx=>?_)<|tI (k:=-G) (j.sp _ g) h.c)
 ·have E:q≠y:=λz=>by
   subst z;have t:=(Nw (k:=G) (b:=b) f h.a).j a;rw[c,<-w] at t;have:p ∣ (G*aZ b q%p-G*aZ b q):=by
    have:=Bi (G*aZ b q) p;rw[show G*aZ b q%p-G*aZ b q=-(G*aZ b q-G*aZ b q%p) from ω];exact zj.mpr this
   rw[QV this] at t;omega
  have d:∀u,U[u]?=V q->bV y q=aB->∃u,u<o/\U[u]?=V q:=λu e l=>by
   have:=Ns v e r l;refine(u,Nat.lt_of_le_of_ne this λz=>?_,e);subst z;exact E<|cH<|e.symm.trans r
  rcases Yl a with a|a
  ·obtain⟨u,_,e⟩:=h.u q a
   exact d u e<|n.2 q a
  ·obtain⟨u,e⟩:=mD.mp<|D q a
   exact d u e<|C.2 q a
 ·have:=s x
  rw[show aZ row x-aZ (om p G here b) x-(G*aZ b x+(aZ row x-aZ here x))=aZ here x-G*aZ b x-aZ (om p G here b) x from ω];exact this
 ·have:=zj.mpr<|s x
  rw[show -(aZ here x-G*aZ b x-aZ (om p G here b) x)=aZ (om p G here b) x-(-G*aZ b x+aZ here x) by rw[afa];omega] at this;exact this
def MN{e:List Int×aG}(h:eR p (sX es) f):eR p (sX<|es++[e]) f:=yf h λv a=>by
 obtain⟨q,b,rfl⟩:=aP.mp a;exact pv<|aP.mpr (q,fR _ b,O)
def YJ(h:vB p U R es row [] m):eR p (sX es) (aZ row):=qw (λx=>by
 show p ∣ aZ row x-(aZ row x-0);rw[uo,wj];exact fw _) h.b
def YI(d:x' p U R es)(h:vB p U R es row here m)(f:tC here y)(g:y∉es.map (·.1)):x' p U R (es++[(abd y here)])/\eR p (sX<|es++[(abd y here)]) (aZ row):=by
 refine((?_,λn c=>?_,λn c=>?_),?_)
 ·rw[bT,iS]
  refine(d.b,by simp,λa i b j z=>?_);obtain rfl:b=y:=by simpa using j
  exact g<|z▸i
 ·rcases cy.mp c with c|c
  ·exact d.a n c
  ·obtain rfl:=cJ.mp c
   exact(h.a,f,λq l=>by obtain⟨u,_,n⟩:=h.u q l;exact dp n)
 ·rcases cy.mp c with c|c
  ·exact d.sp n c
  ·obtain rfl:=cJ.mp c
   exact h.c
 ·refine qw (λx=>?_)<|tI (k:=1) (MN (e:=(abd y here)) h.b)<|pv<|aP.mpr ((abd y here),gh _<|.head _,O)
  show p ∣ aZ row x-(1*(aZ row x-aZ here x)+aZ here x);rw[show aZ row x-(1*(aZ row x-aZ here x)+aZ here x)=0 from ω];exact fw _
def Nz(c:rI U)(b:ph p a)(h:∀q∈aJ a,q∈U):a.length<=U.length:=by
 rw[<-pf];exact b.a.length_le_of_subset h
end
def Lv{j:Ξ}(L:gF P w H h)(k:iY H a (.c d))(S:d.map (·.1)=j.map (·.map aQ)):(a==jw)=aB/\∃c:List (List Int×Y×aa),(∀u v,h.DictOfH (jV<|qD u v) a c)/\c.length=d.length/\∀(i:Nat) x,c[i]?=V x->j[i]?=V x.1/\∃n,d[i]?=V n/\co n.2 x.2.2:=by
 obtain⟨z,y,ys,A,o,T,U,X,h2,h3,h4,M⟩:=(show dt P w H h a (.c d) from k.j L);have C:∀{l:List (List aV×ag)}{m:List (List aV×Y×aa)}{f:Ξ},jq H l m->l.map (·.1)=f.map (·.map aQ)->
   ∃c:List (List Int×Y×aa),m=c.map (λx=>(abd (x.1.map aQ) x.2))/\c.map (·.1)=f/\(∀x∈c,cM H x.2.1 x.1)/\c.length=l.length/\∀(i:Nat) x,c[i]?=V x->f[i]?=V x.1/\∃n,l[i]?=V n/\co n.2 x.2.2:=by
  intro l m f q
  induction q generalizing f with
  |nil=>intro e;cases f with
   |nil=>exact([],O,O,(λx g=>by cases g),O,(λi x e=>by simp at e))
   |cons p ps=>simp at e
  |@cons p q' ps a0 k t ih=>intro e;cases f with
   |nil=>simp at e
   |cons r rs=>
    simp only[cI,ae6] at e;obtain⟨c,s,Q,D,E,G⟩:=ih e.2;have R:=k.2.1;rw[e.1,cj] at R;refine((abd r q'.2)::c,?_,by rw[cI,Q],λx g=>?_,by simp[E],λi x I=>?_)
    ·rw[cI,<-s,<-e.1,k.1]
    ·rcases bZ.mp g with rfl|g
     ·exact R
     ·exact D x g
    ·cases i with
     |zero=>
      simp at I;subst I;exact(O,p,O,k.2.2)
     |succ i=>simpa using G i x (by simpa using I)
 obtain⟨c,s,Q,D,E,G⟩:=C A S;refine(y,c,λu v=>(o,T,U,X,h2,h3,?_,λx g=>?_,?_),E,G)
 ·rw[h4,s,cj]
  refine kj λx _=>?_;show ac6 (di (fW P w)<|x.1.map aQ) (.ref x.2.1) x.2.2=ac6 (di (qD u v) x.1) (.ref x.2.1) x.2.2;rw[Va]
  rfl
 ·obtain⟨_,a1,r,p⟩:=(show dt P w H h x.2.1 (.b<|x.1.map ag.d) from L x.2.1 _ (D x g))
  exact K_ p<|oW r
 ·have e6:c.map (λx=>x.1.map (aQ:Int->aV))=(c.map (·.1)).map (·.map aQ):=by rw[cj];rfl
  rw[s,cj] at M;have h6:((c.map (·.1)).map (·.map (aQ:Int->aV))).Nodup:=by rw[<-e6];exact M
  exact QQ _ (λa b K e=>K (by rw[e])) h6
section
variable{prog:bw}{w:aX}{K:Type}[DecidableEq K]{knd:HeapKind prog w K}{A:bY}{E:Ω}{s:ak}
def aac{id:String}{a b:Y}{Q:Bool->ak->Prop}(hu:knd.room A)(ha:(a==jw)=aB)(hb:(b==jw)=aB)(hx:s.heap.DictOfH knd a G)(hy:s.heap.DictOfH knd b R)(hl:G.length=R.length)(hv:∀(i:Nat) k p v,G[i]?=V (abd k (abd p v))->∃(j:Nat)(q:Y)(n:Int)(t S:iM),v=.int n t/\R[j]?=V (abd k (abd q (.int n S))))(h:Q af s):aA (aH prog w) A (yN id a b) Q E s:=by
 obtain⟨oa,g,pa,d,a3,f,H,T,a4⟩:=hx;obtain⟨ob,eb,pb,l,a5,m,o,U,I⟩:=hy;have sa:=Hi (knd:=knd) H;have sb:=Hi (knd:=knd) o;unfold yN yM;rw[ap (by rw[ha];exact dT),ap (by rw[hb];exact dT)];refine aj<|aI<|aj<|aI ?_;refine aj<|np d f ?_;dsimp only;refine aj<|np l m ?_;rw[ap (by rw[sa,sb,hl];simp)];refine aj<|tM d f ?_;refine aj ?_;rw[afy];simp only[afx,Qr,CF,Nat.div_one];refine yp _ (λc r M=>M=s/\r.1=Z/\∃i,c=aeg i (g.size-i)/\i<=g.size) _ ?_ ?_ _ _ (O,O,0,by simp,eM _)
 ·rintro x c r M ⟨rfl,u,i,P,hi⟩
  have L:i<g.size:=by
   rcases nC i g.size with h|h
   ·exact h
   ·rw[Nat.sub_eq_zero_of_le h] at P;simp at P
  obtain⟨rfl,z⟩:x=i/\c=aeg (i+1) (g.size-(i+1)):=by
   have e:g.size-i=(g.size-(i+1))+1:=ω
   rw[e,List.range'_succ] at P;injection P with h1 h2
   exact(h1,h2)
  obtain⟨⟨k,p,v⟩,C⟩:∃y,G[x]?=V y:=(G[x]'(by rw[<-sa];exact L),dq _);obtain⟨j0,q,n,t,S,rfl,D⟩:=hv x k p v C;have X:g[x]?=V (knd.hash k,.ref p,.int n t):=by rw[entry_at H x,C];rfl
  have a0:knd.is M.heap k p:=T _<|dp C;refine aj<|np d f ?_;rw[X];dsimp only;refine aj<|il<|aj<|wpAny_dictFind_heap hu a0 l m o U I (λa1=>bu D<|a1 j0 _) λj pj hj=>?_;obtain rfl:=idxH_unique I hj D;dsimp only;refine aj<|np l m ?_;have a2:eb[j]?=V (knd.hash k,.ref q,.int n S):=by rw[entry_at o j,D];rfl
  rw[a2];dsimp only;refine il<|Pf ?_;rw[ap (by simp)];refine aj<|tM d f ?_;rw[ap (by simp)];exact aI (O,O,x+1,z,L)
 ·rintro⟨r1,r2⟩ M ⟨rfl,u,_⟩
  simp only at u;subst u;exact aI h
def aad{a b:Y}{j k:List (K×Y×aa)}{Q:Bool->ak->Prop}(m:(a==jw)=aB)(n:(b==jw)=aB)(o:s.heap.DictOfH knd a j)(p:s.heap.DictOfH knd b k)(q:j.length≠k.length)(h:Q aB s):aA (aH prog w) A (yN l a b) Q E s:=by
 obtain⟨D,G,H,c,r,d,e,t,u⟩:=o;obtain⟨I,L,M,f,v,g,i,x,y⟩:=p;have z:=Hi (knd:=knd) e;have C:=Hi (knd:=knd) i;unfold yN yM;rw[ap (by rw[m];exact dT),ap (by rw[n];exact dT)];refine aj<|aI<|aj<|aI ?_;refine aj<|np c d ?_;dsimp only;refine aj<|np f g ?_;rw[az (by rw[z,C];simpa using q)];exact aj<|lv<|aI h
def aae{a b:Y}{Q:Ω}(c:A.units<c_)(d:s.TypeIs (.ref a) "dict")(f:s.TypeIs (.ref b) "dict")(i:∀(j:String)(R:Bool->ak->Prop)(k:Ω)(g:bY),g.units<=A.units+8->R r s->aA (aH prog w) g (yN j a b) R k s)(h:Q (.bool<|!r) s):aA (aH prog w) A (iz .NotEq (.ref a)<|.ref b) Q E s:=by
 show aA _ _ (BN .NotEq (.ref a)<|.ref b) _ _ _;refine wpAny_richCompare_same_room (op:=.NotEq) d f ack (lC ack d F.entry_dict_ne ?_<|F.args_dict_ne_2 _ _) c;unfold Builtin.«dict.__ne__»
 wp_delta
 refine aj ?_;unfold ahg;refine aj<|GZ d ?_;refine aj<|show aA _ _ (aU (abd (ab a) ([ab b]))) _ _ _ from aI ?_;refine aI ?_;dsimp only;refine aj<|Ha f OC ?_;simp only[nK,dD,dc];refine aj<|show aA _ _ (aU a) _ _ _ from aI ?_;refine aj<|show aA _ _ (aU b) _ _ _ from aI ?_;refine aj<|i _ _ _ _ (by show A.units+1<=_;omega) ?_;refine aI (_,O,(λe=>nomatch e),?_);cases r<;>exact h
end
def EG(H:ae)(a b:Y)(r:Bool):Prop:=∃(d c:List (List aV×ag))(f e:Ξ)(g:List Int),iY H a (.c d)/\iY H b (.c c)/\d.map (·.1)=f.map (·.map aQ)/\c.map (·.1)=e.map (·.map aQ)/\d.map (·.2)=g.map ag.d/\
 ((r=af/\d.length=c.length/\∀h∈d,h∈c)\/(r=aB/\d.length≠c.length))
section
variable{X:bf}
def Vy{a b:Y}(I:aE X d σ H s)(hu:X.A.units+64<c_)(h:EG H a b r):s.TypeIs (.ref a) "dict"/\s.TypeIs (.ref b) "dict"/\
  ∀(A:String)(R:Bool->ak->Prop)(C:Ω)(l:bY),l.units<=X.A.units+8->R r s->aA (aH X.prog X.w) l (yN A a b) R C s:=by
 obtain⟨a0,D,a1,E,ns,ha,hb,G,f,hv,hc⟩:=h;obtain⟨K,xs,o,al,a5⟩:=Lv I.a ha G;obtain⟨L,c,q,bl,b5⟩:=Lv I.a hb f;refine((o X.prog X.w).typeIs,(q X.prog X.w).typeIs,λA R C l hA M=>?_);rcases hc with ⟨rfl,hl,hm⟩|⟨rfl,hl⟩
 ·refine aac (knd:=jV<|qD X.prog X.w) (show l.units<c_ from ω) K L (o _ _) (q _ _) ω (λi k p v e=>?_) M
  obtain⟨g1,m,u,P⟩:=a5 i _ e;obtain⟨j,w⟩:=IB<|hm m<|dp u;have x:j<c.length:=by have:=(cr.mp w).1;omega
  have Q:c[j]?=V c[j]:=dq x;obtain⟨f1,a2,S,T⟩:=b5 j c[j] Q;rw[w] at S;obtain rfl:=cH S;have k1:m.1=k.map aQ:=by
   have:=eW (·[i]?) G;simp only[cB,u,g1,nB,rZ] at this;exact this
  have k2:m.1=c[j].1.map aQ:=by
   have:=eW (·[j]?) f;simp only[cB,w,f1,nB,rZ] at this;exact this
  have ek:c[j].1=k:=jZ.mp<|k2.symm.trans k1;have g:=eW (·[i]?) hv;simp only[cB,u,nB] at g;cases U:ns[i]? with
  |none=>rw[U] at g;simp at g
  |some n=>
   rw[U] at g;have y:m.2=ag.d n:=by simpa using g
   rw[y] at P T;obtain⟨t,et⟩:=(show ∃t,v=bz n t from P);obtain⟨t',z⟩:=(show ∃t,c[j].2.2=bz n t from T);refine(j,c[j].2.1,n,t,t',et,?_);rw[Q,<-ek,<-z]
 ·exact aad (knd:=jV<|qD X.prog X.w) K L (o _ _) (q _ _) ω M
def KP(d:X.A.units+64<c_):fE X (iz .NotEq) (λx y H Q=>∃a b r,x=.c a/\y=.c b/\EG H a b r/\Q (.e<|!r) H):=by
 intro c s l H x y v u Q I e f h;obtain⟨a,b,r,rfl,rfl,g,q⟩:=h;cases e;cases f;obtain⟨i,j,k⟩:=Vy I d g;exact aae ω i j k (.e<|!r,H,I,O,q)
end
noncomputable abbrev vq:cN:=eI 49
abbrev AZ:lV:=kZ (λ_ j=>0<j) λi j=>.d<|i%j
abbrev Mu:eG:=mN<|eB DT (eB AZ (oT (bH 1)<|bH 0)<|bH 2)<|gW<|.d 0
abbrev Ms:a_:=kq<|dE (bH 0)<|dE (eB AZ (oT (bH 1)<|bH 0)<|bH 2) fI
section
variable{P:bw}{w:aX}{K:aR}{mg:au->Option aa}{base:aT}{f:Y}{fd:cS}
def Yh{n:ae}{C:List Y}{p:Int}{Q:aS}(u:0<p)(X:n L=V (.a<|C.map ag.c))(P:bC n C (aJ h))(hd:n d=V (.c<|bI h))(hn:(aJ h).Nodup)(hz:h.length<=3000)(R:n D=Z)(k:∀(b:ae)(f:List Y),aF n b->b D=V (.a<|f.map ag.c)->fZ b f (lm p h)->Q (.c D) b):dY (gY K L) (dk 0) Mu Ms [Z,V<|.c d,V<|.d p] n D Q:=by
 have w:=P.j;rw[pf] at w;refine jh (xs:=C.map ag.c) (λj E y b=>∃(v:Option ag)(f:List Y),E=[v,V<|.c d,V<|.d p]/\aF n b/\b D=V (.a y)/\y=f.map ag.c/\fZ b f (lm p<|h.take j)) ?_ ?_ ?_ ?_
 ·exact(Z,[],O,aF.q R,ay,O,.nil)
 ·rintro j E y b ⟨v,f,rfl,i,e,rfl,s⟩
  exact bP.j<|i _ _ X
 ·rintro j E y b x hx S T ⟨v,f,rfl,i,e,rfl,s⟩
  obtain⟨a,ea,rfl⟩:=dM hx;obtain⟨ps,q,A⟩:=P.q ea;unfold aJ at q;rw[cB] at q;obtain⟨c,G,rfl⟩:=r_.mp q;have H:(C.map ag.c).length<=bQ:=by rw[ax];exact bU ω
  have g:∀I,aF b I->jr I d (.c a) (V<|.d c.2):=λI m=>.inr (bI h,c.1.map aQ,a,.inl<|m _ _<|i _ _ hd,O,fY<|m.B<|i.B A,(oh hn c<|dp G).symm);refine(_,O,_,O,d,_,O,g b<|aF.S _,_,O,_,_,O,O,u,O,_,O,?_);have U:lm p (h.take j++[c])=lm p (h.take j)++[(abd c.1 (c.2%p))].filter gZ:=by unfold lm;rw[bT,kT];rfl
  cases l:gZ (abd c.1 (c.2%p)) with
  |true=>
   have r:(!aC (ag.d (c.2%p)=ag.d 0))=af:=l;rw[r];refine fL (_,O,_,O,_,O,d,_,O,g b<|aF.S _,_,O,_,_,O,O,u,bU (by simp),λt M=>?_);have m:=aF.q (o:=.b [.c a,.d<|c.2%p]) M;refine fz H S T (m _ _ e) (_,f++[t],O,(i.j m).F R,ay,by rw[bT];rfl,?_);rw[cq G,U,pM l];exact fZ.q (fZ.B (s.j m) (a,ay,m.B<|i.B A)) (m _ _ e) (by intro xs z;cases z)
  |false=>
   have r:(!aC (ag.d (c.2%p)=ag.d 0))=aB:=l;rw[r];refine eF<|qd S T (_,f,O,i,e,O,?_);rw[cq G,U,pN (by rw[l];decide),zf,jm];exact s
 ·rintro E y b ⟨v,f,rfl,i,e,rfl,s⟩
  rw[ax,w,fN] at s;exact k b f i e s
abbrev ou:=List<|Y×List Int×aG
noncomputable def jt(a:ou):List (List aV×ag):=a.map λh=>(abd (h.2.1.map aQ) (ag.c h.1))
noncomputable abbrev g_(a:ou):List (List Int×aG):=a.map (·.2)
def Bd(a:ou):(g_ a).map (·.1)=a.map λh=>h.2.1:=by unfold g_;rw[cj];rfl
def NB(a:ou)(q:List Int):(fy (jt a)<|q.map aQ).isSome=aC (q∈(g_ a).map (·.1)):=by
 rw[<-sD,uu,wg,iD,Bd];unfold jt;constructor
 ·rintro⟨f,b,e⟩
  obtain⟨h,c,rfl⟩:=aP.mp b;exact aP.mpr (h,c,jZ.mp<|io e)
 ·intro h
  obtain⟨e,d,rfl⟩:=aP.mp h;exact(_,aP.mpr (e,d,O),cn O)
def Aq:∀{a:ou},((g_ a).map (·.1)).Nodup->∀h∈a,fy (jt a) (h.2.1.map aQ)=V (.c h.1)
 |[],_,h,b=>bu b (by simp)
 |d::a,n,h,b=>by
  have e:d.2.1∉(g_ a).map (·.1)/\((g_ a).map (·.1)).Nodup:=jA.mp n;rcases bZ.mp b with rfl|b
  ·exact sC (p:=(abd (h.2.1.map aQ) (ag.c h.1))) O
  ·have c:¬d.2.1.map aQ=(h.2.1.map aQ:List aV):=λz=>e.1 (by rw[jZ.mp z,Bd];exact aP.mpr (h,b,O))
   exact(pT (p:=(abd (d.2.1.map aQ) (ag.c d.1))) c).trans<|Aq e.2 h b
def Xe{q:List Int}(h:q∉(g_ a).map (·.1)):fB (jt a) (q.map aQ) (.c c)=jt (a++[(abd c (abd q cs))]):=by
 unfold fB;rw[ap (by
  rw[sD,NB]
  simpa using h)]
 unfold jt;rw[bT]
 rfl
def FZ{H:ae}(g:H L=Z)(h:du (λ(p:List aV×ag) b=>H b=V (.b<|p.1.map dr)) (bI c) d){j:Nat}{n:List Int}(i:d[j]?=V a)(e:(aJ c)[j]?=V n)(k:∀m∈aJ c,bV n m=aB):cM (aw H L<|.a<|d.map ag.c) a n/\tC c n:=by
 have s:=aF.q (o:=.a<|d.map ag.c) g;have l:=s.J<|mV h;obtain⟨q,f,r⟩:=l.q i;rw[e] at f;cases f;exact(r,dp e,k)
def FU{H:ae}{b:aG}(d:H c=V (.c<|bI b))(e:H z=V (.c [])):EG H c z (aC<|b=[]):=by
 refine(bI b,[],aJ b,[],b.map (·.2),.inl d,.inl e,?_,O,?_,?_)
 ·unfold bI aJ;rw[cj,cj];rfl
 ·unfold bI;rw[cj,cj];rfl
 ·cases b with
  |nil=>exact .inl (by simp,O,λf h=>nomatch h)
  |cons a r=>exact .inr (by simp,by unfold bI;simp)
abbrev Mt:eG:=mN<|eB wJ (eB AZ (eB (kZ rt λi j=>.d<|i*j) (bH 0)<|oT (bH 1)<|bH 2)<|bH 3)<|oT (bH 4)<|bH 2
def Yc{c:ae}{D o t h:Y}{wt g p:Int}{n:Nat}{Q:aS}(x:n<=100)(hw:-(2 ^ 64)<wt/\wt<2 ^ 64)(s:0<p)(q:c D=Z)(u:∀a,aF c a->jr a o (.c t) (V<|.d wt))(w:∀a,aF c a->jr a h (.c t) (V<|.d g))(k:∀a,aF c a->a D=V (.a<|((cV n).filter λj:Nat=>aC<|(1+(j:Int))*wt%p=g).map λj:Nat=>ag.d<|1+j)->Q (.c D) a):dY (kB 1 n) (dk 0) Mt (bH 0) [Z,V<|.c o,V<|.c t,V<|.d p,V<|.c h] c D Q:=by
 refine uW (λj l f a=>∃(v:Option ag),l=[v,V<|.c o,V<|.c t,V<|.d p,V<|.c h]/\aF c a/\a D=V (.a f)/\f=(((cV n).take j).filter λj:Nat=>aC<|(1+(j:Int))*wt%p=g).map λj:Nat=>ag.d<|1+j) ?_ ?_ ?_
 ·exact(Z,O,aF.q q,ay,O)
 ·rintro i l f a m r ⟨v,rfl,d,b,rfl⟩
  have e:(cV n)[i]?=V i:=by rw[qM m]
  refine(_,O,_,O,_,O,o,_,O,u a d,_,_,O,O,.inr hw,_,O,_,_,O,O,s,_,O,_,O,h,_,O,w a d,O,_,O,?_)
  by_cases h:(1+(i:Int))*wt%p=g
  ·rw[cn<|eW ag.d h]
   refine fL (_,O,fz (bU ω) m r b (_,O,d.F q,ay,?_));rw[cq e,kT,pM (by exact cn h),zf,bT]
   rfl
  ·rw[cK (λz=>h (by injection z))]
   refine eF<|qd m r (_,O,d,b,?_);rw[cq e,kT,pN (by simpa using h),zf,jm]
 ·rintro l f a ⟨v,rfl,d,b,rfl⟩
  rw[e_ (by rw[mE];exact aW _)] at b;exact k a d b
end
noncomputable abbrev xR:cN:=eI 19
noncomputable abbrev FK:cN:=eI 20
def Bk:hC "max"=V (.builtin "max"):=δ
def Gw:hC "sum"=V (.builtin "sum"):=δ
abbrev MH(K:aR):a_:=oU (A_ K)<|dE (bH 0) fI
section
variable{P:bw}{w:aX}{K:aR}{mg:au->Option aa}{base:aT}
def Yu{f:List Y}{Q:aS}(n:bP K c L (f.map ag.c))(l:bC c f g)(z:g.length<=1000)(m:c D=Z)(k:∀b,aF c b->b D=V (.a<|(ng g).map ag.d)->Q (.c D) b):dY (gY K L) (dk 0) gC (MH K) [Z] c D Q:=by
 have i:=l.j;refine jh (xs:=f.map ag.c) (λj h e b=>∃v:Option ag,h=[v]/\aF c b/\b D=V (.a e)/\e=(ng<|g.take j).map ag.d) ?_ ?_ ?_ ?_
 ·exact(Z,O,aF.q m,ay,O)
 ·rintro j h e b ⟨v,rfl,d,a,rfl⟩
  exact d.N n
 ·rintro j h e b x q r s ⟨v,rfl,d,a,rfl⟩
  obtain⟨o,t,rfl⟩:=dM q;obtain⟨p,u,w⟩:=l.q t;have y:(f.map ag.c).length<=bQ:=by rw[ax];exact bU ω
  refine iX ?_;refine(_,O,o,_,O,.inr<|fM.j<|d.B w,fz y r s a (_,O,d.F m,ay,?_));unfold ng;rw[cq u,bT,bT,ax]
  rfl
 ·rintro h e b ⟨v,rfl,d,a,rfl⟩
  rw[ax,i,e_<|aW _] at a;exact k b d a
def Yv{M:Int}(h:M∈ng a):0<=M:=by
 obtain⟨p,_,rfl⟩:=aP.mp h;omega
def Yw(h:ng a=[]):(0:Int)=(lr a:Int):=by
 have:a=[]:=CK.mp h;rw[this];rfl
end
abbrev EQ(K:aR):a_:=J_ K "list" DV (bH 1)<|dE (eB (jN λi j=>.d<|i+j) (bH 0)<|gW<|.d 1) fI
section
variable{P:bw}{w:aX}{K:aR}{mg:au->Option aa}{base:aT}
def Zc{d:ae}{n:Nat}{Q:aS}(i:d L=V (.a<|(ng c).map ag.d))(p:n<=1000)(l:d D=Z)(k:∀a,aF d a->a D=V (.a<|((cV n).map<|md c).map ag.d)->Q (.c D) a):dY (kB 0 n) (dk 0) gC (EQ K) [Z,V<|.c L] d D Q:=by
 refine uW (λj h g a=>∃v:Option ag,h=[v,V<|.c L]/\aF d a/\a D=V (.a g)/\g=(((cV n).map<|md c).take j).map ag.d) ?_ ?_ ?_
 ·exact(Z,O,aF.q l,ay,O)
 ·rintro j h g a m o ⟨v,rfl,f,b,rfl⟩
  have e:((cV n).map<|md c)[j]?=V (md c j):=by rw[cB,qM m];rfl
  refine iX ?_;refine(_,O,.inl (O,_,bP.j<|f _ _ i),_,O,_,_,O,O,L,ng c,_,O,O,f _ _ i,?_);rw[show(0:Int)+((j:Nat):Int)+1=((j:Nat):Int)+1 from ω,ZG];exact fz (bU ω) m o b (_,O,f.F l,ay,by rw[cq e,bT];rfl)
 ·rintro h g a ⟨v,rfl,f,b,rfl⟩
  rw[e_ (by simp)] at b;exact k a f b
inductive Fx(K:aR)(vs:List ag)(H:ae)(Q:aS)(E':cZ):Prop
 |a:∀l as pss,(vs=[.c l])->(bP K H l<|as.map ag.c)->(bC H as pss)->(lW pss)->(∀D H2,aF H H2->H D=Z->H2 D=V (.a<|(rK<|bR pss).map ag.d)->Q (.c D) H2)->Fx K vs H Q E'
def MR:dK ["web","lengths"] ["web"] (b_ xR):=(O,O,O,δ,O,δ,δ)
def NQ(hw:ii a=af):∀p∈bR a,p.length<=5:=λp c=>by
 obtain⟨_,b,_,_⟩:=qp hw;obtain⟨q,d,e⟩:=ki.mp<|Bu.mp c;exact(nc.mp<|Of (b q d) e).2.1
def XY{f t:Y}(F:bN K "counts" "counts" xR f T)(a1:eY mg)(bm:mg "max"=Z)(Fp:bN K "pieces" "pieces" tt t d)(bp:cQ K d ["web"] [])(mp:mg "pieces"=V (.ref t))(Gp:bO P w K mg base bv 8 t d ["web"] (vh K)):bO P w K mg base bv 9 f T ["web"] (Fx K):=by
 refine F.j MR (λvs H Q E h=>?_) (λa0 A u s H vs Q E hr h=>?_)
 ·obtain⟨l,U,c,rfl,_⟩:=h;rfl
 ·obtain⟨l,U,c,rfl,hl,ht,v,k⟩:=h
  obtain⟨_,_,_,X⟩:=qp v.1;have h5:=Oj<|NQ v.1;refine(_,bx (cu (i:=1) MR.a O (ar O) (ff ["web","lengths"] ["piece"] [Z] (dy<|dj Gp hr O mp Fp.a bp .nil cv<|aq (ai 0) aD) (λe C a b g=>ca (i:=0) (dX ["piece"]) O<|ah O)
    (λe C a b g=>gX) (λe C a b g=>eC ie O a1.a gN<|aq (ai 0) aD) (hfr:=pY δ) (te:=MH K)))
   (bF (cY (ff ["web","lengths"] ["k","lengths"] [Z,V 1] (sF O a1.c<|aq (Uf O bm Bk (aq (ai 1) aD) bg O) aD) (λe C a b g=>ca (i:=0) (dX ["k","lengths"]) O<|ah O)
    (λe C a b g=>gX) (λe C a b g=>mP oC acj PySem.F.type_list_count UA (ai 1)<|aq (cg iW (ai 0) bg) aD) (hfr:=gD (b_ xR) δ) (te:=EQ K)))),?_)
  refine(_,O,l,U,c,O,hl,ht,v,λL H2 bs sm hL m hb=>(L,O,(_,bP.j m),λD hD=>eP<|Yu (bP.j m) hb (by rw[qu];omega) hD λH3 n o=>?_));have p:∀M:Int,M=(lr (bR c):Int)->∃j:Int,[ag.d M]=[ag.d j]/\-(2 ^ 62)<=j/\j<2 ^ 62/\∀r,H3 r=Z->dY (kB 0 j.toNat) (dk 0) gC (EQ K) [Z,V<|.c D] H3 r Q:=by
   rintro M rfl;refine(_,O,ω,ω,λr q=>Zc o ω q λH4 x y=>k r H4 ((sm.j n).j x) (sm.M<|n.M q) y)
  refine(_,O,D,ng<|bR c,_,O,O,bP.j o,λh0=>?_,λM hM z=>?_)
  ·obtain⟨j,G,I,R,S⟩:=p 0<|Yw h0
   exact(j,G,I,R,S)
  ·obtain⟨j,G,I,R,S⟩:=p M<|ZD (Yv hM) (.inr hM) z
   exact(j,G,I,R,S)
inductive vm(K:aR)(vs:List ag)(H:ae)(Q:aS)(E':cZ):Prop
 |a:∀l as pss,(vs=[.c l])->(bP K H l<|as.map ag.c)->(bC H as pss)->(lW pss)->(∀H2,aF H H2->Q (.d<|ox<|rK<|bR pss) H2)->vm K vs H Q E'
def MS:dK ["web","told"] ["web"] (b_ FK):=(O,O,O,δ,O,δ,δ)
def Nb(a:List Int)(b:Option Int)(c:b=Z\/b=V 1)(h:a.length<=5):(nT a b Z<|V 2).length<=bQ:=by
 refine TY a _ _ _<|bU ?_;have:∀n,n<=5->(yr (im Z Z (V 2) n).fst (im Z Z (V 2) n).snd.fst (im Z Z (V 2) n).snd.snd).length<=100000/\(yr (im (V 1) Z (V 2) n).fst (im (V 1) Z (V 2) n).snd.fst (im (V 1) Z (V 2) n).snd.snd).length<=100000:=δ
 rcases c with rfl|rfl
 ·exact(this _ h).1
 ·exact(this _ h).2
def Yb{n b:cS}(F:bN K "balance" "balance" FK f n)(p:mg "sum"=Z)(t:bN K "counts" "counts" xR g b)(u:cQ K b ["web"] [])(v:mg "counts"=V (.ref g))(x:bO P w K mg base bv 9 g b ["web"] (Fx K)):bO P w K mg base bv 10 f n ["web"] (vm K):=by
 refine F.j MS (λy H Q E h=>?_) (λz A j s H y Q E C h=>?_)
 ·obtain⟨l,q,a,rfl,_⟩:=h;rfl
 ·obtain⟨l,q,a,rfl,D,G,r,k⟩:=h
  have I:=Oj<|NQ r.1;have c:(rK<|bR a).length<=5:=by unfold rK;simpa using I
  refine(_,bx (cu (i:=1) MS.a O (ah O)<|dj x C O v t.a u .nil cv<|aq (ai 0) aD)
  <|bF<|cY<|cg nU (eC (Eo O) O p Gw<|aq (KJ (ai 1) pV pV<|pU bg) aD)<|eC (Eo O) O p Gw<|aq (KJ (ai 1) (pU bg) pV<|pU bg) aD,?_)
  refine(_,O,l,q,a,O,D,G,r,λT S L U d=>?_);refine(_,O,_,O,T,_,O,bP.j d,ξ,Nb _ _ (.inl O) c,λM e=>(M,_,O,bP.j ay,?_));refine(_,O,_,O,_,O,T,_,O,bP.j<|aF.q e _ _ d,ξ,Nb _ _ (.inr O) c,λR m=>(R,_,O,bP.j ay,_,_,O,O,?_));have:=k _<|(L.j<|aF.q e).j<|aF.q (o:=.a<|(nT (rK<|bR a) (V 1) Z<|V 2).map ag.d) m;rw[<-ZN _ c] at this;exact this
end
section
variable{prog:bw}{w:aX}{A:bY}{E:Ω}{s:ak}
def η(d:Y)(e:(d==jw)=aB):MeetsIn prog w (Builtin.«dict.__len__» ([.ref d],[])) (λ_ R s=>∃b c,jk s.heap d b c/\R (.ok<|.ret<|.int b.size s.toks) {s with toks:=s.toks+1}):=
 .of_wp λA R s (b,c,f,h)=>by
  obtain⟨o,g,i,a⟩:=f;show aA _ _ (dictSize d >>= _) _ _ s;unfold dictSize;refine aj<|aj<|np g a<|aI ?_;show aA _ _ (ahd d >>= _) _ _ s;refine aj<|wpAny_pendingCount_other e ?_;refine wpAny_ret_mkInt ?_;rw[yW];exact h
def ς{d:Y}{Q:Ω}(f:(d==jw)=aB)(b:jk s.heap d a c)(e:(a.size:Int)<2 ^ 63)(h:Q (.int a.size<|s.toks+1) {s with toks:=s.toks+1+1}):aA (aH prog w) A (jJ (.builtin "len") [.ref d]) Q E s:=by
 refine ada kind_len plain_len entry_len (args_len1 _) ?_;unfold Builtin.«len»;refine aj (m:=oneArg "len" _)<|aI ?_;refine aj (m:=callSpecial? (.ref d)<|kf "__len__") (pB (name:=kf "__len__") b.typeIs acl
 <|Ho acl b.typeIs F.entry_dict_len (F.args_dict_len_1 _) (η d f) (a,c,b,?_))
 show aA _ _ _ _ _ {s with toks:=s.toks+1};refine aj<|il<|aI ?_;refine aj<|mw ?_;show aA _ _ (if((a.size:Nat):Int)<0 then _ else _) _ _ _;rw[ap ω];show aA _ _ (if((a.size:Nat):Int) ≥ 2 ^ 63 then _ else _) _ _ _;rw[ap ω];exact aj<|wpAny_mkInt<|aI (_,O,h)
end
section
variable{X:bf}
def VF:js X (.builtin "len") (λd H Q=>∃a b,d=[ag.c a]/\iY H a (.c b)/\Q (.d b.length) H):=by
 intro e s p H d t Q I r h;obtain⟨a,b,rfl,g,q⟩:=h;obtain⟨u,rfl,i⟩:=iF r;cases i;obtain⟨z,y,v,c,o,j,w,k,l,m,n,x⟩:=(show dt X.prog X.w H s.heap a (.c b) from g.j I.a);have f:j.size=b.length:=by
  have:=eW ao n;rw[ax,<-fP c] at this
  simpa using this
 refine ς y (o,k,l,m) (by rw[f];rw[kM] at z;omega) (.d b.length,H,I.J _,(_,by rw[f]),q)
end
section
variable{P:bw}{w:aX}{K:aR}{mg:au->Option aa}{base:aT}{f:Y}{fd:cS}
def Mp(a:tC c x)(b:tC c y):x=y:=Bv x y (a.2 y b.1)<|b.2 x a.1
def Yd{p a g:Int}(c:ql p)(hw:1<=a/\a<p)(d:1<=g/\g<p):∃j:Nat,j<(p-1).toNat/\(1+(j:Int))*a%p=g:=by
 obtain⟨k,f,b⟩:=c.j.1.e a g λz=>by have:=QT ω z;omega
 cases k with
 |zero=>
  rw[show(((0:Nat):Int))*a-g=-g by simp] at b;have:=QT ω<|zj.mp b;omega
 |succ j=>
  refine(j,ω,?_);have e:(1+(j:Int))*a=((j+1:Nat):Int)*a-g+g:=by
   rw[show((j+1:Nat):Int)=1+(j:Int) from ω];omega
  rw[e,Int.add_emod,QV b,zi,afd,afc ω d.2]
inductive AB(K:aR)(vs:List ag)(H:ae)(Q:aS)(E':cZ):Prop
 |a:∀(l:Y)(ds:List Y)(rows:List aG)(p:Int),(vs=[.c l,.d p])->(bP K H l<|ds.map ag.c)->(du (λd cs=>H d=V (.c<|bI cs)) ds rows)->((∀cs∈rows,(aJ cs).Nodup))->((∃ks:Ξ,ks.length<=1000/\∀cs∈rows,∀q∈aJ cs,q∈ks))->(rows.length<=1000)->(ql p)->(∀U A H',aF H H'->BE p U A->(∀r∈A,eR p (rows.map aZ) r.2)->(∀cs∈rows,eR p (A.map (·.2)) (aZ cs))->Q (.d A.length) H')->AB K vs H Q E'
noncomputable abbrev Bb:List au:=["rows","prime","heads","row","here","top","other","often","key"]
def qf:dK Bb ["rows","prime"] (b_ vq):=(O,O,O,δ,O,δ,δ)
def Xy(F:bN K "_law_rank" "_law_rank" vq f fd)(i6:eY mg)(d7:mg "dict"=Z)(c5:mg "max"=Z):bO P w K mg base bv 1 f fd ["rows","prime"] (AB K):=by
 refine F.j qf (λvs H Q E h=>?_) (λi0 A f7 s H vs Q E hr h=>?_)
 ·obtain⟨l,ds,v,p,rfl,_⟩:=h;rfl
 ·obtain⟨l,ds,v,p,rfl,hl,d8,f8,⟨ks,i1,d9⟩,i2,hp,k⟩:=h
  have hu:=jP hr;have S:=hr.units;have b0:0<p:=by have:=hp.j.1.d;omega
  have i3:=hp.j.2;obtain⟨U,lu,lU,mU⟩:=Nr ks;have f9:∀cs∈v,∀q∈aJ cs,q∈U:=λcs hc q hq=>(mU q).mpr<|d9 cs hc q hq;refine(_,bx (cu (i:=2) qf.a O (ah O) jO)
   (bx (eU eL O (dy<|ai 0) (ca (i:=3) qf.a O<|ar O)
    (bx (cu (i:=4) qf.a O (ar O) (fg (wY O S) O d7 Bl (aq (ff Bb ["key","row","prime"] [Z,V 3,V 1] (dy<|fg (nZ O) O i6.b iK<|aq (ai 3) aD) (λcl C G I ex=>ca (i:=0) (dX ["key","row","prime"]) O<|ah O)
     (λcl C G I ex=>mO<|dW uM (cg lf (iq hu (ai 1) (ai 0) (λ_ _=>O))<|ai 2) bg<|dI _) (λcl C G I ex=>iG<|aq (ai 0)<|aq (cg lf (iq hu (ai 1) (ai 0) (λ_ _=>O))<|ai 2) aD) (hfr:=gD (b_ vq) δ) (tc:=Mu) (te:=Ms)) aD)))
    (bx (DZ eL (sP.j<|Ky (dW (KP S) (ai 4) jO<|dI _)<|Kx<|zU (wM hu (eC (Ep O S) O c5 Bk<|aq (fg (nZ O) O i6.b iK<|aq (ai 4) aD) aD)<|ai 2) (by with_unfolding_all rfl))
     (bx (cu (i:=5) qf.a O (ar O)<|eC (Ep O S) O c5 Bk<|aq (fg (nZ O) O i6.b iK<|aq (ai 4) aD) aD)
     (bx (cu (i:=6) qf.a O (ar O)<|iq hu (ai 2) (ai 5) (λ_ _=>O))
     (bx (cu (i:=7) qf.a O (ah O) (eX lg (ff Bb ["k","other","top","prime","here"] [Z,V 6,V 5,V 1,V 4] (zW O i6.c<|aq bg<|aq (ai 1) aD) (λcl C G I ex=>ca (i:=0) (dX ["k","other","top","prime","here"]) O<|ah O)
      (λcl C G I ex=>mO<|dW nV (cg lf (cg lR (ai 0)<|iq hu (ai 1) (ai 2) (λ_ _=>O))<|ai 3) (iq hu (ai 4) (ai 2) (λ_ _=>O))<|dI _) (λcl C G I ex=>ai 0) (hfr:=gD (b_ vq) δ) (tc:=Mt) (te:=bH 0)) bg (λ_ _=>O)))
     (bx (eU eL O (dy<|fg (nZ O) O i6.b iK<|aq (ai 6) aD) (ca (i:=8) qf.a O<|ah O)
     <|bF<|jE hu (ai 4) (ai 8) (cg lf (cg nU (zZ hu (ai 4) (ai 8) bg (O,O,O,O))<|cg lR (ai 7)<|iq hu (ai 6) (ai 8) (λ_ _=>O))<|ai 1) O)
     (bF (cu (i:=4) qf.a O (ar O) (fg (wY O S) O d7 Bl (aq (ff Bb ["key","here"] [Z,V 4] (dy<|fg (nZ O) O i6.b iK<|aq (ai 4) aD) (λcl C G I ex=>ca (i:=0) (dX ["key","here"]) O<|ah O)
      (λcl C G I ex=>mO<|dW uM (iq hu (ai 1) (ai 0) (λ_ _=>O)) bg<|dI _) (λcl C G I ex=>iG<|aq (ai 0)<|aq (iq hu (ai 1) (ai 0) (λ_ _=>O)) aD) (hfr:=gD (b_ vq) δ) (tc:=xh) (te:=EP)) aD)))))))))
   <|bF<|fJ (dW (KP S) (ai 4) jO<|dI _) (bF<|jE hu (ai 2) (eC (Ep O S) O c5 Bk<|aq (fg (nZ O) O i6.b iK<|aq (ai 4) aD) aD) (ai 4) O) fV)))
  <|bF<|cY<|eC VF O i6.a gN<|aq (ai 2) aD),?_)
  intro hd e0;have g0:ds.length=v.length:=d8.length;have s0:=aF.q (o:=.c []) e0;refine(_,O,l,O,(_,s0.N hl),iI (K:=K) (a:=l) (xs:=ds.map ag.c) (λi σ H2=>∃(hs:ou)(v3 v4 v5 v6 v7 v8:Option ag),σ=[V<|.c l,V<|.d p,V<|.c hd,v3,v4,v5,v6,v7,v8]/\aF H H2/\H2 hd=V (.c<|jt hs)/\(∀h∈hs,H2 h.1=V (.c<|bI h.2.2)/\h.1≠hd)/\hs.length<=i/\x' p U v (g_ hs)/\∀cs∈v.take i,eR p (sX<|g_ hs) (aZ cs))
   ([],Z,Z,Z,Z,Z,Z,O,s0,ay,(λh z=>nomatch z),aW _,(qL,(λe z=>nomatch z),(λe z=>nomatch z)),λcs z=>nomatch z) (λi σ H2 _ (_,_,_,_,_,_,_,_,sm,_)=>sm.N hl) ?_ ?_)
  ·rintro i x σ H2 hx ⟨hs,v3,v4,v5,v6,v7,v8,rfl,sm,T,a2,g1,HD,a4⟩
   obtain⟨d,ed,rfl⟩:=dM hx;have hi:i<v.length:=by have:=(cr.mp ed).1;omega
   obtain⟨a1,er⟩:∃r,v[i]?=V r:=(_,dq hi);have a9:=dp er;have e1:H2 d=V (.c<|bI a1):=sm _ _<|pW d8 i _ _ ed er;have c1:=f8 a1 a9;have h9:a1.length<=1000:=by
    have:=c1.length_le_of_subset (l₂:=ks) λq hq=>d9 a1 a9 q hq;rw[pf] at this;omega
   refine(_,O,d,bI a1,O,.inl e1,λbs pb L hL=>(L,O,(_,bP.j ay),λD hD=>eP<|Yh b0 ay ((aF.q hL).J<|mV pb) (aF.q hL _ _ e1) c1 ω hD λH3 ts s3 c6 g2=>?_));refine(D,ts,bI<|lm p a1,O,bP.j c6,F_ g2,λc0 e2=>?_);rw[Bg,Gu _<|No c1];have e3:=(aF.q hL).j s3;have g3:=e3.j<|aF.q (o:=.c<|bI<|lm p a1) e2;have b2:∀{c:Y},H2 c=Z->hd≠c:=λe z=>by subst z;rw[T] at e;cases e
   have g4:∀{c:Y},H2 c=Z->∀h∈hs,h.1≠c:=λe h hh z=>by subst z;rw[(a2 h hh).1] at e;cases e
   refine(λm σ H4=>∃(n:aG)(c:Y)(v5 v6 v7 v8:Option ag),σ=[V<|.c l,V<|.d p,V<|.c hd,V<|.c d,V<|.c c,v5,v6,v7,v8]/\aF H2 H4/\H2 c=Z/\H4 c=V (.c<|bI n)/\vB p U v (g_ hs) a1 n m,
    (U.length,lm p a1,c0,_,_,_,_,O,g3,e3.M e2,ay,YH b0 a9 c1<|f9 a1 a9),?_)
   rintro m σ H4 ⟨n,c,v5,v6,v7,v8,rfl,s4,hc,c7,HR⟩;have b3:=HR.a;have lh:n.length<=1000:=dg (Nz lu b3 λq hq=>by obtain⟨u,_,e⟩:=HR.u q hq;exact dp e) ω;refine(_,O,λz hz=>(c,z,_,O,O,FU (aF.q hz _ _ c7) ay,_,O,?_));have sz:=aF.q (o:=.c []) hz
   by_cases a5:n=[]
   ·rw[cn a5]
    refine eF ?_;refine eF ?_;have s5:=s4.j sz;refine(_,O,λz2 b4=>(c,z2,_,O,O,FU (aF.q b4 _ _<|sz _ _ c7) ay,_,O,?_));rw[cn a5];have s6:=s5.j<|aF.q (o:=.c []) b4;refine eF (hs,_,_,_,_,_,_,O,sm.j s6,s6 _ _ T,λh hh=>(s6 _ _ (a2 h hh).1,(a2 h hh).2),ω,HD,λcs t=>?_);rw[cq er] at t;rcases cy.mp t with t|t
    ·exact a4 cs t
    ·obtain rfl:=cJ.mp t
     subst a5;exact YJ HR
   rw[cK a5];have e4:=sz _ _ c7;refine fL (_,O,c,bI n,O,.inl e4,λe5 e6 L1 c2=>(L1,e5,aJ n,O,bP.j ay,(aF.q c2).J<|mV e6,λz=>a5<|CK.mp z,λj1 a0 y g5 g6 g7=>?_));obtain⟨g8,ty⟩:=FZ c2 e6 g5 g6 g7;refine(_,O,hd,_,O,.inr (jt hs,y.map aQ,a0,.inl<|aF.q c2 _ _<|sz _ _<|s4 _ _ T,O,fY g8,O),_,O,?_);have e7:=aF.q (o:=.a<|e5.map ag.c) c2;have s5:=s4.j<|sz.j e7;have c3:=e7 _ _ e4;rw[NB]
   by_cases hy:y∈(g_ hs).map (·.1)
   ·rw[cn hy]
    refine fL (_,λi4 H' h=>h,?_);refine(_,O,c,bI n,O,.inl c3,λa6 b5 L2 a7=>(L2,a6,aJ n,O,bP.j ay,(aF.q a7).J<|mV b5,λz=>a5<|CK.mp z,λj2 a y' c8 c9 d0=>?_));obtain⟨ha,d1⟩:=FZ a7 b5 c8 c9 d0;obtain rfl:=Mp ty d1;have a8:=aF.q (o:=.a<|a6.map ag.c) a7;have s6:=s5.j a8;have b1:=a8 _ _ c3;generalize aw _ L2 (.a<|a6.map ag.c)=H6 at a8 s6 b1 ha;rw[Bd] at hy;obtain⟨h,hh,ey⟩:=aP.mp hy;obtain⟨o,y',b⟩:=h;obtain rfl:y'=y:=ey;have hb:(abd y' b)∈g_ hs:=aP.mpr (_,hh,O);obtain⟨b6,tb,ub⟩:=HD.a _ hb;have ho:H6 o=V (.c<|bI b):=s6 _ _ (a2 _ hh).1;have lb:b.length<=1000:=dg (Nz lu b6 ub) ω;have wb:1<=aZ b y'/\aZ b y'<p:=b6.j tb.1;have wh:=b3.j ty.1;have gO:∀H7,aF H6 H7->jr H7 o (.c a) (V<|.d<|aZ b y'):=λH7 s7=>.inr (bI b,y'.map aQ,a,.inl<|s7 _ _ ho,O,fY<|s7.B ha,(by
     obtain⟨cc,b7,e⟩:=aP.mp tb.1;have e:cc.1=y':=e;rw[<-e,kH b6.a cc b7];exact(oh b6.a cc b7).symm))
    have gH:∀H7,aF H6 H7->jr H7 c (.c a) (V<|.d<|aZ n y'):=λH7 s7=>.inr (bI n,y'.map aQ,a,.inl<|s7 _ _ b1,O,fY<|s7.B ha,(by
     obtain⟨cc,b7,e⟩:=aP.mp ty.1;rw[<-e,kH b3.a cc b7];exact(oh b3.a cc b7).symm))
    refine(_,O,_,O,hd,_,O,.inr (jt hs,y'.map aQ,a,.inl<|s6 _ _ T,O,fY ha,(Aq HD.b _ hh).symm),?_);refine(_,O,1,p,O,(ω,ω,ω,ω),λD2 g9=>eP<|Yc (wt:=aZ b y') (g:=aZ n y') ω (ω,ω) b0 g9 gO gH λH7 s7 e8=>?_);obtain⟨j0,j1,j2⟩:=Yd hp wb wh;have hm:j0∈(cV (p-1).toNat).filter λj:Nat=>aC<|(1+(j:Int))*aZ b y'%p=aZ n y':=fA.mpr (gB.mpr j1,cn j2);cases e:(cV (p-1).toNat).filter λj:Nat=>aC<|(1+(j:Int))*aZ b y'%p=aZ n y' with
    |nil=>rw[e] at hm;cases hm
    |cons j r=>
    have hj:j∈(cV (p-1).toNat).filter λj:Nat=>aC<|(1+(j:Int))*aZ b y'%p=aZ n y':=by rw[e];exact .head _
    obtain⟨j3,j4⟩:=fA.mp hj;have j5:=gB.mp j3;have j6:(1+(j:Int))*aZ b y'%p=aZ n y':=io j4;rw[e] at e8;refine(D2,_,0,.d<|1+j,O,O,bP.j e8,ge (j:=0) O,?_);have b8:=s7 _ _ b1;have h0:=s7 _ _ ho;have h1:=s6.j s7;refine(_,O,o,bI b,O,.inl h0,λc4 h2 L3 e9=>?_);have d2:=aF.q (o:=.a<|c4.map ag.c) e9;have f0:=d2.J<|mV h2;have cL:c≠L3:=dJ b8 e9;have f1:=f0.j;rw[pf] at f1;refine(L3,O,(_,bP.j ay),iI (K:=K) (a:=L3) (xs:=c4.map ag.c) (λi σ H8=>∃(v8:Option ag),σ=[V<|.c l,V<|.d p,V<|.c hd,V<|.c d,V<|.c c,V<|.c a,V<|.c o,V<|.d<|1+j,v8]/\aF H2 H8/\H8 L3=V (.a<|c4.map ag.c)/\bC H8 c4 (aJ b)/\H8 c=V (.c<|bI<|(b.take i).foldl (ln p<|1+j) n)/\((b.take i).foldl (ln p<|1+j) n).length<=1000+i)
     (_,O,h1.j d2,ay,f0,d2 _ _ b8,by simpa using lh) (λi σ H8 _ (_,_,_,h,_)=>bP.j h) ?_ ?_)
    ·rintro i x σ H8 hx ⟨v8,rfl,s8,f2,d3,a3,b9⟩
     obtain⟨q0,h3,rfl⟩:=dM hx;obtain⟨ps,d4,d5⟩:=d3.q h3;unfold aJ at d4;rw[cB] at d4;obtain⟨cc,ec,rfl⟩:=r_.mp d4;have i5:i<b.length:=(cr.mp ec).1;have f3:=dp ec;refine(_,O,c,O,.inr (_,.inl a3),_,O,_,.inr (_,cc.1.map aQ,q0,.inl a3,O,fY d5,O),?_);rw[Ar];refine(_,O,_,O,_,O,o,.d cc.2,O,.inr (bI b,cc.1.map aQ,q0,.inl<|s8 _ _ (a2 _ hh).1,O,fY d5,(oh b6.a cc f3).symm),_,_,O,O,.inl (ω,ω),_,_,O,O,_,O,_,_,O,O,b0,_,O,_,O,c,_,O,xf.t (k:=cc.1.map aQ) a3 (fY d5)<|gn (by rw[qk];omega),(_,O,s8.F hc,?_,kb d3 a3 (by intro xs z;cases z),?_,?_))
     ·rw[bG<|eA cL];exact f2
     ·rw[ay,vw,cq ec,qP]
      rfl
     ·rw[cq ec,qP]
      show(gJ _ cc.1 _).length<=_;have:=MZ ((b.take i).foldl (ln p<|1+j) n) cc.1<|(aZ ((b.take i).foldl (ln p<|1+j) n) cc.1-(1+(j:Int))*cc.2)%p;omega
    ·rintro σ H8 ⟨v8,rfl,s8,f2,d3,a3,b9⟩
     rw[ax,f1,fN] at a3 b9;have nX:=Bc (p:=p) (k:=1+j) b n b3.a;have XF:om p (1+j) n b=(b.foldl (ln p<|1+j) n).filter gZ:=O;obtain⟨u,h4,d6⟩:=YG b0 lu HD HR hb ty j6;rw[XF] at d6;generalize b.foldl (ln p<|1+j) n=X at a3 b9 nX d6;refine(_,O,c,bI X,O,.inl a3,λes pe M hM=>(M,O,(_,bP.j ay),λD3 c6=>eP<|M' ay ((aF.q hM).J<|mV pe) (aF.q hM _ _ a3) nX ω c6 λH9 ts s9 h5 h6=>?_));refine(D3,ts,bI<|X.filter gZ,O,bP.j h5,F_ h6,λR hR=>?_);rw[Bg,Gu _<|FW nX];have f4:=(s8.j<|aF.q hM).j s9;exact(u,h4,X.filter gZ,R,_,_,_,_,O,f4.j<|aF.q hR,f4.M hR,ay,d6)
   ·rw[cK hy]
    refine eF ?_;refine(_,O,λz2 b4=>(c,z2,_,O,O,FU (aF.q b4 _ _ c3) ay,_,O,?_));have f5:=aF.q (o:=.c []) b4;rw[cK a5];have s6:=s5.j f5;have b1:=f5 _ _ c3;refine fL (_,O,_,O,_,O,c,bI n,O,.inl b1,λa6 b5 L2 a7=>(L2,a6,aJ n,O,bP.j ay,(aF.q a7).J<|mV b5,λz=>a5<|CK.mp z,λj2 a y' c8 c9 d0=>?_));obtain⟨ha,d1⟩:=FZ a7 b5 c8 c9 d0;obtain rfl:=Mp ty d1;have a8:=aF.q (o:=.a<|a6.map ag.c) a7;have s7:=s6.j a8;have b8:=a8 _ _ b1;generalize aw _ L2 (.a<|a6.map ag.c)=H7 at a8 s7 b8 ha;obtain⟨h7,h8⟩:=YI HD HR ty hy;have f6:=s7 _ _ T;refine(hd,_,O,xf.t (k:=y.map aQ) f6 (fY ha)<|gn (by unfold jt;rw[ax];omega),hs++[(abd c (abd y n))],_,_,_,_,_,_,O,(sm.j s7).F e0,?_,λh hh=>?_,by rw[ck];simp;omega,?_,λcs t=>?_)
    ·rw[ay,Xe (cs:=n) hy]
    ·rcases cy.mp hh with hh|hh
     ·exact(by rw[bG (a2 h hh).2];exact s7 _ _ (a2 h hh).1,(a2 h hh).2)
     ·obtain rfl:=cJ.mp hh
      exact(by rw[bG<|eA<|b2 hc];exact b8,eA<|b2 hc)
    ·rw[show g_ (hs++[(abd c (abd y n))])=g_ hs++[(abd y n)] by unfold g_;rw[bT];rfl]
     exact h7
    ·rw[show g_ (hs++[(abd c (abd y n))])=g_ hs++[(abd y n)] by unfold g_;rw[bT];rfl]
     rw[cq er] at t;rcases cy.mp t with t|t
     ·exact MN<|a4 cs t
     ·obtain rfl:=cJ.mp t
      exact h8
  ·rintro σ H2 ⟨hs,v3,v4,v5,v6,v7,v8,rfl,sm,T,a2,g1,HD,a4⟩
   rw[ax,g0,fN] at a4;refine(_,O,hd,_,O,.inl T,?_);have:=k U ((g_ hs).map λe=>(abd (U.idxOf e.1) (aZ e.2))) H2 sm (HD.j b0 lu) (λr hr=>by
    obtain⟨e,he,rfl⟩:=aP.mp hr;exact HD.sp e he) (λcs t=>by rw[VS];exact a4 cs t)
   rw[ax,ax] at this;unfold jt;rw[ax];exact this
end
noncomputable abbrev Wk(q:List Int):List Int->Int:=aZ<|AG [(abd q 1)]
def MM(q y:List Int):Wk q y=dL q y:=by
 show aZ (AG [(abd q 1)]) y=_;rw[Ws,Ys];show 1*dL q y+0=_;omega
section
variable{p:Int}
def Au{q y:List Int}(h:y∉cC q):dL q y=0:=Mm λt a e=>h (by rw[<-ve q 1,<-e];exact aP.mpr (t,a,O))
def Zs(p:Int)(a:List (List Int->Int))(n:Nat):Prop:=∃(U:Ξ)(A:List (Nat×(List Int->Int))),BE p U A/\(∀r∈A,eR p a r.2)/\(∀v∈a,eR p (A.map (·.2)) v)/\A.length=n
end
section
variable{X:bf}{scope:hG}{caps:List (Option Nat)}{tg iter elt:bB}{ifs:List bB}{wi:ji}{g:gj}{tc:eG}{te:a_}{pos:cD}
def Kz{i:Nat}{f h:cD}(n:X.N.Nodup)(o:X.N[i]?=V x)(q:rp X.env.scope x)(E m:List au)(caps:List (Option Nat))(r:jp X tg iter wi)(s:∀j C a b k,kx (jg X scope m j C a b k) tg g)(t:∀j C a b k,of (jg X scope m j C a b k) ifs tc)(u:∀j C a b k,bJ (jg X scope m j C a b k) elt te)(v:X.b=af:=by rfl)(w:scope.kind=.function:=by rfl)(c:∀y∈scope.names,y.2=.cell->scope.names.lookup y.1=V .cell:=by decide +kernel)(d:∀y∈scope.names,y.2=.free->scope.names.lookup y.1=V .free:=by decide +kernel)(e:∀y∈scope.names,y.2=.local->scope.names.lookup y.1=V .local:=by decide +kernel)(hfr:∀y∈scope.names,y.2=.free->X.env.kindOf y.1=V .cell\/X.env.kindOf y.1=V .free)(z:X.N=E:=by rfl)(l:wX E m caps scope=af:=by decide +kernel)(A:∀x,rN iter X.env x=aU x:=by intro _;rfl)(D:X.f x=af\/X.env.scope.names.lookup x=V .local:=by first|exact .inl rfl|exact .inr rfl|assumption)(p:vP (.ListComp elt [(tg,iter,ifs,0)] scope pos) (V<|.Name x f) h.line X.env=aU af:=by rfl):kw X (.Assign [.Name x f] (.ListComp elt [(tg,iter,ifs,0)] scope pos) h) (uJ (oS wi caps g tc te)<|dk i):=
 KB v w c d e hfr (En (by rw[z];exact l)) r s t u A n o q D p
end
def fF(P:bw)(w:aX)(K:aR)(b:au->Option aa)(a:aT)(e:ll)(x:au)(c:List au)(k:Nat)(g:lj):Prop:=
 ∃(f:Y)(d:cS),BS K (.ref f)=af/\cQ K d c []/\b x=V (.ref f)/\bO P w K b a e k f d c g
section
variable{X:bf}{CX:ll}{k n:Nat}{ps:List au}{sp:lj}{E:cZ}{x:au}{p pos:cD}{e:bB}{es:List bB}{t:fX}
def jo(C:fF X.prog X.w X.K X.c X.base CX x ps k sp)(d:eQ n X.A)(g:kC X x)(h:Ak CX X E)(i:jR X (e::es) t)(a:k<=n:=by decide)(b:(x==("__debug__":au))=aB:=by decide)
  (j:fh (e::es) X.env=(abd aB (dC e X.env))::fh es X.env:=by rfl) (c:(nr pos<|fh es X.env).any (·.1)=aB:=by rfl):bJ X (.Call (.Name x p) (e::es) [] pos) (sE sp [] E t):=by
 obtain⟨f,q,l,m,o,r⟩:=C;exact dj r (d.j a) g o l m .nil h i b j c
end
section
variable{P:bw}{w:aX}{K:aR}{mg:au->Option aa}{base:aT}{CX:ll}{k:Nat}{f:Y}{fd:cS}{x:au}{st:cN}{ps:List au}{sp sq:lj}
def lS(F:bN K x x st f fd)(b:cQ K fd ps [])(m:mg x=V (.ref f))(G:bO P w K mg base CX k f fd ps sp):fF P w K mg base CX x ps k sp:=(f,fd,F.a,b,m,G)
structure dB(K:aR)(x:au)(st:cN)(f:Y):Prop where
 b:∃fd,bN K x x st f fd
 a:PM K lD x=V (V<|.ref f)
def Vp{g:aa}{h i:Option Y}{d:Array (Option aa)}{j e m b n:aa}(a:PM K lD x=V (V<|.ref f))(l:K.lookup f=V (g,h,.func<|tT x x (uU st) (oX st) (b_ st) .none j e m i b n,d))(c:Hr K b x=af)(k:BS K (.ref f)=af):dB K x st f:=((_,Vc l c k),a)
structure iu(K:aR)(x:au)(v:Option aa):Prop where
 e:PM K lD x=V v
abbrev Ap(x:au)(st:cN)(c:List aa)(r:List (au×aa)):Prop:=∀(d a e:aa)(f:Option Y)(b g:aa),PH (tT x x (uU st) (oX st) (b_ st) .none d a e f b g) (c,[])=aU r
variable{h:aT}(X:K.In h)(G:h.Ns lD mg)
include X G
theorem iu.m(n:iu K x (V v)):mg x=V v:=yx X G n.e
theorem iu.n(n:iu K x Z):mg x=Z:=PySem.W.mg_none_of X G n.e
theorem dB.m(D:dB K x st f):mg x=V (.ref f):=yx X G D.a
theorem dB.j(D:dB K x st f)(p:au)(b:∀a,Ap x st [a] [(abd p a)]:=by exact λ_ _ _ _ _ _ _=>rfl):∃fd,bN K x x st f fd/\cQ K fd [p] []/\mg x=V (.ref f):=by
 obtain⟨⟨fd,e⟩,a⟩:=D;refine(fd,e,e.q λ_ _ _ _ _ _ c d=>?_,yx X G a)
 match c,d with
 |[a],_=>exact b a _ _ _ _ _ _
theorem dB.q(D:dB K x st f)(p q:au)(c:∀a b,Ap x st [a,b] [(abd p a),(abd q b)]:=by exact λ_ _ _ _ _ _ _ _=>rfl):∃fd,bN K x x st f fd/\cQ K fd [p,q] []/\mg x=V (.ref f):=by
 obtain⟨⟨fd,g⟩,a⟩:=D;refine(fd,g,g.q λ_ _ _ _ _ _ d e=>?_,yx X G a)
 match d,e with
 |[a,b],_=>exact c a b _ _ _ _ _ _
theorem dB.F(D:dB K x st f)(p q r:au)(d:∀a b c,Ap x st [a,b,c] [(abd p a),(abd q b),(abd r c)]:=by exact λ_ _ _ _ _ _ _ _ _=>rfl):∃fd,bN K x x st f fd/\cQ K fd [p,q,r] []/\mg x=V (.ref f):=by
 obtain⟨⟨fd,h⟩,a⟩:=D;refine(fd,h,h.q λ_ _ _ _ _ _ e g=>?_,yx X G a)
 match e,g with
 |[a,b,c],_=>exact d a b c _ _ _ _ _ _
theorem dB.B(D:dB K x st f)(p q r s:au)(e:∀a b c d,Ap x st [a,b,c,d] [(abd p a),(abd q b),(abd r c),(abd s d)]:=by exact λ_ _ _ _ _ _ _ _ _ _=>rfl):∃fd,bN K x x st f fd/\cQ K fd [p,q,r,s] []/\mg x=V (.ref f):=by
 obtain⟨⟨fd,i⟩,a⟩:=D;refine(fd,i,i.q λ_ _ _ _ _ _ g h=>?_,yx X G a)
 match g,h with
 |[a,b,c,d],_=>exact e a b c d _ _ _ _ _ _
omit X G
end
noncomputable abbrev xN:cN:=eI 50
noncomputable abbrev rz(q:List Int):aG:=AG [(abd q 1)]
abbrev V':a_:=sE vk [] sR<|dE (JY (bH 0)<|gW<|.d 1) fI
abbrev MA:a_:=kq<|dE (bH 0)<|dE V' fI
abbrev lq:Type:=List<|List Int×aG
def Bn(H:ae)(t:Y)(c:List Int×aG):Prop:=∃a d,H t=V (.b [.c a,.c d])/\cM H a c.1/\H d=V (.c<|bI c.2)
abbrev l_(H:ae)(b:List Y)(a:lq):Prop:=du (Bn H) b a
noncomputable def Bn.j{H b:ae}{t:Y}(h:Bn H t c)(s:aF H b):Bn b t c:=by
 obtain⟨a,d,e,f,g⟩:=h;exact(a,d,s _ _ e,s.B f,s _ _ g)
noncomputable def l_.j{H b:ae}(h:l_ H c a)(s:aF H b):l_ b c a:=gf h λ_ _ q=>q.j s
noncomputable def l_.B{b:lq}(h:l_ H f b){k l:List ag}(e:H L=V (.a k)):l_ (aw H L<|.a l) f b:=gf h λt c (a,d,g,i,j)=>
 (a,d,by rw[bG<|ir g e (by intro z;cases z)];exact g,by show aw H L _ a=_;rw[bG<|ir (show _=V _ from i) e (by intro z;cases z)];exact i,by rw[bG<|ir j e (by intro z;cases z)];exact j)
def l_.q{b:List Y}(h:l_ H b a){i:Nat}{t:Y}(e:b[i]?=V t):∃c,a[i]?=V c/\Bn H t c:=by
 have f:=fP h;have d:i<a.length:=by have:=(cr.mp e).1;omega
 exact(a[i],dq d,pW h i _ _ e<|dq d)
abbrev vE(H:ae)(b:List Y)(a:List aG):Prop:=du (λd c=>H d=V (.c<|bI c)) b a
def vE.q(h:vE H f c)(s:aF H d):vE d f c:=gf h λa b e=>s _ _ e
noncomputable def vE.j(h:vE H d c)(e:H L=V (.a f)):vE (aw H L<|.a g) d c:=gf h λa b q=>by
 rw[bG<|ir q e (by intro z;cases z)];exact q
noncomputable abbrev kE(a:lq)(s:Int):lq:=a.filter λc=>aC<|(c.1.length:Int)=s
def Aw{a:lq}{i:Nat}(h:a[i]?=V c)(s:Int):kE (a.take<|i+1) s=kE (a.take i) s++if(c.1.length:Int)=s then [c] else []:=by
 unfold kE;rw[cq h,kT]
 by_cases e:(c.1.length:Int)=s
 ·rw[az e,pM (by exact cn e)];rfl
 ·rw[ap e,pN (by simpa using e)];rfl
abbrev xg(K:aR):eG:=mN<|eB wJ (oU (A_ K)<|dE (eB (rf K) (bH 0)<|gW<|.d 0) fI)<|bH 1
abbrev EM(K:aR):a_:=eB (rf K) (bH 0)<|gW<|.d 1
abbrev Mr(K:aR):a_:=sE (AB K) [] sR<|dE (oS (Ld K<|bH 2) [Z,V 0] (dk 0) (xg K)<|EM K)<|dE (bH 1) fI
section
variable{P:bw}{w:aX}{K:aR}{mg:au->Option aa}{base:aT}{f:Y}{fd:cS}
def Wt{i:ae}{s:List Y}{Q:aS}(S:bP K i L (s.map ag.c))(G:bC i s l)(T:∀q∈l,q.length<=5/\q≠[])(hz:l.length<=1000)(H:i D=Z)(k:∀b I,aF i b->b D=V (.a<|I.map ag.c)->l_ b I (l.map λq=>(abd q (rz q)))->Q (.c D) b):dY (gY K L) (dk 0) gC MA [Z] i D Q:=by
 have u:=G.j;refine jh (xs:=s.map ag.c) (λj r m b=>∃(v:Option ag)(g:List Y),r=[v]/\aF i b/\b D=V (.a m)/\m=g.map ag.c/\l_ b g ((l.take j).map λq=>(abd q (rz q)))) ?_ ?_ ?_ ?_
 ·exact(Z,[],O,aF.q H,ay,O,.nil)
 ·rintro j r m b ⟨v,g,rfl,h,e,rfl,n⟩
  exact h.N S
 ·rintro j r m b x U X hy ⟨v,g,rfl,h,e,rfl,n⟩
  obtain⟨a,ea,rfl⟩:=dM U;obtain⟨q,M,P⟩:=G.q ea;have w:=dp M;refine iX ?_;refine(_,O,?_);intro y p;have z:=aF.q (o:=.c []) p;refine(_,O,a,q.map aQ,.d 1,O,ay,by rw[cj];exact z.B<|h.B P,?_);rw[SX];have s1:=aF.q (o:=.c [(abd ((q.map aQ:List aV)) (ag.d 1))]) p;have A:aw b y (.c [(abd ((q.map aQ:List aV)) (ag.d 1))]) y=V (.c<|bI [(abd q 1)]):=ay;refine(y,[(abd q 1)],O,.inl A,by simp[aJ],λc hc=>by rw[cJ.mp hc];exact T q w,by simp,λd H4 s4 a0 C=>?_);refine(bU (by simp),λt E=>?_);have R:=aF.q (o:=.b [.c a,.c d]) E;have f:=(s1.j s4).j R;refine fz (by rw[ax];exact bU ω) X hy (f _ _ e) (_,g++[t],O,(h.j f).F H,ay,by rw[bT];rfl,?_);rw[cq M,bT];exact l_.B (tZ (n.j f) (a,d,ay,f.B<|h.B P,R _ _ C))<|f _ _ e
 ·rintro r m b ⟨v,g,rfl,h,e,rfl,n⟩
  rw[ax,u,fN] at n;exact k b g h e n
def WI{o:List Y}{b:lq}{Q:aS}(G:bP K l L (o.map ag.c))(u:l_ l o b)(R:b.length<=1000)(w:l D=Z)(k:∀g h,aF l g->g D=V (.a<|h.map ag.c)->vE g h ((kE b s).map (·.2))->Q (.c D) g):dY (gY K L) (dk 0) (xg K) (EM K) [Z,V<|.d s] l D Q:=by
 have q:=fP u;refine jh (xs:=o.map ag.c) (λS p n g=>∃(v:Option ag)(h:List Y),p=[v,V<|.d s]/\aF l g/\g D=V (.a n)/\n=h.map ag.c/\vE g h ((kE (b.take S) s).map (·.2))) ?_ ?_ ?_ ?_
 ·exact(Z,[],O,aF.q w,ay,O,.nil)
 ·rintro S p n g ⟨v,h,rfl,i,f,rfl,m⟩
  exact i.N G
 ·rintro S p n g x H y A ⟨v,h,rfl,i,f,rfl,m⟩
  obtain⟨t,I,rfl⟩:=dM H;obtain⟨c,C,a,d,E,M,P⟩:=l_.q u I;have r:(o.map ag.c).length<=bQ:=by rw[ax];exact bU ω
  refine(_,O,t,_,0,_,O,O,fM.j<|i _ _ E,ge (j:=0) O,a,_,O,.inr<|fM.j<|i.B M,_,O,O,_,O,?_)
  by_cases e:(c.1.length:Int)=s
  ·rw[show aC (ag.d ((c.1.map ag.d).length:Int)=ag.d s)=af from cn (by rw[ax,e])]
   refine fL (_,O,t,_,1,_,O,O,fM.j<|i _ _ E,ge (j:=1) O,fz r y A f (_,h++[d],O,i.F w,ay,by rw[bT];rfl,?_));rw[Aw C,az e,bT];exact vE.j (tZ m<|i _ _ P) f
  ·rw[show aC (ag.d ((c.1.map ag.d).length:Int)=ag.d s)=aB from cK λz=>e (by rw[ax] at z;injection z)]
   refine eF<|qd y A (_,h,O,i,f,O,?_);rw[Aw C,ap e,jm];exact m
 ·rintro p n g ⟨v,h,rfl,i,f,rfl,m⟩
  rw[ax,q,fN] at m;exact k g h i f m
def WJ{i:ae}{n:List Y}{b:lq}{Q:aS}(E:bP K i L (n.map ag.c))(r:l_ i n b)(P:b.length<=1000)(u:i D=Z)(k:∀g(w:List ag),aF i g->g D=V (.a w)->w.length=(kE b s).length->Q (.c D) g):dY (gY K L) (dk 0) (xg K) (bH 0) [Z,V<|.d s] i D Q:=by
 have p:=fP r;refine jh (xs:=n.map ag.c) (λS o l g=>∃(v:Option ag),o=[v,V<|.d s]/\aF i g/\g D=V (.a l)/\l.length=(kE (b.take S) s).length) ?_ ?_ ?_ ?_
 ·exact(Z,O,aF.q u,ay,O)
 ·rintro S o l g ⟨v,rfl,h,f,m⟩
  exact h.N E
 ·rintro S o l g x G y A ⟨v,rfl,h,f,m⟩
  obtain⟨t,H,rfl⟩:=dM G;obtain⟨c,C,a,d,I,M,R⟩:=l_.q r H;have q:(n.map ag.c).length<=bQ:=by rw[ax];exact bU ω
  refine(_,O,t,_,0,_,O,O,fM.j<|h _ _ I,ge (j:=0) O,a,_,O,.inr<|fM.j<|h.B M,_,O,O,_,O,?_)
  by_cases e:(c.1.length:Int)=s
  ·rw[show aC (ag.d ((c.1.map ag.d).length:Int)=ag.d s)=af from cn (by rw[ax,e])]
   refine fL (_,O,fz q y A f (_,O,h.F u,ay,?_));rw[Aw C,az e,ck,ck,m]
   rfl
  ·rw[show aC (ag.d ((c.1.map ag.d).length:Int)=ag.d s)=aB from cK λz=>e (by rw[ax] at z;injection z)]
   refine eF<|qd y A (_,O,h,f,?_);rw[Aw C,ap e,jm];exact m
 ·rintro o l g ⟨v,rfl,h,f,m⟩
  rw[ax,p,fN] at m;exact k g l h f m
abbrev qo(p:Int)(a:lq)(s:Int)(n:Nat):Prop:=Zs p (((kE a s).map (·.2)).map aZ) n
def WQ{R:List Y}{Q:aS}(S:bP K h l (R.map ag.c))(X:l_ h R a)(u:∀c∈a,(aJ c.2).Nodup)(w:(∃r:Ξ,r.length<=1000/\∀c∈a,∀q∈aJ c.2,q∈r))(hz:a.length<=1000)(hp:ql p)(T:h D=Z)(k:∀f(b:List Nat),aF h f->b.length=6->(∀(j n:Nat),b[j]?=V n->qo p a (1+(j:Int)) n)->f D=V (.a<|b.map λn:Nat=>ag.d n)->Q (.c D) f):dY (kB 1 6) (dk 0) gC (Mr K) [Z,V<|.d p,V<|.c l] h D Q:=by
 refine uW (λj x s f=>∃(v:Option ag)(b:List Nat),x=[v,V<|.d p,V<|.c l]/\aF h f/\f D=V (.a s)/\s=b.map (λn:Nat=>ag.d n)/\b.length=j/\∀(j n:Nat),b[j]?=V n->qo p a (1+(j:Int)) n) ?_ ?_ ?_
 ·exact(Z,[],O,aF.q T,ay,O,O,λj n e=>by simp at e)
 ·rintro i x s f hi hy ⟨v,b,rfl,m,g,rfl,t,y⟩
  refine iX ?_;refine(_,O,l,O,(_,m.N S),λD' z=>eP<|WI (m.N S) (X.j m) ω z λH4 ds s4 C E=>?_);refine(_,O,D',ds,_,p,O,bP.j C,E,λG d=>?_,by obtain⟨r,H,h2⟩:=w;exact(r,H,λG d q hq=>by obtain⟨c,I,rfl⟩:=aP.mp d;exact h2 c (fA.mp I).1 q hq),?_,hp,λU A H5 s5 lz L M=>?_)
  ·obtain⟨c,I,rfl⟩:=aP.mp d
   exact u c (fA.mp I).1
  ·rw[ax]
   exact dg (pJ _ _) hz
  have o:=s4.j s5;refine fz (bU ω) hi hy (o _ _ g) (_,b++[A.length],O,(m.j o).F T,ay,by rw[bT];rfl,by rw[ck,t];rfl,λj n e=>?_)
  by_cases P:j<b.length
  ·rw[sj P] at e
   exact y j n e
  ·have H:=(cr.mp e).1
   rw[ck,kR] at H;have P:j=b.length:=ω
   subst P;rw[qN<|aW _,yT] at e;obtain rfl:=cH e;rw[t];exact(U,A,lz,L,λv hv=>by obtain⟨G,d,rfl⟩:=aP.mp hv;exact M G d,O)
 ·rintro x s f ⟨v,b,rfl,m,g,rfl,t,y⟩
  exact k f b m t y g
noncomputable abbrev FX:List au:=["rows","prime","ranks","found","size","many"]
def xB:dK FX ["rows","prime"] (b_ xN):=(O,O,O,δ,O,δ,δ)
noncomputable def kG(a:lq)(g:Nat->Nat):List Int:=(cV 5).map λj:Nat=>((kE a<|1+(j:Int)).length:Int)-g j-g (j+1)
inductive vl(K:aR)(vs:List ag)(H:ae)(Q:aS)(E':cZ):Prop
 |a:∀(l:Y)(ts:List Y)(rows:lq)(p:Int),(vs=[.c l,.d p])->(bP K H l<|ts.map ag.c)->(l_ H ts rows)->((∀c∈rows,(aJ c.2).Nodup))->((∃ks:Ξ,ks.length<=1000/\∀c∈rows,∀q∈aJ c.2,q∈ks))->(rows.length<=1000)->(ql p)->(∀D H'(g:Nat->Nat),aF H H'->H D=Z->(∀j:Nat,j<6->qo p rows (1+(j:Int)) (g j))->H' D=V (.a<|(kG rows g).map ag.d)->Q (.c D) H')->vl K vs H Q E'
def XU(F:bN K "_law_holes" "_law_holes" xN f fd)(a7:eY mg)(Cr:fF P w K mg base bv "_law_rank" ["rows","prime"] 1 (AB K)):bO P w K mg base bv 2 f fd ["rows","prime"] (vl K):=by
 refine F.j xB (λvs H Q E h=>?_) (λa6 A R s H vs Q E hr h=>?_)
 ·obtain⟨l,ts,c,p,rfl,_⟩:=h;rfl
 ·obtain⟨l,ts,c,p,rfl,S,ht,T,U,hz,hp,k⟩:=h
  refine(_,bx (Kz (i:=2) xB.a O (ah O) FX ["size","prime","rows"] [Z,V 1,V 0] (zW O a7.c<|aq bg<|aq bg aD) (λg C a b m=>ca (i:=0) (dX ["size","prime","rows"]) O<|ar O) (λg C a b m=>gX)
    (λg C a b m=>jo Cr hr O cv (aq (ff ["size","prime","rows"] ["row","size"] [Z,V 0] (dy<|ai 2) (λg C a b m=>ca (i:=0) (dX ["row","size"]) O<|ah O)
     (λg C a b m=>mO<|dW nV (eC ie O a7.a gN<|aq (eX jf (ai 0) bg (λ_ _=>O)) aD) (ai 1)<|dI _) (λg C a b m=>eX jf (ai 0) bg (λ_ _=>O)) (hfr:=Lf O δ) (tc:=xg K) (te:=EM K))<|aq (ai 1) aD)) (hfr:=gD (b_ xN) δ) (te:=Mr K))
   (bx (cu (i:=3) xB.a O (ah O)<|iH aD)
   (bx (eU eL O (zW O a7.c<|aq bg<|aq bg aD) (ca (i:=4) xB.a O<|ar O)
    (bx (cu (i:=5) xB.a O (ah O) (eC ie O a7.a gN (aq (ff FX ["row","size"] [Z,V 4] (dy<|ai 0) (λg C a b m=>ca (i:=0) (dX ["row","size"]) O<|ah O)
     (λg C a b m=>mO<|dW nV (eC ie O a7.a gN<|aq (eX jf (ai 0) bg (λ_ _=>O)) aD) (ai 1)<|dI _) (λg C a b m=>ai 0) (hfr:=gD (b_ xN) δ) (tc:=xg K) (te:=bH 0)) aD)))
   <|bF<|nR<|mP oC ua vX rh (ai 3)<|aq (cg nU (cg nU (ai 5)<|eX lg (ai 2) (cg nU (ai 4) bg) (λ_ _=>O))<|eX lg (ai 2) (ai 4) (λ_ _=>O)) aD))
  <|bF<|cY<|ai 3)),?_)
  refine(1,7,O,(ξ,ξ,ξ,ξ),λy X=>eP<|WQ S ht T U hz hp X λH2 d s2 hn a0 z=>?_);refine(bU (by simp),λu q=>?_);have s3:=aF.q (o:=.a []) q;have a3:y≠u:=dJ z q;have G:H u=Z:=s2.M q;have r:∀j,j<6->d[j]?=V (d.getD j 0):=λj hj=>by
   rw[ul,dq ω];rfl
  have a4:=s2.j s3;refine(1,6,O,(ξ,ξ,ξ,ξ),wT (lo:=1) (n:=(6-1:Int).toNat) (λi σ v=>∃(v4 v5:Option ag),σ=[V<|.c l,V<|.d p,V<|.c y,V<|.c u,v4,v5]/\aF H v/\v y=V (.a<|d.map λn:Nat=>ag.d n)/\v u=V (.a<|((kG c λj=>d.getD j 0).take i).map ag.d))
   (Z,Z,O,a4,s3 _ _ z,ay) ?_ ?_)
  ·rintro i σ v hi ⟨v4,v5,rfl,x,I,e⟩
   have hi:i<5:=hi;refine(_,O,l,O,(_,x.N S),λD hD=>eP<|WJ (x.N S) (ht.j x) ω hD λH4 vs s4 a5 L=>?_);refine(D,_,O,.inl<|bP.j a5,?_);have t:=s4 _ _ I;have M:=s4 _ _ e;have a1:j_ (d.map λn:Nat=>ag.d n) (1+(i:Int)-1)=V (.d ((d.getD i 0:Nat):Int)):=by
    rw[show 1+(i:Int)-1=(i:Int) from ω];exact ge (by rw[cB,r i ω];rfl)
   have a2:j_ (d.map λn:Nat=>ag.d n) (1+(i:Int))=V (.d ((d.getD (i+1) 0:Nat):Int)):=by
    rw[show 1+(i:Int)=((i+1:Nat):Int) from ω];exact ge (by rw[cB,r (i+1) ω];rfl)
   have eh:(kG c λj=>d.getD j 0)[i]?=V (((kE c<|1+(i:Int)).length:Int)-((d.getD i 0:Nat):Int)-((d.getD (i+1) 0:Nat):Int)):=by
    unfold kG;rw[cB,qM hi]
    rfl
   refine(_,O,.inl (O,_,bP.j M),_,O,_,O,_,O,_,_,O,O,y,_,_,_,O,O,bP.j t,a1,_,_,O,O,_,O,_,O,y,_,_,_,O,O,bP.j t,a2,_,_,O,O,u,_,_,O,O,M,?_,?_)
   ·rw[ax,dR];exact gn ω
   refine(_,_,O,(x.j s4).F G,by rw[bG a3];exact t,?_);rw[ay,cq eh,bT,L]
   rfl
  ·rintro σ v ⟨v4,v5,rfl,x,I,e⟩
   rw[e_ (by unfold kG;rw[ax,mE];decide)] at e;exact(_,O,k u v (λj=>d.getD j 0) x G (λj hj=>a0 j _<|r j hj) e)
end
section
variable{κ:Type}[DecidableEq κ]
noncomputable def cb(C:List κ)(M:κ->κ->Int)(f:κ->Int):κ->Int:=bh (C.map f)<|C.map M
def oz(q:κ)(C:List κ)(M:κ->κ->Int)(f:κ->Int)(u:κ):cb (q::C) M f u=f q*M q u+cb C M f u:=O
def OP(C:List κ)(M:κ->κ->Int)(k:Int)(f g:κ->Int)(u:κ):cb C M (λq=>k*f q+g q) u=k*cb C M f u+cb C M g u:=by
 induction C with
 |nil=>show(0:Int)=k*0+0;omega
 |cons q C a=>rw[oz,oz,oz,a,QX,CW,IU];omega
def qx{C:List κ}{M:κ->κ->Int}{f:κ->Int}(h:∀q∈C,f q=0\/M q u=0):cb C M f u=0:=by
 induction C with
 |nil=>rfl
 |cons q C a=>
  rw[oz,a λr b=>h r<|.tail _ b];rcases h q (.head _) with e|e
  ·rw[e,nG];rfl
  ·rw[e,wl];rfl
def qy(C:List κ)(M:κ->κ->Int)(u:κ):∀(c:List Int)(b:List (κ->Int)),cb C M (bh c b) u=bh c (b.map<|cb C M) u
 |[],[]=>qx λq _=>.inl O
 |[],_::_=>qx λq _=>.inl O
 |_::_,[]=>qx λq _=>.inl O
 |a::c,v::b=>by
  show cb C M (λq=>a*v q+bh c b q) u=a*cb C M v u+bh c (b.map<|cb C M) u;rw[OP,qy C M u c b]
def BC(C:List κ)(M a:κ->κ->Int)(f:κ->Int)(u:κ):cb C M (cb C a f) u=cb C (λr=>cb C M<|a r) f u:=by
 rw[show cb C a f=bh (C.map f) (C.map a) from O,qy,cj];rfl
def OO{p:Int}{C:List κ}{M:κ->κ->Int}{f:κ->Int}(h:∀q∈C,p ∣ f q*M q u):p ∣ cb C M f u:=by
 induction C with
 |nil=>exact fw _
 |cons q C a=>exact mK (h q<|.head _)<|a λr b=>h r<|.tail _ b
def ON{p:Int}{C:List κ}{M:κ->κ->Int}{f:κ->Int}{u a:κ}(c:C.Nodup)(d:a∈C)(h:∀q∈C,q≠a->p ∣ f q*M q u):p ∣ cb C M f u-f a*M a u:=by
 induction C with
 |nil=>cases d
 |cons q C g=>
  rw[jA] at c;rw[oz]
  by_cases e:q=a
  ·subst e
   rw[show f q*M q u+cb C M f u-f q*M q u=cb C M f u from ω];exact OO λr b=>h r (.tail _ b) λe=>c.1<|e▸b
  ·have i:=g c.2 ((bZ.mp d).resolve_left<|eA e) λr b=>h r<|.tail _ b
   have:=mK (h q (.head _) e) i
   rwa [<-Int.add_sub_assoc] at this
def yh(C:List κ)(M:κ->κ->Int)(f g:κ->Int)(u:κ):cb C M (λq=>f q-g q) u=cb C M f u-cb C M g u:=by
 have:=OP C M (-1) g f u;rw[show(λq=>f q-g q)=λq=>-1*g q+f q from funext λq=>ω,this];omega
def GQ{C:List κ}{M N:κ->κ->Int}{f:κ->Int}{u a:κ}(c:C.Nodup)(g:a∈C)(h:∀r∈C,r≠a->f r=0\/M r u=N r u):cb C M f u-cb C N f u=f a*(M a u-N a u):=by
 have z:∀D:List κ,(∀r∈D,f r=0\/M r u=N r u)->cb D M f u-cb D N f u=0:=λD=>by
  induction D with
  |nil=>intro _;rfl
  |cons q D d=>
   intro h;have i:=d λr b=>h r<|.tail _ b;rw[oz,oz];rcases h q (.head _) with e|e
   ·rw[e,nG,nG];omega
   ·rw[e];omega
 induction C with
 |nil=>cases g
 |cons q C d=>
  rw[jA] at c;rw[oz,oz]
  by_cases e:q=a
  ·subst e
   have:=z C λr b=>h r (.tail _ b) λe=>c.1<|e▸b;rw[IS];omega
  ·have i:=d c.2 ((bZ.mp g).resolve_left<|eA e) λr b=>h r<|.tail _ b
   rcases h q (.head _) e with e|e
   ·rw[e,nG,nG];omega
   ·rw[e];omega
def OM{C:List κ}{M:κ->κ->Int}{f:κ->Int}{u a:κ}(b:C.Nodup)(c:a∈C)(h:∀r∈C,r≠a->f r=0):cb C M f u=f a*M a u:=by
 have:=GQ (M:=M) (N:=λ_ _=>0) (u:=u) b c λr d e=>.inl<|h r d e;rw[qx (M:=λ_ _=>0) λq _=>.inr O] at this;rw[uo,uo] at this;exact this
def aak{C:List κ}{M:κ->κ->Int}{f:κ->Int}(h:∀r∈C,f r=0\/eR p c (M r)):eR p c (cb C M f):=by
 induction C with
 |nil=>exact vL λu=>fw _
 |cons q C a=>
  have i:=a λr b=>h r<|.tail _ b;rcases h q (.head _) with e|e
  ·refine qw (λu=>?_) i
   rw[oz,e,nG,zi,wj];exact fw _
  ·exact tI e i
structure oB(C L:List κ)(Q:List (κ×κ))(bd E:κ->κ->Int)(sz:κ->Int):Prop where
 d:C.Nodup
 e:∀l∈L,l∈C
 m:∀x∈Q,x.1∈C
 a:∀x∈Q,x.2∈C
 all:∀q∈C,q∈L\/(∃x∈Q,x.1=q)\/(∃x∈Q,x.2=q)
 c:∀x∈Q,bd x.2 x.1=1\/bd x.2 x.1=-1
 h:Q.Pairwise λx y=>bd y.2 x.1=0
 b:∀q∈C,∀u,cb C bd (bd q) u=0
 f:∀q∈C,∀u,bd q u≠0->u∈C/\sz q=sz u+1
 g:∀l∈L,∀u,E l u=if u=l then 1 else 0
 k:∀x∈Q,∀u,E x.2 u=0
 i:∀x∈Q,∀u,cb C E (bd x.2) u=0
variable{C L:List κ}{Q:List (κ×κ)}{bd E:κ->κ->Int}{sz:κ->Int}
def oB.ind(m:oB C L Q bd E sz){Pr:κ->Prop}(g:∀l∈L,Pr l)(i:∀x∈Q,Pr x.2)(j:∀x∈Q,(∀r∈C,r≠x.1->bd x.2 r≠0->Pr r)->Pr x.1):∀q∈C,Pr q:=by
 have f:∀(T b:List (κ×κ)),Q=b++T->∀x∈T,Pr x.1:=by
  intro T
  induction T with
  |nil=>intro _ _ x c;cases c
  |cons y T k=>
   intro b e x c;have d:=k (b++[y]) (by rw[e,gd];rfl);rcases bZ.mp c with rfl|c
   ·refine j x (by rw[e];exact gh _<|.head _) λr n o p=>?_
    rcases m.all r n with h|⟨z,a,rfl⟩|⟨z,a,rfl⟩
    ·exact g _ h
    ·rw[e] at a
     rcases cy.mp a with a|a
     ·have t:=m.h
      rw[e,kQ] at t;exact bu (t.2.2 z a x<|.head _) p
     ·rcases bZ.mp a with rfl|a
      ·exact bu O o
      ·exact d z a
    ·exact i z a
   ·exact d x c
 intro q s;rcases m.all q s with h|⟨z,a,rfl⟩|⟨z,a,rfl⟩
 ·exact g _ h
 ·exact f Q [] O z a
 ·exact i z a
noncomputable abbrev jH(C:List κ)(bd E:κ->κ->Int)(l:κ):κ->Int:=cb C E<|bd l
noncomputable def oB.F(m:oB C L Q bd E sz):∀q∈C,∀n,cb C E (bd q) n=cb C (jH C bd E) (E q) n:=by
 refine m.ind (λl c n=>?_) (λx b n=>?_) λx b h n=>?_
 ·rw[OM (f:=E l) (a:=l) m.d (m.e l c) λr _ d=>by rw[m.g l c,ap d],m.g l c,az O,QS]
 ·rw[m.i x b,qx λq _=>.inl<|m.k x b q]
 ·have i:cb C (λr=>cb C E<|bd r) (bd x.2) n=0:=by
   rw[<-BC];exact qx λq _=>.inl<|m.b _ (m.a x b) q
  have j:cb C (λr=>cb C (jH C bd E)<|E r) (bd x.2) n=0:=by
   rw[<-BC];exact qx λq _=>.inl<|m.i x b q
  have:=GQ (M:=λr=>cb C E<|bd r) (N:=λr=>cb C (jH C bd E)<|E r) (f:=bd x.2) (u:=n) m.d (m.m x b) λr k d=>by
   by_cases g:bd x.2 r=0
   ·exact .inl g
   ·exact .inr<|h r k d g n
  rw[i,j] at this;rcases m.c x b with e|e
  ·rw[e] at this;omega
  ·rw[e] at this;omega
def oB.N(m:oB C L Q bd E sz){l:κ}(a:l∈C)(c:κ):cb C (jH C bd E) (jH C bd E l) c=0:=by
 have e:cb C (λr=>cb C (jH C bd E)<|E r) (bd l) c=cb C (λr=>cb C E<|bd r) (bd l) c:=by
  have:=GQ (M:=λr=>cb C (jH C bd E)<|E r) (N:=λr=>cb C E<|bd r) (f:=bd l) (u:=c) m.d a λr b _=>.inr (m.F r b c).symm;rw[m.F l a c,wj,wl] at this;omega
 rw[BC,e,<-BC];exact qx λq _=>.inl<|m.b l a q
def OI{p:Int}(b:2<=p){a w:Int}(hw:w=1\/w=-1)(h:p ∣ a*w):p ∣ a:=by
 rcases hw with e|e
 ·rwa [e,CV] at h
 ·rw[e,Int.mul_neg,CV] at h;exact zj.mp h
def oA:∀{c:List Int}{B:List (κ->Int)},(∀v∈B,v u=0)->bh c B u=0
 |[],[],_=>O
 |[],_::_,_=>O
 |_::_,[],_=>O
 |a::c,v::B,h=>by
  show a*v u+bh c B u=0;rw[h v<|.head _,oA λw b=>h w<|.tail _ b];omega
def OK{p:Int}(f:2<=p):∀{Q:List (κ×κ)},(∀x∈Q,bd x.2 x.1=1\/bd x.2 x.1=-1)->Q.Pairwise (λx y=>bd y.2 x.1=0)->tK p (Q.map λx=>bd x.2)
 |[],_,_,c,d,_=>by
  rw[nE d];intro x j;cases j
 |x::Q,g,e,c,d,h=>by
  cases c with
  |nil=>simp at d
  |cons a c=>
   rw[qK] at e;have z:bh c (Q.map λx=>bd x.2) x.1=0:=oA λv k=>by
    obtain⟨y,b,rfl⟩:=aP.mp k;exact e.1 y b
   have i:p ∣ a:=by
    have:=h x.1;rw[show bh (a::c) ((x::Q).map λx=>bd x.2) x.1=a*bd x.2 x.1+bh c (Q.map λx=>bd x.2) x.1 from O,z,QW] at this;exact OI f (g x<|.head _) this
   have l:=OK f (λy b=>g y<|.tail _ b) e.2 c (by simpa using d) λu=>by
    have:=mJ (h u)<|jX i<|qT a<|bd x.2 u
    rwa [show bh (a::c) ((x::Q).map λx=>bd x.2) u-a*bd x.2 u=bh c (Q.map λx=>bd x.2) u by show a*bd x.2 u+_-_=_;omega] at this
   intro y b;rcases bZ.mp b with rfl|b
   ·exact i
   ·exact l y b
def OQ:∀{Q:List (κ×κ)},(∀x∈Q,bd x.2 x.1=1\/bd x.2 x.1=-1)->Q.Pairwise (λx y=>bd y.2 x.1=0)->∀z:κ->Int,∃d:List Int,d.length=Q.length/\∀x∈Q,z x.1-bh d (Q.map λx=>bd x.2) x.1=0
 |[],_,_,z=>([],O,λx g=>nomatch g)
 |x::Q,f,b,z=>by
  rw[qK] at b;obtain⟨d,h,i⟩:=OQ (λy a=>f y<|.tail _ a) b.2 λu=>z u-z x.1*bd x.2 x.1*bd x.2 u;refine(z x.1*bd x.2 x.1::d,by rw[cO,cO,h],λy a=>?_);show z y.1-(z x.1*bd x.2 x.1*bd x.2 y.1+bh d (Q.map λx=>bd x.2) y.1)=0;rcases bZ.mp a with rfl|a
  ·rw[oA λv j=>by
    obtain⟨k,c,rfl⟩:=aP.mp j;exact b.1 k c]
   rcases f y (.head _) with e|e<;>rw[e]<;>omega
  ·have:=i y a
   omega
section
variable{p:Int}
noncomputable abbrev qz(Q:List (κ×κ))(sz:κ->Int)(s:Int):List (κ×κ):=Q.filter λx=>aC<|sz x.2=s
noncomputable abbrev ik(Q:List (κ×κ))(sz:κ->Int)(bd:κ->κ->Int)(s:Int):List (κ->Int):=(qz Q sz s).map λx=>bd x.2
noncomputable def oB.B(m:oB C L Q bd E sz){x:κ×κ}(a:x∈Q):sz x.2=sz x.1+1:=(m.f _ (m.a x a) x.1 (by rcases m.c x a with e|e<;>rw[e]<;>decide)).2
noncomputable def oB.j(m:oB C L Q bd E sz){v:κ->Int}(a:v∈ik Q sz bd s):∃x∈Q,sz x.2=s/\v=bd x.2:=by
 obtain⟨x,b,rfl⟩:=aP.mp a;obtain⟨c,d⟩:=fA.mp b;exact(x,c,io d,O)
def oB.J(m:oB C L Q bd E sz)(S:2<=p){s:Int}{z:κ->Int}(U:∀u,z u≠0->u∈C/\sz u+1=s)(X:∀u,p ∣ cb C E z u)(hd:∀u,p ∣ cb C bd z u):eR p (ik Q sz bd s) z:=by
 obtain⟨d,d1,d2⟩:=OQ (bd:=bd) (Q:=qz Q sz s) (λx a=>m.c x (fA.mp a).1) (m.h.sublist um) z;refine(d,by rw[d1,ax],?_)
 let b:κ->Int:=λu=>z u-bh d (ik Q sz bd s) u
 have n:∀u,b u=z u-bh d (ik Q sz bd s) u:=λ_=>O;have o:∀u,b u≠0->u∈C/\sz u+1=s:=λu c=>by
  by_cases h:z u=0
  ·by_cases H:∀v∈ik Q sz bd s,v u=0
   ·exact bu (by rw[n,h,oA H];rfl) c
   ·obtain⟨v,j⟩:=QZ.mp H
    obtain⟨j,r⟩:=QY.mp j;obtain⟨x,a,A,rfl⟩:=m.j j;have:=m.f _ (m.a x a) u r;exact(this.1,ω)
  ·exact U u h
 have eE:∀u,p ∣ cb C E b u:=λu=>by
  rw[show cb C E b u=cb C E z u-cb C E (bh d<|ik Q sz bd s) u from yh _ _ _ _ _,qy,oA λv j=>by
   obtain⟨w,g,rfl⟩:=aP.mp j;obtain⟨x,a,A,rfl⟩:=m.j g;exact m.i x a u,uo]
  exact X u
 have eD:∀u,p ∣ cb C bd b u:=λu=>by
  rw[show cb C bd b u=cb C bd z u-cb C bd (bh d<|ik Q sz bd s) u from yh _ _ _ _ _,qy,oA λv j=>by
   obtain⟨w,g,rfl⟩:=aP.mp j;obtain⟨x,a,A,rfl⟩:=m.j g;exact m.b _ (m.a x a) u,uo]
  exact hd u
 have D:∀x∈Q,b x.1=0:=λx a=>by
  by_cases A:sz x.2=s
  ·exact d2 x<|fA.mpr (a,cn A)
  ·by_cases c:b x.1=0
   ·exact c
   ·have:=o _ c
    have:=m.B a;omega
 have I:∀l∈L,p ∣ b l:=λl K=>by
  have k:cb C E b l-b l*E l l=0:=by
   have:=ON (p:=0) (M:=E) (f:=b) (u:=l) m.d (m.e l K) λq G r=>by
    rcases m.all q G with h|⟨x,a,rfl⟩|⟨x,a,rfl⟩
    ·rw[m.g q h,ap<|eA r,wl];exact fw _
    ·rw[D x a,nG];exact fw _
    ·rw[m.k x a,wl];exact fw _
   exact Int.zero_dvd.mp this
  rw[m.g l K,az O,CV] at k;have:=eE l
  rwa [show cb C E b l=b l from ω] at this
 have se:∀(T i:List (κ×κ)),Q=i++T->(∀x∈i,p ∣ b x.2)->∀x∈T,p ∣ b x.2:=by
  intro T
  induction T with
  |nil=>intro _ _ _ x a;cases a
  |cons y T ih=>
   intro i e P x a;have R:y∈Q:=by rw[e];exact gh _<|.head _
   have c:p ∣ b y.2:=by
    have:=ON (p:=p) (M:=bd) (f:=b) (u:=y.1) m.d (m.a y R) λq G r=>by
     rcases m.all q G with h|⟨x,a,rfl⟩|⟨x,a,rfl⟩
     ·exact jX (I q h)<|qT _ _
     ·rw[D x a,nG];exact fw _
     ·rw[e] at a
      rcases cy.mp a with a|a
      ·exact jX (P x a)<|qT _ _
      ·rcases bZ.mp a with rfl|a
       ·exact bu O r
       ·have t:=m.h
        rw[e,kQ,qK] at t;rw[t.2.1.1 x a,wl];exact fw _
    have:=mJ (eD y.1) this;rw[show cb C bd b y.1-(cb C bd b y.1-b y.2*bd y.2 y.1)=b y.2*bd y.2 y.1 from ω] at this;exact OI S (m.c y R) this
   rcases bZ.mp a with rfl|a
   ·exact c
   ·refine ih (i++[y]) (by rw[e,gd];rfl) (λw g=>?_) x a
    rcases cy.mp g with g|g
    ·exact P w g
    ·rw[cJ.mp g];exact c
 intro u;show p ∣ b u
 by_cases c:b u=0
 ·rw[c];exact fw _
 ·rcases m.all u (o u c).1 with h|⟨x,a,rfl⟩|⟨x,a,rfl⟩
  ·exact I u h
  ·rw[D x a];exact fw _
  ·exact se Q [] O (λx a=>nomatch a) x a
def GS(u:κ):∀(e:List Int)(f:List (κ->Int))(b:List Int)(d:List (κ->Int)),e.length=f.length->bh (e++b) (f++d) u=bh e f u+bh b d u
 |[],[],b,d,_=>by show bh b d u=0+_;omega
 |[],_::_,_,_,h=>by simp at h
 |_::_,[],_,_,h=>by simp at h
 |a::c,v::g,b,d,h=>by
  show a*v u+bh (c++b) (g++d) u=a*v u+bh c g u+_;rw[GS u c g b d (by simpa using h)];omega
def oB.lift(m:oB C L Q bd E sz){f:List κ}:∀{A:List (κ->Int)},(∀v∈A,eR p (f.map<|jH C bd E) v)->∃b:List (κ->Int),b.length=A.length/\(∀g∈b,∃d:List Int,g=bh d (f.map bd))/\∀c u,p ∣ bh c (b.map<|cb C E) u-bh c A u
 |[],_=>([],O,(λg i=>nomatch i),λc u=>by rw[CI,wj];exact fw _)
 |v::A,h=>by
  obtain⟨b,j,k,l⟩:=m.lift (A:=A) λw n=>h w<|.tail _ n;obtain⟨d,q,o⟩:=h v<|.head _;refine(bh d (f.map bd)::b,by rw[cO,cO,j],λg i=>?_,λc u=>?_)
  ·rcases bZ.mp i with rfl|i
   ·exact(d,O)
   ·exact k g i
  ·cases c with
   |nil=>show p ∣ (0:Int)-0;rw[wj];exact fw _
   |cons a c=>
    show p ∣ a*cb C E (bh d<|f.map bd) u+bh c (b.map<|cb C E) u-(a*v u+bh c A u);rw[qy,cj];have e:=jX (o u)<|ur a _;have:=mJ (l c u) e
    rwa [IS,show bh c (b.map<|cb C E) u-bh c A u-(a*v u-a*bh d (f.map<|jH C bd E) u)=a*bh d (f.map<|jH C bd E) u+bh c (b.map<|cb C E) u-(a*v u+bh c A u) from ω] at this
noncomputable abbrev jI(L:List κ)(sz:κ->Int)(s:Int):List κ:=L.filter λq=>aC<|sz q=s
def oy{L:List κ}{q:κ}:q∈jI L sz s↔q∈L/\sz q=s:=by
 unfold jI;rw[fA,iD]
def oB.M(m:oB C L Q bd E sz){p:Nat}(hp:2<=p){A A2:List (κ->Int)}(iA:tK p A)(a1:∀v∈A,eR p ((jI L sz s).map<|jH C bd E) v)(a2:∀l∈jI L sz s,eR p A (jH C bd E l))(S:tK p A2)(a3:∀v∈A2,eR p ((jI C sz s).map bd) v)(a4:∀q∈jI C sz s,eR p A2 (bd q)):A2.length=(qz Q sz s).length+A.length:=by
 have h2:(2:Int)<=p:=ω
 obtain⟨i,l1,l2,l3⟩:=m.lift a1;have T:∀l∈jI L sz s,l∈jI C sz s:=λl n=>by
  obtain⟨G,P⟩:=oy.mp n;exact oy.mpr (m.e l G,P)
 have H:∀(d:List Int)(u:κ),bh d ((jI L sz s).map bd) u≠0->u∈C/\sz u+1=s:=λd u y=>by
  by_cases z:∀v∈(jI L sz s).map bd,v u=0
  ·exact bu (oA z) y
  ·obtain⟨v,b⟩:=QZ.mp z
   obtain⟨b,I⟩:=QY.mp b;obtain⟨l,n,rfl⟩:=aP.mp b;obtain⟨G,P⟩:=oy.mp<|T l n;have:=m.f l G u I;exact(this.1,ω)
 have U:tK (p:Int) (ik Q sz bd s++i):=λc z hz=>by
  rw[ck] at z;have e:c=c.take (ik Q sz bd s).length++c.drop (ik Q sz bd s).length:=(pH _ _).symm;have R:(c.take (ik Q sz bd s).length).length=(ik Q sz bd s).length:=by rw[dR];omega
  have t2:(c.drop (ik Q sz bd s).length).length=A.length:=by rw[mG];omega
  generalize c.take (ik Q sz bd s).length=o at e R;generalize c.drop (ik Q sz bd s).length=j at e t2;subst e;have X:∀u,(p:Int) ∣ bh o (ik Q sz bd s) u+bh j i u:=λu=>by rw[<-GS u o _ j i R];exact hz u
  have z2:∀x∈j,(p:Int) ∣ x:=iA j t2 λu=>by
   have k:(p:Int) ∣ cb C E (bh (o++j)<|ik Q sz bd s++i) u:=OO λq _=>jX (hz q)<|qT _ _;rw[qy,bT,GS u o _ j _ (by rw[ax];exact R),oA (B:=(ik Q sz bd s).map<|cb C E) λv b=>by
    obtain⟨w,t,rfl⟩:=aP.mp b;obtain⟨x,g,D,rfl⟩:=m.j t;exact m.i x g u,zi] at k
   have:=mJ k<|l3 j u
   rwa [show bh j (i.map<|cb C E) u-(bh j (i.map<|cb C E) u-bh j A u)=bh j A u from ω] at this
  have zc:∀(c:List Int)(a5:List (κ->Int))(u:κ),(∀x∈c,(p:Int) ∣ x)->(p:Int) ∣ bh c a5 u:=λc=>by
   induction c with
   |nil=>intro a5 u _;cases a5<;>exact fw _
   |cons a c ih=>
    intro a5 u h;cases a5 with
    |nil=>exact fw _
    |cons v a5=>exact mK (jX (h a<|.head _)<|qT _ _)<|ih a5 u λx g=>h x<|.tail _ g
  have z1:=OK (bd:=bd) h2 (Q:=qz Q sz s) (λx g=>m.c x (fA.mp g).1) (m.h.sublist um) o R λu=>by
   have:=mJ (X u)<|zc j i u z2
   rwa [show bh o (ik Q sz bd s) u+bh j i u-bh j i u=bh o (ik Q sz bd s) u from ω] at this
  intro x g;rcases cy.mp g with g|g
  ·exact z1 x g
  ·exact z2 x g
 have K:∀q∈C,sz q=s->eR (p:Int) (ik Q sz bd s++i) (bd q):=by
  refine m.ind (λl n D=>?_) (λx g D=>?_) λx g ih D=>?_
  ·have a0:l∈jI L sz s:=oy.mpr (n,D)
   obtain⟨d,d1,d2⟩:=a2 l a0;have zA:∀v∈i,(∀u,v u≠0->u∈C/\sz u+1=s)/\∀u,cb C bd v u=0:=λv b=>by
    obtain⟨e,rfl⟩:=l2 v b;refine(H e,λu=>?_);rw[qy];exact oA λv b=>by
     obtain⟨w,t,rfl⟩:=aP.mp b;obtain⟨q,hq,rfl⟩:=aP.mp t;exact m.b q (oy.mp<|T q hq).1 u
   have k:eR (p:Int) (ik Q sz bd s) λu=>bd l u-bh d i u:=by
    refine m.J h2 (λu y=>?_) (λu=>?_) λu=>?_
    ·by_cases h:bd l u=0
     ·by_cases z:∀v∈i,v u=0
      ·rw[h,oA z] at y;exact bu O y
      ·obtain⟨v,b⟩:=QZ.mp z
       obtain⟨b,I⟩:=QY.mp b;exact(zA v b).1 u I
     ·have:=m.f l (m.e l n) u h
      exact(this.1,ω)
    ·rw[yh,qy]
     have:=mJ (d2 u)<|l3 d u
     rwa [show jH C bd E l u-bh d A u-(bh d (i.map<|cb C E) u-bh d A u)=cb C E (bd l) u-bh d (i.map<|cb C E) u by show cb C E (bd l) u-_-_=_;omega] at this
    ·rw[yh,qy,m.b l<|m.e l n,oA λv b=>by
      obtain⟨w,t,rfl⟩:=aP.mp b;exact(zA w t).2 u]
     exact fw _
   refine qw (λu=>?_)<|tI (k:=1) (yf k λv b=>pv<|fR _ b)<|yg d i λv b=>pv<|gh _ b;rw[show bd l u-(1*(bd l u-bh d i u)+bh d i u)=0 from ω];exact fw _
  ·exact pv<|fR _<|aP.mpr (x,fA.mpr (g,cn D),O)
  ·have q1:=m.B g
   have k:eR (p:Int) (ik Q sz bd s++i) (cb C bd λr=>if r=x.1 then 0 else bd x.2 r):=aak λr hr=>by
    by_cases e:r=x.1
    ·exact .inl<|az e
    ·by_cases y:bd x.2 r=0
     ·exact .inl (by rw[ap e,y])
     ·have:=m.f _ (m.a x g) r y
      exact .inr<|ih r hr e y ω
   refine qw (λu=>?_)<|tI (k:=-(bd x.2 x.1)) k<|vL (f:=λ_=>0) λ_=>fw _;have e:cb C bd (λr=>if r=x.1 then 0 else bd x.2 r) u=- (bd x.2 x.1*bd x.1 u):=by
    have:=OM (M:=bd) (f:=λr=>(bd x.2 r)-(if r=x.1 then 0 else bd x.2 r)) (u:=u) m.d (m.m x g) λr _ I=>by
     show bd x.2 r-(if r=x.1 then 0 else bd x.2 r)=0;rw[ap I];omega
    rw[yh,m.b _<|m.a x g] at this;simp only[dU] at this;rw[uo] at this;omega
   rw[e];rcases m.c x g with h|h<;>rw[h]<;>simp
 have G:=OV hp U (B:=A2) λv b=>by
  rcases cy.mp b with b|b
  ·obtain⟨x,g,D,rfl⟩:=m.j b
   exact a4 _<|oy.mpr (m.a x g,D)
  ·obtain⟨d,rfl⟩:=l2 v b
   exact yg d _ λw t=>by
    obtain⟨l,n,rfl⟩:=aP.mp t;exact a4 l<|T l n
 have P:=OV hp S (B:=ik Q sz bd s++i) λv b=>yf (a3 v b) λw t=>by
  obtain⟨q,hq,rfl⟩:=aP.mp t;obtain⟨o,j⟩:=oy.mp hq;exact K q o j
 rw[ck,ax,l1] at G P;omega
end
end
def Nc{c:Type}{g:c->Int}{l m:List c}(h:l.Perm m):(l.map g).sum=(m.map g).sum:=by
 induction h with
 |nil=>rfl
 |cons x _ d=>rw[cI,cI,jz,jz,d]
 |swap x y l=>rw[cI,cI,cI,cI,jz,jz,jz,jz];omega
 |trans _ _ a b=>exact a.trans b
def NL{a:Type}{g:a->Int}{S:a->Bool}:∀{C:List a},(∀q∈C,S q=aB->g q=0)->(C.map g).sum=((C.filter S).map g).sum
 |[],_=>O
 |q::C,z=>by
  have b:=NL (C:=C) λr c=>z r<|.tail _ c;cases h:S q with
  |true=>rw[pM h,cI,cI,jz,jz,b]
  |false=>rw[pN (by rw[h];decide),cI,jz,b,z q (.head _) h];omega
def MK{C S:Ξ}{g:List Int->Int}(a:C.Nodup)(b:S.Nodup)(h:∀s∈S,s∈C)(z:∀q∈C,q∉S->g q=0):(C.map g).sum=(S.map g).sum:=by
 rw[NL (S:=λq=>aC<|q∈S) λq c e=>z q c<|nM e];refine Nc<|(Ir (a.filter _) b).mpr λq=>?_;rw[fA,iD];exact(λx=>x.2,λx=>(h q x,x))
def NM(C:Ξ)(M:List Int->List Int->Int)(f:List Int->Int)(u:List Int):cb C M f u=(C.map λq=>f q*M q u).sum:=by
 induction C with
 |nil=>rfl
 |cons q C a=>rw[oz,a,cI,jz]
def EN{q u:List Int}(h:dL q u≠0):u∈cC q:=kU λz=>h<|Au z
def As{q y:List Int}(d:q.Nodup)(h:y∈cC q):dL q y=1\/dL q y=-1:=by
 have b:(aJ<|cX q 1).Nodup:=by rw[ve];exact xT d
 rw[<-ve q 1] at h;obtain⟨c,a,rfl⟩:=aP.mp h;unfold dL;rw[vb b,kH b c a];unfold cX at a;obtain⟨r,_,rfl⟩:=aP.mp a;show gG r.2 1=1\/gG r.2 1=-1;unfold gG;split
 ·exact .inl O
 ·exact .inr O
def FM{q r:List Int}(h:r∈cC q):(q.length:Int)=(r.length:Int)+1:=by
 obtain⟨a,k,b,rfl⟩:=Bt.mp h;rw[ck,dR,mG];omega
def Gg{C:Ξ}{q:List Int}(a:C.Nodup)(b:q.Nodup)(h:∀r∈cC q,r∈C)(M:List Int->List Int->Int)(u:List Int):cb C M (dL q) u=((cC q).map λr=>dL q r*M r u).sum:=by
 rw[NM];exact MK a (xT b) h λr _ c=>by rw[Au c,nG]
def Yr{q:List Int}(a:q.Nodup)(u:List Int):lp (cX q 1) u=((cC q).map λr=>dL q r*dL r u).sum:=by
 rw[ML a];unfold lp;rw[cj]
 rfl
def Mo:∀(n:Nat)(l:List aM),l.length=n->gz l->∃Q:List aM,Q.Perm l/\Q.Pairwise λx y=>i' y x=aB
 |0,l,h,_=>by rw[nE h];exact([],.nil,.nil)
 |n+1,l,h,a=>by
  obtain⟨x,c,g⟩:∃x∈l,∀y∈l,i' x y=aB:=kU λz=>by
   have:l=[]:=a l (λ_ h=>h) λx c=>kU λw=>z (x,c,λy b=>by
    cases e:i' x y with
    |false=>rfl
    |true=>exact bu (y,b,e) w)
   rw[this] at h;cases h
  have d:=List.perm_cons_erase c;obtain⟨Q,f,i⟩:=Mo n (l.erase x) (by have:=d.length_eq;rw[cO] at this;omega)<|tH a λy b=>ael b;refine(Q++[x],(aei x Q).trans<|(IM x f).trans d.symm,?_);rw[kQ];refine(i,aej _ _,λy b z j=>?_);rw[cJ.mp j];exact g y<|ael<|f.mem_iff.mp b
noncomputable abbrev gK(a:Ξ)(b:List aM):Ξ:=(bR a).filter λp=>!aC (p∈bW b)
def on{q:List Int}:q∈gK pss ps↔q∈bR pss/\q∉bW ps:=by
 unfold gK;rw[fA];simp
def xl{q:List Int}(h:q∈bW a):∃x∈a,x.1=q\/x.2=q:=by
 obtain⟨x,c,b⟩:=ki.mp h;simp only[bZ,pI,oM] at b;exact(x,c,b.imp df df)
def lZ(hw:ii a=af){q:List Int}(c:q∈bR a):q.length<=5/\q.Nodup/\q≠[]:=by
 obtain⟨d,e,_,b⟩:=nc.mp<|vI hw c;exact(e,b.imp λh z=>bu (z▸h) ω,d)
noncomputable abbrev ix(q:List Int):Int:=(q.length:Int)
def Yi(hw:ii a=af){d Q:List aM}(o:kc (bR a) d)(hR:vA (gK a d) d R)(p:Q.Perm d)(v:Q.Pairwise λx y=>i' y x=aB):oB (bR a) (gK a d) Q dL R ix:=by
 have w:=xW o.a;have g:∀x,x∈Q↔x∈d:=λx=>p.mem_iff;have f:∀x∈Q,x.2∈bR a/\x.1∈cC x.2:=λx b=>o.has x<|(g x).mp b;refine(pn a,λl j=>(on.mp j).1,λx b=>lY hw (f x b).1 (f x b).2,λx b=>(f x b).1,λq c=>?_,λx b=>As (lZ hw (f x b).1).2.1 (f x b).2,?_,λq c u=>?_,λq c u h=>?_,λl j u=>?_,λx b u=>hR.a x ((g x).mp b) u,λx b u=>?_)
 ·by_cases e:q∈bW d
  ·obtain⟨x,b,e⟩:=xl e
   exact .inr<|e.imp (λe=>(x,(g x).mpr b,e)) λe=>(x,(g x).mpr b,e)
  ·exact .inl<|on.mpr (c,e)
 ·have k:(Q.map (·.1)).Nodup:=(p.map _).nodup_iff.mpr w
  unfold bD at k;rw[jK] at k;refine(v.and k).imp λ{x y} h=>Au λz=>?_;have:i' y x=af:=tF.mpr (h.2,z);rw[h.1] at this;cases this
 ·rw[Gg (pn a) (lZ hw c).2.1 λr m=>lY hw c m,<-Yr (lZ hw c).2.1]
  exact Za u q (lZ hw c).1
 ·exact(lY hw c<|EN h,FM<|EN h)
 ·rw[hR.b l j]
  by_cases e:u=l
  ·rw[az e,az e.symm]
  ·rw[ap e,ap λz=>e z.symm]
 ·obtain⟨i,s⟩:=f x b
  rw[Gg (pn a) (lZ hw i).2.1 λr m=>lY hw i m];have t:=xT (lZ hw i).2.1;have A:(cC x.2).Perm (x.1::iw x):=(Ir t<|jA.mpr (λz=>(qi.mp z).2 O,t.filter _)).mpr λr=>by
   rw[bZ,qi]
   by_cases e:r=x.1
   ·subst e;simp[s]
   ·simp[e]
  rw[Nc A,cI,jz,hR.c x<|(g x).mp b];have C:dL x.2 x.1*dL x.2 x.1=1:=by rcases As (lZ hw i).2.1 s with e|e<;>rw[e]<;>rfl
  have n:∀l:Ξ,dL x.2 x.1*(l.map λr=>mQ x r*R r u).sum+(l.map λr=>dL x.2 r*R r u).sum=0:=λl=>by
   induction l with
   |nil=>simp
   |cons r l D=>
    rw[cI,cI,jz,jz,CW];have e:dL x.2 x.1*(mQ x r*R r u)=- (dL x.2 r*R r u):=by
     show dL x.2 x.1*(-(dL x.2 r)*dL x.2 x.1*R r u)=_;rw[show dL x.2 x.1*(-(dL x.2 r)*dL x.2 x.1*R r u)=(dL x.2 x.1*dL x.2 x.1)*(-(dL x.2 r)*R r u) by
      rw[Int.mul_comm (-(dL x.2 r))<|dL x.2 x.1,IU,IU]]
     rw[C,QS,afa]
    omega
  exact n<|iw x
def VY(hw:ii a=af){x:List Int×aG}(b:x.1∈bR a)(t:vy R x)(e:List Int):aZ x.2 e=jH (bR a) dL R x.1 e:=by
 rw[<-vb t.a,t.b];exact(Gg (pn a) (lZ hw b).2.1 (λr c=>lY hw b c) R e).symm
def Gz{a:Type}{g:a->Int}{B:Nat}:∀{l:List a},(∀x∈l,(g x).natAbs<=B)->((l.map g).sum).natAbs<=l.length*B
 |[],_=>by simp
 |x::l,h=>by
  have c:=Gz (l:=l) λy b=>h y<|.tail _ b;have d:=h x<|.head _;rw[cI,jz,cO,Nat.succ_mul];have:=Int.natAbs_add_le (g x) (l.map g).sum;omega
def Xr(n:Nat):1<=5 ^ n:=by
 induction n with
 |zero=>exact aW _
 |succ n a=>rw[CD];omega
def FA{q r:List Int}(a:q.Nodup):(lX q r).natAbs<=1:=by
 by_cases h:r∈cC q
 ·rcases As a h with e|e
  ·rw[show lX q r=1 from e];decide
  ·rw[show lX q r=-1 from e];decide
 ·rw[show lX q r=0 from Au h];decide
def FY{a b:Int}{e:Nat}(c:a.natAbs<=1)(d:b.natAbs<=e):(a*b).natAbs<=e:=by
 rw[Int.natAbs_mul];have:=Nat.mul_le_mul c d;omega
def NK{a n:Nat}(h:a<=5):a*5 ^ n<=5 ^ (n+1):=by
 rw[CD,Qs (5 ^ n) 5];exact Nat.mul_le_mul_right _ h
def MV{q:List Int}(h:q.length<=5):(cC q).length<=5:=dg (m_ q) h
section
variable{pss:Ξ}{ps Q:List aM}{R:List Int->List Int->Int}
def Xb(hw:ii pss=af)(A:kc (bR pss) ps)(hR:vA (gK pss ps) ps R)(l:Q.Perm ps)(C:Q.Pairwise λx y=>i' y x=aB)(e:List Int):∀q∈bR pss,(R q e).natAbs<=5 ^ Q.length:=by
 have p:∀q∈gK pss ps,∀n:Nat,(R q e).natAbs<=5 ^ n:=λq m n=>by
  rw[hR.b q m];have:=Xr n;split<;>simp<;>omega
 have o:∀(T c:List aM),Q=c++T->∀x∈T,(R x.1 e).natAbs<=5 ^ T.length:=by
  intro T
  induction T with
  |nil=>intro _ _ x d;cases d
  |cons y T D=>
   intro c k x d;have f:=D (c++[y]) (by rw[k,gd];rfl);rcases bZ.mp d with rfl|d
   ·have g:x∈ps:=l.mem_iff.mp (by rw[k];exact gh _<|.head _)
    obtain⟨s,K⟩:=A.has x g;obtain⟨E,u,_⟩:=lZ hw s;rw[hR.c x g];have G:(iw x).length<=5:=dg (pJ _ _)<|MV E;refine dg (Gz (B:=5 ^ T.length) λr H=>?_)<|NK G;obtain⟨v,w⟩:=qi.mp H;refine FY (FY (by rw[Int.natAbs_neg];exact FA u)<|FA u) ?_
    by_cases h:r∈bW ps
    ·obtain⟨z,i,b|b⟩:=xl h
     ·have j:z∈Q:=l.mem_iff.mpr i
      rw[k] at j;have I:i' x z=af:=tF.mpr (by rw[b];exact w,by rw[b];exact v);rcases cy.mp j with a|a
      ·have t:=C
       rw[k,kQ] at t;have:=t.2.2 z a x<|.head _;rw[I] at this;cases this
      ·rcases bZ.mp a with rfl|a
       ·exact bu b.symm w
       ·rw[<-b];exact f z a
     ·rw[<-b,hR.a z i];exact eM _
    ·exact p r (on.mpr (lY hw s v,h)) _
   ·rw[cO]
    exact dg (f x d)<|HZ ξ<|oI _
 intro q m
 by_cases h:q∈bW ps
 ·obtain⟨z,i,b|b⟩:=xl h
  ·rw[<-b];exact o Q [] O z<|l.mem_iff.mpr i
  ·rw[<-b,hR.a z i];exact eM _
 ·exact p q (on.mpr (m,h)) _
structure jG(pss:Ξ)(ps:List aM)(R:List Int->List Int->Int)(xs:List (List Int×aG)):Prop where
 hw:ii pss=af
 b:kc (bR pss) ps
 hR:vA (gK pss ps) ps R
 c:ps.length<=100
 all:xs.map (·.1)=gK pss ps
 a:∀x∈xs,vy R x/\x.2.length<=200
variable{xs:List (List Int×aG)}
noncomputable def jG.j(t:jG pss ps R xs){x:List Int×aG}(a:x∈xs):x.1∈bR pss/\x.1∉bW ps:=by
 have:x.1∈gK pss ps:=by rw[<-t.all];exact aP.mpr (x,a,O)
 exact on.mp this
def jG.J(t:jG pss ps R xs){q:List Int}(h:q∈gK pss ps):∃x∈xs,x.1=q:=by
 rw[<-t.all] at h;exact aP.mp h
noncomputable def jG.F(t:jG pss ps R xs):(xs.map (·.1)).Nodup:=by rw[t.all];exact(pn pss).filter _
noncomputable def jG.B(t:jG pss ps R xs):∃Q:List aM,Q.Perm ps/\(Q.Pairwise λx y=>i' y x=aB)/\oB (bR pss) (gK pss ps) Q dL R ix:=by
 obtain⟨Q,a,b⟩:=Mo _ ps O t.b.b;exact(Q,a,b,Yi t.hw t.b t.hR a b)
def jG.q(t:jG pss ps R xs){x:List Int×aG}(a:x∈xs)(e:List Int):aZ x.2 e=jH (bR pss) dL R x.1 e:=VY t.hw (t.j a).1 (t.a x a).1 e
def jG.bd(t:jG pss ps R xs){x:List Int×aG}(a:x∈xs){c:List Int×Int}(h:c∈x.2):c.2.natAbs<2 ^ 1000:=by
 obtain⟨Q,d,i,m⟩:=t.B;have e:=(t.a x a).1.a;obtain⟨j,k,_⟩:=lZ t.hw (t.j a).1;rw[<-kH e c h,<-vb e,(t.a x a).1.b];have b:=Gz (l:=cC x.1) (g:=λr=>lX x.1 r*R r c.1) (B:=5 ^ Q.length) λr o=>FY (FA k)<|Xb t.hw t.b t.hR d i _ r<|lY t.hw (t.j a).1 o;have u:Q.length<=100:=by rw[d.length_eq];exact t.c
 have p:=dg b<|NK (n:=Q.length)<|MV j;have f:5 ^ (Q.length+1)<=8 ^ (Q.length+1):=Nat.pow_le_pow_left ξ _;have q:(8:Nat) ^ (Q.length+1)=2 ^ (3*(Q.length+1)):=by rw[Nat.pow_mul]
 have s:(2:Nat) ^ (3*(Q.length+1))<2 ^ 1000:=Nat.pow_lt_pow_right ξ ω;rw[q] at f;exact Ih (dg p f) s
def jG.M(t:jG pss ps R xs){x:List Int×aG}(a:x∈xs){q:List Int}(p:q∈aJ x.2):q∈gK pss ps:=by
 obtain⟨c,g,rfl⟩:=aP.mp p;obtain⟨Q,i,w,m⟩:=t.B;have j:aZ x.2 c.1≠0:=by rw[kH (t.a x a).1.a c g];exact(t.a x a).1.c c g
 rw[t.q a] at j;have:∃r∈bR pss,R r c.1≠0:=kU λz=>j<|qx λr b=>.inr<|kU λy=>z (r,b,y);obtain⟨r,b,s⟩:=this;exact kU λz=>s (m.ind (Pr:=λr=>R r c.1=0) (λl k=>by
  rw[t.hR.b l k,ap λe=>z (by rw[<-e];exact k)]) (λx a=>t.hR.a x (i.mem_iff.mp a) _) (λx a f=>by
  have d:=i.mem_iff.mp a;rw[t.hR.c x d];have u:∀l:Ξ,(∀r∈l,R r c.1=0)->(l.map λr=>mQ x r*R r c.1).sum=0:=λl=>by
   induction l with
   |nil=>intro _;rfl
   |cons r l f=>intro h;rw[cI,jz,f λr b=>h r<|.tail _ b,h r<|.head _];simp
  refine u _ λr b=>?_;obtain⟨n,v⟩:=qi.mp b;obtain⟨o,A⟩:=t.b.has x d;exact f r (lY t.hw o n) v (by rcases As (lZ t.hw o).2.1 n with e|e<;>rw[e]<;>decide)) r b)
noncomputable def o_(xs:List (List Int×aG))(q:List Int):aG:=match xs.find? λx=>aC<|x.1=q with|some x=>x.2|none=>[]
def MT{xs:List (List Int×aG)}(b:(xs.map (·.1)).Nodup){x:List Int×aG}(a:x∈xs):o_ xs x.1=x.2:=by
 unfold o_;cases e:xs.find? λy=>aC<|y.1=x.1 with
 |none=>exact bu (cn O)<|IE.mp e x a
 |some y=>rw[FV b (Iu e) a (by have:=QG e;simpa using this)]
noncomputable abbrev oj(n:Int)(c:aG):aG:=c.map λt=>(abd t.1 (n*t.2))
noncomputable abbrev oZ(xs:List (List Int×aG))(c:aG):aG:=c.flatMap λt=>oj t.2<|o_ xs t.1
def jG.A1(t:jG pss ps R xs){x:List Int×aG}(a:x∈xs)(e:List Int):eH (oZ xs x.2) e=0:=by
 obtain⟨Q,r,s,m⟩:=t.B;have d:=m.N (t.j a).1 e;rw[NM] at d;have i:=(t.a x a).1.a;have j:∀q∈aJ x.2,q∈gK pss ps:=λq b=>t.M a b;rw[MK (S:=aJ x.2) (pn pss) i (λq b=>(on.mp<|j q b).1) λq _ b=>by
  rw[<-t.q a,rE b,nG]] at d
 rw[<-d];have f:∀c:aG,(∀y∈c,y∈x.2)->eH (oZ xs c) e=((aJ c).map λq=>jH (bR pss) dL R x.1 q*jH (bR pss) dL R q e).sum:=λc=>by
  induction c with
  |nil=>intro _;rfl
  |cons y c n=>
   intro h;have k:=h y<|.head _;obtain⟨z,g,l⟩:=t.J<|j y.1<|aP.mpr (y,k,O);have o:o_ xs y.1=z.2:=by rw[<-l];exact MT t.F g
   show eH (oj y.2 (o_ xs y.1)++oZ xs c) e=((y.1::aJ c).map _).sum;rw[EL,n λw p=>h w<|.tail _ p,cI,jz,EK,o,vb (t.a z g).1.a,t.q g,l,<-t.q a y.1,kH i y k]
 exact f x.2 λ_ h=>h
noncomputable abbrev mR(pss:Ξ):lq:=(bR pss).map λq=>(abd q (rz q))
def xV{a b:Type}{f:a->b}{S:b->Bool}{T:a->Bool}:∀{l:List a},(∀x∈l,S (f x)=T x)->((l.map f).filter S).length=(l.filter T).length
 |[],_=>O
 |x::l,h=>by
  have c:=xV (l:=l) λy g=>h y<|.tail _ g;have d:=h x<|.head _;rw[cI];cases e:T x with
  |true=>rw[pM (p:=T) e,pM (p:=S) (by rw[d,e]),cO,cO,c]
  |false=>rw[pN (p:=T) (by rw[e];decide),pN (p:=S) (by rw[d,e];decide),c]
def jG.S(t:jG pss ps R xs):(bR pss).Perm (gK pss ps++bW ps):=by
 refine(Ir (pn pss) ?_).mpr λq=>?_
 ·rw[iS]
  exact((pn pss).filter _,t.b.a,λa d b f e=>(on.mp d).2<|e▸f)
 ·rw[cy,on]
  constructor
  ·intro h
   by_cases e:q∈bW ps
   ·exact .inr e
   ·exact .inl (h,e)
  ·rintro(h|h)
   ·exact h.1
   ·obtain⟨x,c,e|e⟩:=xl h
    ·rw[<-e];exact lY t.hw (t.b.has x c).1 (t.b.has x c).2
    ·rw[<-e];exact(t.b.has x c).1
def jG.A4(t:jG pss ps R xs){Q:List aM}(e:Q.Perm ps)(s:Int):(jI (bR pss) ix s).length=(jI (gK pss ps) ix s).length+(qz Q ix s).length+(qz Q ix<|s+1).length:=by
 have p:=((t.S.trans<|IN _<|xj ps).filter λq=>aC<|ix q=s).length_eq;rw[kT,kT,ck,ck,xV (f:=λx:aM=>x.1) (T:=λx=>aC<|ix x.2=s+1) λx g=>by
  have:=FM (t.b.has x g).2;rw[decide_eq_decide];show(x.1.length:Int)=s↔(x.2.length:Int)=s+1;omega,xV (f:=λx:aM=>x.2) (T:=λx=>aC<|ix x.2=s) λx g=>O] at p
 have a:(qz Q ix s).length=(ps.filter λx=>aC<|ix x.2=s).length:=(e.filter _).length_eq;have b:(qz Q ix<|s+1).length=(ps.filter λx=>aC<|ix x.2=s+1).length:=(e.filter _).length_eq;have c:(jI (bR pss) ix s).length=((bR pss).filter λq=>aC<|ix q=s).length:=O;have d:(jI (gK pss ps) ix s).length=((gK pss ps).filter λq=>aC<|ix q=s).length:=O;rw[a,b,c,d,p];omega
def jG.A2(t:jG pss ps R xs):jT (gK pss ps)=jT (bR pss):=by
 rw[ZI t.S,ZJ];have a:∀l:List aM,(∀x∈l,x.1∈cC x.2)->jT (bW l)=0:=λl=>by
  induction l with
  |nil=>intro _;rfl
  |cons x l b=>
   intro h;show jT (x.1::x.2::bW l)=0;rw[qt,qt,b λy c=>h y<|.tail _ c];have:=FM<|h x<|.head _;unfold ow;omega
 rw[a ps λx d=>(t.b.has x d).2];omega
def Wb(s:Int):(kE (mR pss) s).length=(jI (bR pss) ix s).length:=xV λq _=>O
def jG.A0(t:jG pss ps R xs)(s:Int):(kE xs s).length=(jI (gK pss ps) ix s).length:=by
 rw[<-t.all];exact(xV (f:=λx:List Int×aG=>x.1) (S:=λq=>aC<|ix q=s) (T:=λx=>aC<|(x.1.length:Int)=s) λq _=>O).symm
def jG.N(t:jG pss ps R xs){Q:List aM}(m:oB (bR pss) (gK pss ps) Q dL R ix)(z:ql p){n k:Nat}(G:qo p (mR pss) s n)(H:qo p xs s k):n=(qz Q ix s).length+k:=by
 obtain⟨U,A,I,K,L,rfl⟩:=H;obtain⟨U2,A2,g,M,S,rfl⟩:=G;have P:=z.j.1;have C:∀x,x∈kE xs s↔x∈xs/\(x.1.length:Int)=s:=λx=>by
  unfold kE;rw[fA,iD]
 have D:∀x∈xs,aZ x.2=jH (bR pss) dL R x.1:=λx h=>funext λe=>t.q h e;have E:∀q:List Int,aZ (rz q)=dL q:=λq=>funext λe=>MM q e;obtain⟨b,rfl⟩:∃b:Nat,p=(b:Int):=by rcases z with rfl|rfl|rfl|rfl<;>exact(_,O)
 have T:2<=b:=by have:=P.d;omega
 have:=m.M (s:=s) (A:=A.map (·.2)) (A2:=A2.map (·.2)) T (I.ind P) (λv a=>?_) (λl X=>?_) (g.ind P) (λv a=>?_) λq i=>?_
 ·rw[ax,ax] at this
  exact this
 ·obtain⟨r,j,rfl⟩:=aP.mp a
  refine yf (K r j) λv a=>pv ?_;obtain⟨c,o,rfl⟩:=aP.mp a;obtain⟨x,d,rfl⟩:=aP.mp o;obtain⟨f,u⟩:=(C x).mp d;exact aP.mpr (x.1,oy.mpr (on.mpr<|t.j f,u),(D x f).symm)
 ·obtain⟨w,y⟩:=oy.mp X
  obtain⟨x,f,rfl⟩:=t.J w;rw[<-D x f];exact L _<|aP.mpr (x.2,aP.mpr (x,(C x).mpr (f,y),O),O)
 ·obtain⟨r,j,rfl⟩:=aP.mp a
  refine yf (M r j) λv a=>pv ?_;obtain⟨c,o,rfl⟩:=aP.mp a;obtain⟨x,d,rfl⟩:=aP.mp o;obtain⟨f,u⟩:=fA.mp d;obtain⟨q,i,rfl⟩:=aP.mp f;exact aP.mpr (q,oy.mpr (i,io u),(E q).symm)
 ·obtain⟨w,y⟩:=oy.mp i
  rw[<-E q];exact S _<|aP.mpr (rz q,aP.mpr ((abd q (rz q)),fA.mpr (aP.mpr (q,w,O),cn y),O),O)
def jG.W(t:jG pss ps R xs)(f:ql p){g h:Nat->Nat}(i:∀j:Nat,j<6->qo p (mR pss) (1+(j:Int)) (g j))(d:∀j:Nat,j<6->qo p xs (1+(j:Int)) (h j)):kG xs h=kG (mR pss) g:=by
 obtain⟨Q,l,n,m⟩:=t.B;unfold kG;refine kj λj k=>?_;have k:=gB.mp k;have a:=t.N m f (i j ω)<|d j ω;have b:=t.N m f (i (j+1) ω)<|d (j+1) ω;have c:=t.A4 l<|1+(j:Int);have e:(1+((j+1:Nat):Int))=1+(j:Int)+1:=ω
 rw[e] at b;rw[Wb,t.A0];omega
def jG.A3(t:jG pss ps R xs)(d:ql p){g:Nat->Nat}(f:∀j:Nat,j<6->qo p (mR pss) (1+(j:Int)) (g j)){b:Nat->Nat}(c:∀j:Nat,j<6->qo p xs (1+(j:Int)) (b j)){j:Nat}(h:j<5)(a:(kG (mR pss) g)[j]?=V v):¬(((gK pss ps).filter λq=>aC<|(q.length:Int)=1+(j:Int)).length:Int)<v:=by
 rw[<-t.W d f c] at a;unfold kG at a;rw[cB,qM h] at a;have a:((kE xs<|1+(j:Int)).length:Int)-(b j:Int)-(b (j+1):Int)=v:=cH a;have:=t.A0<|1+(j:Int);have e:((gK pss ps).filter λq=>aC<|(q.length:Int)=1+(j:Int)).length=(jI (gK pss ps) ix<|1+(j:Int)).length:=O;rw[e];omega
end
noncomputable abbrev AS:cN:=eI 52
noncomputable def FR:Ξ:=[[0],[0,1],[0,2],[0,3],[0,1,2],[0,1,3],[0,2,3],[0,1,2,3]]
noncomputable def sY(f:Int):Ξ:=(cV 21).flatMap λi:Nat=>FR.map λo=>o.map λx=>f+(i:Int)+x
def VU(f:Int):(sY f).length=168:=by
 unfold sY;rw[List.length_flatMap];have:((cV 21).map λi:Nat=>(FR.map λo=>o.map λx=>f+(i:Int)+x).length)=(cV 21).map λ_=>8:=kj λi _=>by rw[ax];rfl
 rw[this];rfl
def Xo:∀y∈cG [0,1,2,3],∃h:Fin 4,∃o∈FR,y=o.map λx=>(h.1:Int)+x:=δ
noncomputable def iv(b:Nat)(a:Int)(k:Nat):List Int:=(cV b).map λj:Nat=>a+(k:Int)+(j:Int)
def WO{a k:Nat}(l:a<=4)(m:k<=17){x:List Int}(d:x≠[])(c:x.Sublist (iv a f k)):x∈sY f:=by
 have e:iv a f k=((cV a).map λj:Nat=>(j:Int)).map λj=>f+(k:Int)+j:=by unfold iv;rw[cj];rfl
 rw[e] at c;obtain⟨y,g,rfl⟩:=aed.mp c;have b:y.Sublist [0,1,2,3]:=by
  refine g.trans ?_;have:[(0:Int),1,2,3]=((cV 4).map λj:Nat=>(j:Int)):=O;rw[this];refine IJ _ ?_;have:cV 4=cV a++(cV<|4-a).map (a+·):=by rw[<-List.range_add];congr 1;omega
  rw[this];exact aee _ _
 obtain⟨h,o,i,rfl⟩:=Xo y<|po.mpr (λz=>d (by rw[z];rfl),b);refine ki.mpr (k+h.1,gB.mpr ω,aP.mpr (o,i,?_));rw[cj];refine kj λx _=>?_;show f+((k+h.1:Nat):Int)+x=f+(k:Int)+((h.1:Int)+x);omega
def x_(d:Ξ):Prop:=∃(b c:Nat)(a:Int),8<=b/\b<=17/\(c=3\/c=4)/\0<=a/\a<40/\
 (d=(cV b).map (iv c a)\/d=(cV b).map (iv c a)++[[a,a+b+c-2]])
def WM{a k:Nat}{f:Int}(d:a=3\/a=4)(e:k<=17)(g:0<=f)(i:f<40):jS (iv a f k)=af:=by
 refine nc.mpr (λz=>?_,?_,λy b=>?_,?_)
 ·have:=eW ao z
  unfold iv at this;simp at this;omega
 ·unfold iv;simp;omega
 ·obtain⟨j,c,rfl⟩:=aP.mp b
  have:=gB.mp c;omega
 ·unfold iv
  rw[jK];exact aek.imp λh=>ω
def Yp{j:Ξ}(h:x_ j):∃(f:Int)(c:List Int),0<=f/\f<40/\(∃d:Nat,d<11/\c=[f,f+9+(d:Int)])/\(∀p∈j,jS p=af)/\j.length<=18/\∀x∈bR j,x∈sY f++[c]:=by
 obtain⟨a,b,f,D,E,v,s,u,h⟩:=h;have l:∀p∈(cV a).map (iv b f),jS p=af/\∀x:List Int,x≠[]->x.Sublist p->x∈sY f:=λp m=>by
  obtain⟨k,w,rfl⟩:=aP.mp m;have:=gB.mp w;exact(WM v ω s u,λx n e=>WO ω ω n e)
 have z:f+(a:Int)+b-2=f+9+((a+b-11:Nat):Int):=ω
 refine(f,[f,f+9+((a+b-11:Nat):Int)],s,u,(a+b-11,ω,O),?_);have q:∀i:Nat,i<21->[f+(i:Int)]∈sY f:=λi A=>ki.mpr (i,gB.mpr A,aP.mpr ([0],ξ,by show [f+(i:Int)+0]=_;rw[QW]));have r:∀x:List Int,x≠[]->x.Sublist [f,f+(a:Int)+b-2]->x∈sY f++[[f,f+9+((a+b-11:Nat):Int)]]:=λx n e=>by
  cases e with
  |cons _ e=>
   cases e with
   |cons _ e=>cases e;exact bu O n
   |cons_cons _ e=>
    cases e;refine fR _ ?_;have:=q (a+b-2) ω
    rwa [show f+((a+b-2:Nat):Int)=f+(a:Int)+b-2 from ω] at this
  |cons_cons _ e=>
   cases e with
   |cons _ e=>
    cases e;refine fR _ ?_;have:=q 0 ω
    rwa [show f+((0:Nat):Int)=f from ω] at this
   |cons_cons _ e=>
    cases e;rw[z];exact gh _<|.head _
 rcases h with rfl|rfl
 ·refine(λp m=>(l p m).1,by rw[ax,mE];omega,λx e=>?_)
  obtain⟨n,t,o,g⟩:=vG.mp e;exact fR _<|(l t o).2 x n g
 ·refine(λp m=>?_,by rw[ck,ax,mE];simp;omega,λx e=>?_)
  ·rcases cy.mp m with m|m
   ·exact(l p m).1
   ·rw[cJ.mp m]
    refine nc.mpr (by simp,by simp,λy C=>?_,?_)
    ·simp only[bZ,pI,oM] at C
     omega
    ·simp
     omega
  ·obtain⟨n,t,o,g⟩:=vG.mp e
   rcases cy.mp o with o|o
   ·exact fR _<|(l t o).2 x n g
   ·rw[cJ.mp o] at g
    exact r x n g
def Nx(h:x_ a):(∀p∈a,jS p=af)/\a.length<=18/\(bR a).length<=200:=by
 obtain⟨f,c,i,j,⟨d,k,rfl⟩,b,e,g⟩:=Yp h;refine(b,e,?_);have:=(pn a).length_le_of_subset g;rw[ck,VU] at this;simp at this;omega
noncomputable abbrev Ni:List au:=["box","many","size","first","found"]
abbrev EO:a_:=eB (jN λi j=>.d<|i+j) (eB (jN λi j=>.d<|i+j) (bH 1)<|bH 2)<|bH 0
section
variable{P:bw}{w:aX}{K:aR}{mg:au->Option aa}{base:aT}
def WP{f:ae}{b:Nat}{k0:Nat}{l:Int}(o:l=(k0:Int)){Q:aS}(q:b<=10)(m:f D=Z)(k:∀(c:ae),aF f c->c D=V (.a<|(iv b a k0).map ag.d)->Q (.c D) c):dY (kB 0 b) (dk 0) gC EO [Z,V<|.d a,V<|.d l] f D Q:=by
 subst o;refine uW (λj h g c=>∃v,h=[v,V<|.d a,V<|.d (k0:Int)]/\aF f c/\c D=V (.a g)/\g=((iv b a k0).take j).map ag.d) ?_ ?_ ?_
 ·exact(Z,O,aF.q m,ay,O)
 ·rintro j h g c n p ⟨v,rfl,i,d,rfl⟩
  refine iX ?_;refine(_,O,_,O,_,_,O,O,_,O,_,_,O,O,fz (bU ω) n p d (_,O,i.F m,ay,?_));have e:(iv b a k0)[j]?=V (a+(k0:Int)+(0+(j:Int))):=by unfold iv;rw[cB,qM n,zi];rfl
  rw[cq e,bT];rfl
 ·rintro h g c ⟨v,rfl,i,d,rfl⟩
  rw[e_ (by unfold iv;simp)] at d;exact k c i d
abbrev MC(K:aR):a_:=oU (λb H Q=>∃p a,b=[ag.c p]/\((bP K H p a/\∀l,H l=Z->Q (.c l) (aw H l<|.b a))\/(fM K H p a/\Q (.c p) H)))<|dE (oS (Lc<|dE (bH 2) fI) [Z,V 1,V 0] (dk 0) gC EO) fI
def Yn{h:ae}{c b:Nat}{Q:aS}(E:c<=20)(w:b<=10)(s:h D=Z)(k:∀(d:ae)(f:List Y),aF h d->d D=V (.a<|f.map ag.c)->bC d f ((cV c).map<|iv b a)->Q (.c D) d):dY (kB 0 c) (dk 0) gC (MC K) [Z,V<|.d a,V<|.d (b:Int)] h D Q:=by
 refine uW (λj n i d=>∃(v:Option ag)(f:List Y),n=[v,V<|.d a,V<|.d (b:Int)]/\aF h d/\d D=V (.a i)/\i=f.map ag.c/\bC d f (((cV c).map<|iv b a).take j)) ?_ ?_ ?_
 ·exact(Z,[],O,aF.q s,ay,O,.nil)
 ·rintro j n i d u x ⟨v,f,rfl,p,g,rfl,l⟩
  have e:((cV c).map<|iv b a)[j]?=V (iv b a j):=by rw[cB,qM u];rfl
  refine iX ?_;refine(_,O,_,O,ω,ω,λy q=>eP ?_);rw[su];refine WP (k0:=j) ω w q λG A r=>(y,_,O,.inl (bP.j r,λt C=>?_));have m:=A.j<|aF.q (o:=.b<|(iv b a j).map ag.d) C;refine fz (bU ω) u x (m _ _ g) (_,f++[t],O,(p.j m).F s,ay,by rw[bT];rfl,?_);rw[cq e];exact kb (bC.B (m.J l) ay) (m _ _ g) (by intro H z;cases z)
 ·rintro n i d ⟨v,f,rfl,p,g,rfl,l⟩
  rw[e_ (by simp)] at l;exact k d f p g l
inductive Fd(vs:List ag)(H:ae)(Q:aS)(E':cZ):Prop
 |a:∀p,(vs=[.c p])->(fO H p)->(∀D bs qss H',iL p H H'->fO H' p->H D=Z->H' D=V (.a<|bs.map ag.c)->bC H' bs qss->x_ qss->Q (.c D) H')->Fd vs H Q E'
def xx:dK Ni ["box"] (b_ AS):=(O,O,O,δ,O,δ,δ)
def XM(F:bN K "_law_long" "_law_long" AS f fd)(b3:eY mg)(R:fF P w K mg base bv "_law_take" ["box","most"] 1 rx):bO P w K mg base bv 2 f fd ["box"] Fd:=by
 refine F.j xx (λvs H Q E h=>?_) (λb2 A X s H vs Q E S h=>?_)
 ·obtain⟨p,rfl,_⟩:=h;rfl
 ·obtain⟨p,rfl,hb,k⟩:=h
  refine(_,bx (cu (i:=1) xx.a O (ah O)<|cg iW bg<|jo R S O cv<|aq (ai 0)<|aq bg aD)
   (bx (cu (i:=2) xx.a O (ar O)<|cg iW bg<|jo R S O cv<|aq (ai 0)<|aq bg aD)
   (bx (cu (i:=3) xx.a O (ar O)<|jo R S O cv<|aq (ai 0)<|aq bg aD)
   (bx (Kz (i:=4) xx.a O (ah O) Ni ["k","first","size"] [Z,V 3,V 2] (sF O b3.c<|aq (ai 1) aD) (λu C c d v=>ca (i:=0) (dX ["k","first","size"]) O<|ar O) (λu C c d v=>gX)
     (λu C c d v=>fg Ah O b3.d Bj (aq (ff ["k","first","size"] ["j","first","k"] [Z,V 1,V 0] (sF O b3.c<|aq (ai 2) aD) (λu C c d v=>ca (i:=0) (dX ["j","first","k"]) O<|ah O) (λu C c d v=>gX)
      (λu C c d v=>cg iW (cg iW (ai 1)<|ai 2)<|ai 0) (hfr:=Lf O δ) (te:=EO)) aD)) (hfr:=gD (b_ AS) δ) (te:=MC K))
   (bx (fJ (dW nV (jo R S O cv<|aq (ai 0)<|aq bg aD) bg<|dI _)
    (bF<|nR<|mP oC ua vX rh (ai 4)<|aq (iG<|aq (ai 3)<|aq (cg nU (cg iW (cg iW (ai 3)<|ai 1)<|ai 2) bg) aD) aD) fV)
  <|bF<|cY<|ai 4)))),?_)
  refine(_,O,p,10,O,hb,ξ,ξ,λr1 H1 a0 a1 a2 a3=>(_,_,O,O,?_));refine(_,O,p,2,O,a3,ξ,ξ,λr2 H2 b0 b1 a4 a5=>(_,_,O,O,?_));refine(_,O,p,40,O,a5,ξ,ξ,λa H3 c0 c1 a6 j=>?_);have g:=(a2.j a4).j a6;obtain⟨m,rfl⟩:=QU a0;obtain⟨z,rfl⟩:=QU b0;have e8:(8:Int)+(m:Int)=((m+8:Nat):Int):=ω
  have e3:(3:Int)+(z:Int)=((z+3:Nat):Int):=ω
  simp only[e8,e3];refine(_,O,_,O,ω,ω,λD hD=>eP ?_);rw[su];refine Yn ω ω hD λH4 bs T x y=>?_;have q:H D=Z:=g.F hb j hD;have a7:=y.j;rw[ax,mE] at a7;refine(_,O,p,2,O,j.j T,ξ,ξ,λr H5 r0 r1 l G=>(O,_,O,?_));have I:D≠p:=(j.j T).q x;have L:iL p H H4:=λb o a8 e=>T _ _<|g b o a8 e;have n:=l _ _ I x;have M:=l.B (j.j T) y;refine nW (λe=>?_) (λe=>(_,O,k D bs _ H5 (L.j l) G q n M (m+8,z+3,a,ω,ω,ω,c0,c1,.inl O)));refine(_,O,.inl (O,_,bP.j n),_,O,_,O,_,O,_,_,O,O,_,O,_,_,O,O,_,_,O,O,bU (by simp),λt ht=>(D,_,_,O,O,(aF.q ht) _ _ n,by rw[ax];exact gn ω,?_));have U:=aF.q (o:=.b [.d a,.d<|a+((m+8:Nat):Int)+((z+3:Nat):Int)-2]) ht;have a9:=U.J M;refine(_,O,k D (bs++[t]) _ _ ((L.j l).j (iL.J U)|>.q q) ((G.j U).F I) q (by rw[ay,bT];rfl) (kb (bC.B a9<|show cM _ t [a,a+((m+8:Nat):Int)+((z+3:Nat):Int)-2] from ay) (U _ _ n) (by intro xs z;cases z)) (m+8,z+3,a,ω,ω,ω,c0,c1,.inr O))
end
section
variable{X:bf}
inductive Kq(K:aR)(x:ag)(y:ag)(H:ae)(Q:aS):Prop
 |a:∀l m ns ms,(x=.c l)->(y=.c m)->(bP K H l<|am ag.d ns)->(bP K H m<|am ag.d ms)->(Q (.e<|!aC (ns=ms)) H)->Kq K x y H Q
def Up(d:X.A.units+64<c_):fE X (iz .NotEq) (Kq X.K):=by
 intro c s o H x y v u Q I f g h;obtain⟨l,m,a,b,rfl,rfl,i,j,q⟩:=h;cases f;cases g;obtain⟨_,k⟩:=Kh I i;obtain⟨_,n⟩:=Kh I j;refine HQ k n (Kc _) (Kc _) d (yF (.list .int) O _ _ (Le _)<|Le _) ?_;have e:nt (.list<|a.map gQ) (.list<|b.map gQ)=aC (a=b):=by simp only[nt];exact Hq a b
 rw[e];exact(.e _,H,I,O,q)
end
def Na{t:Y}(d:iL p H g)(f:fO H p)(h:ig H t x):ig g t x:=by
 obtain⟨a,b,e,i,c⟩:=h;exact(a,b,d _ _ (f.J e) e,d _ _ (f.J i) i,d _ _ (f.J c) c)
def Xk{b:List Y}(d:iL p H a)(e:fO H p)(h:dm H b c):dm a b c:=gf h λ_ _ q=>Na d e q
def YN{a:List (List aV×ag)}(h:(a.map (·.1)).Nodup):wU a=a:=by
 have d:∀(a b:List (List aV×ag)),((b++a).map (·.1)).Nodup->a.foldl (λb c=>fB b c.1 c.2) b=b++a:=by
  intro a
  induction a with
  |nil=>intro b _;simp
  |cons c r f=>
   intro b h;have g:fy b c.1=Z:=by
    cases e:fy b c.1 with
    |none=>rfl
    |some v=>
     rw[bT,iS] at h;exact bu O<|h.2.2 c.1 (SW e) c.1 (by simp)
   rw[qO,DY _ g,f _ (by rw[gd];exact h),gd]
   rfl
 exact d a [] h
def Yq(h:x_ c):c.Nodup:=by
 obtain⟨d,g,f,o,p,q,r,s,h⟩:=h;have j:((cV d).map<|iv g f).Nodup:=by
  unfold bD;rw[jK];refine y_.imp λ{a b} i e=>i ?_;have:=eW (λl:List Int=>l[0]?) e;unfold iv at this;simp only[cB] at this;rw[qM ω] at this;simp at this;omega
 rcases h with rfl|rfl
 ·exact j
 ·rw[iS]
  refine(j,by simp,λa m b n e=>?_);obtain⟨k,_,rfl⟩:=aP.mp m;rw[cJ.mp n] at e;have:=eW ao e;unfold iv at this;simp at this;omega
def Yo(h:x_ a):lW a/\(bR a).length<=200:=by
 obtain⟨c,d,b⟩:=Nx h;exact((Oa ω (Yq h) c (by rw[<-qu];exact b),ω),b)
def Zt(i j:Int):Prop:=∃m n:Nat,i.natAbs<2 ^ m/\j.natAbs<2 ^ n/\m+n<=134217728
section
variable{X:bf}
def Xq:fE X (pF .Mult) (kZ Zt λi j=>.d<|i*j):=wO λi j _ _ _ _ _ a q=>by
 obtain⟨m,n,b,c,d⟩:=a;exact mul_int q<|IntMulOk.of_le (intBits_le_iff.mpr b) (intBits_le_iff.mpr c) d
end
def Wj{b c:List aM}(h:b.Sublist c):(bW b).Sublist (bW c):=by
 induction h with
 |slnil=>exact .slnil
 |cons x h a=>exact(a.cons x.2).cons x.1
 |cons_cons x h a=>exact(a.cons_cons x.2).cons_cons x.1
def Xm{b:Ξ}{c d:List aM}(h:c.Sublist d)(g:kc b d):kc b c:=(λx a=>g.has x<|h.subset a,g.a.sublist<|Wj h,tH g.b λx a=>h.subset a)
abbrev Mv:eG:=mN<|eB (jN λi j=>.e<|aC<|j<i) (sE rx [] sR<|dE (bH 1)<|dE (gW<|.d 4) fI)<|gW<|.d 0
noncomputable abbrev tB(a:List (Y×Y))(b:List (List Int×aG)):ou:=(a.zip b).map λz=>(abd z.1.2 z.2)
def Mh:∀{a:List (Y×Y)}{c:List (List Int×aG)},mY H a c->g_ (tB a c)=c/\du (λt(e:List aV×ag)=>∃b,H t=V (.b [.c b,e.2])/\H b=V (.b<|e.1.map dr)) (a.map (·.1)) (jt<|tB a c)/\∀h∈tB a c,H h.1=V (.c<|bI h.2.2)
 |_,_,.nil=>(O,.nil,λh z=>nomatch z)
 |_,_,.cons (b,f,g,i) t=>by
  obtain⟨j,k,l⟩:=Mh t;refine(eW (_::·) j,.cons (b,f,fY g) k,λh d=>?_);rcases bZ.mp d with rfl|d
  ·exact i
  ·exact l h d
def VT{b:List (List Int×aG)}(e:g_ a=b){x:List Int×aG}(c:x∈b):∃h∈a,h.2=x:=by
 rw[<-e] at c;exact aP.mp c
abbrev My(K:aR):a_:=eB (jN λi j=>.d<|i-j) (gW<|.d 1)<|eB (kZ rt λi j=>.d<|i*j) (gW<|.d 2)<|eB AZ (eB (jN λi j=>.d<|i-j) (oU (A_ K)<|dE (bH 0) fI)<|gW<|.d 1)<|gW<|.d 2
section
variable{P:bw}{w:aX}{K:aR}{mg:au->Option aa}{base:aT}
def YV{i:ae}{y:List Y}{Q:aS}(A:fO i p)(M:i L=V (.a<|y.map ag.c))(P:dm i y a)(hz:a.length<=1000)(C:i D=Z)(k:∀b d e,iL p i b->fO b p->b D=V (.a<|d.map ag.c)->dm b d e->e.Sublist a->Q (.c D) b):dY (gY K L) (dk 0) Mv (bH 0) [Z,V<|.c p] i D Q:=by
 have E:=fP P;have U:L≠p:=A.q M;refine jh (xs:=y.map ag.c) (λj u o b=>∃(v:Option ag)(d:List Y)(e:List aM),u=[v,V<|.c p]/\iL p i b/\fO b p/\b D=V (.a o)/\o=d.map ag.c/\dm b d e/\e.Sublist (a.take j)) ?_ ?_ ?_ ?_
 ·exact(Z,[],[],O,iL.J<|aF.q C,A.j<|aF.q C,ay,O,.nil,Qz _)
 ·rintro j u o b ⟨v,d,e,rfl,q,c,f,rfl,w,n⟩
  exact bP.j<|q _ _ U M
 ·rintro j u o b x X R S ⟨v,d,e,rfl,q,c,f,rfl,w,n⟩
  obtain⟨t,T,rfl⟩:=dM X;have hi:j<a.length:=by have:=(cr.mp T).1;omega
  have G:a[j]?=V a[j]:=dq hi;have H:=pW P j _ _ T G;refine(_,O,p,4,O,c,ξ,ξ,λr H6 _ _ l m=>(_,_,O,O,_,O,?_));have g:=q.j l;have h:=l _ _ (c.q f) f;have s:=Xk l c w;have I:D≠p:=m.q h;refine nW (λ_=>(_,O,fz (by rw[ax];exact bU ω) R S h (_,d++[t],e++[a[j]],O,g.q C,m.F I,ay,by rw[bT];rfl,?_,?_))) (λ_=>qd R S (_,d,e,O,g,m,h,O,s,?_))
  ·exact ot (tZ s<|Na g A H) h (by intro xs z;cases z)
  ·rw[cq G]
   exact n.append<|CQ _
  ·rw[cq G]
   exact n.trans<|aee _ _
 ·rintro u o b ⟨v,d,e,rfl,q,c,f,rfl,w,n⟩
  rw[ax,E,fN] at n;exact k b d e q c f w n
def VQ{b:ae}{p:List Y}{Q:aS}(r:b L=V (.a<|p.map ag.c))(s:bC b p (aJ f))(t:b d=V (.c<|bI f))(u:(aJ f).Nodup)(w:∀c∈f,c.2=0)(x:b D=Z)(k:∀(a:ae),aF b a->a D=V (.a [])->Q (.c D) a):dY (gY K L) (dk 0) xh (bH 0) [Z,V<|.c d] b D Q:=by
 refine jh (xs:=p.map ag.c) (λj n m a=>∃(v:Option ag),n=[v,V<|.c d]/\aF b a/\a D=V (.a m)/\m=[]) ?_ ?_ ?_ ?_
 ·exact(Z,O,aF.q x,ay,O)
 ·rintro j n m a ⟨v,rfl,g,_⟩
  exact bP.j<|g _ _ r
 ·rintro j n m a v y z A ⟨H,rfl,g,i,rfl⟩
  obtain⟨o,C,rfl⟩:=dM y;obtain⟨e,l,E⟩:=s.q C;unfold aJ at l;rw[cB] at l;obtain⟨c,G,rfl⟩:∃c,f[j]?=V c/\c.1=e:=by
   cases h:f[j]? with
   |none=>rw[h] at l;cases l
   |some c=>rw[h] at l;exact(c,O,cH l)
  have q:=dp G;refine(_,O,_,O,d,.d c.2,O,.inr (bI f,c.1.map aQ,o,.inl<|g _ _ t,O,fY<|g.B E,(oh u c q).symm),O,_,O,?_);rw[w c q];exact eF<|qd z A (_,O,g,i,O)
 ·rintro n m a ⟨v,rfl,g,i,rfl⟩
  exact k a g i
def Wp{i:List Y}{Q:aS}(o:bP K d L (i.map ag.c))(m:bC d i g)(y:g.length<=1000)(n:d D=Z)(k:∀c,aF d c->c D=V (.a<|(g.map ow).map ag.d)->Q (.c D) c):dY (gY K L) (dk 0) gC (My K) [Z] d D Q:=by
 have l:=m.j;refine jh (xs:=i.map ag.c) (λj h f c=>∃v:Option ag,h=[v]/\aF d c/\c D=V (.a f)/\f=((g.take j).map ow).map ag.d) ?_ ?_ ?_ ?_
 ·exact(Z,O,aF.q n,ay,O)
 ·rintro j h f c ⟨v,rfl,e,b,rfl⟩
  exact e.N o
 ·rintro j h f c x p r s ⟨v,rfl,e,b,rfl⟩
  obtain⟨a,t,rfl⟩:=dM p;obtain⟨q,u,w⟩:=m.q t;refine iX ?_;refine(_,O,a,_,O,.inr<|fM.j<|e.B w,_,_,O,O,_,_,O,O,(by show(0:Int)<2;decide),_,_,O,O,.inl (ξ,ξ),_,_,O,O,fz (by rw[ax];exact bU ω) r s b (_,O,e.F n,ay,?_));rw[cq u,bT,bT]
  congr 1
  show [ag.d<|1-2*((((q.map ag.d).length:Int)-1)%2)]=[ag.d<|ow q];unfold ow;rw[ax]
  congr 2
  omega
 ·rintro h f c ⟨v,rfl,e,b,rfl⟩
  rw[ax,l,fN] at b;exact k c e b
end
noncomputable abbrev kF:cN:=eI 53
noncomputable abbrev qh:List au:=["script","box","web","known","pairs","thin","under","piece","chain","twice","one","end","whole","left","prime","gaps","size"]
def jF:dK qh ["script"] (b_ kF):=(O,O,O,δ,O,δ,δ)
def AF(K:aR):lj:=λc H Q _=>∃(a:Y)(b:List Int),c=[.c a]/\bP K H a (b.map ag.d)/\b.length<=63/\∀d,Q (.e af) d
abbrev V_(K:aR):eG:=mN<|eB wJ (oU (A_ K)<|dE (bH 0) fI)<|bH 1
def WN{a:List (List Int×aG)}(h:∀x∈a,x.2.length<=200)(q:List Int):(o_ a q).length<=200:=by
 unfold o_;cases e:a.find? λy=>aC<|y.1=q with
 |none=>exact eM _
 |some y=>exact h y<|Iu e
def Mi{a:List (List Int×aG)}(h:∀x∈a,x.2.length<=200):∀c:aG,(oZ a c).length<=200*c.length
 |[]=>aW _
 |y::c=>by
  have b:=Mi h c;have:=WN h y.1;show(oj y.2 (o_ a y.1)++oZ a c).length<=_;rw[ck,ax,cO];omega
def WG(h:mY H a c):l_ H (a.map (·.1)) c:=by
 induction h with
 |nil=>exact .nil
 |cons r t d=>
  obtain⟨b,e,f,g⟩:=r;exact .cons (b,_,e,f,g) d
def MU(a:List (Y×Y)):a.map rC=(a.map (·.1)).map ag.c:=by rw[cj];rfl
section
variable{P:bw}{w:aX}{K:aR}{mg:au->Option aa}{base:aT}{f:Y}{fd:cS}{cdv:aa}{A:bY}{outer:List gb}{s:ak}{H:ae}{E:cZ}{Q:aS}
def WW(hr:eQ 12 (A.deeper<|oF "law" (b_ kF) s⁻¹ f cdv))(e1:eY mg)(b5:mg "sum"=Z)(Cb:fF P w K mg base bv "balance" ["web"] 10 (vm K))(Co:fF P w K mg base bv "left_over" ["web","pairs"] 10 (ti K))(Ch:fF P w K mg base bv "_law_holes" ["rows","prime"] 2 (vl K)):∃tr,ka (qc bv P w K mg base qh "law" (b_ kF) f cdv A outer s H E).F (nF 9<|oX kF) tr/\
   ∀(a p e2 KN PD TH U WH:Y)(os ts ws:List Y)(rs:List (Y×Y))(b:Ξ)(ps:List aM)(R:List Int->List Int->Int)(xs:List (List Int×aG))(v7 v8 v9 M S:Option ag)(G:ae),G e2=V (.a<|os.map ag.c)->bC G os b->lW b->(bR b).length<=200->G PD=V (.a<|ts.map ag.c)->dm G ts ps->jG b ps R xs->G TH=V (.a<|rs.map rC)->mY G rs xs->G WH=V (.a<|ws.map ag.c)->l_ G ws (mR b)->(∀H',Q (.e af) H')->
    tr {a:=λ_ H'=>Q .g H',d:=Q} [V<|.c a,V<|.c p,V<|.c e2,V<|.c KN,V<|.c PD,V<|.c TH,V<|.c U,v7,v8,v9,M,S,V<|.c WH,Z,Z,Z,Z] G:=by
 have hu:=jP hr;have a8:=hr.units;refine(_,bx (cu (i:=13) jF.a O (ah O)<|jo Co hr O cv<|aq (fg sM O e1.b iK<|aq (ai 2) aD)<|aq (fg sM O e1.b iK<|aq (ai 4) aD) aD)
  (bx (eU eL O (dy<|iH<|aq bg<|aq bg aD) (ca (i:=14) jF.a O<|ah O)
   (bx (cu (i:=15) jF.a O (ah O)<|jo Ch hr O cv<|aq (ai 12)<|aq (ai 14) aD)
   (bx (fJ (dW (Up a8) (jo Ch hr O cv<|aq (ai 5)<|aq (ai 14) aD) (ai 15)<|dI _) (bF<|cY kr) fV)
   (bF (eU eL O (zW O e1.c<|aq bg<|aq bg aD) (ca (i:=16) jF.a O<|ar O)
    (bF (fJ (dW wN (eC ie O e1.a gN (aq (ff qh ["piece","size"] [Z,V 16] (dy<|ai 13) (λcl C d h ex=>ca (i:=0) (dX ["piece","size"]) O<|ah O)
     (λcl C d h ex=>mO<|dW nV (eC ie O e1.a gN<|aq (ai 0) aD) (ai 1)<|dI _) (λcl C d h ex=>ai 0) (hfr:=gD (b_ kF) δ) (tc:=V_ K) (te:=bH 0)) aD)) (eX lg (ai 15) (cg nU (ai 16) bg) (λ_ _=>O))<|dI _) (bF<|cY kr) fV)))))))
  (bF (cY (wL nV (eC (Eo O) O b5 Gw (aq (ff qh ["piece"] [Z] (dy<|ai 13) (λcl C d h ex=>ca (i:=0) (dX ["piece"]) O<|ah O) (λcl C d h ex=>gX)
    (λcl C d h ex=>cg nU bg<|cg lR bg<|cg lf (cg nU (eC ie O e1.a gN<|aq (ai 0) aD) bg) bg) (hfr:=pY δ) (te:=My K)) aD)) (jo Cb hr O cv<|aq (fg sM O e1.b iK<|aq (ai 2) aD) aD)<|dI _)))),?_)
 intro a p e2 KN PD TH U WH os ts ws rs b ps R xs v7 v8 v9 M S G hO ho a2 a9 hP hp t b6 b0 b7 b8 k;have hw:=a2.1;have d6:=fP b0;have d7:xs.length<=200:=by
  have e:=eW ao t.all;rw[ax] at e;have:(gK b ps).length<=(bR b).length:=pJ _ _;omega
 refine(_,O,e2,_,O,.inl<|bP.j hO,λL1 b9=>?_);have s1:=aF.q (o:=.a<|os.map ag.c) b9;refine(_,O,PD,_,O,.inl<|bP.j<|s1 _ _ hP,λL2 c0=>?_);have s2:=aF.q (o:=.a<|ts.map ag.c) c0;have a3:=s1.j s2;refine(L1,L2,os,b,ts,ps,O,bP.j<|s2 _ _ ay,a3.J ho,a2,bP.j ay,hp.j a3,t.b,t.c,λLF H3 bs s3 d3 c1 b1=>?_);have c2:=a3.j s3;have d8:((bR b).filter λp=>!aC (p∈bW ps)).length<=200:=dg (pJ _ _) a9;have d9:=b1.j;refine(bU (by simp),λPL c3=>?_);have s4:=aF.q (o:=.a [.d 2,.d 3]) c3;have a4:=c2.j s4;have u:=ay (H:=H3) (a:=PL) (o:=.a [.d 2,.d 3]);have l:=s4 _ _ c1;have v:=s4.J b1;generalize aw H3 PL (.a [.d 2,.d 3])=H4 at s4 a4 u l v;refine(PL,O,(_,bP.j u),iI (K:=K) (a:=PL) (xs:=[.d 2,.d 3]) (λi σ H5=>∃(a5 a6 m:Option ag),σ=[V<|.c a,V<|.c p,V<|.c e2,V<|.c KN,V<|.c PD,V<|.c TH,V<|.c U,v7,v8,v9,M,S,V<|.c WH,V<|.c LF,a5,a6,m]/\aF H4 H5)
  (Z,Z,Z,O,aF.S _) (λi σ H5 _ (_,_,_,_,T)=>bP.j<|T _ _ u) ?_ ?_)
 ·rintro i x σ H5 hx ⟨a5,a6,m,rfl,T⟩
  obtain⟨pr,rfl,X⟩:∃pr:Int,x=.d pr/\ql pr:=by
   match i,hx with
   |0,hx=>exact(2,(cH hx).symm,.inl O)
   |1,hx=>exact(3,(cH hx).symm,.inr<|.inl O)
   |n+2,hx=>simp at hx
  have y:=a4.j T;refine(_,O,_,O,WH,ws,mR b,pr,O,bP.j<|y _ _ b7,b8.j y,λc I=>?_,(bR b,ω,λc I q hq=>?_),?_,X,λGA H6 g s6 d4 hg c4=>?_)
  ·obtain⟨q,hq,rfl⟩:=aP.mp I
   exact Ax _
  ·obtain⟨r,c5,rfl⟩:=aP.mp I
   have hq:q∈aJ (rz r):=hq;have h0:dL r q≠0:=by
    rw[<-MM r q];obtain⟨c,I,rfl⟩:=aP.mp hq;show aZ (rz r) c.1≠0;rw[kH (Ax _) c I];exact(MJ I).1
   exact lY hw c5<|EN h0
  ·rw[ax];omega
  have z:=y.j s6;refine(_,O,_,O,TH,rs.map (·.1),xs,pr,O,bP.j (by rw[<-MU];exact z _ _ b6),(WG b0).j z,λc I=>(t.a c I).1.a,(bR b,ω,λc I q hq=>(on.mp<|t.M I hq).1),ω,X,λGB H7 g' s7 d5 b2 c6=>?_);have a0:=s7 _ _ c4;refine(_,O,GB,GA,_,_,O,O,bP.j c6,bP.j a0,_,O,?_);rw[t.W X hg b2,cn O];have c7:=s6.j s7;have b3:=T.j c7;refine eF (1,6,O,(ξ,ξ,ξ,ξ),wT (lo:=1) (n:=(6-1:Int).toNat) (λj σ H8=>∃(m:Option ag),σ=[V<|.c a,V<|.c p,V<|.c e2,V<|.c KN,V<|.c PD,V<|.c TH,V<|.c U,v7,v8,v9,M,S,V<|.c WH,V<|.c LF,V<|.d pr,V<|.c GA,m]/\aF H7 H8) (_,O,aF.S _) ?_ ?_)
  ·rintro j σ H8 hj ⟨m,rfl,s8⟩
   have hj:j<5:=hj;have a7:=b3.j s8;refine(_,O,LF,O,(_,bP.j<|a7 _ _ l),λD hD=>eP<|FB (p:=λq=>aC<|(q.length:Int)=1+(j:Int)) (λo q H' R' e0 c8 _ hR=>(_,O,o,_,O,.inr<|fM.j c8,_,O,O,_,O,?_)) (bP.j<|a7 _ _ l) (a7.J v) ω hD λH9 cs s9 c9 d0=>?_)
   ·rw[show aC (ag.d ((q.map ag.d).length:Int)=ag.d (1+(j:Int)))=aC ((q.length:Int)=1+(j:Int)) from by
     rw[decide_eq_decide,ax];exact(λe=>by injection e,λe=>by rw[e])]
    exact hR H'<|aF.S _
   ·have d1:=d0.j
    have b4:=s9 _ _<|s8 _ _ a0;have eh:(kG (mR b) g)[j]?=V ((kG (mR b) g).getD j 0):=by
     rw[ul,dq (by unfold kG;rw[ax,mE];exact hj)]
     rfl
    have a1:j_ ((kG (mR b) g).map ag.d) (1+(j:Int)-1)=V (.d<|(kG (mR b) g).getD j 0):=by
     rw[show 1+(j:Int)-1=(j:Int) from ω];exact ge (by rw[cB,eh];rfl)
    have lw:=t.A3 X hg b2 hj eh;refine(D,_,O,.inl<|bP.j c9,_,O,_,O,_,_,O,O,GA,_,_,_,O,O,bP.j b4,a1,_,_,O,O,_,O,?_);rw[ax,d1,cK lw];exact eF (_,O,s8.j s9)
  ·rintro σ H8 ⟨m,rfl,s8⟩
   exact(_,_,_,O,b3.j s8)
 ·rintro σ H5 ⟨a5,a6,m,rfl,T⟩
  have y:=a4.j T;refine(_,O,LF,O,(_,bP.j<|T _ _ l),λD hD=>eP<|Wp (bP.j<|T _ _ l) (T.J v) ω hD λH6 s6 d2=>?_);refine(D,_,O,bP.j d2,?_);have z:=y.j s6;refine(_,O,e2,_,O,.inl<|bP.j<|z _ _ hO,λL hL=>?_);have s7:=aF.q (o:=.a<|os.map ag.c) hL;refine(L,os,b,O,bP.j ay,s7.J<|z.J ho,a2,λH8 s8=>(O,?_));rw[ZP,<-t.A2,cn<|show ag.d (((gK b ps).map ow).sum)=ag.d (jT<|gK b ps) from O];exact k _
end
section
variable{P:bw}{w:aX}{K:aR}{mg:au->Option aa}{base:aT}{f:Y}{fd:cS}{cdv:aa}{A:bY}{outer:List gb}{s:ak}{H:ae}{E:cZ}{Q:aS}
def WX(hr:eQ 12 (A.deeper<|oF "law" (b_ kF) s⁻¹ f cdv))(g7:eY mg)(f1:mg "sum"=Z)(Cb:fF P w K mg base bv "balance" ["web"] 10 (vm K))(Co:fF P w K mg base bv "left_over" ["web","pairs"] 10 (ti K))(Ch:fF P w K mg base bv "_law_holes" ["rows","prime"] 2 (vl K))(Cm:fF P w K mg base bv "_law_seam" ["chain"] 1 vk):∃tr,ka (qc bv P w K mg base qh "law" (b_ kF) f cdv A outer s H E).F (nF 7<|oX kF) tr/\
   ∀(a p g8 KN PD TH U:Y)(os ks ts:List Y)(rs:List (Y×Y))(u:Ξ)(ps:List aM)(R:List Int->List Int->Int)(n:List (List Int×aG))(hs:ou)(H2:ae),H2 g8=V (.a<|os.map ag.c)->bC H2 os u->lW u->(bR u).length<=200->H2 KN=V (.a<|ks.map ag.c)->bC H2 ks (bR u)->H2 PD=V (.a<|ts.map ag.c)->dm H2 ts ps->jG u ps R n->H2 TH=V (.a<|rs.map rC)->mY H2 rs n->H2 U=V (.c<|jt hs)->g_ hs=n->(∀h∈hs,H2 h.1=V (.c<|bI h.2.2))->(∀H',Q (.e af) H')->
    tr {a:=λ_ H'=>Q .g H',d:=Q} [V<|.c a,V<|.c p,V<|.c g8,V<|.c KN,V<|.c PD,V<|.c TH,V<|.c U,Z,Z,Z,Z,Z,Z,Z,Z,Z,Z] H2:=by
 have hu:=jP hr;have g3:=hr.units;obtain⟨g4,c6,f2⟩:=WW (cdv:=cdv) (outer:=outer) (H:=H) (E:=E) (Q:=Q) hr g7 f1 Cb Co Ch;refine(_,bx (eU eL O (dy<|ai 5) (sH O<|k_ (ca (i:=7) jF.a O<|ah O)<|k_ (ca (i:=8) jF.a O<|ah O) sG)
   (bx (cu (i:=9) jF.a O (ar O) jO)
   (bx (eU eL O (dy<|fg (nZ O) O g7.b iK<|aq (ai 8) aD) (ca (i:=10) jF.a O<|ah O)
    (bF (eU eL O (dy<|fg (nZ O) O g7.b iK<|aq (iq hu (ai 6) (ai 10) (λ_ _=>O)) aD) (ca (i:=11) jF.a O<|ah O)
    <|bF<|jE hu (ai 9) (ai 11) (cg iW (zZ hu (ai 9) (ai 11) bg (O,O,O,O))<|cg Xq (iq hu (ai 8) (ai 10) (λ_ _=>O))<|iq hu (iq hu (ai 6) (ai 10) (λ_ _=>O)) (ai 11) (λ_ _=>O)) O)))
   (bF (fJ (dW pX (eC ie O g7.a gN (aq (ff qh ["end","twice"] [Z,V 9] (dy<|fg (nZ O) O g7.b iK<|aq (ai 9) aD) (λcl C v G ex=>ca (i:=0) (dX ["end","twice"]) O<|ah O)
     (λcl C v G ex=>mO<|dW uM (iq hu (ai 1) (ai 0) (λ_ _=>O)) bg<|dI _) (λcl C v G ex=>ai 0) (hfr:=gD (b_ kF) δ) (tc:=xh) (te:=bH 0)) aD)) bg<|dI _) (bF<|cY kr) fV)))))
  (bx (KA (i:=12) jF.a O (ah O) qh ["piece"] [Z] (dy<|ai 3) (λcl C v G ex=>ca (i:=0) (dX ["piece"]) O<|ah O) (λcl C v G ex=>gX)
    (λcl C v G ex=>iG<|aq (ai 0)<|aq (jo Cm hr O cv<|aq (KM hu (ai 0) bg) aD) aD) (hfr:=pY δ) (te:=MA))
  c6),?_)
 intro a p g8 KN PD TH U os ks ts rs u ps R n hs H2 hO ho c7 c8 c9 f3 hP hp t b8 b9 hU d0 d1 k;have hw:=c7.1;have g5:=fP b9;have a1:∀x∈n,x.2.length<=200:=λx hx=>(t.a x hx).2;have d2:((g_ hs).map (·.1)).Nodup:=by rw[d0];exact t.F
 have a2:∀{cs:aG}{i:Nat}{q:List Int},(aJ cs)[i]?=V q->∃c,cs[i]?=V c/\c.1=q:=λ{cs i q} e=>by
  unfold aJ at e;rw[cB] at e;cases h:cs[i]? with
  |none=>rw[h] at e;cases e
  |some c=>rw[h] at e;exact(c,O,cH e)
 refine(_,O,TH,O,(_,bP.j b8),iI (K:=K) (a:=TH) (xs:=rs.map rC) (λi σ H3=>∃(v7 v8 v9 I b:Option ag),σ=[V<|.c a,V<|.c p,V<|.c g8,V<|.c KN,V<|.c PD,V<|.c TH,V<|.c U,v7,v8,v9,I,b,Z,Z,Z,Z,Z]/\aF H2 H3)
  (Z,Z,Z,Z,Z,O,aF.S _) (λi σ H3 _ (_,_,_,_,_,_,sm)=>bP.j<|sm _ _ b8) ?_ ?_)
 ·rintro i z σ H3 hx ⟨v7,v8,v9,I,b,rfl,sm⟩
  rw[cB] at hx;obtain⟨r,er,rfl⟩:∃r,rs[i]?=V r/\rC r=z:=by
   cases h:rs[i]? with
   |none=>rw[h] at hx;cases hx
   |some r=>rw[h] at hx;exact(r,O,cH hx)
  obtain⟨x,ex,b0,e1,e2,e3⟩:=mY.j b9 er;have a3:=dp ex;have tx:=(t.a x a3).1;have nx:=tx.a;refine(r.1,_,O,fM.j<|sm _ _ e1,O,_,_,O,_,_,O,O,?_);intro T hT;have sT:=aF.q (o:=.c []) hT;refine(_,O,r.2,bI x.2,O,.inl<|sT _ _<|sm _ _ e3,λbs pb L hL=>?_);have tb:=mV pb;have sL:=aF.q (o:=.a<|bs.map ag.c) hL;have g6:T≠L:=dJ (ay (H:=H3) (a:=T) (o:=.c [])) hL;have d3:=tb.j;rw[pf] at d3;have d4:=sL _ _<|ay (H:=H3) (a:=T) (o:=.c []);have d5:=sT.j sL;have d6:=sL.J tb;have c0:=ay (H:=aw H3 T<|.c []) (a:=L) (o:=.a<|bs.map ag.c);generalize aw (aw H3 T<|.c []) L (.a<|bs.map ag.c)=H4 at sL d5 d6 c0 d4;refine(L,O,(_,bP.j c0),iI (K:=K) (a:=L) (xs:=bs.map ag.c) (λj σ H5=>∃(I b:Option ag),σ=[V<|.c a,V<|.c p,V<|.c g8,V<|.c KN,V<|.c PD,V<|.c TH,V<|.c U,V<|.c b0,V<|.c r.2,V<|.c T,I,b,Z,Z,Z,Z,Z]/\aF H3 H5/\H5 L=V (.a<|bs.map ag.c)/\bC H5 bs (aJ x.2)/\H5 T=V (.c<|bI<|gm<|oZ n<|x.2.take j))
   (I,b,O,d5,c0,d6,d4) (λj σ H5 _ (_,_,_,_,h,_)=>bP.j h) ?_ ?_)
  ·rintro j y σ H5 hy ⟨I,b,rfl,s5,d7,c1,a4⟩
   obtain⟨o,eo,rfl⟩:=dM hy;obtain⟨q,eq,d8⟩:=c1.q eo;obtain⟨c,ec,rfl⟩:=a2 eq;have c2:=dp ec;obtain⟨z,a5,ez⟩:=t.J<|t.M a3<|aP.mpr (c,c2,O);obtain⟨h,hh,rfl⟩:=VT d0 a5;have nz:=(t.a h.2 a5).1.a;have d9:=sm.j s5;have f4:=d9 _ _ hU;have gU:∀H6,aF H5 H6->jr H6 U (.c o) (V<|.c h.1):=λH6 s6=>.inr (jt hs,c.1.map aQ,o,.inl<|s6 _ _ f4,O,fY<|s6.B d8,by rw[<-ez];exact(Aq d2 h hh).symm);refine(_,O,_,O,U,.c h.1,O,gU H5<|aF.S _,h.1,bI h.2.2,O,.inl<|d9 _ _<|d1 h hh,λcs pc L' f5=>?_);have tc:=mV pc;have X:=aF.q (o:=.a<|cs.map ag.c) f5;have e0:=tc.j;rw[pf] at e0;have f6:o_ n c.1=h.2.2:=by rw[<-ez];exact MT t.F a5
   have e4:=X _ _ a4;have e5:=X _ _ d7;have e6:=X.J c1;have e7:=X.J tc;have e8:=s5.j X;have a6:=ay (H:=H5) (a:=L') (o:=.a<|cs.map ag.c);have b7:=X.B d8;generalize aw H5 L' (.a<|cs.map ag.c)=H6 at X e4 e5 e6 e7 e8 a6 b7;refine(L',O,(_,bP.j a6),iI (K:=K) (a:=L') (xs:=cs.map ag.c) (λm σ H7=>∃(b:Option ag),σ=[V<|.c a,V<|.c p,V<|.c g8,V<|.c KN,V<|.c PD,V<|.c TH,V<|.c U,V<|.c b0,V<|.c r.2,V<|.c T,V<|.c o,b,Z,Z,Z,Z,Z]/\aF H3 H7/\H7 L=V (.a<|bs.map ag.c)/\bC H7 bs (aJ x.2)/\cM H7 o c.1/\H7 L'=V (.a<|cs.map ag.c)/\bC H7 cs (aJ h.2.2)/\H7 T=V (.c<|bI<|gm<|oZ n (x.2.take j)++(oj c.2 h.2.2).take m))
    (b,O,e8,e5,e6,b7,a6,e7,by rw[sf,jm];exact e4) (λm σ H7 _ (_,_,_,_,_,_,h,_)=>bP.j h) ?_ ?_)
   ·rintro m y σ H7 hy ⟨b,rfl,s7,a9,c3,S,a7,c4,g⟩
    obtain⟨o',f7,rfl⟩:=dM hy;obtain⟨q',f8,a8⟩:=c4.q f7;obtain⟨d,ed,rfl⟩:=a2 f8;have e9:=dp ed;have c5:=sm.j s7;have f9:(oj c.2 h.2.2)[m]?=V (abd d.1 (c.2*d.2)):=by rw[cB,ed];rfl
    have f0:(bI<|gm<|oZ n (x.2.take j)++(oj c.2 h.2.2).take m).length<bQ:=by
     rw[qk];have b1:=xi<|oZ n (x.2.take j)++(oj c.2 h.2.2).take m;have b2:=Mi a1<|x.2.take j;have b3:=a1 x a3;have b4:=a1 h.2 a5;have b5:(x.2.take j).length<=x.2.length:=aep _ _;have b6:((oj c.2 h.2.2).take m).length<=(oj c.2 h.2.2).length:=aep _ _;rw[ax] at b6;rw[ck] at b1;exact gn ω
    refine(_,O,T,O,.inr (_,.inl g),_,O,_,.inr (_,d.1.map aQ,o',.inl g,O,fY a8,O),?_);rw[Ar];refine(_,O,_,O,r.2,.d c.2,O,.inr (bI x.2,c.1.map aQ,o,.inl<|c5 _ _ e3,O,fY S,(oh nx c c2).symm),_,O,_,O,U,.c h.1,O,.inr (jt hs,c.1.map aQ,o,.inl<|c5 _ _ hU,O,fY S,by rw[<-ez];exact(Aq d2 h hh).symm),
     _,O,h.1,.d d.2,O,.inr (bI h.2.2,d.1.map aQ,o',.inl<|c5 _ _<|d1 h hh,O,fY a8,(oh nz d e9).symm),_,_,O,O,(1000,1000,t.bd a3 c2,t.bd a5 e9,ξ),_,_,O,O,_,O,_,O,T,_,O,xf.t (k:=d.1.map aQ) g (fY a8) f0,(_,O,s7.F hT,?_,kb c3 g (by intro n z;cases z),?_,?_,kb c4 g (by intro n z;cases z),?_))
    ·rw[bG<|ir a9 g (by intro z;cases z)];exact a9
    ·show aw _ T _ o=_
     rw[bG<|ir (show _=V _ from S) g (by intro z;cases z)];exact S
    ·rw[bG<|ir a7 g (by intro z;cases z)];exact a7
    ·rw[ay,vw,cq f9,<-gd,sZ]
     rfl
   ·rintro σ H7 ⟨b,rfl,s7,a9,c3,S,a7,c4,g⟩
    refine(_,_,O,s7,a9,c3,?_);rw[ax,e0,e_ (l:=oj c.2 h.2.2) (by rw[ax];exact aW _)] at g;rw[cq ec];show H7 T=V (.c<|bI<|gm<|(x.2.take j++[c]).flatMap λt=>oj t.2<|o_ n t.1);rw[CM,so,List.flatMap_nil,jm,f6];exact g
  ·rintro σ H5 ⟨I,b,rfl,s5,d7,c1,a4⟩
   rw[ax,d3,fN] at a4;refine(_,O,T,bI<|gm<|oZ n x.2,O,.inl a4,λes pe M hM=>(M,O,(_,bP.j ay),λD hD=>eP<|VQ ay ((aF.q hM).J<|mV pe) (aF.q hM _ _ a4) (s_ _) (λc hc=>?_) hD λH6 s6 g0=>?_))
   ·rw[<-kH (s_ _) c hc,MI,t.A1 a3]
   ·refine(D,_,O,.inl<|bP.j g0,_,_,O,O,_,O,?_)
    exact eF (_,_,_,_,_,O,sm.j<|s5.j<|(aF.q hM).j s6)
 ·rintro σ H3 ⟨v7,v8,v9,I,b,rfl,sm⟩
  have h5:∀q∈bR u,q.length<=5/\q≠[]:=λq hq=>((lZ hw hq).1,(lZ hw hq).2.2);refine(_,O,KN,O,(_,bP.j<|sm _ _ c9),λg9 hW=>eP<|Wt (bP.j<|sm _ _ c9) (sm.J f3) h5 ω hW λH4 ws s4 g1 g2=>?_);have a0:=sm.j s4;exact f2 a p g8 KN PD TH U g9 os ts ws rs u ps R n _ _ _ _ _ H4 (a0 _ _ hO) (a0.J ho) c7 c8 (a0 _ _ hP) (hp.j a0) t (a0 _ _ b8) (b9.q a0) g1 g2 k
end
def Yy(h:((g_ c).map (·.1)).Nodup):((jt c).map (·.1)).Nodup:=by
 rw[Bd] at h;unfold jt;rw[cj];unfold bD at h ⊢;rw[jK] at h ⊢;exact h.imp λ{a b} h e=>h<|jZ.mp e
section
variable{P:bw}{w:aX}{K:aR}{mg:au->Option aa}{base:aT}{f:Y}{fd:cS}{cdv:aa}{A:bY}{outer:List gb}{s:ak}{H:ae}{E:cZ}{Q:aS}
def WY(z:eQ 12 (A.deeper<|oF "law" (b_ kF) s⁻¹ f cdv))(d3:eY mg)(a8:mg "dict"=Z)(a9:mg "sum"=Z)(Cb:fF P w K mg base bv "balance" ["web"] 10 (vm K))(Co:fF P w K mg base bv "left_over" ["web","pairs"] 10 (ti K))(Ch:fF P w K mg base bv "_law_holes" ["rows","prime"] 2 (vl K))(Cm:fF P w K mg base bv "_law_seam" ["chain"] 1 vk)(Ct:fF P w K mg base bv "_law_take" ["box","most"] 1 rx)(Cp:fF P w K mg base bv "_law_pieces" ["web"] 2 (tj K))(Ci:fF P w K mg base bv "pairing" ["web"] 9 (AD K))(Cn:fF P w K mg base bv "thin_seams" ["web","pairs"] 11 (AA K)):∃tr,ka (qc bv P w K mg base qh "law" (b_ kF) f cdv A outer s H E).F (nF 3<|oX kF) tr/\
   ∀(a p d4:Y)(j:List Y)(b:Ξ)(L:ae),fO L p->L d4=V (.a<|j.map ag.c)->bC L j b->lW b->(bR b).length<=200->b.length<=20->(∀H',Q (.e af) H')->
    tr {a:=λ_ H'=>Q .g H',d:=Q} [V<|.c a,V<|.c p,V<|.c d4,Z,Z,Z,Z,Z,Z,Z,Z,Z,Z,Z,Z,Z,Z] L:=by
 have hu:=jP z;have M:=z.units;obtain⟨c5,S,b0⟩:=WX (cdv:=cdv) (outer:=outer) (H:=H) (E:=E) (Q:=Q) z d3 a9 Cb Co Ch Cm;refine(_,bx (cu (i:=3) jF.a O (ah O)<|jo Cp z O cv<|aq (ai 2) aD)
  (bx (KA (i:=4) jF.a O (ah O) qh ["pair","box"] [Z,V 1] (dy<|jo Ci z O cv<|aq (fg sM O d3.b iK<|aq (ai 2) aD) aD) (λcl C r u ex=>ca (i:=0) (dX ["pair","box"]) O<|ah O)
   (λcl C r u ex=>mO<|dW pX (jo Ct z O cv<|aq (ai 1)<|aq bg aD) bg<|dI _) (λcl C r u ex=>ai 0) (hfr:=gD (b_ kF) δ) (tc:=Mv) (te:=bH 0))
  (bx (cu (i:=5) jF.a O (ah O)<|jo Cn z O cv<|aq (fg sM O d3.b iK<|aq (ai 2) aD)<|aq (fg sM O d3.b iK<|aq (ai 4) aD) aD)
  (bx (cu (i:=6) jF.a O (ah O)<|fg (wY O M) O a8 Bl<|aq (ai 5) aD)
  S))),?_)
 intro a p d4 j b L hb hO ho l T c6 k;have hw:=l.1;obtain⟨_,c7,h5,_⟩:=qp hw;refine(_,O,d4,j,b,O,bP.j hO,ho,h5,ω,by rw[<-qu];omega,λKN H3 q3 t3=>?_);obtain⟨ks,s3,_,b1,b2⟩:=Mq t3;refine(_,O,d4,_,O,.inl<|bP.j<|s3 _ _ hO,λL1 b3=>?_);have s4:=aF.q (o:=.a<|j.map ag.c) b3;have X:=s3.j s4;refine(L1,j,b,O,bP.j ay,X.J ho,l,λPL H5 ts a0 s5 c3 a1 ht d _ _=>?_);have m:=X.j s5;have g:=hb.j m;have c8:2*a0.length<=200:=by
  have h1:=d.a.length_le_of_subset (l₂:=bR b) λq hq=>by
   obtain⟨y,hy,e|e⟩:=xl hq
   ·rw[<-e];exact lY hw (d.has y hy).1 (d.has y hy).2
   ·rw[<-e];exact(d.has y hy).1
  have h2:=(xj a0).length_eq;rw[ck,ax,ax] at h2;omega
 refine(PL,O,(_,bP.j a1),λPD b4=>eP<|YV g a1 ht ω b4 λH6 us qs n c9 v a2 x=>?_);have pg:=Xm x d;have d0:=x.length_le;obtain⟨R,hR⟩:=YE pg λq=>on (pss:=b) (ps:=qs) (q:=q);have a3:=n _ _ (g.q<|m _ _ hO)<|m _ _ hO;have a4:=n.B g<|m.J ho;have a5:=(s4.j s5) _ _ b1;have b5:=n _ _ (g.q a5) a5;have b6:=n.B g<|(s4.j s5).J b2;refine(_,O,d4,_,O,.inl<|bP.j a3,λLA b7=>?_);have s7:=aF.q (o:=.a<|j.map ag.c) b7;refine(_,O,PD,_,O,.inl<|bP.j<|s7 _ _ v,λLB b8=>?_);have s8:=aF.q (o:=.a<|us.map ag.c) b8;have D:=s7.j s8;refine(LA,LB,j,b,us,qs,R,O,bP.j<|s8 _ _ ay,D.J a4,l,bP.j ay,a2.j D,ω,pg,hR,λTH H9 G I s9 c4 a6 a7 b9 c0 d1 d2=>?_);have c1:=D.j s9;have t:jG b qs R I:=(hw,pg,hR,ω,b9,c0);obtain⟨u1,u2,u3⟩:=Mh a7;have c2:((g_<|tB G I).map (·.1)).Nodup:=by rw[u1];exact t.F
 refine(_,O,TH,G.map (·.1),jt<|tB G I,O,bP.j (by rw[<-MU];exact a6),u2,λU hU=>?_);rw[YN<|Yy c2];have sU:=aF.q (o:=.c<|jt<|tB G I) hU;have c:=c1.j sU;exact b0 a p d4 KN PD TH U j ks us G b qs R I (tB G I) _ (c _ _ a3) (c.J a4) l T (c _ _ b5) (c.J b6) (c _ _ v) (a2.j c) t (sU _ _ a6) (a7.q sU) ay u1 (λh hh=>sU _ _<|u3 h hh) k
end
section
variable{P:bw}{w:aX}{K:aR}{mg:au->Option aa}{base:aT}{f:Y}{fd:cS}
def XO(F:bN K "law" "law" kF f fd)(b0:eY mg)(u:mg "dict"=Z)(v:mg "sum"=Z)(Cc:fF P w K mg base bv "_law_cell_at" ["script","k"] 1 (Fy K))(z:fF P w K mg base bv "_law_box" ["cell"] 1 Fz)(Ct:fF P w K mg base bv "_law_take" ["box","most"] 1 rx)(Cw:fF P w K mg base bv "_law_web" ["box"] 3 EV)(Cp:fF P w K mg base bv "_law_pieces" ["web"] 2 (tj K))(Cg:fF P w K mg base bv "_law_long" ["box"] 2 Fd)(Cb:fF P w K mg base bv "balance" ["web"] 10 (vm K))(Co:fF P w K mg base bv "left_over" ["web","pairs"] 10 (ti K))(Ch:fF P w K mg base bv "_law_holes" ["rows","prime"] 2 (vl K))(Cm:fF P w K mg base bv "_law_seam" ["chain"] 1 vk)(Ci:fF P w K mg base bv "pairing" ["web"] 9 (AD K))(Cn:fF P w K mg base bv "thin_seams" ["web","pairs"] 11 (AA K)):bO P w K mg base bv 13 f fd ["script"] (AF K):=by
 refine F.j jF (λvs H Q E h=>?_) (λj A b s H vs Q E g h=>?_)
 ·obtain⟨a,ns,rfl,_⟩:=h;rfl
 ·obtain⟨a,nn,rfl,hS,hn,k⟩:=h
  obtain⟨tr,C,c⟩:=WY (f:=f) (cdv:=j) (A:=A) (outer:=b) (s:=s) (H:=H) (Q:=Q) (E:=E) g b0 u v Cb Co Ch Cm Ct Cp Ci Cn;refine(_,bx (cu (i:=1) jF.a O (ar O)<|jo z g O cv<|aq (jo Cc g O cv<|aq (ai 0)<|aq bg aD) aD)
   (bx (cu (i:=2) jF.a O (ah O)<|jo Cw g O cv<|aq (ai 1) aD)
   (bx (fJ (dW nV (jo Ct g O cv<|aq (ai 1)<|aq bg aD) bg<|dI _)
    (bF<|cu (i:=2) jF.a O (ah O)<|jo Cg g O cv<|aq (ai 1) aD) fV) C)),?_)
  refine(_,O,a,nn,O,hS,λn=>(n,O,λp x y hp D=>?_));have l:fO (aw H p<|.a [.d x,.d y]) p:=(x,y,ay,D);generalize aw H p (.a [.d x,.d y])=H0 at l;refine(_,O,p,O,l,λb1 os d H1 a4 e _ m G o=>?_);obtain⟨hw,a5,a1⟩:=YT o;obtain⟨I,a6,h5,a2⟩:=qp hw;have L:=YU o;have a3:(bR d).length<=56:=by rw[qu];exact L
  have M:lW d:=(hw,ω);refine(_,O,p,16,O,e,ξ,ξ,λr8 H8 _ _ q r=>(O,_,O,?_));refine nW (λ_=>?_) (λ_=>c a p b1 os d H8 r (q _ _ (e.q m) m) (q.B e G) M ω I k);refine(_,O,p,O,r,λb2 ws R H9 a7 S _ T U t=>?_);obtain⟨a8,a9,X⟩:=Nx t;obtain⟨a0,_⟩:=Yo t;exact c a p b2 ws R H9 S T U a0 X ω k
end
def Zo{l:yy}{K:aR}{q:au->Option aa}(X:K.In h)(G:h.Ns lD q)(i4:q "law"=V (.ref fa))(d1:dB K "is_piece" AQ f1)(d2:dB K "parts_of" vr f2)(d3:dB K "rims_of" rB f3)(d4:dB K "order_key" tw f4)(d5:dB K "in_order" vt f5)(d6:dB K "all_parts" xS f6)(d7:dB K "is_web" AW f7)(d8:dB K "must_be_web" AR f8)(d9:dB K "pieces" tt f9)(i5:dB K "counts" xR c7)(i6:dB K "balance" FK c8)(i7:dB K "seam_terms" vp c9)(i8:dB K "sum_of" AO d0)(i9:dB K "judged" AV e0)(j0:dB K "first_bad" xO e1)(j1:dB K "is_pair" AX e2)(j2:dB K "first_round" AY e3)(j3:dB K "round_with" xG e4)(j4:dB K "other_rims" tu e5)(j5:dB K "pairing" xI e6)(j6:dB K "pairs_of" xH e7)(j7:dB K "left_over" xL e8)(j8:dB K "thin_seams" AN e9)(j9:dB K "ends_of" xQ f0)(k0:dB K "step_terms" xF g0)(k1:dB K "brought_to_ends" vu h0)(k2:dB K "_law_cell_at" FI h1)(k3:dB K "_law_box" FJ h2)(k4:dB K "_law_take" xD h3)(k5:dB K "_law_parts" xM h4)(k6:dB K "_law_pieces" FH h5)(k7:dB K "_law_known" AU h6)(k8:dB K "_law_named" xJ h7)(k9:dB K "_law_web" FG h8)(l0:dB K "_law_rank" vq h9)(l1:dB K "_law_holes" xN i0)(l2:dB K "_law_seam" AT i1)(l3:dB K "_law_long" AS i2)(r:dB K "law" kF i3)(gp:iu K "MOST_POINTS" (V<|.int 5 tp))(gq:iu K "LAST_POINT" (V<|.int 99 tq))(gr:iu K "MOST_HANDED" (V<|.int 20 tr))(gs:iu K "MOST_PIECES" (V<|.int 200 ts))(z1:iu K "len" Z)(z2:iu K "all" Z)(z3:iu K "zip" Z)(z4:iu K "sorted" Z)(z5:iu K "set" Z)(z6:iu K "list" Z)(z7:iu K "tuple" Z)(z8:iu K "range" Z)(z9:iu K "enumerate" Z)(l4:iu K "int" Z)(l5:iu K "isinstance" Z)(l6:iu K "reversed" Z)(l7:iu K "bool" Z)(l8:iu K "any" Z)(l9:iu K "dict" Z)(m0:iu K "max" Z)(n0:iu K "sum" Z):∃fd:cS,(∀(s:ak)(v:aa),yO s fd ([v],[]) [(abd ("script") v)])/\∀a:aT,K.In a->a.Ns lD q->bO l.prog w K q a bv 13 fa fd ["script"] (AF K):=by
 cases i4.symm.trans (r.m X G);have w5:eY q:=(z1.n X G,z2.n X G,z3.n X G,z4.n X G,z5.n X G,z6.n X G,z7.n X G,z8.n X G,z9.n X G,l4.n X G,l5.n X G,l6.n X G,l7.n X G);obtain⟨g1,F1,b1,m1⟩:=d1.j X G "numbers";obtain⟨g2,F2,b2,m2⟩:=d2.j X G "piece";obtain⟨g3,F3,b3,m3⟩:=d3.j X G "piece";obtain⟨g4,F4,b4,m4⟩:=d4.j X G "piece";obtain⟨g5,F5,b5,m5⟩:=d5.j X G "some";obtain⟨g6,F6,b6,m6⟩:=d6.j X G "some";obtain⟨g7,F7,b7,m7⟩:=d7.j X G "web";obtain⟨g8,F8,b8,m8⟩:=d8.j X G "web";obtain⟨g9,t,b9,m9⟩:=d9.j X G "web";obtain⟨t6,u,n1,n2⟩:=i5.j X G "web";obtain⟨t7,x,n3,n4⟩:=i6.j X G "web";obtain⟨t8,g,y,z⟩:=i7.q X G "piece" "often";obtain⟨t9,n5,n6,n7⟩:=i8.j X G "terms";obtain⟨u0,A,n8,n9⟩:=i9.q X G "web" "pairs";obtain⟨u1,C,o0,o1⟩:=j0.q X G "every" "pairs";obtain⟨u2,D,o2,o3⟩:=j1.q X G "every" "pair";obtain⟨u3,E,o4,o5⟩:=j2.j X G "pairs";obtain⟨u4,i,H,I⟩:=j3.q X G "seconds" "new";obtain⟨u5,c,j,k⟩:=j4.j X G "pair";obtain⟨u6,L,o6,o7⟩:=j5.j X G "web";obtain⟨u7,M,o8,o9⟩:=j6.j X G "every";obtain⟨u8,m,Q,R⟩:=j7.q X G "web" "pairs";obtain⟨u9,S,p0,p1⟩:=j8.q X G "web" "pairs";obtain⟨v0,T,p2,p3⟩:=j9.q X G "left" "pairs";obtain⟨v1,U,p4,p5⟩:=k0.j X G "pair";obtain⟨v2,n,a0,a1⟩:=k1.q X G "terms" "ends";obtain⟨v3,a2,p6,p7⟩:=k2.q X G "script" "k";obtain⟨v4,a3,p8,p9⟩:=k3.j X G "cell";obtain⟨v5,o,a4,a5⟩:=k4.q X G "box" "most";obtain⟨v6,q0,q1,q2⟩:=k5.j X G "piece";obtain⟨v7,a6,q3,q4⟩:=k6.j X G "web";obtain⟨v8,q5,q6,q7⟩:=k7.j X G "number";obtain⟨v9,q8,q9,r0⟩:=k8.q X G "box" "web";obtain⟨w0,a7,r1,r2⟩:=k9.j X G "box";obtain⟨w1,a8,r3,r4⟩:=l0.q X G "rows" "prime";obtain⟨w2,a9,r5,r6⟩:=l1.q X G "rows" "prime";obtain⟨w3,b0,r7,r8⟩:=l2.j X G "chain";obtain⟨w4,c0,r9,s0⟩:=l3.j X G "box";obtain⟨⟨gL,FL⟩,_⟩:=r;refine(gL,?_,λa _ _=>?_)
 ·obtain⟨_,_,_,_,_,_,_,_,_,rfl,_,_⟩:=FL.b;exact λs v=>.of_eq O
 have d:=l8.n X G;have b:=l9.n X G;have e:=m0.n X G;have f:=n0.n X G;have c1:=Ng (P:=l.prog) (w:=w) (base:=a) F6 w5 F2 b2 m2 F5 b5 m5 F4 b4 m4;have c2:=XS (P:=l.prog) (w:=w) (base:=a) F7 w5 (gp.m X G) (gq.m X G) (gr.m X G) (gs.m X G) F1 b1 m1 F6 b6 m6 F2 b2 m2 F5 b5 m5 F4 b4 m4;have Gm:=XH F8 F7 b7 m7 c2;have Gp:=XA t F8 b8 m8 Gm F6 b6 m6 c1;have s1:=XY u w5 e t b9 m9 Gp;have s2:=Yb x f u n1 n2 s1;have p:=XE (P:=l.prog) (w:=w) (base:=a) c w5 F3 b3 m3;have c3:=Xx i w5 c j k p;have s3:=XT (P:=l.prog) (w:=w) (base:=a) D w5 F3 b3 m3;have s4:=XW C w5 d δ D o2 o3 s3;have s5:=XV E w5 i H I c3;have s6:=XR A w5 C o0 o1 s4 E o4 o5 s5 t b9 m9 Gp;have s7:=Xz (P:=l.prog) (w:=w) (base:=a) M w5 F3 b3 m3;have s8:=XD L w5 d δ t b9 m9 Gp M o8 o9 s7 i H I c3 F5 b5 m5 F4 b4 m4;have c4:=XN m w5 A n8 n9 s6 t b9 m9 Gp;have c5:=Xu (P:=l.prog) (w:=w) (base:=a) g w5 F3 b3 m3;have c6:=X_ (P:=l.prog) (w:=w) (base:=a) n n5 n6 n7;have s9:=Xw U w5 b c j k p g y z c5;have t0:=XX T w5 c j k p U p4 p5 s9 n a0 a1 c6;have t1:=Xt S w5 m Q R c4 T p2 p3 t0 g y z c5 n a0 a1 c6;have Ct:=lS o a4 a5<|FQ (P:=l.prog) (w:=w) (base:=a) o;have t2:=lS b0 r7 r8<|XI (P:=l.prog) (w:=w) (base:=a) b0 w5 b;have t3:=lS a8 r3 r4<|Xy (P:=l.prog) (w:=w) (base:=a) a8 w5 b e;have t4:=lS a9 r5 r6<|XU a9 w5 t3;have t5:=lS c0 r9 s0<|XM c0 w5 Ct;exact XO FL w5 b f (lS a2 p6 p7<|XZ a2 w5) (lS a3 p8 p9<|Ya a3) Ct (lS a7 r1 r2<|Xs a7 w5 o a4 a5 q8 q9 r0 q5 q6 q7) (lS a6 q3 q4<|XJ a6 w5 q0 q1 q2) t5 (lS x n3 n4 s2) (lS m Q R c4) t4 t2 (lS L o6 o7 s8)<|lS S p0 p1 t1
def VR{l:yy}{q:bw}{c:List au}{o:(au->Option aa)->aT->Prop}{i:aX->aT->Prop}{d:DefRec}{K:Hy->aR}(p:l.most=V 63)(g:d.params.defaults=[])(r:∀(w:aX)(h:aT),i w h->(K w.params).In h)(F:∀(w:aX)(e:au->Option aa)(j:Y)(h:aT),(K w.params).In h->h.Ns lD e->e d.name=V (.ref j)->
   ∃m:cS,(∀(s:ak)(u:aa),yO s m ([u],[]) [(abd ("script") u)])/\∀b:aT,(K w.params).In b->b.Ns lD e->bO l.prog w (K w.params) e b bv 13 j m ["script"] (AF<|K w.params)):
  PR q c o i l.row.toRowW d [] (λf t=>jJ f t):=
 SV (n:=63) (k:=13) (x:="script") (CX:=λ_=>bv) (sp:=λw=>AF<|K w.params) p ξ g (O,ξ,ξ) r F (λ_ _ a v y _ A=>(a,v,O,A,y,λ_=>O)) λ_ _ _ _ _ z=>z
end
structure PySem.W.Fast:Prop where
 (tw10003871307288543618 tw10026536556347309625 tw10068271317304501404 tw10082389797643792514 tw10158498926090653450 tw10226001811220269248 tw10310678366204411290 tw10310831871855829984 tw10389469584119215157 tw10392176267944017243 tw10403525384780803057 tw10506710927629123918 tw10745315379454385366 tw10858391845785732279 tw10943338818696870039 tw10946110235996038379 tw1118955736461448239 tw1120850355532428800 tw11213161421531715615 tw11242723988327109204 tw11336331383724759513 tw11342088930839824683 tw11409133103227707405 tw11441759958045056964 tw11524216210528559130 tw11627911072910066382 tw11667893576124829403 tw11732658306460127302 tw11947090000890252042 tw11974468170094528376 tw12022197164419397264 tw12027113680648540249 tw12201646382390662482 tw12252008643513155354 tw12259748424003289230 tw12260670260099182173 tw12272662801947372419 tw12550813620785207756 tw125941414114136606 tw12628302438184728255 tw12806507533945844827 tw1282910693541694251 tw12834216851013603808 tw129384155589329877 tw12954324999170490361 tw12975197138218732594 tw13142912410238918389 tw13147180565460925394 tw13189101254211486380 tw13256659864925559782 tw13315631425278534397 tw13358031548675257232 tw13376614385513752423 tw13408448283688596170 tw13480380340371070718 tw13695459102964186459 tw137327151634201954 tw13736940333448040462 tw1376214158152143757 tw13771053004896237125 tw13776449430006015107 tw13926164298255461579 tw1402962036245750660 tw14079135501388861450 tw14116588434090762740 tw14127857510139932459 tw14219178746087202874 tw14281064345479686686 tw14474759451393825091 tw14494032544197342109 tw14516141243246517214 tw14528114169936211619 tw14530253313492740437 tw14550882792913755317 tw14644359320965181081 tw14736818210084291840 tw1474683856456555670 tw14753344489840000070 tw14925216403988067697 tw14975566319689416894 tw15064523892729182030 tw15123910670016215679 tw15217787226404767397 tw1522050350606639529 tw1530078696232533647 tw15370949015264798085 tw15429065784903255369 tw15459041270937023866 tw15491727889766201191 tw15536620862324227186 tw15728139781530062889 tw15972249886850779751 tw15982730921671596980 tw16083867053802404028 tw1613636943333201715 tw16217616954402089709 tw16247325068357924201 tw16250621751868354685 tw16275608685465181475 tw16316259121013947136 tw16338040798790436244 tw16347323782071716927 tw16354825033940556586 tw16393120600695539479 tw16409811535346718442 tw16441469320480601546 tw1645960084937004641 tw16512658532252902687 tw16525660241494789148 tw16612234946963229631 tw16627545649167972285 tw16747559858306879862 tw16802543446508250581 tw16917960422407657218 tw17054961931947692141 tw17176859874384338497 tw17210573658631697379 tw17230428179883068398 tw17303397576198384972 tw17327093410647314551 tw173829561027875732 tw17393816805572935186 tw17516175596850024244 tw17527460857964953170 tw17574215092832002798 tw17575168539333765821 tw17576852082401877319 tw1758719276929705075 tw17633988763281435962 tw17637130155902705082 tw17643220237074986814 tw17791161663125022054 tw17977535411059100216 tw18010202575427124212 tw18015769298570960116 tw18142264652875090365 tw18150968803666017128 tw18152850262103506869 tw1885602079754989376 tw1926776011475710833 tw2011609112436358959 tw2139032315081813812 tw2233687375825977220 tw2250795782728032719 tw2306139491466878057 tw2381177305527708409 tw2492008486342928996 tw2505405039853923682 tw2525515471622948382 tw267572996952807424 tw2765200171540335894 tw2887736116599273714 tw2923103525644551306 tw2935024189841739499 tw3017630458547710711 tw3074248205655207546 tw3143188446073657084 tw315670030732930300 tw3250667991114754303 tw327294792397092085 tw3326188864796116311 tw3332714844460757818 tw3432902761486147007 tw3496382651121575221 tw3501686849763994310 tw3599372655309531067 tw3621889430267753472 tw3648400814535565940 tw3664619926766122204 tw3687692412386079653 tw3784645325948264389 tw3851269181368347335 tw3926515217960262561 tw3961227914558482471 tw4106379863079849478 tw4192572496946363628 tw4222231653923965286 tw4259479742594028435 tw4292741847118497229 tw4327974356037351745 tw4348827215340413959 tw4451305770721097839 tw4467498317860523833 tw4471835463535356049 tw4519104719630824089 tw4533109477982938362 tw4824779605744946993 tw4901738819712396054 tw4906716956043274329 tw4909043422245701582 tw4910421015750511167 tw4955456791083548841 tw5098897500269066524 tw5127320991528110992 tw5214525973688196306 tw5399169204841309212 tw5458016781105735915 tw5463817629143344401 tw5515078608698511993 tw5590388883926287212 tw5667652276128837117 tw5671594946224191257 tw5902742803427871273 tw592342084916368527 tw5976982134737895870 tw6015252676588116135 tw6145724292559837620 tw6146325918924597259 tw6182861285918160056 tw6321539838286998971 tw6586090456839349626 tw6590420165402399807 tw6600691663044376260 tw664191883042894837 tw6646326841342057670 tw6685576319983776933 tw6753360938816747328 tw6831599593799721843 tw6891018324689054902 tw7006246241443020156 tw7092229735211240224 tw716327101554574188 tw736856757616441846 tw7369866627727341035 tw750708033878337469 tw7576479430261943009 tw7701224189310426778 tw7793495098788995562 tw7797520719729173780 tw7886650078648315068 tw7982285534925242742 tw7990523220324683748 tw8086755466203800909 tw812328633385037180 tw8167026473873219025 tw8293675872793772278 tw8302387538964126805 tw8374838814977128994 tw8446794248350746643 tw8536151306726693833 tw8568265351923709407 tw8585293837918988110 tw8590263593834624812 tw8592874327876838900 tw8761614413426622829 tw8761778655438120799 tw8873566251215252125 tw9007490293365834232 tw9013694030424317794 tw9109201113477788397 tw919176463299861048 tw9241932464734450658 tw936762116656616601 tw9369658762951474151 tw93819399515922572 tw9524178960035161611 tw9628388892517258609 tw9756512448312473955 tw9778696391299850388 tw9857008479426887418 tw9889334535742562518:True)
set_option maxRecDepth 100000 in
set_option maxHeartbeats 0 in
theorem PySem.Challenge.cw_seamwright_k49_whole_thin_webs_have_the_holds : PySem.Challenge.rw_seamwright_k49_whole_thin_webs_have_the.Holds := by
 w_on; o_law; k_head; (case hw=>w_witness2)
 k_fill
 refine VR (l:=PySem.Challenge.rw_seamwright_k49_whole_thin_webs_have_the) O O (fun w h Y=>PySem.W.kIn_of Y) ?F
 case F=>
  intro w mg fa h KX G hmg;refine' Zo KX G hmg ?_ ?_ ?_ ?_ ?_ ?_ ?_ ?_ ?_ ?_ ?_ ?_ ?_ ?_ ?_ ?_ ?_ ?_ ?_ ?_ ?_ ?_ ?_ ?_ ?_ ?_ ?_ ?_ ?_ ?_ ?_ ?_ ?_ ?_ ?_ ?_ ?_ ?_ ?_ ?_ ?_ ?_ ?_ ?_ ?_ ?_ ?_ ?_ ?_ ?_ ?_ ?_ ?_ ?_ ?_ ?_ ?_ ?_ ?_ ?_
  all_goals try first | refine' Vp ?_ ?_ ?_ ?_ | refine' iu.mk ?_
  all_goals try first | k_is | kit_is | k_exc
#print axioms PySem.Challenge.cw_seamwright_k49_whole_thin_webs_have_the_holds
