import PyProof.Rows.All
import Wide.All
import OpenK.AllK
import Wide.FinOn
import PyProof.EqAt
import PyProof.EqKinds
import PyProof.TupleCall
import KE.BitLaws
import KE.KTryMore
import PyProof.ExcBaseAll.Exception
import KE.KDictList
import PyFlatLaws
import Open.SpecLaws
import KE.OsHead
import KE.OsGo
import PySem.Challenge.RW_ringmarket_s01_answers
set_option Elab.async false
set_option genSizeOfSpec false
set_option linter.all false
set_option maxRecDepth 100000
set_option maxHeartbeats 0
noncomputable section
open Array renaming getElem?_eq_none->Nu,getElem?_eq_some_iff->Zu,getElem?_toList->Zk,length_toList->mr,toList->M2
open Bool renaming and_eq_true->ib,and_eq_true_iff->z4,and_false->Zj,eq_false_iff->vJ,eq_iff_iff->lu,false_and->vZ,false_eq_true->ko,false_ne_true->dH,false_or->Np,noConfusion->lG,not_eq_false->vM,not_eq_true'->EB,not_eq_true->zv,not_true->MF,or_eq_true->EH,or_false->YJ,true_and->qI
open Decidable renaming not_not->i9
open False renaming elim->jd
open ForInStep renaming yield->Ft
open Function renaming comp->EG
open Int renaming toNat->rj,toNat_natCast->ij
open List renaming all_congr->MJ,all_cons->tj,all_eq_true->fE,all_map->pF,any_cons->qW,any_eq_false->YA,any_eq_true->vI,any_map->Fo,append_assoc->nT,append_nil->oo,cons_append->vH,contains_cons->NQ,contains_eq_any_beq->aaf,contains_iff_mem->nk,count_append->aak,count_cons->N0,drop_drop->ZI,drop_zero->ZH,eq_nil_of_length_eq_zero->MH,eq_nil_or_concat->YC,ext_getElem->Ys,ext_getElem?->EK,filterMap->NV,filterMap_append->NP,filterMap_cons->oj,filterMap_eq_map->NW,filterMap_map->Z7,filter_append->aad,filter_congr->nU,filter_cons->fZ,filter_eq_nil_iff->MI,filter_eq_self->qF,filter_filter->Yw,filter_map->tw,filter_sublist->lq,find?_cons->lr,find?_eq_none->FP,find?_some->zu,findIdx_getElem->Yy,findIdx_lt_length->YE,flatMap_append->md,flatMap_cons->gQ,flatMap_map->NZ,foldl_append->sY,foldl_cons->lj,foldr_cons->Mv,forIn_nil->Zl,getD_eq_getElem?_getD->eA,getElem?_append_left->Nc,getElem?_append_right->Za,getElem?_cons_succ->NB,getElem?_cons_zero->wt,getElem?_eq_getElem->bH,getElem?_eq_none->nX,getElem?_eq_some_iff->cN,getElem?_map->bz,getElem?_modify->EE,getElem?_range->mn,getElem?_set_ne->MZ,getElem?_set_self->MY,getElem?_take_of_lt->zN,getElem?_zip_eq_some->mj,getElem_inj->YS,getElem_mem->fo,getElem_modify->Yq,length->wb,length_append->bV,length_cons->cY,length_drop->Fd,length_eq_zero_iff->Z9,length_filter_le->tp,length_map->aA,length_modify->EC,length_nil->ma,length_pos_iff->ZJ,length_range'->Z1,length_range->sZ,length_replicate->Zb,length_reverse->Yz,length_set->Zf,length_singleton->Yu,length_take->jT,length_zip->tX,lookup->qP,lookup_cons->tS,map->iH,map_append->bZ,map_congr_left->i5,map_cons->bS,map_const'->aal,map_flatMap->aao,map_fst_zip->NU,map_id->vL,map_inj_left->rk,map_map->bU,map_nil->i7,map_set->wD,mem_append->b6,mem_append_left->fq,mem_append_right->cP,mem_cons->bM,mem_cons_of_mem->b8,mem_cons_self->gF,mem_filter->dG,mem_filterMap->E6,mem_flatMap->lp,mem_iff_getElem->ED,mem_iff_getElem?->z7,mem_map->bw,mem_of_find?_eq_some->zt,mem_of_getElem?->cZ,mem_of_mem_take->tZ,mem_range->kq,mem_singleton->de,nil_append->wy,nodup_append->pz,nodup_cons->gC,nodup_iff_pairwise_ne->My,nodup_nil->Fv,not_mem_nil->MG,of_mem_zip->nu,pairwise_append->MD,pairwise_cons->iE,pairwise_map->sX,perm_append_comm->wB,perm_iff_count->aaj,perm_middle->aah,range'->Z0,range->cR,range_succ->pq,range_succ_eq_map->Fn,replicate->ig,replicate_succ'->aag,reverse_append->YD,reverse_reverse->Yp,set->FT,size_toArray->fj,sublist_append_right->FR,sum_cons->FL,take_length->jv,take_of_length_le->zT,take_succ_cons->FG,take_zero->tT,toList_toArray->ZL,zip_append->aai,zip_cons_cons->FN
open List.Nodup renaming sublist->Mw
open List.Pairwise renaming imp_of_mem->aau,map->z8,sublist->qE
open List.Perm renaming append_left->z9,cons->tW,swap->z6
open List.Sublist renaming append->qD,cons->abj,cons₂->NY,refl->tY
open List.cons renaming injEq->YB
open Nat renaming add_le_add_left->ZN,le_add_right->wu,le_of_eq->Fb,le_of_lt->vX,le_of_succ_le->Fq,le_refl->bK,le_trans->fi,lt_irrefl->kx,lt_of_le_of_lt->ou,lt_of_lt_of_le->ie,lt_succ_of_lt->Nl,lt_succ_self->M9,lt_trans->Mu,min_self->wC,mul_comm->Yx,mul_le_mul_right->Yv,ne_of_gt->vY,ne_of_lt->dM,succ_ne_self->ZF,zero_le->gp
open Ne renaming symm->eW
open Option renaming bind_some->sV,getD_none->Zg,getD_some->EF,isNone_iff_eq_none->aae,isSome_iff_exists->Y9,isSome_map->pK,isSome_some->MK,map_eq_map->Yr,map_eq_some_iff->di,map_map->aab,map_some->zr,none->zY
open Option.some renaming inj->dQ,injEq->EI
open Or renaming inl->aV,inr->tU
open Prod renaming ext->Ms,fst->bg
open Prod.mk renaming inj->EA,injEq->Yt
open PyFlat renaming okCall->YF,played->MM,put1->pG,putRow->EM,putRows->EL,told->ML
open PyProof.Rows renaming AllBare->pH,Constant_none->EX,IntsAre->we,Subscript_->Nf,boot_all->z5,boot_any->aac,boot_enumerate->ZE,boot_int->abh,boot_list->NX,boot_max->NM,boot_min->ZZ,boot_ord->Z8,boot_str->abi,boot_sum->aan,callWith_builtin1->aaX,callWith_type1->EZ,envOfC->oq,evalArgs_kwB->aax,iadd_int->Y0,in_str->aa7,join_list->aa4,join_tuple->aa5,kws_cons->NN,kws_nil->NO,split_le->aa3,subscriptTail->Ng,subscriptTail_builtinR->Zd,toString_length_le->aa2
open PySem renaming Addr->aa,Around->d9,BindsTo->wa,CmpOp->qN,DictEntry->iO,Env->ei,ExceptHandler->wz,Expr->bE,FuncData->fP,GenState->Mr,Heap->a9,IsItemIter->ot,IsItemIterOut->NK,Keyword->zD,Model->tH,NameKind->ju,Obj->bc,Operator->zK,Params->gO,Pos->cI,Program->bA,Result->vO,Scope->eV,Sem->jc,Shared->aC,Stmt->bq,Str->ae,Tok->jR,Value->af,Walks->zA,Within->MU,World->bB,argBest->js,argsOk->n0,assign->zJ,assignEach->tN,atKey->mw,attributeBase->mv,backTo->f7,backToKw->lB,behindInMarks->tM,binaryOp->zL,bindArgs->om,bindC->qV,bindL->qU,bootBuiltins->vW,boot_len->f9,builtinsNs->MX,cLine->jt,call->fO,callWith->nz,call_list_seq->Zi,call_meets->tR,call_meetsIn->Nq,callerA->wA,cellsFrom->gT,checkBuiltinCall->MQ,checkTypeCall->YI,codeAny->mo,codeAny_builtin->tE,codeAny_call_builtin->MP,codeAny_handlers_test->ZR,codeAny_mono->vU,compEnvC->lE,compPost->Nn,compareOp->iT,comprehension->Zn,entry_at->NC,eval->bP,evalArgs_none->Fi,evalPart_none->Zc,firstArgMember->FD,foldedSetIterable->E7,getAttr->M5,getD_mem->Fj,getItem->tO,getMethod->v9,holding->qJ,importedModules->Yo,intItems->ja,intItems_at->vT,intText?->ZM,isSubtype_stop->NA,isTrue->zF,iter_intList->YH,keywordEach->lC,letOwnedTupleGo->EY,mainGlobals->iD,mem_getD->Fk,mem_of_lookup->jU,method_meetsIn->ND,model->ba,newExc->FC,newFunctionEnv->Zm,notedBy->wj,numAt->n9,numAt_eq->qX,numsOf->zR,nums_intItems->zS,old_kept->EU,operate->Nj,plainId_quiet->qK,pushCells->qY,pushCells_keeps->Fp,pyIter->qO,pyNext->iS,rawInt->ny,recursionLimit->Y4,seqIndex_neg->Ni,seqIndex_of->Nh,seqItems?->vQ,setField->FA,setItem->M3,sizeLine_eq->zM,size_of_entries->FE,sliceBounds->tQ,slot_list_getitem->Ze,spliced->MS,standAt->zG,starEach->cn,strValues->NG,subscripted->Fe,swapsWith->zI,sysModules->jS,tupleKind->tK,tupleKind_room_in1->wm,typeIs_str->wc,typeLookup->MR,typeOf->Fg,updateSeq->ER,valueAt->qZ,wpAny->aJ,wpAny_Call_Name_kw->qT,wpAny_Call_method->wo,wpAny_Constant_int->YT,wpAny_Dict_empty->Zq,wpAny_Name->M0,wpAny_assign_Name->YZ,wpAny_attempt->zU,wpAny_bind->az,wpAny_call->EO,wpAny_callSpecial?_slot->zV,wpAny_call_entry->pL,wpAny_dictEntries->rb,wpAny_dictEpoch->wq,wpAny_execs_cons->YY,wpAny_execs_nil->zH,wpAny_field->z0,wpAny_fieldsOf->Fz,wpAny_handleBy_cons->ZQ,wpAny_handled->Zz,wpAny_isInstance->Nz,wpAny_isOneOf_itemiter->NL,wpAny_isOneOf_keyiter->Zv,wpAny_isTrue_Compare1->YX,wpAny_letGo->n6,wpAny_letOwnedTupleGo_enum->ZD,wpAny_letOwnedTupleGo_items->ZA,wpAny_mono->jb,wpAny_newObj_type->oe,wpAny_notOrdered_dict->Nw,wpAny_of_eq->zB,wpAny_passesOwn->tP,wpAny_pure->br,wpAny_pyIter_enum->FF,wpAny_pyIter_list->zC,wpAny_pyIter_slot->Nv,wpAny_pyIter_zip->ZG,wpAny_seqItems->vR,wpAny_setField->Ny,wpAny_setField_rec->zZ,wpAny_standAt->MT,wpAny_truthy_bool->n8,wpAny_tryCatch->n4,wpAny_typeNameOfWhole_itemiter->FH,wpAny_typeNameOfWhole_keyiter->Fx,wpAny_typeNameOf_itemiter->FI,wpAny_typeNameOf_keyiter->Fy,wpAny_updateSeq->vS
open PySem.Around renaming under->Na,under_plainId->vP
open PySem.AutoSeq1 renaming wpAny_loadPart'->EV
open PySem.Builtin.Builtins renaming bindParams->ES
open PySem.Builtin.Dict renaming dictSlotNone->aa0,keyAndDefault->abb,noArgs->abe,showsAll->Fw,takeOut->ZT
open PySem.Builtin.Dict_items renaming dictOf->abc,newIterator->abd,ownedTupleFields->ZY,ownedTupleIsFree->ZX,ownsTuple->zW,pairFromOwner->ZW
open PySem.Builtin.List renaming listTooLong->Nk
open PySem.Builtin.Range renaming rangeSize->aay
open PySem.Builtin.Str renaming occurrences->NH,partsBetween->ZK,strKind->nA
open PySem.Calls renaming Name_function_global->YU,callWith_builtin->wd,evalArgs_plain->zQ,spliced_cons->qS,spliced_nil->qR
open PySem.CmpOp renaming In->YV,NotIn->YW
open PySem.Code renaming frames->Y5,isFrame->Nb
open PySem.Data renaming dict->Z5,seq->FK
open PySem.EqMixed renaming eq_bool_str->aaE,eq_int_str->aaG,eq_str_bool->aaI,eq_str_int->aaJ,ne_bool_str->aaP,ne_int_str->aaR,ne_str_bool->aaT,ne_str_int->aaU
open PySem.EqNone renaming eq_bool_none->aaD,eq_int_none->aaF,eq_none_bool->aaA,eq_none_int->aaB,eq_none_none->aaz,eq_none_str->aaC,eq_str_none->aaH,ne_bool_none->aaO,ne_int_none->aaQ,ne_none_bool->aaL,ne_none_int->aaM,ne_none_none->aaK,ne_none_str->aaN,ne_str_none->aaS
open PySem.F renaming args_dict_get_2->Zs,args_dict_pop_2->Zo,entry_dict_get->Zr,entry_dict_pop->Zp,excBase_Exception->ZP,plainAttrs_dict->Nt,plainAttrs_list->gU,slot_dict_get->Nr,slot_dict_pop->Fu,slot_list_append->NR,slot_list_extend->lH,slot_list_index->Fm,type_dict_pop->Zt,type_list_append->NS,type_list_extend->lI,type_list_index->NT
open PySem.Heap renaming ExtBut->Zy,FlyingW->ZO,SameBut->tL,get?_push_of_some->dB,get?_push_size->dW,get?_update_other->mq,get?_update_self->tG,lt_size->cO,size_push->lA
open PySem.Heap.DictOf renaming new->aaZ
open PySem.Heap.IsSliceOf renaming new->aaY
open PySem.Heap.SameBut renaming extBut->FJ,update->zX
open PySem.Heap.UpToSlots renaming of_keeps->aa9
open PySem.NameKind renaming cell->Nm,free->wg
open PySem.NumText renaming AllDigits->abf,digitsVal->abg
open PySem.Obj renaming data_mapDictKeys->ZU,data_mapFields->Zx,mapFields->Zw,mapSeq->zP
open PySem.PassesOwn renaming leaving->rh,never->jV
open PySem.SeqAt renaming EqAt->Zh
open PySem.SeqAt.EqAt renaming int_str->YM,str_int->YN
open PySem.Shared renaming TypeIs->ZV
open PySem.Str renaming join->NF,length->zO,ofString->rf
open PySem.StrLaws renaming found_one->aa8
open PySem.Txt renaming join->rg,split->lF
open PySem.Value renaming bool->qL,bytes->YO,float->YQ,int->tI,isInt->YK,isStrOf->YL,none->kz,ref->cV,str->zE,type->oh
open PySem.Value.type renaming inj->Z4
open PySem.W renaming Frag->aU,WRecords->Z2,WalkOS->Z6,callWith_K->Fc,callWith_K0->Y7,cellsFrom_some->Y8,codeIn->Nd,emptyDict->pJ,excIn->NJ,exmOne->fu,exm_one->ZS,findIn->pI,fnOf->kG,handedIn->Y1,hasDictIn->M4,hideAll->EW,hideAll_get->MW,instObj->qM,isFn->M7,kcp_self->ZC,keepIn->qQ,length_le_weightAllW->Z3,lookIn->E8,makesIn->Y3,methodCall_KW->Y6,methodObj->MV,of_hideAll->YR,plainGet->E9,plainGet_of->M6,plainOver->Y2,takerIn->M8
open PySem.W.Fast renaming te14082659384304107361->aar,te14364793385576792824->aas,tw14082659384304107361->aap,tw14364793385576792824->aaq
open PySem.W.KIN renaming call_text->aa6,signs_num->aa1
open PySem.W.Looks renaming here->aaV,ld->aba
open PySem.Walks renaming list->ET
open PySem.Within renaming cons->aaW
open PyVbwsaj renaming answers->MO,answers_asked->MN,calls->YG,shape->zx,whole->tD
open Relation.TransGen renaming single->aat
open Sum renaming inl->bG,inr->tJ
open Sum.inl renaming inj->lD
open True renaming intro->dy
open Vbwsaj renaming BIG->FU,Books->jO,Call->cu,DEALS->EJ,Deal->aZ,LASTTICK->aam,Leg->bN,Market->aL,News->nS,Part->i6,State->aT,allOf->mf,begun->iQ,calledOff->dv,canSwap->nY,changeAt->gD,complete->nh,cutAt->d8,dealAt->l9,dealOf->ku,decimal->tq,digit->dP,done->m9,edges->gS,from_->nr,hold->FQ,isFree->jq,isGood->zw,isName->dD,isOwner->nW,legOf->fM,legsIn->qH,markHeld->cT,natural->aaa,newsRow->nq,nextHold->fg,no->eX,onRing->vK,overdue->gR,partiesOf->dj,placeOf->jQ,put->iP,putNat->ia,putWait->l8,readLegs->ly,readMarket->tm,readNames->pD,release->d7,releaseAll->iG,setDeal->nc,settle->pA,settleAll->qG,settleStep->ME,settled->dk,settledYes->pE,showLeg->tu,small->mh,spread->nj,start->vN,step->zy,sumOf->gP,swapped->me,take_->fL,text->ck,ticksOf->dU,waitCount->jP,waitersOf->sW,waitsFor->pB,without->Mx,words->gq,yes->fN,youngest->gE
open VbwsajNeutral renaming asked->aav,isText->tz,natural->aaw,step->EN,text->nZ,whole60->gr
abbrev aq:=@if_neg
abbrev ay:=@if_pos
abbrev cq:=@congrArg
abbrev cU:=@decide_eq_false
abbrev dw:=@decide_eq_true
abbrev ic:=@if_false
abbrev iF:=@if_true
abbrev i8:=@not_or
abbrev jr:=@decide_eq_decide
abbrev kr:=@decide_eq_true_eq
abbrev lz:=@of_decide_eq_true
abbrev pC:=@beq_iff_eq
abbrev vV:=@beq_eq_false_iff_ne
abbrev Mz:=@decide_eq_true_iff
abbrev NI:=@ne_true_of_eq_false
namespace L2
open PySem PySem.Spec PyProof.Rows
def inClass(s:bq)(j:Nat):bq:=match s with
 | .ClassDef _ _ _ body _ _ _ _ _ _ _=>body.getD j (.Pass ⟨0,0,0,0⟩)
 |_=>.Pass ⟨0,0,0,0⟩
def jB(s:bq):Arguments:=match s with
 | .FunctionDef _ a _ _ _ _ _ _ _ _=>a
 |_=>{posonlyargs:=[],args:=[],vararg:=none,kwonlyargs:=[],kw_defaults:=[],kwarg:=none,defaults:=[]}
def i0(s:bq):List bq:=match s with
 | .FunctionDef _ _ b _ _ _ _ _ _ _=>b
 |_=>[]
def bb(s:bq):eV:=match s with
 | .FunctionDef _ _ _ _ _ _ sc _ _ _=>sc
 |_=>{kind:=.function,names:=[],isGenerator:=false,isCoroutine:=false}
end L2
namespace Pg
open PySem PySem.W PyProof.Rows L2
def top(i:Nat):bq:=PySem.Challenge.pw_ringmarket_s01_answers.main.body.getD i (.Pass ⟨0,0,0,0⟩)
abbrev vt:bq:=inClass (top 9) 0
abbrev yR:bq:=inClass (top 10) 0
abbrev rV:bq:=inClass (top 10) 1
abbrev sO:bq:=inClass (top 10) 2
abbrev u0:bq:=inClass (top 10) 3
abbrev t4:bq:=inClass (top 10) 4
abbrev xj:bq:=inClass (top 10) 5
abbrev yP:bq:=inClass (top 10) 6
abbrev yk:bq:=inClass (top 10) 7
abbrev xZ:bq:=inClass (top 10) 8
abbrev za:bq:=inClass (top 10) 9
abbrev r8:bq:=top 14
abbrev xb:bq:=top 15
abbrev ye:bq:=top 16
abbrev vD:bq:=top 17
abbrev yI:bq:=top 18
abbrev uL:bq:=top 19
abbrev ug:bq:=top 20
abbrev uO:bq:=top 21
abbrev xu:bq:=top 22
abbrev t8:bq:=top 23
abbrev y3:bq:=top 24
abbrev ud:bq:=top 33
abbrev um:bq:=top 34
abbrev vg:bq:=top 35
abbrev vk:bq:=top 36
abbrev uM:bq:=top 37
abbrev zg:bq:=top 38
abbrev xA:bq:=top 39
abbrev wI:bq:=top 40
abbrev u4:bq:=top 41
abbrev xD:bq:=top 42
abbrev vE:bq:=top 43
abbrev xM:bq:=top 44
abbrev rX:bq:=top 45
abbrev wN:bq:=top 53
abbrev zh:bq:=top 54
abbrev x9:bq:=top 55
abbrev xa:bq:=top 56
abbrev wQ:bq:=top 57
abbrev yS:bq:=top 58
abbrev yD:bq:=top 59
abbrev xg:bq:=top 60
abbrev yc:bq:=top 61
abbrev yE:bq:=top 62
abbrev yU:bq:=top 63
abbrev xf:bq:=top 64
abbrev ux:bq:=top 65
abbrev ue:bq:=top 66
abbrev xJ:bq:=top 67
abbrev ub:bq:=top 68
abbrev wM:bq:=top 69
abbrev zk:bq:=top 70
abbrev uN:bq:=top 71
abbrev ym:bq:=top 72
abbrev uh:bq:=top 73
abbrev yr:bq:=top 74
abbrev se:bq:=top 75
abbrev uf:bq:=top 76
abbrev wU:bq:=top 77
abbrev y1:bq:=top 78
abbrev zm:bq:=top 79
abbrev yf:bq:=top 80
abbrev uz:bq:=top 83
abbrev wJ:bq:=top 84
structure Rw where
 n:ae
 q:ae
 s:bq
 m:af
 a:Nat
 b:Bool
 t:Nat
 d:Nat
 l:Int
 g:Int
def oF(c:String)(d:Data):bc:={cls:=.type c,data:=d}
def Rw.c(r:Rw):bc:=let k:=bif r.b then r.a - 5 else r.a - 3;let o (v:af):af:=bif r.b then v else .none
 oF "code" (.fields #[.str r.n r.t,.str r.q (r.t+1),.str "/claim/cut.py" (r.t+2),.int r.l 0,.int r.g 0,.int 0 0,.int 0 0,.int 3 0,.ref k,.bool true,.int 181 0,.ref (k+1),.none,o (.ref (k+2)),o (.ref (k+3)),.ref (bif r.b then k+4 else k+2),.int (r.t+r.d) 0,.int r.l 0,.str "/claim/cut.py" (r.t+r.d+1)])
def Rw.f(r:Rw):bc:=oF "function" (.func (fnOf r.n r.q (jB r.s) (i0 r.s) (bb r.s) .none .none .none r.m none (.ref r.a) .none))
def v0:af:=.str "ringmarket.state" 289
def v1:af:=.str "ringmarket.settling" 449
def v2:af:=.str "ringmarket.texts" 538
def v3:af:=.str "ringmarket.answering" 650
def v4:af:=.str "ringmarket.trade" 973
def cB(n:ae)(s:bq)(m:af)(a:Nat)(b:Bool)(t d:Nat)(l g:Int):Rw:=⟨n,n,s,m,a,b,t,d,l,g⟩
def dR:List Rw:=[cB "is_name" vk v2 262 false 573 3 174 1,cB "sign_of" ud v2 247 true 554 4 160 1,cB "words_of" um v2 252 false 561 3 170 1,cB "pieces_of" vg v2 257 false 567 3 172 1,cB "is_amount" uM v2 267 false 579 3 176 1,cB "add_name" zg v2 274 true 585 6 180 3,cB "read_market" xA v2 281 true 594 8 191 1,cB "is_leg" wI v2 288 true 605 6 200 3,cB "wrong_line_of_legs" u4 v2 293 false 614 3 206 3,cB "leg_of" xD v2 300 true 620 6 217 3,cB "read_legs" vE v2 305 false 629 3 219 3,cB "text_of_leg" xM v2 312 true 635 6 223 3,cB "row_of" rX v2 317 false 644 3 225 1,cB "lacks_of" r8 v1 180 false 455 3 91 3,cB "lacks_nothing" xb v1 187 true 461 6 96 3,cB "first_to_hold" ye v1 194 true 470 6 98 1,cB "all_parts_held" vD v1 199 false 479 3 103 2,cB "hold_parts" yI v1 206 true 485 6 105 1,cB "waits_by" uL v1 211 false 494 3 115 4,cB "waits_for" ug v1 216 false 500 3 122 3,cB "all_waits" uO v1 221 false 506 3 124 1,cB "is_on_ring" xu v1 228 true 512 8 129 2,cB "greatest_on_ring" t8 v1 233 false 523 3 140 1,cB "settle" y3 v1 240 true 529 6 143 1,cB "check_range" wN v3 324 true 664 6 234 3,cB "check_owner" zh v3 331 true 673 5 237 2,cB "check_amount" x9 v3 338 true 681 7 239 4,cB "check_free" xa v3 345 true 691 7 243 4,cB "check_deal" wQ v3 352 true 701 5 246 2,cB "left_by_exchange" ux v3 406 false 785 3 301 2,cB "can_be_made" ue v3 411 false 791 3 307 1,cB "end_overdue" ub v3 423 false 808 3 316 1,cB "answer_market" yS v3 359 true 709 7 249 3,cB "answer_make" yD v3 366 true 719 9 253 3,cB "answer_burn" xg v3 373 true 731 9 263 3,cB "answer_deal" yc v3 380 true 743 8 272 3,cB "answer_agree" yE v3 387 true 754 8 279 3,cB "answer_withdraw" yU v3 394 true 765 8 288 3,cB "answer_cancel" xf v3 401 true 776 6 297 3,cB "answer_swap" xJ v3 418 true 797 8 309 3,cB "answer_tick" wM v3 430 true 814 8 325 3,cB "answer_account" zk v3 437 true 825 9 334 3,cB "answer_deals" uN v3 442 false 837 3 340 3,cB "answer_parts" ym v3 449 true 843 9 346 3,cB "answer_legs" uh v3 454 false 855 3 352 3,cB "answer_waits" yr v3 461 true 861 10 356 3,cB "answer_books" se v3 466 false 874 3 362 3,cB "answer_could" uf v3 471 false 880 3 369 3,cB "answer_read" wU v3 478 true 886 9 373 3,cB "answer_move" y1 v3 485 true 898 10 380 3,cB "answer_names" zm v3 492 true 911 6 391 3,cB "answer_lacks" yf v3 499 true 920 9 393 3,cB "answer_or_refusal" uz v4 527 true 975 7 404 4,cB "answers" wJ v4 534 true 985 12 417 1]
def mR:List Rw:=[⟨"begin","Market.begin",rV,v0,118,false,349,3,27,3⟩,⟨"nothing","Market.nothing",sO,v0,123,false,355,3,39,1⟩,⟨"gives_of","Market.gives_of",u0,v0,128,false,361,3,42,2⟩,⟨"parts_of","Market.parts_of",t4,v0,133,false,367,3,51,2⟩,⟨"add_deal","Market.add_deal",xj,v0,140,true,373,7,54,3⟩,⟨"hold_part","Market.hold_part",yP,v0,147,true,383,9,60,3⟩,⟨"drop_part","Market.drop_part",yk,v0,154,true,395,9,67,3⟩,⟨"call_off","Market.call_off",xZ,v0,161,true,407,7,74,2⟩,⟨"carry_out","Market.carry_out",za,v0,168,true,417,11,81,2⟩]
def iR:List Rw:=[⟨"__init__","Deal.__init__",vt,v0,92,true,307,8,17,5⟩,⟨"__init__","Market.__init__",yR,v0,113,true,342,4,24,1⟩]
def en(k:ae)(t:Nat)(v:af):ae×Nat×af:=(k,t,v)
def ke(P:gO)(x:ae×Nat×af):iO:=⟨PyData.keyHash P x.1,.str x.1 x.2.1,x.2.2⟩
def dO(P:gO)(l:List (ae×Nat×af))(n:Nat):bc:=oF "dict" (.dict (l.map (ke P)).toArray n)
def cS(n:ae)(b m:List af)(a:Nat)(t:Nat)(x:Option af)(e:String):bc:={cls:=.type "type",data:=.cls {name:=n,bases:=b,mro:=.ref a::m,ns:=a - 1,qualname:=n},slots:=#[x,none,some (.str n t),some (.str n (t+8)),some (.builtin e),some (.bool true)]}
def xC(n:ae)(a t:Nat):bc:=cS n [.type "Exception"] [.type "Exception",.type "BaseException",.type "object"] a t (some (.ref (a - 9))) "Exception.__new__"
def xN(P:gO)(a t:Nat)(l:Int):bc:=dO P [("__module__",t+7,.str "ringmarket.refusals" 187),("__firstlineno__",t+11,.int l (t+10)),("__static_attributes__",t+12,.ref (a - 2)),("__weakref__",t+14,.ref (a+1)),("__doc__",t+15,.none)] 3
def gN:List (ae×Nat×af):=[en "__name__" 165 (.str "ringmarket.trade" 973),en "__doc__" 166 .none,en "__package__" 167 .none,en "__loader__" 168 (.builtin "__main__.__loader__#opaque"),en "__spec__" 169 .none,en "__annotations__" 170 (.ref 6),en "__builtins__" 171 (.ref 4),en "__file__" 173 (.str "/claim/cut.py" 172),en "__cached__" 174 .none,en "OutOfRange" 208 (.ref 24),en "WrongText" 228 (.ref 37),en "NoSuchDeal" 248 (.ref 50),en "NotSo" 268 (.ref 63),en "NoPlace" 288 (.ref 76),en "WAITS" 292 (.int 0 291),en "HELD" 294 (.int 1 293),en "Deal" 329 (.ref 96),en "Market" 448 (.ref 172),en "DONE" 452 (.int 1 451),en "CALLED_OFF_FOR_RING" 454 (.int 2 453),en "lacks_of" 460 (.ref 181),en "lacks_nothing" 469 (.ref 188),en "first_to_hold" 478 (.ref 195),en "all_parts_held" 484 (.ref 200),en "hold_parts" 493 (.ref 207),en "waits_by" 499 (.ref 212),en "waits_for" 505 (.ref 217),en "all_waits" 511 (.ref 222),en "is_on_ring" 522 (.ref 229),en "greatest_on_ring" 528 (.ref 234),en "settle" 537 (.ref 241),en "LETTERS" 541 (.str "abcdefghijklmnopqrstuvwxyz" 540),en "DIGITS" 543 (.str "0123456789" 542),en "MOST_LETTERS" 545 (.int 8 544),en "MOST_DIGITS" 547 (.int 9 546),en "MOST_OWNERS" 549 (.int 8 548),en "MOST_GOODS" 551 (.int 6 550),en "MOST_LEGS" 553 (.int 12 552),en "sign_of" 560 (.ref 248),en "words_of" 566 (.ref 253),en "pieces_of" 572 (.ref 258),en "is_name" 578 (.ref 263),en "is_amount" 584 (.ref 268),en "add_name" 593 (.ref 275),en "read_market" 604 (.ref 282),en "is_leg" 613 (.ref 289),en "wrong_line_of_legs" 619 (.ref 294),en "leg_of" 628 (.ref 301),en "read_legs" 634 (.ref 306),en "text_of_leg" 643 (.ref 313),en "row_of" 649 (.ref 318),en "MOST_MADE" 653 (.int 1000000000 652),en "MOST_DEALS" 655 (.int 16 654),en "MOST_TICKS_OF_DEAL" 657 (.int 1000 656),en "MOST_TICKS_AT_ONCE" 659 (.int 100 658),en "LAST_TICK" 661 (.int 1000000000 660),en "TIME_WAS_OVER" 663 (.int 3 662),en "check_range" 672 (.ref 325),en "check_owner" 680 (.ref 332),en "check_amount" 690 (.ref 339),en "check_free" 700 (.ref 346),en "check_deal" 708 (.ref 353),en "answer_market" 718 (.ref 360),en "answer_make" 730 (.ref 367),en "answer_burn" 742 (.ref 374),en "answer_deal" 753 (.ref 381),en "answer_agree" 764 (.ref 388),en "answer_withdraw" 775 (.ref 395),en "answer_cancel" 784 (.ref 402),en "left_by_exchange" 790 (.ref 407),en "can_be_made" 796 (.ref 412),en "answer_swap" 807 (.ref 419),en "end_overdue" 813 (.ref 424),en "answer_tick" 824 (.ref 431),en "answer_account" 836 (.ref 438),en "answer_deals" 842 (.ref 443),en "answer_parts" 854 (.ref 450),en "answer_legs" 860 (.ref 455),en "answer_waits" 873 (.ref 462),en "answer_books" 879 (.ref 467),en "answer_could" 885 (.ref 472),en "answer_read" 897 (.ref 479),en "answer_move" 910 (.ref 486),en "answer_names" 919 (.ref 493),en "answer_lacks" 931 (.ref 500),en "CALLS" 972 (.ref 521),en "answer_or_refusal" 984 (.ref 528),en "answers" 999 (.ref 535)]
def Tu:List (ae×Nat×af):=[en "__module__" 302 (.str "ringmarket.state" 289),en "__firstlineno__" 306 (.int 15 305),en "__init__" 317 (.ref 93),en "__static_attributes__" 322 (.ref 94),en "__dict__" 324 (.ref 97),en "__weakref__" 326 (.ref 98),en "__doc__" 327 .none]
def Uy:List (ae×Nat×af):=[en "__module__" 337 (.str "ringmarket.state" 289),en "__firstlineno__" 341 (.int 22 340),en "__init__" 348 (.ref 114),en "begin" 354 (.ref 119),en "nothing" 360 (.ref 124),en "gives_of" 366 (.ref 129),en "parts_of" 372 (.ref 134),en "add_deal" 382 (.ref 141),en "hold_part" 394 (.ref 148),en "drop_part" 406 (.ref 155),en "call_off" 416 (.ref 162),en "carry_out" 430 (.ref 169),en "__static_attributes__" 441 (.ref 170),en "__dict__" 443 (.ref 173),en "__weakref__" 445 (.ref 174),en "__doc__" 446 .none]
def CC:List (Nat×Int×Int):=[(360,0,1),(367,3,0),(374,3,0),(381,1,1),(388,2,0),(395,2,0),(402,1,0),(419,0,1),(431,1,0),(438,1,0),(443,0,0),(450,1,0),(455,1,0),(462,0,0),(467,0,0),(472,1,0),(479,0,1),(486,4,0),(493,0,0),(500,2,0)]
def KT(P:gO):Frag:=(3,dO P gN 88)::(dR++mR++iR).flatMap (λr=>[(r.a,r.c),(r.a+1,r.f)])++[(24,xC "OutOfRange" 24 189),(23,xN P 24 189 2),(37,xC "WrongText" 37 209),(36,xN P 37 209 4),(50,xC "NoSuchDeal" 50 229),(49,xN P 50 229 6),(63,xC "NotSo" 63 249),(62,xN P 63 249 8),(76,xC "NoPlace" 76 269),(75,xN P 76 269 10),(96,cS "Deal" [.type "object"] [.type "object"] 96 295 none "object.__new__"),(95,dO P Tu 4),(172,cS "Market" [.type "object"] [.type "object"] 172 330 none "object.__new__"),(171,dO P Uy 4),(521,oF "tuple" (.seq ((cR 20).map λi=>.ref (501+i)).toArray))]++CC.zipIdx.map λx=>(501+x.2,oF "tuple" (.seq #[.ref x.1.1,.int x.1.2.1 (932+2*x.2),.int x.1.2.2 (933+2*x.2)]))
def Ei:List aa:=3::(dR++mR++iR).flatMap (λr=>[r.a,r.a+1])++[24,23,37,36,50,49,63,62,76,75,96,95,172,171,521]++(cR 20).map (501+·)
abbrev pw:bA:=PySem.Challenge.pw_ringmarket_s01_answers
def vw:bA:=view pw [84]
def lo:List ae:=(pw.main.scope.names.map (·.1)).filter λx=>decide (x≠("answers":ae))
def Hk:Hook:=kHook KT Ei (λz=>by kernel_rfl)
def Xq:aC->Bool:=λs=>xlAt vw [] s&&recOk [] s
def Rn(w:bB)(os:OsState):Option aC:=aap aaq pw w 11 (some (.ref 6)) 7496 ⟨boot_heap w.params,#[],boot_drawn,boot_toks,os⟩ (topStub pw)
theorem rn(w:bB)(os:OsState):(Rn w os).map (λs=>(staticsOk (Yo pw.main.body) (boot_heap w.params) s.heap&&namesBound pw s.heap&&gensDone s&&laidKept (boot_heap w.params) s.heap,openSeen vw lo (Yo pw.main.body) Xq true s,Ei.map s.heap.get?))=some (true,openGood vw lo,(KT w.params).map λp=>some p.2):=by kernel_rfl
theorem left:LeftO pw vw lo Xq Hk.obs Hk.val 7496:=λw=>by
 obtain⟨⟨h,gs,d,k,os⟩,e,e'⟩:=di.mp (boot_open (p:=pw) (N:=7496) (by kernel_rfl) (by decide) (λs=>by kernel_rfl) w)
 obtain⟨rfl,rfl,rfl,rfl⟩:h=boot_heap w.params/\gs=#[]/\d=boot_drawn/\k=boot_toks:=by simpa using e'
 obtain⟨s,r1,r2⟩:=di.mp (rn w os);obtain⟨c1,r2⟩:=EA r2;obtain⟨c2,c3⟩:=EA r2;have t:topRun treeTable pw w 11 (some (.ref 6)) 7496 ⟨boot_heap w.params,#[],boot_drawn,boot_toks,os⟩ (topStub pw)=some s:=by rw[aar,aas];exact r1
 have z:((boot_heap w.params).isNs iD&&(#[]:Array Mr).size==0,(boot_heap w.params).objs.size,(boot_heap w.params).nsMap iD "__annotations__")=(true,11,some (.ref 6)):=by kernel_rfl
 obtain⟨z1,z⟩:=EA z;obtain⟨z2,z3⟩:=EA z;have f:topFrom treeTable pw w 7496 ⟨boot_heap w.params,#[],boot_drawn,boot_toks,os⟩=some s:=by
  unfold topFrom;dsimp only;rw[z1,z2,z3,t];show(match _ with|true=>_|false=>_)=_
  rw[c1]
 unfold openEnds;rw[e,sV,f];exact cq some (Ms c2 c3)
end Pg
namespace Rm
open Vbwsaj
variable {P:List aS}{d:aZ}{ng o nx sn:Nat}{b:jO}{ds:List aZ}{es:List (Nat×Nat)}
theorem foldl_add:∀(l:List Nat)(a:Nat),l.foldl (λa b=>a+b) a=a+gP l
 |[],a=>by simp[gP]
 |x::r,a=>by
  have h1:=foldl_add r (a+x);have h2:=foldl_add r (0+x);simp only[gP,lj]at*;omega
theorem JN:gP []=0:=rfl
theorem jh(x:Nat)(r:List Nat):gP (x::r)=x+gP r:=by
 have h:=foldl_add r (0+x);simp only[gP,lj]at*;omega
theorem JY:∀l r:List Nat,gP (l++r)=gP l+gP r
 |[],r=>by simp[JN]
 |x::l,r=>by rw[vH,jh,jh,JY l r];omega
theorem An{α:Type}(f:α->Nat):∀{l r:List α},l.Pairwise (λa b=>f a<f b)->r.Pairwise (λa b=>f a<f b)->(∀x,x∈l↔x∈r)->l=r
 |[],[],_,_,_=>rfl
 |[],y::r,_,_,h=>by have:=(h y).2 (by simp);simp at this
 |x::l,[],_,_,h=>by have:=(h x).1 (by simp);simp at this
 |x::l,y::r,hl,hr,h=>by
  rw[iE]at hl hr;have e:x=y:=by
   have hx:=(h x).1 (by simp)
   have hy:=(h y).2 (by simp)
   rcases bM.1 hx with e|hx
   .exact e
   .rcases bM.1 hy with e|hy
    .exact e.symm
    .have a:=hl.1 y hy
     have b:=hr.1 x hx;omega
  subst e
  have:l=r:=An f hl.2 hr.2 (λz=>by
   constructor
   .intro hz
    rcases bM.1 ((h z).1 (b8 _ hz))with e|q
    .subst e;have:=hl.1 z hz;omega
    .exact q
   .intro hz
    rcases bM.1 ((h z).2 (b8 _ hz))with e|q
    .subst e;have:=hr.1 z hz;omega
    .exact q)
  rw[this]
theorem CQ(x z:Nat×(Nat×Nat)):∀l,z∈l8 x l↔z=x\/z∈l
 |[]=>by simp[l8]
 |y::r=>by
  unfold l8;split
  .simp
  .simp only[bM,CQ x z r]
   constructor
   .rintro(h|h|h)<;>simp[h]
   .rintro(h|h|h)<;>simp[h]
theorem GN(x:Nat×(Nat×Nat)):∀l,l.Pairwise (λa b=>a.1<b.1)->(∀y∈l,y.1≠x.1)->(l8 x l).Pairwise (λa b=>a.1<b.1)
 |[],_,_=>by simp[l8]
 |y::r,h,hn=>by
  unfold l8;rw[iE]at h;split
  .rename_i hxy
   rw[iE];refine⟨λz hz=>?_,iE.2 h⟩;rcases bM.1 hz with e|hz
   .rw[e];exact hxy
   .exact Mu hxy (h.1 z hz)
  .rename_i hxy
   rw[iE];refine⟨λz hz=>?_,GN x r h.2 (λz hz=>hn z (b8 _ hz))⟩;rcases(CQ x z r).1 hz with e|hz
   .rw[e];have:=hn y (by simp);omega
   .exact h.1 z hz
theorem vv(z:Nat×(Nat×Nat)):∀l:List (Nat×(Nat×Nat)),z∈l.foldr l8 []↔z∈l
 |[]=>by simp
 |x::r=>by rw[Mv,CQ,vv z r,bM]
theorem Jt:∀l:List (Nat×(Nat×Nat)),(l.map (·.1)).Nodup->(l.foldr l8 []).Pairwise (λa b=>a.1<b.1)
 |[],_=>by simp
 |x::r,h=>by
  rw[bS,gC]at h;rw[Mv];refine GN x _ (Jt r h.2) (λy hy e=>h.1 ?_);rw[vv]at hy;exact bw.2 ⟨y,hy,e⟩
theorem Lz(x:Nat×(Nat×Nat)):∀l,(l8 x l).length=l.length+1
 |[]=>rfl
 |y::r=>by
  unfold l8;split
  .rfl
  .rw[cY,Lz x r];rfl
theorem IA:∀l:List (Nat×(Nat×Nat)),(l.foldr l8 []).length=l.length
 |[]=>rfl
 |x::r=>by rw[Mv,Lz,IA r];rfl
abbrev aS:=Nat×(Nat×(Nat×Bool))
structure Ord(m:aL)(P:List aS):Prop where
 sorted:P.Pairwise (λa b=>a.1<b.1)
 mem:∀x:aS,x∈P↔∃d∈m.deals,∃p∈d.parts,x=(p.since,d.num,p.owner,p.held)
def waiting(P:List aS):List aS:=P.filter λx=> !x.2.2.2
def pP(m:aL):List (Nat×(Nat×Nat)):=m.deals.flatMap λd=>(d.parts.filter λp=> !p.held).map λp=>(p.since,d.num,p.owner)
theorem va(m:aL):sW m=(pP m).foldr l8 []:=rfl
theorem PJ(m:aL):jP m=(pP m).length:=by unfold jP;rw[va,IA]
theorem Ep{m:aL}{z:Nat×(Nat×Nat)}:z∈pP m↔∃d∈m.deals,∃p∈d.parts,p.held=false/\z=(p.since,d.num,p.owner):=by
 simp only[pP,lp,bw,dG,EB];constructor
 .rintro⟨d,hd,p,⟨hp,hh⟩,e⟩;exact⟨d,hd,p,hp,hh,e.symm⟩
 .rintro⟨d,hd,p,hp,hh,e⟩;exact⟨d,hd,p,⟨hp,hh⟩,e.symm⟩
def xW(m:aL):Prop:=(m.deals.flatMap λd=>d.parts.map λp=>p.since).Nodup
theorem OR(m:aL):((pP m).map (·.1)).Sublist (m.deals.flatMap λd=>d.parts.map λp=>p.since):=by
 unfold pP;induction m.deals with
 |nil=>simp
 |cons d r ih=>
  simp only[gQ,bZ];refine qD ?_ ih;rw[bU];exact(lq (l:=d.parts)).map _
theorem Rj{m:aL}(h:xW m):(sW m).Pairwise (λa b=>a.1<b.1):=by
 rw[va];exact Jt _ (Mw (OR m) h)
def D6(x:aS):Nat×(Nat×Nat):=(x.1,x.2.1,x.2.2.1)
theorem TK{m:aL}(h:xW m)(o:Ord m P):sW m=(waiting P).map D6:=by
 refine An (·.1) (Rj h) ?_ (λz=>?_)
 .rw[sX]
  exact(qE (lq) o.sorted)
 .rw[va,vv,Ep]
  simp only[waiting,bw,dG,EB];constructor
  .rintro⟨d,hd,p,hp,hh,e⟩
   exact⟨(p.since,d.num,p.owner,p.held),⟨(o.mem _).2 ⟨d,hd,p,hp,rfl⟩,hh⟩,e.symm⟩
  .rintro⟨x,⟨hx,hh⟩,e⟩
   obtain⟨d,hd,p,hp,ex⟩:=(o.mem _).1 hx;subst ex;exact⟨d,hd,p,hp,hh,e.symm⟩
theorem Hx{m:aL}(o:Ord m P)(hd:d∈m.deals)(hn:∀e∈m.deals,e.num=d.num->e=d)(hs:d.parts.Pairwise (λa b=>a.since<b.since)):(P.filter λx=>x.2.1==d.num)=d.parts.map λp=>(p.since,d.num,p.owner,p.held):=by
 refine An (·.1) (qE (lq) o.sorted) ?_ (λz=>?_)
 .rw[sX];exact hs
 .rw[dG,o.mem,bw]
  constructor
  .rintro⟨⟨e,he,p,hp,ex⟩,hz⟩
   subst ex;have:=hn e he (by simpa using hz)
   subst this;exact⟨p,hp,rfl⟩
  .rintro⟨p,hp,e⟩
   subst e;exact⟨⟨d,hd,p,hp,rfl⟩,by simp⟩
theorem Tc{α:Type}{P:List α->Prop}(nil:P [])(snoc:∀l x,P l->P (l++[x]))(l:List α):P l:=by
 have h:∀r:List α,P r.reverse:=by
  intro r;induction r with
  |nil=>exact nil
  |cons x r ih=>rw[List.reverse_cons];exact snoc _ _ ih
 have:=h l.reverse
 rwa [Yp]at this
structure Shape(no ng:Nat)(b:jO):Prop where
 len:b.length=no
 row:∀r∈b,r.length=ng
theorem vC{no:Nat}(h:Shape no ng b)(o g:Nat)(f:Nat->Nat):Shape no ng (gD b o g f):=by
 unfold gD;constructor
 .rw[EC];exact h.len
 .intro r hr
  obtain⟨i,hi,e⟩:=ED.1 hr;rw[Yq]at e;have hi':i<b.length:=by simpa using hi
  split at e
  .rw[<-e,EC];exact h.row _ (fo _)
  .rw[<-e];exact h.row _ (fo _)
theorem JC{no:Nat}(h:Shape no ng b){g:Nat}(ho:o<no)(hg:g<ng)(f:Nat->Nat)(o' g':Nat):amount (gD b o g f) o' g'=if o'=o/\g'=g then f (amount b o g)else amount b o' g':=by
 have hl:o<b.length:=by rw[h.len];exact ho
 have hr:(b[o]).length=ng:=h.row _ (fo hl);unfold amount gD;simp only[eA,EE];by_cases e:o'=o
 .subst e
  simp only[bH hl,iF,Yr,zr,EF,EE,true_and];by_cases eg:g'=g
  .subst eg
   have hg2:g'<(b[o']).length:=by rw[hr];exact hg
   simp[bH hg2]
  .rw[aq eg]
   have:¬g=g':=λq=>eg q.symm;simp[this]
 .have:¬o=o':=λq=>e q.symm
  simp[this,e]
theorem J5{no:Nat}{c:jO}(hb:Shape no ng b)(hc:Shape no ng c)(h:∀o g,o<no->g<ng->amount b o g=amount c o g):b=c:=by
 refine Ys (by rw[hb.len,hc.len]) (λo h1 h2=>?_)
 have ho:o<no:=by rw[<-hb.len];exact h1
 have r1:(b[o]).length=ng:=hb.row _ (fo h1);have r2:(c[o]).length=ng:=hc.row _ (fo h2);refine Ys (by rw[r1,r2]) (λg h3 h4=>?_)
 have hg:g<ng:=by rw[<-r1];exact h3
 have:=h o g ho hg;unfold amount at this;simpa[eA,bH h1,bH h2,bH h3,bH h4]using this
theorem qm{no:Nat}(h:Shape no ng b)(o g n:Nat):Shape no ng (iP b o g n):=vC h _ _ _
theorem pU{no:Nat}(h:Shape no ng b)(o g n:Nat):Shape no ng (fL b o g n):=vC h _ _ _
theorem Dv{no:Nat}(h:Shape no ng b){g:Nat}(ho:o<no)(hg:g<ng)(n o' g':Nat):amount (iP b o g n) o' g'=if o'=o/\g'=g then amount b o g+n else amount b o' g':=JC h ho hg _ _ _
theorem Dm{no:Nat}(h:Shape no ng b){g:Nat}(ho:o<no)(hg:g<ng)(n o' g':Nat):amount (fL b o g n) o' g'=if o'=o/\g'=g then amount b o g - n else amount b o' g':=JC h ho hg _ _ _
structure Frame(no:Nat)(m:aL):Prop where
 free:Shape no m.goods m.free
 held:Shape no m.goods m.held
def d6(m:aL)(d:aZ)(o k:Nat):aL:=(cR k).foldl (λm g=>{m with free:=fL m.free o g (gives d.legs o g),held:=iP m.held o g (gives d.legs o g)}) m
def dZ(m:aL)(d:aZ)(o k:Nat):aL:=(cR k).foldl (λm g=>{m with held:=fL m.held o g (gives d.legs o g),free:=iP m.free o g (gives d.legs o g)}) m
theorem yw(m:aL)(d:aZ)(o:Nat):hold m d o=d6 m d o m.goods:=rfl
theorem GF(m:aL)(d:aZ)(o:Nat):d7 m d o=dZ m d o m.goods:=rfl
theorem CK(m:aL)(d:aZ)(o k:Nat):d6 m d o (k+1)={d6 m d o k with free:=fL (d6 m d o k).free o k (gives d.legs o k),held:=iP (d6 m d o k).held o k (gives d.legs o k)}:=by unfold d6;rw[pq,sY];rfl
theorem Aj(m:aL)(d:aZ)(o k:Nat):dZ m d o (k+1)={dZ m d o k with held:=fL (dZ m d o k).held o k (gives d.legs o k),free:=iP (dZ m d o k).free o k (gives d.legs o k)}:=by unfold dZ;rw[pq,sY];rfl
theorem qv(m:aL)(d:aZ)(o:Nat):∀k,(d6 m d o k).goods=m.goods/\(d6 m d o k).deals=m.deals
 |0=>⟨rfl,rfl⟩
 |k+1=>by rw[CK];exact qv m d o k
theorem uX(m:aL)(d:aZ)(o:Nat):∀k,(dZ m d o k).goods=m.goods/\(dZ m d o k).deals=m.deals
 |0=>⟨rfl,rfl⟩
 |k+1=>by rw[Aj];exact uX m d o k
theorem wF{no:Nat}{m:aL}(F:Frame no m)(d:aZ){o:Nat}(ho:o<no):∀k,k<=m.goods->Frame no (d6 m d o k)/\(∀o' g',amount (d6 m d o k).free o' g'=if o'=o/\g'<k then amount m.free o' g' - gives d.legs o g' else amount m.free o' g')/\(∀o' g',amount (d6 m d o k).held o' g'=if o'=o/\g'<k then amount m.held o' g'+gives d.legs o g' else amount m.held o' g')
 |0,_=>⟨F,λz z=>by simp[d6],λz z=>by simp[d6]⟩
 |k+1,hk=>by
  obtain⟨F1,a,b⟩:=wF F d ho k (by omega)
  have hg:=(qv m d o k).1;rw[CK];refine⟨⟨pU F1.free _ _ _,qm F1.held _ _ _⟩,λo' g'=>?_,λo' g'=>?_⟩
  .show amount (fL _ o k _) o' g'=_
   rw[Dm F1.free ho (by rw[hg];omega),a,a]
   by_cases e:o'=o/\g'=k
   .obtain⟨e1,e2⟩:=e;subst e1;subst e2;simp
   .rw[aq e]
    by_cases e2:o'=o
    .subst e2
     have:g'≠k:=λq=>e ⟨rfl,q⟩;by_cases e3:g'<k
     .rw[ay ⟨rfl,e3⟩,ay ⟨rfl,by omega⟩]
     .rw[aq (λq=>e3 q.2),aq (λq=>by omega)]
    .rw[aq (λq=>e2 q.1),aq (λq=>e2 q.1)]
  .show amount (iP _ o k _) o' g'=_
   rw[Dv F1.held ho (by rw[hg];omega),b,b]
   by_cases e:o'=o/\g'=k
   .obtain⟨e1,e2⟩:=e;subst e1;subst e2;simp
   .rw[aq e]
    by_cases e2:o'=o
    .subst e2
     have:g'≠k:=λq=>e ⟨rfl,q⟩;by_cases e3:g'<k
     .rw[ay ⟨rfl,e3⟩,ay ⟨rfl,by omega⟩]
     .rw[aq (λq=>e3 q.2),aq (λq=>by omega)]
    .rw[aq (λq=>e2 q.1),aq (λq=>e2 q.1)]
theorem wH{no:Nat}{m:aL}(F:Frame no m)(d:aZ){o:Nat}(ho:o<no):∀k,k<=m.goods->Frame no (dZ m d o k)/\(∀o' g',amount (dZ m d o k).free o' g'=if o'=o/\g'<k then amount m.free o' g'+gives d.legs o g' else amount m.free o' g')/\(∀o' g',amount (dZ m d o k).held o' g'=if o'=o/\g'<k then amount m.held o' g' - gives d.legs o g' else amount m.held o' g')
 |0,_=>⟨F,λz z=>by simp[dZ],λz z=>by simp[dZ]⟩
 |k+1,hk=>by
  obtain⟨F1,a,b⟩:=wH F d ho k (by omega)
  have hg:=(uX m d o k).1;rw[Aj];refine⟨⟨qm F1.free _ _ _,pU F1.held _ _ _⟩,λo' g'=>?_,λo' g'=>?_⟩
  .show amount (iP _ o k _) o' g'=_
   rw[Dv F1.free ho (by rw[hg];omega),a,a]
   by_cases e:o'=o/\g'=k
   .obtain⟨e1,e2⟩:=e;subst e1;subst e2;simp
   .rw[aq e]
    by_cases e2:o'=o
    .subst e2
     have:g'≠k:=λq=>e ⟨rfl,q⟩;by_cases e3:g'<k
     .rw[ay ⟨rfl,e3⟩,ay ⟨rfl,by omega⟩]
     .rw[aq (λq=>e3 q.2),aq (λq=>by omega)]
    .rw[aq (λq=>e2 q.1),aq (λq=>e2 q.1)]
  .show amount (fL _ o k _) o' g'=_
   rw[Dm F1.held ho (by rw[hg];omega),b,b]
   by_cases e:o'=o/\g'=k
   .obtain⟨e1,e2⟩:=e;subst e1;subst e2;simp
   .rw[aq e]
    by_cases e2:o'=o
    .subst e2
     have:g'≠k:=λq=>e ⟨rfl,q⟩;by_cases e3:g'<k
     .rw[ay ⟨rfl,e3⟩,ay ⟨rfl,by omega⟩]
     .rw[aq (λq=>e3 q.2),aq (λq=>by omega)]
    .rw[aq (λq=>e2 q.1),aq (λq=>e2 q.1)]
structure j7(no ng:Nat)(l:List bN):Prop where
 lM:∀x∈l,x.from_<no
 lN:∀x∈l,x.to_<no
 jK:∀x∈l,x.good<ng
theorem oA(x z:Nat):∀l,z∈ia x l↔z=x\/z∈l
 |[]=>by simp[ia]
 |y::r=>by
  unfold ia;split
  .rename_i h;subst h;simp
  .split
   .simp
   .simp only[bM,oA x z r]
    constructor
    .rintro(h|h|h)<;>simp[h]
    .rintro(h|h|h)<;>simp[h]
theorem uF(x:Nat):∀l:List Nat,l.Pairwise (·<·)->(ia x l).Pairwise (·<·)
 |[],_=>by simp[ia]
 |y::r,h=>by
  unfold ia;rw[iE]at h;split
  .exact iE.2 h
  .split
   .rename_i h2
    refine iE.2 ⟨λz hz=>?_,iE.2 h⟩;rcases bM.1 hz with e|hz
    .omega
    .have:=h.1 z hz;omega
   .refine iE.2 ⟨λz hz=>?_,uF x r h.2⟩
    rcases(oA x z r).1 hz with e|hz
    .omega
    .exact h.1 z hz
theorem Gw(z:Nat):∀(l:List bN)(a:List Nat),z∈l.foldl (λa x=>ia x.to_ (ia x.from_ a)) a↔z∈a\/∃x∈l,z=x.from_\/z=x.to_
 |[],a=>by simp
 |x::r,a=>by
  rw[lj,Gw z r,oA,oA];simp only[bM];constructor
  .rintro((h|h|h)|⟨y,hy,h⟩)
   .exact .inr ⟨x,.inl rfl,.inr h⟩
   .exact .inr ⟨x,.inl rfl,.inl h⟩
   .exact .inl h
   .exact .inr ⟨y,.inr hy,h⟩
  .rintro(h|⟨y,e|hy,h⟩)
   .exact .inl (.inr (.inr h))
   .subst e
    rcases h with h|h
    .exact .inl (.inr (.inl h))
    .exact .inl (.inl h)
   .exact .inr ⟨y,hy,h⟩
theorem xx{z:Nat}{l:List bN}:z∈dj l↔∃x∈l,z=x.from_\/z=x.to_:=by unfold dj;rw[Gw];simp
theorem Qy(l:List bN):(dj l).Pairwise (·<·):=by
 unfold dj
 suffices∀(l:List bN)(a:List Nat),a.Pairwise (·<·)->(l.foldl (λa x=>ia x.to_ (ia x.from_ a)) a).Pairwise (·<·) from this l [] (by simp)
 intro l;induction l with
 |nil=>intro a h;exact h
 |cons x r ih=>intro a h;rw[lj];exact ih _ (uF _ _ (uF _ _ h))
theorem r9(o g:Nat):gives [] o g=0:=rfl
theorem nD(x:bN)(r:List bN)(o g:Nat):gives (x::r) o g=(if x.from_=o/\x.good=g then x.n else 0)+gives r o g:=by
 unfold gives;rw[fZ];by_cases h:x.from_=o/\x.good=g
 .simp[h,jh]
 .rw[aq h,aq (by simpa using h)];simp
theorem D0(o g:Nat):gets [] o g=0:=rfl
theorem yJ(x:bN)(r:List bN)(o g:Nat):gets (x::r) o g=(if x.to_=o/\x.good=g then x.n else 0)+gets r o g:=by
 unfold gets;rw[fZ];by_cases h:x.to_=o/\x.good=g
 .simp[h,jh]
 .rw[aq h,aq (by simpa using h)];simp
theorem qo:∀(l r:List bN)(o g:Nat),gives (l++r) o g=gives l o g+gives r o g
 |[],r,o,g=>by simp[r9]
 |x::l,r,o,g=>by rw[vH,nD,nD,qo l r];omega
theorem Jr:∀(l r:List bN)(o g:Nat),gets (l++r) o g=gets l o g+gets r o g
 |[],r,o,g=>by simp[D0]
 |x::l,r,o,g=>by rw[vH,yJ,yJ,Jr l r];omega
theorem Ek{l:List bN}(h:¬o∈dj l)(g:Nat):gives l o g=0:=by
 rw[xx]at h;induction l with
 |nil=>rfl
 |cons x r ih=>
  rw[nD,ih (λ⟨y,hy,q⟩=>h ⟨y,b8 _ hy,q⟩),aq];rintro⟨e,_⟩;exact h ⟨x,by simp,.inl e.symm⟩
theorem wV{no:Nat}{l:List bN}(h:j7 no ng l):∀o∈dj l,o<no:=by
 intro o ho;obtain⟨x,hx,e|e⟩:=xx.1 ho
 .rw[e];exact h.lM x hx
 .rw[e];exact h.lN x hx
def cC(m:aL)(l:List bN):aL:=l.foldl (λm x=>{m with held:=fL m.held x.from_ x.good x.n,free:=iP m.free x.to_ x.good x.n}) m
theorem DI(m:aL)(d:aZ):m9 m d=Mx (cC m d.legs) d.num:=rfl
theorem Mp(m:aL)(l:List bN)(x:bN):cC m (l++[x])={cC m l with held:=fL (cC m l).held x.from_ x.good x.n,free:=iP (cC m l).free x.to_ x.good x.n}:=by unfold cC;rw[sY];rfl
theorem BM{no:Nat}{m:aL}(F:Frame no m):∀(l:List bN),j7 no m.goods l->(cC m l).goods=m.goods/\(cC m l).deals=m.deals/\Frame no (cC m l)/\(∀o g,amount (cC m l).held o g=amount m.held o g - gives l o g)/\(∀o g,amount (cC m l).free o g=amount m.free o g+gets l o g):=by
 intro l;induction l using Tc with
 |nil=>intro _;exact⟨rfl,rfl,F,λ_ _=>rfl,λ_ _=>rfl⟩
 |snoc l x ih=>
  intro hl;obtain⟨a,b,F1,c,e⟩:=ih ⟨λy hy=>hl.lM y (by simp[hy]),λy hy=>hl.lN y (by simp[hy]),λy hy=>hl.jK y (by simp[hy])⟩
  have h1:=hl.lM x (by simp)
  have h2:=hl.lN x (by simp)
  have h3:=hl.jK x (by simp)
  rw[Mp];refine⟨a,b,⟨qm F1.free _ _ _,pU F1.held _ _ _⟩,λo g=>?_,λo g=>?_⟩
  .show amount (fL _ _ _ _) o g=_
   rw[Dm F1.held h1 (by rw[a];exact h3),c,c,qo,nD,r9]
   split
   .rename_i h;obtain⟨e1,e2⟩:=h;subst e1;subst e2;simp;omega
   .rename_i h;rw[aq (λq=>h ⟨q.1.symm,q.2.symm⟩)];simp
  .show amount (iP _ _ _ _) o g=_
   rw[Dv F1.free h2 (by rw[a];exact h3),e,e,Jr,yJ,D0]
   split
   .rename_i h;obtain⟨e1,e2⟩:=h;subst e1;subst e2;simp;omega
   .rename_i h;rw[aq (λq=>h ⟨q.1.symm,q.2.symm⟩)];simp
abbrev Up(ds:List aZ):Prop:=ds.Pairwise (λa b=>a.num<b.num)
theorem Up.inj(h:Up ds){e:aZ}(hd:d∈ds)(he:e∈ds)(q:d.num=e.num):d=e:=by
 induction ds with
 |nil=>simp at hd
 |cons x r ih=>
  replace h:=iE.1 h;rcases bM.1 hd with e1|hd
  .rcases bM.1 he with e2|he
   .rw[e1,e2]
   .have:=h.1 e he;subst e1;omega
  .rcases bM.1 he with e2|he
   .have:=h.1 d hd;subst e2;omega
   .exact ih h.2 hd he
theorem Vp(h:Up ds)(hd:d∈ds):ds.find? (λx=>x.num==d.num)=some d:=by
 induction ds with
 |nil=>simp at hd
 |cons x r ih=>
  replace h:=iE.1 h;rw[lr];by_cases e:x.num=d.num
  .have:x=d:=Up.inj (iE.2 h) (by simp) hd e
   subst this;simp
  .have e2:(x.num==d.num)=false:=by simpa using e
   rw[e2];refine ih h.2 ?_;rcases bM.1 hd with q|q
   .subst q;exact absurd rfl e
   .exact q
theorem Ci{m:aL}{n:Nat}(h:l9 m n=some d):d∈m.deals/\d.num=n:=by
 unfold l9 at h;exact⟨zt h,by simpa using zu h⟩
theorem yn{m:aL}(h:Up m.deals)(hd:d∈m.deals):l9 m d.num=some d:=Vp h hd
def putD(ds:List aZ)(e:aZ):List aZ:=ds.map λx=>if x.num=e.num then e else x
def cutD(ds:List aZ)(n:Nat):List aZ:=ds.filter λd=>d.num !=n
theorem Ef(m:aL)(e:aZ):(nc m e).deals=putD m.deals e:=rfl
theorem Bw(m:aL)(n:Nat):(Mx m n).deals=cutD m.deals n:=rfl
theorem mem_putD{e x:aZ}(h:x∈putD ds e):x=e\/(x∈ds/\x.num≠e.num):=by
 obtain⟨y,hy,q⟩:=bw.1 h;by_cases c:y.num=e.num
 .rw[ay c]at q;exact .inl q.symm
 .rw[aq c]at q;subst q;exact .inr ⟨hy,c⟩
theorem rQ{e x:aZ}(hd:d∈ds)(hn:e.num=d.num):x∈putD ds e↔x=e\/(x∈ds/\x.num≠e.num):=by
 refine⟨mem_putD,?_⟩;rintro(q|⟨q,c⟩)
 .exact bw.2 ⟨d,hd,by rw[ay hn.symm];exact q.symm⟩
 .exact bw.2 ⟨x,q,by rw[aq c]⟩
theorem kh{n:Nat}{x:aZ}:x∈cutD ds n↔x∈ds/\x.num≠n:=by unfold cutD;rw[dG];simp
theorem SM(ds:List aZ)(e:aZ):(putD ds e).map (·.num)=ds.map (·.num):=by
 unfold putD;rw[bU];refine i5 (λx _=>?_);simp only[EG];split
 .rename_i h;exact h.symm
 .rfl
theorem uY(ds:List aZ):Up ds↔(ds.map (·.num)).Pairwise (·<·):=by rw[sX]
theorem Up.putD(h:Up ds)(e:aZ):Up (putD ds e):=by rw[uY,SM,<-uY];exact h
theorem Up.cutD(h:Up ds)(n:Nat):Up (cutD ds n):=qE lq h
theorem Ee(ds:List aZ)(e:aZ):(putD ds e).length=ds.length:=by unfold putD;rw[aA]
theorem FY(h:Up ds){e:aZ}(hd:d∈ds)(hn:e.num=d.num)(F:aZ->Nat):gP ((putD ds e).map F)+F d=gP (ds.map F)+F e:=by
 induction ds with
 |nil=>simp at hd
 |cons x r ih=>
  replace h:=iE.1 h;have u:putD (x::r) e=(if x.num=e.num then e else x)::putD r e:=rfl;rw[u,bS,bS,jh,jh];rcases bM.1 hd with q|q
  .subst q
   rw[ay hn.symm];have:putD r e=r:=by
    unfold putD;rw[i5 (g:=id)]
    .simp
    .intro y hy
     have:=h.1 y hy;simp only[id];rw[aq (by omega)]
   rw[this];omega
  .have:=h.1 d q
   rw[aq (by omega)]
   have:=ih h.2 q;omega
theorem zc(h:Up ds)(hd:d∈ds)(F:aZ->Nat):gP ((cutD ds d.num).map F)+F d=gP (ds.map F):=by
 induction ds with
 |nil=>simp at hd
 |cons x r ih=>
  replace h:=iE.1 h;have u:cutD (x::r) d.num=if x.num=d.num then cutD r d.num else x::cutD r d.num:=by
   unfold cutD;rw[fZ];by_cases c:x.num=d.num<;>simp[c]
  rw[u];rcases bM.1 hd with q|q
  .subst q
   rw[ay rfl];have:cutD r d.num=r:=by
    unfold cutD;rw[qF];intro y hy;have:=h.1 y hy;simp;omega
   rw[this,bS,jh];omega
  .have c:=h.1 d q
   rw[aq (by omega),bS,bS,jh,jh]
   have:=ih h.2 q;omega
theorem sum_map_one(ds:List aZ):gP (ds.map λz=>1)=ds.length:=by
 induction ds with
 |nil=>rfl
 |cons x r ih=>rw[bS,jh,ih,cY];omega
theorem CU(h:Up ds)(hd:d∈ds):(cutD ds d.num).length+1=ds.length:=by
 have:=zc h hd (λz=>1);rw[sum_map_one,sum_map_one]at this;exact this
def gc(d:aZ)(o:Nat):Bool:=d.parts.any λp=>p.owner==o&&p.held
def cX(d:aZ)(o g:Nat):Nat:=if gc d o=true then gives d.legs o g else 0
def rJ(ds:List aZ)(o g:Nat):Nat:=gP (ds.map λd=>cX d o g)
theorem i3:gc d o=true↔∃p∈d.parts,p.owner=o/\p.held=true:=by unfold gc;rw[vI];simp
structure bo(no nx sn:Nat)(m:aL):Prop where
 frame:Frame no m
 up:Up m.deals
 num:∀d∈m.deals,1<=d.num/\d.num<nx
 legs:∀d∈m.deals,j7 no m.goods d.legs
 size:∀d∈m.deals,d.legs≠[]/\d.legs.length<=12/\∀x∈d.legs,1<=x.n/\x.n<=999999999
 g9:∀d∈m.deals,∀p∈d.parts,p.owner∈dj d.legs
 owners:∀d∈m.deals,(d.parts.map (·.owner)).Nodup
 apart:∀d∈m.deals,∀e∈m.deals,d.num≠e.num->∀p∈d.parts,∀q∈e.parts,p.since≠q.since
 km:∀d∈m.deals,∀p∈d.parts,p.since<sn
 jW:∀d∈m.deals,d.parts.Pairwise (λa b=>a.since<b.since)
 oC:∀o g,o<no->g<m.goods->amount m.held o g=rJ m.deals o g
 c5:m.deals.length<=16
theorem bo.Xa{no:Nat}{m:aL}(G:bo no nx sn m):xW m:=by
 unfold xW;have a:=G.apart;have b:=G.jW;have u:=G.up
 revert a b u
 generalize m.deals=ds;intro a b u;induction ds with
 |nil=>simp
 |cons d r ih=>
  replace u:=iE.1 u;rw[gQ,pz];refine⟨?_,ih (λx hx y hy=>a x (b8 _ hx) y (b8 _ hy)) (λx hx=>b x (b8 _ hx)) u.2,?_⟩
  .rw[My,sX]
   exact(b d (by simp)).imp (λh=>dM h)
  .intro x hx y hy e
   subst e;obtain⟨p,hp,q1⟩:=bw.1 hx;obtain⟨d2,hd2,hy2⟩:=lp.1 hy;obtain⟨p2,hp2,q2⟩:=bw.1 hy2;exact a d (by simp) d2 (b8 _ hd2) (dM (u.1 d2 hd2)) p hp p2 hp2 (q1.trans q2.symm)
theorem Af{ps:List i6}(h:(ps.map (·.owner)).Nodup){p q:i6}(hp:p∈ps)(hq:q∈ps)(e:p.owner=q.owner):p=q:=by
 induction ps with
 |nil=>simp at hp
 |cons x r ih=>
  rw[bS,gC]at h;rcases bM.1 hp with e1|hp2
  .rcases bM.1 hq with e2|hq2
   .rw[e1,e2]
   .subst e1;exact(h.1 (bw.2 ⟨q,hq2,e.symm⟩)).elim
  .rcases bM.1 hq with e2|hq2
   .subst e2;exact(h.1 (bw.2 ⟨p,hp2,e⟩)).elim
   .exact ih h.2 hp2 hq2
theorem bo.rO{no:Nat}{m:aL}(G:bo no nx sn m)(hd:d∈m.deals){g:Nat}(ho:o<no)(hg:g<m.goods):cX d o g<=amount m.held o g:=by
 rw[G.oC o g ho hg];have:=zc G.up hd (λd=>cX d o g);unfold rJ;omega
theorem nE{q:i6}:q∈(cT d o).parts↔∃p∈d.parts,q=(if p.owner=o then{p with held:=true}else p):=by
 unfold cT;rw[bw];constructor
 .rintro⟨p,hp,e⟩;exact⟨p,hp,e.symm⟩
 .rintro⟨p,hp,e⟩;exact⟨p,hp,e.symm⟩
theorem OM(d:aZ)(o:Nat):(cT d o).parts.map (·.owner)=d.parts.map (·.owner):=by
 unfold cT;rw[bU];refine i5 (λp z=>?_);simp only[EG];split<;>rfl
theorem Qi(d:aZ)(o:Nat):(cT d o).parts.map (·.since)=d.parts.map (·.since):=by
 unfold cT;rw[bU];refine i5 (λp z=>?_);simp only[EG];split<;>rfl
theorem Pz(h:∃p∈d.parts,p.owner=o)(o':Nat):gc (cT d o) o'=(decide (o'=o)||gc d o'):=by
 rw[lu,EH,i3,i3,Mz];constructor
 .rintro⟨q,hq,e1,e2⟩
  obtain⟨p,hp,e⟩:=nE.1 hq;by_cases c:p.owner=o
  .rw[ay c]at e;subst e;exact .inl (e1.symm.trans c)
  .rw[aq c]at e;subst e;exact .inr ⟨q,hp,e1,e2⟩
 .rintro(c|⟨p,hp,e1,e2⟩)
  .subst c
   obtain⟨p,hp,e⟩:=h;exact⟨{p with held:=true},nE.2 ⟨p,hp,by rw[ay e]⟩,e,rfl⟩
  .by_cases c:p.owner=o
   .exact⟨{p with held:=true},nE.2 ⟨p,hp,by rw[ay c]⟩,e1,rfl⟩
   .exact⟨p,nE.2 ⟨p,hp,by rw[aq c]⟩,e1,e2⟩
theorem bo.set{no sn':Nat}{m m':aL}{e:aZ}(G:bo no nx sn m)(hd:d∈m.deals)(hn:e.num=d.num)(hl:e.legs=d.legs)(hm:m'.deals=putD m.deals e)(hg:m'.goods=m.goods)(hf:Frame no m')(hpa:∀p∈e.parts,p.owner∈dj d.legs)(ho:(e.parts.map (·.owner)).Nodup)(hs:e.parts.Pairwise (λa b=>a.since<b.since))(hsn:sn<=sn')(hlt:∀p∈e.parts,p.since<sn')(hsub:∀p∈e.parts,sn<=p.since\/∃q∈d.parts,q.since=p.since)(hb:∀o g,o<no->g<m.goods->amount m'.held o g+cX d o g=amount m.held o g+cX e o g):bo no nx sn' m' where
 frame:=hf
 up:=by rw[hm];exact G.up.putD e
 num x hx:=by
  rw[hm]at hx;rcases mem_putD hx with q|⟨q,_⟩
  .subst q;rw[hn];exact G.num d hd
  .exact G.num x q
 legs x hx:=by
  rw[hm]at hx;rw[hg];rcases mem_putD hx with q|⟨q,_⟩
  .subst q;rw[hl];exact G.legs d hd
  .exact G.legs x q
 size x hx:=by
  rw[hm]at hx;rcases mem_putD hx with q|⟨q,_⟩
  .subst q;rw[hl];exact G.size d hd
  .exact G.size x q
 g9 x hx:=by
  rw[hm]at hx;rcases mem_putD hx with q|⟨q,_⟩
  .subst q;rw[hl];exact hpa
  .exact G.g9 x q
 owners x hx:=by
  rw[hm]at hx;rcases mem_putD hx with q|⟨q,_⟩
  .subst q;exact ho
  .exact G.owners x q
 apart x hx y hy c p hp q hq z:=by
  rw[hm]at hx hy;have key:∀v∈m.deals,v.num≠e.num->∀a∈v.parts,∀b∈e.parts,a.since≠b.since:=by
   intro v hv nv a ha b hb z;rcases hsub b hb with k|⟨r,hr,k⟩
   .have:=G.km v hv a ha;omega
   .exact G.apart v hv d hd (by rw[<-hn];exact nv) a ha r hr (z.trans k.symm)
  rcases mem_putD hx with e1|⟨e1,n1⟩
  .rcases mem_putD hy with e2|⟨e2,n2⟩
   .subst e1;subst e2;exact c rfl
   .subst e1;exact key y e2 n2 q hq p hp z.symm
  .rcases mem_putD hy with e2|⟨e2,n2⟩
   .subst e2;exact key x e1 n1 p hp q hq z
   .exact G.apart x e1 y e2 c p hp q hq z
 km x hx p hp:=by
  rw[hm]at hx;rcases mem_putD hx with q|⟨q,_⟩
  .subst q;exact hlt p hp
  .have:=G.km x q p hp;omega
 jW x hx:=by
  rw[hm]at hx;rcases mem_putD hx with q|⟨q,_⟩
  .subst q;exact hs
  .exact G.jW x q
 oC o g h1 h2:=by
  rw[hg]at h2;have:=FY G.up hd hn (λd=>cX d o g);have k:=hb o g h1 h2;have w:=G.oC o g h1 h2;rw[hm];unfold rJ at*;omega
 c5:=by rw[hm,Ee];exact G.c5
theorem bo.cut{no:Nat}{m m':aL}(G:bo no nx sn m)(hd:d∈m.deals)(hm:m'.deals=cutD m.deals d.num)(hg:m'.goods=m.goods)(hf:Frame no m')(hb:∀o g,o<no->g<m.goods->amount m'.held o g+cX d o g=amount m.held o g):bo no nx sn m' where
 frame:=hf
 up:=by rw[hm];exact G.up.cutD _
 num x hx:=by rw[hm]at hx;exact G.num x (kh.1 hx).1
 legs x hx:=by rw[hm]at hx;rw[hg];exact G.legs x (kh.1 hx).1
 size x hx:=by rw[hm]at hx;exact G.size x (kh.1 hx).1
 g9 x hx:=by rw[hm]at hx;exact G.g9 x (kh.1 hx).1
 owners x hx:=by rw[hm]at hx;exact G.owners x (kh.1 hx).1
 apart x hx y hy:=by rw[hm]at hx hy;exact G.apart x (kh.1 hx).1 y (kh.1 hy).1
 km x hx:=by rw[hm]at hx;exact G.km x (kh.1 hx).1
 jW x hx:=by rw[hm]at hx;exact G.jW x (kh.1 hx).1
 oC o g h1 h2:=by
  rw[hg]at h2;have:=zc G.up hd (λd=>cX d o g);have k:=hb o g h1 h2;have w:=G.oC o g h1 h2;rw[hm];unfold rJ at*;omega
 c5:=by
  have:=CU G.up hd;have:=G.c5;rw[hm];omega
theorem bo.freed{no:Nat}{m:aL}(G:bo no nx sn m)(h:Shape no m.goods b):bo no nx sn {m with free:=b}:=⟨⟨h,G.frame.held⟩,G.up,G.num,G.legs,G.size,G.g9,G.owners,G.apart,G.km,G.jW,G.oC,G.c5⟩
theorem Iw(h:(d.parts.map (·.owner)).Nodup){p:i6}(hp:p∈d.parts)(hh:p.held=false):gc d p.owner=false:=by
 rw[vJ];intro c;obtain⟨q,hq,e1,e2⟩:=i3.1 c;have:=Af h hq hp e1;subst this;rw[hh]at e2;cases e2
theorem bo.nF{no:Nat}{m:aL}(G:bo no nx sn m)(hd:d∈m.deals){p:i6}(hp:p∈d.parts):p.owner<no:=wV (G.legs d hd) _ (G.g9 d hd p hp)
def gf(m:aL)(d:aZ)(o:Nat):aL:=nc (hold m d o) (cT d o)
theorem bo.holds{no:Nat}{m:aL}(G:bo no nx sn m)(hd:d∈m.deals){p:i6}(hp:p∈d.parts)(hh:p.held=false):bo no nx sn (gf m d p.owner):=by
 have ho:=G.nF hd hp;obtain⟨F,z,b⟩:=wF G.frame d ho m.goods (bK _);obtain⟨s1,s2⟩:=qv m d p.owner m.goods;refine G.set (d:=d) (e:=cT d p.owner) hd rfl rfl ?_ s1 ⟨F.free,F.held⟩ ?_ ?_ ?_ (bK _) ?_ ?_ ?_
 .show putD (hold m d p.owner).deals _=_
  rw[yw,s2]
 .intro q hq
  obtain⟨r,hr,e⟩:=nE.1 hq;have:=G.g9 d hd r hr;rw[e];split<;>exact this
 .rw[OM];exact G.owners d hd
 .have:=G.jW d hd
  rw[<-sX (f:=λp:i6=>p.since) (R:=(·<·))]at this⊢;rw[Qi];exact this
 .intro q hq
  obtain⟨r,hr,e⟩:=nE.1 hq;have:=G.km d hd r hr;rw[e];split<;>exact this
 .intro q hq
  obtain⟨r,hr,e⟩:=nE.1 hq;refine .inr ⟨r,hr,?_⟩;rw[e];split<;>rfl
 .intro o g h1 h2
  have e1:cX (cT d p.owner) o g=if o=p.owner then gives d.legs o g else cX d o g:=by
   unfold cX;rw[Pz ⟨p,hp,rfl⟩];by_cases c:o=p.owner
   .subst c;simp[cT]
   .simp[c,cT]
  have e2:o=p.owner->cX d o g=0:=by intro c;subst c;unfold cX;rw[Iw (G.owners d hd) hp hh];simp
  have e3:amount (gf m d p.owner).held o g=if o=p.owner/\g<m.goods then amount m.held o g+gives d.legs p.owner g else amount m.held o g:=b o g;rw[e1,e3];by_cases c:o=p.owner
  .rw[ay ⟨c,h2⟩,ay c,e2 c,c]
   omega
  .rw[aq (λq=>c q.1),aq c]
theorem Dg:nh d=true↔∀o∈dj d.legs,gc d o=true:=by unfold nh gc;rw[fE]
theorem JZ(h:nh d=true)(o g:Nat):cX d o g=gives d.legs o g:=by
 unfold cX;by_cases c:o∈dj d.legs
 .rw[ay (Dg.1 h o c)]
 .rw[Ek c];split<;>rfl
theorem bo.Ge{no:Nat}{m:aL}(G:bo no nx sn m)(hd:d∈m.deals)(hc:nh d=true):bo no nx sn (m9 m d):=by
 obtain⟨a,b,F,c,z⟩:=BM G.frame d.legs (G.legs d hd);refine G.cut (d:=d) hd ?_ a ⟨F.free,F.held⟩ ?_
 .show cutD (cC m d.legs).deals _=_
  rw[b]
 .intro o g h1 h2
  have:=G.rO hd h1 h2;have e3:amount (m9 m d).held o g=amount m.held o g - gives d.legs o g:=c o g;rw[e3];rw[JZ hc]at*;omega
theorem IP{no:Nat}{m:aL}(F:Frame no m)(d:aZ)(ho:o<no):Frame no (d7 m d o)/\(d7 m d o).goods=m.goods/\(d7 m d o).deals=m.deals/\(∀o' g',g'<m.goods->amount (d7 m d o).free o' g'=if o'=o then amount m.free o' g'+gives d.legs o g' else amount m.free o' g')/\(∀o' g',g'<m.goods->amount (d7 m d o).held o' g'=if o'=o then amount m.held o' g' - gives d.legs o g' else amount m.held o' g'):=by
 obtain⟨F1,a,b⟩:=wH F d ho m.goods (bK _);obtain⟨s1,s2⟩:=uX m d o m.goods;refine⟨F1,s1,s2,λo' g' h=>?_,λo' g' h=>?_⟩
 .rw[GF,a];by_cases c:o'=o<;>simp[c,h]
 .rw[GF,b];by_cases c:o'=o<;>simp[c,h]
theorem K5{no:Nat}(d:aZ):∀(ps:List i6){m:aL},Frame no m->(ps.map (·.owner)).Nodup->(∀p∈ps,p.owner<no)->Frame no (ps.foldl (λm p=>d7 m d p.owner) m)/\(ps.foldl (λm p=>d7 m d p.owner) m).goods=m.goods/\(ps.foldl (λm p=>d7 m d p.owner) m).deals=m.deals/\(∀o g,g<m.goods->amount (ps.foldl (λm p=>d7 m d p.owner) m).free o g=if o∈ps.map (·.owner)then amount m.free o g+gives d.legs o g else amount m.free o g)/\(∀o g,g<m.goods->amount (ps.foldl (λm p=>d7 m d p.owner) m).held o g=if o∈ps.map (·.owner)then amount m.held o g - gives d.legs o g else amount m.held o g)
 |[],m,F,_,_=>⟨F,rfl,rfl,λz z z=>by simp,λz z z=>by simp⟩
 |p::r,m,F,hn,hl=>by
  rw[bS,gC]at hn;obtain⟨F1,a1,b1,c1,e1⟩:=IP F d (hl p (by simp))
  obtain⟨F2,a2,b2,c2,e2⟩:=K5 d r F1 hn.2 (λq hq=>hl q (b8 _ hq));rw[lj];refine⟨F2,a2.trans a1,b2.trans b1,λo g h=>?_,λo g h=>?_⟩
  .rw[c2 o g (by rw[a1];exact h),c1 o g h,bS]
   by_cases q:o=p.owner
   .subst q;rw[aq hn.1];simp
   .simp[q]
  .rw[e2 o g (by rw[a1];exact h),e1 o g h,bS]
   by_cases q:o=p.owner
   .subst q;rw[aq hn.1];simp
   .simp[q]
theorem yt:o∈(d.parts.filter λp=>p.held).map (·.owner)↔gc d o=true:=by
 rw[i3,bw];constructor
 .rintro⟨p,hp,e⟩
  rw[dG]at hp;exact⟨p,hp.1,e,hp.2⟩
 .rintro⟨p,hp,e,hh⟩
  exact⟨p,dG.2 ⟨hp,hh⟩,e⟩
theorem DC{no:Nat}{m:aL}(G:bo no nx sn m)(hd:d∈m.deals):Frame no (iG m d)/\(iG m d).goods=m.goods/\(iG m d).deals=m.deals/\(∀o g,g<m.goods->amount (iG m d).free o g=amount m.free o g+cX d o g)/\(∀o g,g<m.goods->amount (iG m d).held o g=amount m.held o g - cX d o g):=by
 obtain⟨F,a,b,c,e⟩:=K5 d (d.parts.filter λp=>p.held) G.frame (Mw (lq.map _) (G.owners d hd)) (λp hp=>G.nF hd (dG.1 hp).1);refine⟨F,a,b,λo g h=>?_,λo g h=>?_⟩
 .have:=c o g h
  unfold iG cX;rw[this];by_cases q:gc d o=true
  .rw[ay (yt.2 q),ay q]
  .rw[aq (λz=>q (yt.1 z)),aq q];rfl
 .have:=e o g h
  unfold iG cX;rw[this];by_cases q:gc d o=true
  .rw[ay (yt.2 q),ay q]
  .rw[aq (λz=>q (yt.1 z)),aq q];rfl
theorem bo.off{no:Nat}{m:aL}(G:bo no nx sn m)(hd:d∈m.deals):bo no nx sn (dv m d):=by
 obtain⟨F,a,b,z,e⟩:=DC G hd;refine G.cut (d:=d) hd ?_ a ⟨F.free,F.held⟩ ?_
 .show cutD (iG m d).deals _=_
  rw[b]
 .intro o g h1 h2
  have:=G.rO hd h1 h2;have e3:amount (dv m d).held o g=amount m.held o g - cX d o g:=e o g h2;rw[e3];omega
def gh(m:aL)(d:aZ)(p:i6):aL:=nc (if p.held=true then d7 m d p.owner else m) {d with parts:=d.parts.filter λq=>q.owner !=p.owner}
theorem WG{a:Nat}:gc {d with parts:=d.parts.filter λq=>q.owner !=a} o=(decide (o≠a)&&gc d o):=by
 rw[lu,ib,i3,i3,Mz];constructor
 .rintro⟨p,hp,e,hh⟩
  rw[dG]at hp;refine⟨?_,p,hp.1,e,hh⟩;rw[<-e];simpa using hp.2
 .rintro⟨c,p,hp,e,hh⟩
  refine⟨p,dG.2 ⟨hp,?_⟩,e,hh⟩;rw[e];simpa using c
theorem AQ{no:Nat}{m:aL}(G:bo no nx sn m)(hd:d∈m.deals){p:i6}(hp:p∈d.parts):Frame no (gh m d p)/\(gh m d p).goods=m.goods/\(gh m d p).deals=putD m.deals {d with parts:=d.parts.filter λq=>q.owner !=p.owner}/\(∀o g,g<m.goods->amount (gh m d p).free o g=amount m.free o g+if o=p.owner then cX d o g else 0)/\(∀o g,g<m.goods->amount (gh m d p).held o g=amount m.held o g - if o=p.owner then cX d o g else 0):=by
 have ho:=G.nF hd hp;unfold gh;by_cases hh:p.held=true
 .obtain⟨F,a,b,c,e⟩:=IP G.frame d ho
  have w:gc d p.owner=true:=i3.2 ⟨p,hp,rfl,hh⟩;rw[ay hh];refine⟨⟨F.free,F.held⟩,a,by rw[Ef,b],λo g h=>?_,λo g h=>?_⟩
  .show amount (d7 m d p.owner).free o g=_
   rw[c o g h];by_cases q:o=p.owner
   .subst q;simp[cX,w]
   .simp[q]
  .show amount (d7 m d p.owner).held o g=_
   rw[e o g h];by_cases q:o=p.owner
   .subst q;simp[cX,w]
   .simp[q]
 .have w:gc d p.owner=false:=Iw (G.owners d hd) hp (by simpa using hh)
  rw[aq hh];refine⟨⟨G.frame.free,G.frame.held⟩,rfl,rfl,λo g h=>?_,λo g h=>?_⟩
  .show amount m.free o g=_
   by_cases q:o=p.owner
   .subst q;simp[cX,w]
   .simp[q]
  .show amount m.held o g=_
   by_cases q:o=p.owner
   .subst q;simp[cX,w]
   .simp[q]
theorem bo.drops{no:Nat}{m:aL}(G:bo no nx sn m)(hd:d∈m.deals){p:i6}(hp:p∈d.parts):bo no nx sn (gh m d p):=by
 obtain⟨F,a,b,z,e⟩:=AQ G hd hp;refine G.set (d:=d) (e:={d with parts:=d.parts.filter λq=>q.owner !=p.owner}) hd rfl rfl b a F ?_ ?_ ?_ (bK _) ?_ ?_ ?_
 .intro q hq;exact G.g9 d hd q (dG.1 hq).1
 .exact Mw (lq.map _) (G.owners d hd)
 .exact qE lq (G.jW d hd)
 .intro q hq;exact G.km d hd q (dG.1 hq).1
 .intro q hq;exact .inr ⟨q,(dG.1 hq).1,rfl⟩
 .intro o g h1 h2
  have le:=G.rO hd h1 h2;rw[e o g h2];have e1:cX {d with parts:=d.parts.filter λq=>q.owner !=p.owner} o g=if o=p.owner then 0 else cX d o g:=by
   unfold cX;rw[WG];by_cases c:o=p.owner<;>simp[c]
  rw[e1];by_cases c:o=p.owner
  .rw[ay c,ay c];omega
  .rw[aq c,aq c];omega
theorem bo.P8{no:Nat}{m:aL}(G:bo no nx sn m){l:List bN}{t:Nat}(hl:j7 no m.goods l)(hz:l≠[]/\l.length<=12/\∀x∈l,1<=x.n/\x.n<=999999999)(h1:1<=nx)(hf:m.deals.length<16):bo no (nx+1) sn {m with deals:=m.deals++[{num:=nx,legs:=l,until_:=t,parts:=[]}]} where
 frame:=⟨G.frame.free,G.frame.held⟩
 up:=by
  show Up (m.deals++_);rw[Up,MD];refine⟨G.up,by simp,λa ha b hb=>?_⟩
  simp only[de]at hb;subst hb;exact(G.num a ha).2
 num x hx:=by
  rcases b6.1 hx with q|q
  .have:=G.num x q;omega
  .simp only[de]at q;subst q;simp;omega
 legs x hx:=by
  rcases b6.1 hx with q|q
  .exact G.legs x q
  .simp only[de]at q;subst q;exact hl
 size x hx:=by
  rcases b6.1 hx with q|q
  .exact G.size x q
  .simp only[de]at q;subst q;exact hz
 g9 x hx:=by
  rcases b6.1 hx with q|q
  .exact G.g9 x q
  .simp only[de]at q;subst q;simp
 owners x hx:=by
  rcases b6.1 hx with q|q
  .exact G.owners x q
  .simp only[de]at q;subst q;simp
 apart x hx y hy c p hp q hq:=by
  rcases b6.1 hx with k|k
  .rcases b6.1 hy with k2|k2
   .exact G.apart x k y k2 c p hp q hq
   .simp only[de]at k2;subst k2;simp at hq
  .simp only[de]at k;subst k;simp at hp
 km x hx:=by
  rcases b6.1 hx with q|q
  .exact G.km x q
  .simp only[de]at q;subst q;simp
 jW x hx:=by
  rcases b6.1 hx with q|q
  .exact G.jW x q
  .simp only[de]at q;subst q;simp
 oC o g h1 h2:=by
  show amount m.held o g=rJ (m.deals++_) o g;rw[G.oC o g h1 h2];unfold rJ;rw[bZ,JY];simp[jh,JN,cX,gc]
 c5:=by
  show(m.deals++_).length<=16;rw[bV];simp;omega
theorem bo.IH{no:Nat}{m:aL}(G:bo no nx sn m)(hd:d∈m.deals)(ho:o∈dj d.legs)(hn:¬∃p∈d.parts,p.owner=o):bo no nx (sn+1) (nc m {d with parts:=d.parts++[{owner:=o,since:=sn,held:=false}]}):=by
 refine G.set (d:=d) (e:={d with parts:=d.parts++[{owner:=o,since:=sn,held:=false}]}) hd rfl rfl rfl rfl ⟨G.frame.free,G.frame.held⟩ ?_ ?_ ?_ (by omega) ?_ ?_ ?_
 .intro q hq
  rcases b6.1 hq with k|k
  .exact G.g9 d hd q k
  .simp only[de]at k;subst k;exact ho
 .rw[bZ,pz]
  refine⟨G.owners d hd,by simp,λa ha b hb e=>?_⟩
  obtain⟨p,hp,e1⟩:=bw.1 ha;simp only[bS,i7,de]at hb;exact hn ⟨p,hp,e1.trans (e.trans hb)⟩
 .rw[MD]
  refine⟨G.jW d hd,by simp,λa ha b hb=>?_⟩
  simp only[de]at hb;subst hb;exact G.km d hd a ha
 .intro q hq
  rcases b6.1 hq with k|k
  .have:=G.km d hd q k;omega
  .simp only[de]at k;subst k;simp
 .intro q hq
  rcases b6.1 hq with k|k
  .exact .inr ⟨q,k,rfl⟩
  .simp only[de]at k;subst k;exact .inl (bK _)
 .intro o' g h1 h2
  have:gc {d with parts:=d.parts++[{owner:=o,since:=sn,held:=false}]} o'=gc d o':=by unfold gc;simp
  show amount m.held o' g+_=_;unfold cX;rw[this]
theorem VH{m:aL}(h:fg m=some (d,o)):d∈m.deals/\(∃e∈m.deals,e.num=d.num/\∃p∈e.parts,p.owner=o/\p.held=false)/\jq m d o=true:=by
 unfold fg at h;obtain⟨x,hx,e⟩:=List.exists_of_findSome?_eq_some h;rw[va,vv,Ep]at hx;obtain⟨f,hf,p,hp,hh,q⟩:=hx;subst q;simp only at e;cases hd:l9 m f.num with
 |none=>rw[hd]at e;simp at e
 |some g=>
  rw[hd]at e;simp only[sV]at e;split at e
  .rename_i hi
   cases e;obtain⟨a,b⟩:=Ci hd;exact⟨a,⟨f,hf,b.symm,p,hp,rfl,hh⟩,hi⟩
  .cases e
theorem bo.next{no:Nat}{m:aL}(G:bo no nx sn m)(h:fg m=some (d,o)):d∈m.deals/\(∃p∈d.parts,p.owner=o/\p.held=false)/\jq m d o=true:=by
 obtain⟨a,⟨e,he,q,p⟩,c⟩:=VH h;have:=G.up.inj he a q;subst this;exact⟨a,p,c⟩
def eU(m:aL)(d:aZ)(o:Nat):aL:=if nh (cT d o)=true then m9 (gf m d o) (cT d o)else gf m d o
def kS(d:aZ)(o:Nat):nS:=if nh (cT d o)=true then[(1,d.num)]else[]
theorem LB(m:aL):ME m=(fg m).map λx=>(eU m x.1 x.2,kS x.1 x.2):=by
 unfold ME eU kS gf;cases fg m with
 |none=>rfl
 |some x=>
  obtain⟨d,o⟩:=x;simp only[zr];by_cases c:nh (cT d o)=true
  .rw[ay c,ay c,ay c];rfl
  .rw[aq c,aq c,aq c]
theorem XB{m:aL}:ME m=none↔fg m=none:=by rw[LB];simp
theorem IL{m:aL}(hd:d∈m.deals)(o:Nat):cT d o∈(gf m d o).deals:=by
 show cT d o∈putD (hold m d o).deals (cT d o);rw[yw,(qv m d o m.goods).2];exact(rQ (e:=cT d o) hd rfl).2 (.inl rfl)
theorem x8(m:aL)(d:aZ)(o:Nat):(gf m d o).deals=putD m.deals (cT d o):=by
 show putD (hold m d o).deals (cT d o)=_;rw[yw,(qv m d o m.goods).2]
theorem yF(m:aL)(d:aZ)(o:Nat):(gf m d o).goods=m.goods:=by
 show(hold m d o).goods=_;rw[yw,(qv m d o m.goods).1]
theorem vF:∀(l:List bN)(m:aL),(cC m l).goods=m.goods/\(cC m l).deals=m.deals
 |[],_=>⟨rfl,rfl⟩
 |_::r,_=>vF r _
theorem IE(m:aL)(d:aZ):(m9 m d).deals=cutD m.deals d.num:=by rw[DI,Bw,(vF d.legs m).2]
theorem KP(m:aL)(d:aZ):(m9 m d).goods=m.goods:=by rw[DI];exact(vF d.legs m).1
theorem D7(m:aL)(d:aZ)(o:Nat):(d7 m d o).goods=m.goods/\(d7 m d o).deals=m.deals:=uX m d o m.goods
theorem Ag(d:aZ):∀(ps:List i6)(m:aL),(ps.foldl (λm p=>d7 m d p.owner) m).goods=m.goods/\(ps.foldl (λm p=>d7 m d p.owner) m).deals=m.deals
 |[],m=>⟨rfl,rfl⟩
 |p::r,m=>by
  rw[lj];have a:=Ag d r (d7 m d p.owner);have b:=D7 m d p.owner;exact⟨a.1.trans b.1,a.2.trans b.2⟩
theorem uB(m:aL)(d:aZ):(dv m d).deals=cutD m.deals d.num:=by unfold dv;rw[Bw];unfold iG;rw[(Ag d _ m).2]
theorem xP(m:aL)(d:aZ):(dv m d).goods=m.goods:=by
 show(iG m d).goods=_;unfold iG;exact(Ag d _ m).1
theorem bo.yC{no:Nat}{m:aL}(G:bo no nx sn m)(h:fg m=some (d,o)):bo no nx sn (eU m d o):=by
 obtain⟨hd,⟨p,hp,e,hh⟩,_⟩:=G.next h;subst e;have G1:=G.holds hd hp hh;unfold eU;split
 .rename_i c;exact G1.Ge (IL hd _) c
 .exact G1
theorem Uq(m:aL)(d:aZ)(o:Nat):(eU m d o).goods=m.goods:=by
 unfold eU;split
 .rw[KP,yF]
 .rw[yF]
theorem IQ(m:aL)(d:aZ)(o:Nat):(eU m d o).deals=if nh (cT d o)=true then cutD (putD m.deals (cT d o)) d.num else putD m.deals (cT d o):=by
 unfold eU;split
 .rw[IE,x8];rfl
 .rw[x8]
def rS(d:aZ):Nat:=(d.parts.filter λp=> !p.held).length
theorem LD(m:aL):jP m=gP (m.deals.map rS):=by
 rw[PJ];unfold pP;induction m.deals with
 |nil=>rfl
 |cons d r ih=>rw[gQ,bV,bS,jh,ih,aA];rfl
theorem G8(o:Nat):∀ps:List i6,((ps.map λp=>if p.owner=o then{p with held:=true}else p).filter λp=> !p.held).length<=(ps.filter λp=> !p.held).length
 |[]=>by simp
 |p::r=>by
  have ih:=G8 o r;rw[bS,fZ,fZ];by_cases c:p.owner=o
  .rw[ay c]
   simp only[MF,ko,ic];split<;>simp<;>omega
  .rw[aq c]
   split<;>simp<;>omega
theorem Vi{p:i6}(hp:p∈d.parts)(hh:p.held=false):rS (cT d p.owner)<rS d:=by
 unfold rS cT;simp only
 revert hp
 induction d.parts with
 |nil=>simp
 |cons q r ih=>
  intro hp;have k:=G8 p.owner r;rw[bS,fZ,fZ];rcases bM.1 hp with e|hp2
  .subst e
   rw[ay rfl,hh];simp only[MF,ko,ic,Bool.not_false,iF,cY];omega
  .have:=ih hp2
   by_cases c:q.owner=p.owner
   .rw[ay c]
    simp only[MF,ko,ic];split<;>simp<;>omega
   .rw[aq c]
    split<;>simp<;>omega
theorem bo.lower{no:Nat}{m:aL}(G:bo no nx sn m)(h:fg m=some (d,o)):jP (eU m d o)<jP m:=by
 obtain⟨hd,⟨p,hp,e,hh⟩,_⟩:=G.next h;subst e;have a:=FY G.up hd (e:=cT d p.owner) rfl rS;have b:=Vi hp hh;rw[LD,LD,IQ];split
 .have hm:cT d p.owner∈putD m.deals (cT d p.owner):=(rQ (e:=cT d p.owner) hd rfl).2 (.inl rfl)
  have c:=zc (G.up.putD _) hm rS;have e:(cT d p.owner).num=d.num:=rfl;rw[e]at c;omega
 .omega
theorem Ao{m:aL}(h:fg m=none):∀f,pA f m=(m,[])
 |0=>rfl
 |f+1=>by unfold pA;rw[XB.2 h]
theorem BQ{m:aL}(h:fg m=some (d,o))(f:Nat):pA (f+1) m=((pA f (eU m d o)).1,kS d o++(pA f (eU m d o)).2):=by
 conv=>lhs;unfold pA
 rw[LB,h];rfl
theorem FW{no nx sn:Nat}:∀(f g:Nat){m:aL},bo no nx sn m->jP m<f->jP m<g->pA f m=pA g m
 |0,_,_,_,h,_=>by omega
 |_+1,0,_,_,_,h=>by omega
 |f+1,g+1,m,G,h,h'=>by
  cases e:fg m with
  |none=>rw[Ao e,Ao e]
  |some x=>
   obtain⟨d,o⟩:=x;have a:=G.lower e;rw[BQ e,BQ e,FW f g (G.yC e) (by omega) (by omega)]
def cw(m:aL):aL×nS:=pA (jP m+1) m
theorem yj{m:aL}(h:fg m=none):cw m=(m,[]):=Ao h _
theorem bo.Aq{no:Nat}{m:aL}(G:bo no nx sn m)(h:fg m=some (d,o)):cw m=((cw (eU m d o)).1,kS d o++(cw (eU m d o)).2):=by
 have a:=G.lower h;unfold cw;rw[BQ h,FW (jP m) (jP (eU m d o)+1) (G.yC h) a (by omega)]
theorem Js{no nx sn:Nat}(P:aL->Prop)(hP:∀m d o,bo no nx sn m->fg m=some (d,o)->P m->P (eU m d o)):∀(k:Nat){m:aL},jP m<=k->bo no nx sn m->P m->bo no nx sn (cw m).1/\P (cw m).1/\fg (cw m).1=none
 |k,m,hk,G,h=>by
  cases e:fg m with
  |none=>rw[yj e];exact⟨G,h,e⟩
  |some x=>
   obtain⟨d,o⟩:=x;have a:=G.lower e;rw[G.Aq e];cases k with
   |zero=>omega
   |succ k=>exact Js P hP k (by omega) (G.yC e) (hP m d o G e h)
theorem bo.Ds{no:Nat}{m:aL}(G:bo no nx sn m):bo no nx sn (cw m).1/\fg (cw m).1=none:=let⟨a,_,b⟩:=Js (λz=>True) (λz z z z z z=>trivial) (jP m) (bK _) G trivial
 ⟨a,b⟩
theorem Hv{no:Nat}{m:aL}(G:bo no nx sn m)(h:fg m=some (d,o)):(eU m d o).deals.length+(kS d o).length=m.deals.length:=by
 obtain⟨hd,_,_⟩:=G.next h;rw[IQ];unfold kS;split
 .have hm:cT d o∈putD m.deals (cT d o):=(rQ (e:=cT d o) hd rfl).2 (.inl rfl)
  have:=CU (G.up.putD (cT d o)) hm;rw[Ee]at this;exact this
 .rw[Ee];rfl
theorem bo.so{no nx sn:Nat}:∀(k:Nat){m:aL},jP m<=k->bo no nx sn m->(cw m).1.deals.length+(cw m).2.length=m.deals.length/\(cw m).1.goods=m.goods
 |k,m,hk,G=>by
  cases e:fg m with
  |none=>rw[yj e];exact⟨rfl,rfl⟩
  |some x=>
   obtain⟨d,o⟩:=x;have a:=G.lower e;have b:=Hv G e;rw[G.Aq e];cases k with
   |zero=>omega
   |succ k=>
    obtain⟨c,c2⟩:=bo.so k (by omega) (G.yC e)
    refine⟨?_,by rw[c2,Uq]⟩
    simp only[bV];omega
theorem DK{m:aL}(h:gE (cw m).1=none)(f:Nat):qG (f+1) m=cw m:=by
 conv=>lhs;unfold qG
 show(match gE (cw m).1 with|none=>_|some d=>_)=_
 rw[h];rfl
theorem Dy{m:aL}(h:gE (cw m).1=some d)(f:Nat):qG (f+1) m=((qG f (dv (cw m).1 d)).1,(cw m).2++((2,d.num)::(qG f (dv (cw m).1 d)).2)):=by
 conv=>lhs;unfold qG
 show(match gE (cw m).1 with|none=>_|some d=>_)=_
 rw[h];rfl
theorem p0{m:aL}(h:gE m=some d):d∈m.deals:=by
 unfold gE at h;exact(dG.1 (List.mem_of_getLast? h)).1
theorem bo.uE{no:Nat}{m:aL}(G:bo no nx sn m)(hd:d∈m.deals):(dv m d).deals.length+1=m.deals.length:=by rw[uB];exact CU G.up hd
theorem Jy{no nx sn:Nat}:∀(f g:Nat){m:aL},bo no nx sn m->m.deals.length<f->m.deals.length<g->qG f m=qG g m
 |0,_,_,_,h,_=>by omega
 |_+1,0,_,_,_,h=>by omega
 |f+1,g+1,m,G,h,h'=>by
  cases e:gE (cw m).1 with
  |none=>rw[DK e,DK e]
  |some d=>
   obtain⟨G1,z⟩:=G.Ds;have a:=bo.so _ (bK _) G;have b:=G1.uE (p0 e);rw[Dy e,Dy e,Jy f g (G1.off (p0 e)) (by omega) (by omega)]
theorem Er{m:aL}(h:gE (cw m).1=none):dk m=cw m:=DK h _
theorem bo.KU{no:Nat}{m:aL}(G:bo no nx sn m)(h:gE (cw m).1=some d):dk m=((dk (dv (cw m).1 d)).1,(cw m).2++((2,d.num)::(dk (dv (cw m).1 d)).2)):=by
 obtain⟨G1,z⟩:=G.Ds;have a:=bo.so _ (bK _) G;have b:=G1.uE (p0 h);unfold dk;rw[Dy h,Jy m.deals.length ((dv (cw m).1 d).deals.length+1) (G1.off (p0 h)) (by omega) (by omega)]
structure jM(m:aL):Prop where
 hold:fg m=none
 ring:gE m=none
theorem jM.settled{m:aL}(c:jM m):dk m=(m,[]):=by
 have e:=yj c.hold;rw[Er (by rw[e];exact c.ring),e]
theorem bo.L3{no nx sn:Nat}:∀(k:Nat){m:aL},m.deals.length<=k->bo no nx sn m->bo no nx sn (dk m).1/\jM (dk m).1/\(dk m).1.deals.length+(dk m).2.length<=m.deals.length/\(dk m).1.goods=m.goods
 |k,m,hk,G=>by
  obtain⟨G1,n1⟩:=G.Ds;obtain⟨a,a2⟩:=bo.so _ (bK _) G;cases e:gE (cw m).1 with
  |none=>rw[Er e];exact⟨G1,⟨n1,e⟩,by omega,a2⟩
  |some d=>
   have b:=G1.uE (p0 e);rw[G.KU e];cases k with
   |zero=>omega
   |succ k=>
    obtain⟨x,y,z,u⟩:=bo.L3 k (by omega) (G1.off (p0 e))
    refine⟨x,y,?_,by rw[u,xP,a2]⟩
    simp only[bV,cY];omega
theorem bo.wW{no:Nat}{m:aL}(G:bo no nx sn m):bo no nx sn (dk m).1/\jM (dk m).1/\(dk m).1.deals.length+(dk m).2.length<=m.deals.length/\(dk m).1.goods=m.goods:=bo.L3 _ (bK _) G
def iz(ds:List aZ)(x:aL×nS):aL×nS:=ds.foldl (λx d=>(dv x.1 d,x.2++[(3,d.num)])) x
theorem AB(now:Nat)(m:aL):gR now m=iz (m.deals.filter λd=>decide (d.until_<now)) (m,[]):=rfl
theorem Qg(d:aZ)(r:List aZ)(x:aL×nS):iz (d::r) x=iz r (dv x.1 d,x.2++[(3,d.num)]):=rfl
theorem Gh{no nx sn:Nat}:∀(ds:List aZ)(x:aL×nS),bo no nx sn x.1->Up ds->(∀d∈ds,d∈x.1.deals)->bo no nx sn (iz ds x).1/\(iz ds x).1.goods=x.1.goods/\(iz ds x).1.deals.length+(iz ds x).2.length=x.1.deals.length+x.2.length
 |[],x,G,_,_=>⟨G,rfl,rfl⟩
 |d::r,x,G,u,h=>by
  have u2:=iE.1 u;have hd:=h d (by simp)
  rw[Qg]
  obtain⟨a,b,c⟩:=Gh r (dv x.1 d,x.2++[(3,d.num)]) (G.off hd) u2.2 (λe he=>by
   show e∈(dv x.1 d).deals;rw[uB];have:=u2.1 e he
   exact kh.2 ⟨h e (b8 _ he),by omega⟩)
  refine⟨a,by rw[b];exact xP _ _,?_⟩
  have l:=G.uE hd;rw[c];simp only[bV,cY,ma];omega
theorem bo.over{no:Nat}{m:aL}(G:bo no nx sn m)(now:Nat):bo no nx sn (gR now m).1/\(gR now m).1.goods=m.goods/\(gR now m).1.deals.length+(gR now m).2.length=m.deals.length:=by
 rw[AB];have:=Gh (m.deals.filter λd=>decide (d.until_<now)) (m,[]) G (qE lq G.up) (λd hd=>(dG.1 hd).1);simpa using this
theorem Wv{m:aL}{now:Nat}(h:(m.deals.filter λd=>decide (d.until_<now))=[]):gR now m=(m,[]):=by rw[AB,h];rfl
def iw(now:Nat)(m:aL):aL×nS:=((dk (gR (now+1) m).1).1,(gR (now+1) m).2++(dk (gR (now+1) m).1).2)
theorem xI(k now:Nat)(m:aL):dU (k+1) now m=((dU k (now+1) (iw now m).1).1,(iw now m).2++(dU k (now+1) (iw now m).1).2):=by
 conv=>lhs;unfold dU
 simp only[iw,nT]
theorem bo.Pu{no:Nat}{m:aL}(G:bo no nx sn m)(now:Nat):bo no nx sn (iw now m).1/\jM (iw now m).1/\(iw now m).1.goods=m.goods/\(iw now m).1.deals.length+(iw now m).2.length<=m.deals.length:=by
 obtain⟨a,b,c⟩:=G.over (now+1);obtain⟨d,e,f,g⟩:=a.wW;refine⟨d,e,g.trans b,?_⟩;simp only[iw,bV];omega
theorem bo.Es{no nx sn:Nat}:∀(k now:Nat){m:aL},bo no nx sn m->jM m->bo no nx sn (dU k now m).1/\jM (dU k now m).1/\(dU k now m).1.goods=m.goods/\(dU k now m).1.deals.length+(dU k now m).2.length<=m.deals.length
 |0,_,_,G,c=>⟨G,c,rfl,bK _⟩
 |k+1,now,m,G,c=>by
  obtain⟨a,b,d,e⟩:=G.Pu now;obtain⟨x,y,z,u⟩:=bo.Es k (now+1) a b;rw[xI];refine⟨x,y,z.trans d,?_⟩;simp only[bV];omega
abbrev Way(es:List (Nat×Nat)):Nat->Nat->Prop:=Relation.TransGen (λa b=>(a,b)∈es)
theorem LM{x:Nat}:∀{l:List Nat},l.Pairwise (·<·)->x∈l->ia x l=l
 |[],_,h=>by simp at h
 |y::r,s,h=>by
  rw[iE]at s;unfold ia;by_cases e:x=y
  .rw[ay e]
  .have hx:x∈r:=by
    rcases bM.1 h with q|q
    .exact absurd q e
    .exact q
   have:=s.1 x hx;rw[aq e,aq (by omega),LM s.2 hx]
theorem F9{x:Nat}:∀{l:List Nat},¬x∈l->(ia x l).length=l.length+1
 |[],_=>rfl
 |y::r,h=>by
  unfold ia;rw[bM,i8]at h;rw[aq h.1];split
  .rfl
  .rw[cY,F9 h.2];rfl
theorem uS{α:Type}[DecidableEq α]:∀{l r:List α},l.Nodup->(∀x∈l,x∈r)->l.length<=r.length
 |[],_,_,_=>gp _
 |x::l,r,hn,h=>by
  rw[gC]at hn;have hx:=h x (by simp)
  have:=uS (l:=l) (r:=r.erase x) hn.2 (λy hy=>(List.mem_erase_of_ne (λe=>hn.1 (by rw[<-e];exact hy))).2 (h y (b8 _ hy)))
  have e:=List.length_erase_of_mem hx;have p:=List.length_pos_of_mem hx;rw[cY];omega
def round(es:List (Nat×Nat))(l:List Nat):List Nat:=es.foldl (λl e=>if l.contains e.1=true then ia e.2 l else l) l
theorem Jx(es:List (Nat×Nat))(f:Nat)(l:List Nat):nj es (f+1) l=nj es f (round es l):=rfl
theorem OC(e:Nat×Nat)(es:List (Nat×Nat))(l:List Nat):round (e::es) l=round es (if l.contains e.1=true then ia e.2 l else l):=rfl
theorem Cd:∀(es:List (Nat×Nat))(l:List Nat),l.Pairwise (·<·)->(round es l).Pairwise (·<·)/\(∀x∈l,x∈round es l)/\l.length<=(round es l).length/\((round es l).length=l.length->round es l=l/\∀e∈es,e.1∈l->e.2∈l)/\(∀x∈round es l,x∈l\/∃y∈l,Way es y x)
 |[],l,s=>⟨s,λw h=>h,bK _,λw=>⟨rfl,λw h=>by simp at h⟩,λw h=>.inl h⟩
 |e::es,l,s=>by
  rw[OC];have mono:∀{a b:Nat},Way es a b->Way (e::es) a b:=λh=>by
   induction h with
   |single h=>exact .single (b8 _ h)
   |tail _ h ih=>exact .tail ih (b8 _ h)
  by_cases c:l.contains e.1=true
  .rw[ay c]
   have c':e.1∈l:=by simpa using c
   obtain⟨a1,a2,a3,a4,a5⟩:=Cd es (ia e.2 l) (uF _ _ s);by_cases d:e.2∈l
   .rw[LM s d]at*
    refine⟨a1,a2,a3,λq=>⟨(a4 q).1,λx hx hl=>?_⟩,λx hx=>?_⟩
    .rcases bM.1 hx with z|z
     .subst z;exact d
     .exact(a4 q).2 x z hl
    .rcases a5 x hx with z|⟨y,hy,z⟩
     .exact .inl z
     .exact .inr ⟨y,hy,mono z⟩
   .have pl:=F9 d
    refine⟨a1,λx hx=>a2 x ((oA _ _ _).2 (.inr hx)),by omega,λq=>by omega,λx hx=>?_⟩
    have first:Way (e::es) e.1 e.2:=.single (by simp)
    rcases a5 x hx with z|⟨y,hy,z⟩
    .rcases(oA _ _ _).1 z with k|k
     .subst k;exact .inr ⟨e.1,c',first⟩
     .exact .inl k
    .rcases(oA _ _ _).1 hy with k|k
     .subst k;exact .inr ⟨e.1,c',first.trans (mono z)⟩
     .exact .inr ⟨y,k,mono z⟩
  .rw[aq c]
   obtain⟨a1,a2,a3,a4,a5⟩:=Cd es l s;refine⟨a1,a2,a3,λq=>⟨(a4 q).1,λx hx hl=>?_⟩,λx hx=>?_⟩
   .rcases bM.1 hx with z|z
    .subst z;exact absurd (by simpa using hl) c
    .exact(a4 q).2 x z hl
   .rcases a5 x hx with z|⟨y,hy,z⟩
    .exact .inl z
    .exact .inr ⟨y,hy,mono z⟩
def uu(es:List (Nat×Nat))(l:List Nat):Prop:=∀e∈es,e.1∈l->e.2∈l
theorem Gx{es:List (Nat×Nat)}{l:List Nat}(h:round es l=l):∀f,nj es f l=l
 |0=>rfl
 |f+1=>by rw[Jx,h,Gx h f]
theorem F6(es:List (Nat×Nat)):∀(f:Nat)(l:List Nat),l.Pairwise (·<·)->(nj es f l).Pairwise (·<·)/\(∀x∈l,x∈nj es f l)/\(∀x∈nj es f l,x∈l\/∃y∈l,Way es y x)/\(uu es (nj es f l)\/l.length+f<=(nj es f l).length)
 |0,l,s=>⟨s,λw h=>h,λw h=>.inl h,.inr (bK _)⟩
 |f+1,l,s=>by
  obtain⟨a1,a2,a3,a4,a5⟩:=Cd es l s;by_cases q:(round es l).length=l.length
  .obtain⟨e,c⟩:=a4 q
   rw[Gx e];exact⟨s,λw h=>h,λw h=>.inl h,.inl c⟩
  .obtain⟨b1,b2,b3,b4⟩:=F6 es f (round es l) a1
   rw[Jx];refine⟨b1,λx hx=>b2 x (a2 x hx),λx hx=>?_,?_⟩
   .rcases b3 x hx with z|⟨y,hy,z⟩
    .exact a5 x z
    .rcases a5 y hy with k|⟨v,hv,k⟩
     .exact .inr ⟨y,k,z⟩
     .exact .inr ⟨v,hv,k.trans z⟩
   .rcases b4 with z|z
    .exact .inl z
    .exact .inr (by omega)
theorem uu.way{l:List Nat}(h:uu es l){a b:Nat}(w:Way es a b)(ha:a∈l):b∈l:=by
 induction w with
 |single k=>exact h _ k ha
 |tail _ k ih=>exact h _ k ih
theorem Lg(z:Nat):∀(es:List (Nat×Nat))(a:List Nat),z∈es.foldl (λl e=>ia e.2 l) a↔z∈a\/∃e∈es,z=e.2
 |[],a=>by simp
 |e::r,a=>by
  rw[lj,Lg z r,oA];simp only[bM];constructor
  .rintro((h|h)|⟨y,hy,h⟩)
   .exact .inr ⟨e,.inl rfl,h⟩
   .exact .inl h
   .exact .inr ⟨y,.inr hy,h⟩
  .rintro(h|⟨y,q|hy,h⟩)
   .exact .inl (.inr h)
   .subst q;exact .inl (.inl h)
   .exact .inr ⟨y,hy,h⟩
theorem US(es:List (Nat×Nat)):∀(a:List Nat),a.Pairwise (·<·)->(es.foldl (λl e=>ia e.2 l) a).Pairwise (·<·):=by
 induction es with
 |nil=>intro a h;exact h
 |cons e r ih=>intro a h;exact ih _ (uF _ _ h)
theorem xp{m:aL}{a b:Nat}:(a,b)∈gS m↔∃d∈m.deals,∃e∈m.deals,pB m d e=true/\d.num=a/\e.num=b:=by
 unfold gS;simp only[lp,bw,dG,Yt];constructor
 .rintro⟨d,hd,e,⟨he,w⟩,q1,q2⟩;exact⟨d,hd,e,he,w,q1,q2⟩
 .rintro⟨d,hd,e,he,w,q1,q2⟩;exact⟨d,hd,e,⟨he,w⟩,q1,q2⟩
theorem Kp{a b:Nat}(w:Way es a b):∃c,(c,b)∈es:=by
 cases w with
 |single k=>exact⟨_,k⟩
 |tail _ k=>exact⟨_,k⟩
theorem HV{a b:Nat}(w:Way es a b):∃c,(a,c)∈es/\(c=b\/Way es c b):=by
 induction w with
 |single k=>exact⟨_,k,.inl rfl⟩
 |tail _ k ih=>
  obtain⟨c,hc,q|q⟩:=ih
  .subst q;exact⟨c,hc,.inr (.single k)⟩
  .exact⟨c,hc,.inr (q.tail k)⟩
theorem ur(m:aL)(n:Nat):vK m n=true↔Way (gS m) n n:=by
 unfold vK;simp only[nk];generalize hl:((gS m).filter λe=>e.1==n).foldl (λl e=>ia e.2 l) []=l;have mem:∀z,z∈l↔(n,z)∈gS m:=by
  intro z;rw[<-hl,Lg];simp only[MG,false_or,dG,pC];constructor
  .rintro⟨e,⟨he,q⟩,z⟩;subst q;subst z;exact he
  .intro h;exact⟨(n,z),⟨h,rfl⟩,rfl⟩
 have sl:l.Pairwise (·<·):=by rw[<-hl];exact US _ _ (by simp)
 obtain⟨b1,b2,b3,b4⟩:=F6 (gS m) m.deals.length l sl;have sub:∀x∈nj (gS m) m.deals.length l,∃c,(c,x)∈gS m:=by
  intro x hx;rcases b3 x hx with z|⟨y,_,z⟩
  .exact⟨n,(mem x).1 z⟩
  .exact Kp z
 have closed:uu (gS m) (nj (gS m) m.deals.length l):=by
  rcases b4 with z|z
  .exact z
  .have le:(nj (gS m) m.deals.length l).length<=(m.deals.map (·.num)).length:=by
    refine uS ?_ (λx hx=>?_)
    .rw[My];exact b1.imp dM
    .obtain⟨c,hc⟩:=sub x hx
     obtain⟨d,v,e,he,v,v,q⟩:=xp.1 hc;exact bw.2 ⟨e,he,q⟩
   rw[aA]at le;have:l=[]:=MH (by omega)
   intro e he h1;rcases b3 _ h1 with k|⟨y,hy,_⟩
   .rw[this]at k;simp at k
   .rw[this]at hy;simp at hy
 constructor
 .intro h
  rcases b3 n h with k|⟨y,hy,k⟩
  .exact .single ((mem n).1 k)
  .exact(aat ((mem y).1 hy)).trans k
 .intro w
  obtain⟨c,hc,q|q⟩:=HV w
  .subst q;exact b2 _ ((mem _).2 hc)
  .exact closed.way q (b2 _ ((mem c).2 hc))
theorem F3{p:aZ->Bool}:∀{ds:List aZ},Up ds->(∀d,(ds.filter p).getLast? =some d↔d∈ds/\p d=true/\∀e∈ds,p e=true->e.num<=d.num)
 |[],_,d=>by simp
 |x::r,u,d=>by
  have u2:=iE.1 u;have ih:=F3 (p:=p) u2.2 d;rw[fZ];by_cases c:p x=true
  .rw[ay c]
   cases hr:r.filter p with
   |nil=>
    have no:∀e∈r,¬p e=true:=λe he q=>by
     have:e∈r.filter p:=dG.2 ⟨he,q⟩;rw[hr]at this;simp at this
    simp only[List.getLast?_singleton,EI];constructor
    .intro q;subst q
     refine⟨by simp,c,λe he k=>?_⟩
     rcases bM.1 he with z|z
     .subst z;exact bK _
     .exact absurd k (no e z)
    .rintro⟨h1,h2,_⟩
     rcases bM.1 h1 with z|z
     .exact z.symm
     .exact absurd h2 (no d z)
   |cons y t=>
    rw[List.getLast?_cons_cons,<-hr,ih];have hy:y∈r/\p y=true:=dG.1 (by rw[hr];simp)
    constructor
    .rintro⟨h1,h2,h3⟩
     refine⟨b8 _ h1,h2,λe he k=>?_⟩;rcases bM.1 he with z|z
     .subst z;have:=u2.1 d h1;omega
     .exact h3 e z k
    .rintro⟨h1,h2,h3⟩
     refine⟨?_,h2,λe he k=>h3 e (b8 _ he) k⟩;rcases bM.1 h1 with z|z
     .subst z
      have:=h3 y (b8 _ hy.1) hy.2;have:=u2.1 y hy.1;omega
     .exact z
  .rw[aq c,ih]
   constructor
   .rintro⟨h1,h2,h3⟩
    refine⟨b8 _ h1,h2,λe he k=>?_⟩;rcases bM.1 he with z|z
    .subst z;exact absurd k c
    .exact h3 e z k
   .rintro⟨h1,h2,h3⟩
    refine⟨?_,h2,λe he k=>h3 e (b8 _ he) k⟩;rcases bM.1 h1 with z|z
    .subst z;exact absurd h2 c
    .exact z
theorem UD{m:aL}(u:Up m.deals):gE m=some d↔d∈m.deals/\vK m d.num=true/\∀e∈m.deals,vK m e.num=true->e.num<=d.num:=F3 u d
theorem A6{m:aL}:gE m=none↔∀d∈m.deals,vK m d.num=false:=by
 unfold gE;rw[List.getLast?_eq_none_iff,MI];simp
def jD(es:List (Nat×Nat))(a:Nat):List Nat:=(es.filter λe=>e.1==a).map (·.2)
theorem xT{a b:Nat}:b∈jD es a↔(a,b)∈es:=by
 unfold jD;rw[bw];constructor
 .rintro⟨e,he,q⟩
  rw[dG]at he;obtain⟨h1,h2⟩:=he;have:e.1=a:=by simpa using h2
  subst this;subst q;exact h1
 .intro h;exact⟨(a,b),dG.2 ⟨h,by simp⟩,rfl⟩
structure Walk(es:List (Nat×Nat))(n:Nat)(seen ahead:List Nat):Prop where
 way:∀x,x∈seen\/x∈ahead->Way es n x
 start:∀x,(n,x)∈es->x∈seen\/x∈ahead
 next:∀x∈seen,∀y,(x,y)∈es->y∈seen\/y∈ahead
 not:¬n∈seen
theorem Walk.begin(es:List (Nat×Nat))(n:Nat):Walk es n [] (jD es n):=⟨λx h=>by
 rcases h with h|h
 .simp at h
 .exact .single (xT.1 h),λx h=>.inr (xT.2 h),λz h=>by simp at h,by simp⟩
theorem Walk.old{n:Nat}{seen ahead:List Nat}{x:Nat}(w:Walk es n seen (ahead++[x]))(h:x∈seen):Walk es n seen ahead:=by
 have key:∀y,y∈seen\/y∈ahead++[x]->y∈seen\/y∈ahead:=by
  intro y hy;rcases hy with q|q
  .exact .inl q
  .rcases b6.1 q with k|k
   .exact .inr k
   .simp only[de]at k;subst k;exact .inl h
 exact⟨λy hy=>w.way y (hy.imp id (λk=>b6.2 (.inl k))),λy hy=>key y (w.start y hy),λy hy z hz=>key z (w.next y hy z hz),w.not⟩
theorem Walk.new{n:Nat}{seen ahead:List Nat}{x:Nat}(w:Walk es n seen (ahead++[x]))(h:x≠n):Walk es n (seen++[x]) (ahead++jD es x):=by
 have wx:Way es n x:=w.way x (.inr (by simp))
 have key:∀y,y∈seen\/y∈ahead++[x]->y∈seen++[x]\/y∈ahead++jD es x:=by
  intro y hy;rcases hy with q|q
  .exact .inl (b6.2 (.inl q))
  .rcases b6.1 q with k|k
   .exact .inr (b6.2 (.inl k))
   .exact .inl (b6.2 (.inr k))
 refine⟨λy hy=>?_,λy hy=>key y (w.start y hy),λy hy z hz=>?_,λk=>?_⟩
 .rcases hy with q|q
  .rcases b6.1 q with k|k
   .exact w.way y (.inl k)
   .simp only[de]at k;subst k;exact wx
  .rcases b6.1 q with k|k
   .exact w.way y (.inr (b6.2 (.inl k)))
   .exact wx.tail (xT.1 k)
 .rcases b6.1 hy with k|k
  .exact key z (w.next y k z hz)
  .simp only[de]at k;subst k
   exact .inr (b6.2 (.inr (xT.2 hz)))
 .rcases b6.1 k with q|q
  .exact w.not q
  .simp only[de]at q;exact h q.symm
theorem Walk.back{n:Nat}{seen ahead:List Nat}(w:Walk es n seen (ahead++[n])):Way es n n:=w.way n (.inr (by simp))
theorem Walk.over{n:Nat}{seen:List Nat}(w:Walk es n seen []):¬Way es n n:=by
 intro k;have closed:uu es seen:=λe he h=>by
  rcases w.next e.1 h e.2 he with q|q
  .exact q
  .simp at q
 obtain⟨c,hc,q|q⟩:=HV k
 .subst q
  rcases w.start _ hc with z|z
  .exact w.not z
  .simp at z
 .rcases w.start c hc with z|z
  .exact w.not (closed.way q z)
  .simp at z
def oR(es:List (Nat×Nat))(ns seen ahead:List Nat):Nat:=ahead.length+gP ((ns.filter λx=> !seen.contains x).map λx=>(jD es x).length)
theorem Xc(es:List (Nat×Nat))(ns seen ahead:List Nat)(x:Nat):oR es ns seen (ahead++[x])=oR es ns seen ahead+1:=by unfold oR;rw[bV];simp;omega
theorem Ic(es:List (Nat×Nat))(seen:List Nat)(x:Nat)(hs:¬x∈seen):∀ns:List Nat,ns.Nodup->x∈ns->gP ((ns.filter λy=> !(seen++[x]).contains y).map λy=>(jD es y).length)+(jD es x).length=gP ((ns.filter λy=> !seen.contains y).map λy=>(jD es y).length)
 |[],_,h=>by simp at h
 |y::r,hn,h=>by
  rw[gC]at hn;rw[fZ,fZ];by_cases e:y=x
  .subst e
   have c1:(!(seen++[y]).contains y)=false:=by simp
   have c2:(!seen.contains y)=true:=by simpa using hs
   rw[c1,c2];simp only[ko,ic,iF,bS,jh];have:(r.filter λz=> !(seen++[y]).contains z)=r.filter λz=> !seen.contains z:=by
    refine nU (λz hz=>?_);have:z≠y:=λq=>hn.1 (by rw[<-q];exact hz)
    simp[this]
   rw[this];omega
  .have hx:x∈r:=by
    rcases bM.1 h with q|q
    .exact absurd q.symm e
    .exact q
   have ih:=Ic es seen x hs r hn.2 hx;have c:(!(seen++[x]).contains y)= !seen.contains y:=by simp[e]
   rw[c];split
   .simp only[bS,jh];omega
   .exact ih
theorem Qv(es:List (Nat×Nat))(ns seen ahead:List Nat){x:Nat}(hn:ns.Nodup)(hx:x∈ns)(hs:¬x∈seen):oR es ns (seen++[x]) (ahead++jD es x)+1=oR es ns seen (ahead++[x]):=by
 have:=Ic es seen x hs ns hn hx;unfold oR;rw[bV,bV,Yu];omega
theorem yW(hd:d∈ds)(e:aZ)(hn:e.num=d.num):e∈putD ds e:=(rQ hd hn).2 (.inl rfl)
theorem Kt{e x:aZ}(hx:x∈ds)(c:x.num≠e.num):x∈putD ds e:=bw.2 ⟨x,hx,by rw[aq c]⟩
theorem Ord.agree{m:aL}(O:Ord m P)(u:Up m.deals)(hd:d∈m.deals)(hlt:∀d∈m.deals,∀p∈d.parts,p.since<sn)(o:Nat):Ord (nc m {d with parts:=d.parts++[{owner:=o,since:=sn,held:=false}]}) (P++[(sn,d.num,o,false)]) where
 sorted:=by
  rw[MD];refine⟨O.sorted,by simp,λa ha b hb=>?_⟩
  simp only[de]at hb;subst hb;obtain⟨e,he,p,hp,q⟩:=(O.mem a).1 ha;subst q;exact hlt e he p hp
 mem x:=by
  rw[b6,O.mem,Ef];constructor
  .rintro(⟨e,he,p,hp,q⟩|h)
   .by_cases c:e.num=d.num
    .have:=u.inj he hd c
     subst this;exact⟨{e with parts:=e.parts++[{owner:=o,since:=sn,held:=false}]},yW hd _ rfl,p,b6.2 (.inl hp),q⟩
    .exact⟨e,Kt he c,p,hp,q⟩
   .simp only[de]at h
    subst h;exact⟨{d with parts:=d.parts++[{owner:=o,since:=sn,held:=false}]},yW hd _ rfl,⟨o,sn,false⟩,b6.2 (.inr (by simp)),rfl⟩
  .rintro⟨e,he,p,hp,q⟩
   rcases mem_putD he with k|⟨k,_⟩
   .subst k
    rcases b6.1 hp with z|z
    .exact .inl ⟨d,hd,p,z,q⟩
    .simp only[de]at z
     subst z;exact .inr (by simp[q])
   .exact .inl ⟨e,k,p,hp,q⟩
theorem Ord.hold{m:aL}(O:Ord m P)(u:Up m.deals)(hd:d∈m.deals)(o:Nat):Ord (gf m d o) (P.map λx=>if x.2.1=d.num/\x.2.2.1=o then(x.1,x.2.1,x.2.2.1,true)else x) where
 sorted:=by
  rw[sX];refine O.sorted.imp (λ{a b} h=>?_);split<;>split<;>exact h
 mem x:=by
  rw[bw,x8];constructor
  .rintro⟨y,hy,q⟩
   obtain⟨e,he,p,hp,z⟩:=(O.mem y).1 hy;subst z;by_cases c:e.num=d.num
   .have:=u.inj he hd c
    subst this;refine⟨_,(rQ (e:=cT e o) hd rfl).2 (.inl rfl),(if p.owner=o then{p with held:=true}else p),nE.2 ⟨p,hp,rfl⟩,?_⟩
    by_cases c2:p.owner=o
    .rw[ay c2];rw[ay ⟨rfl,c2⟩]at q;exact q.symm
    .rw[aq c2];rw[aq (λk=>c2 k.2)]at q;exact q.symm
   .rw[aq (λk=>c k.1)]at q
    exact⟨e,(rQ (e:=cT d o) hd rfl).2 (.inr ⟨he,c⟩),p,hp,q.symm⟩
  .rintro⟨e,he,p,hp,q⟩
   rcases mem_putD he with k|⟨k,n⟩
   .subst k
    obtain⟨r,hr,z⟩:=nE.1 hp;refine⟨(r.since,d.num,r.owner,r.held),(O.mem _).2 ⟨d,hd,r,hr,rfl⟩,?_⟩;by_cases c2:r.owner=o
    .rw[ay c2]at z;rw[ay ⟨rfl,c2⟩];subst z;exact q.symm
    .rw[aq c2]at z;rw[aq (λk=>c2 k.2)];subst z;exact q.symm
   .refine⟨(p.since,e.num,p.owner,p.held),(O.mem _).2 ⟨e,k,p,hp,rfl⟩,?_⟩
    rw[aq (λz=>n z.1)];exact q.symm
theorem Ord.cut{m m':aL}{n:Nat}(O:Ord m P)(h:m'.deals=cutD m.deals n):Ord m' (P.filter λx=> !(x.2.1==n)) where
 sorted:=qE lq O.sorted
 mem x:=by
  rw[dG,O.mem,h];constructor
  .rintro⟨⟨e,he,p,hp,q⟩,c⟩
   subst q;exact⟨e,kh.2 ⟨he,by simpa using c⟩,p,hp,rfl⟩
  .rintro⟨e,he,p,hp,q⟩
   obtain⟨a,b⟩:=kh.1 he;subst q;exact⟨⟨e,a,p,hp,rfl⟩,by simpa using b⟩
theorem Ord.drop{m m':aL}(O:Ord m P)(u:Up m.deals)(hd:d∈m.deals)(o:Nat)(h:m'.deals=putD m.deals {d with parts:=d.parts.filter λq=>q.owner !=o}):Ord m' (P.filter λx=> !(x.2.1==d.num&&x.2.2.1==o)) where
 sorted:=qE lq O.sorted
 mem x:=by
  rw[dG,O.mem,h];constructor
  .rintro⟨⟨e,he,p,hp,q⟩,c⟩
   subst q;by_cases k:e.num=d.num
   .have:=u.inj he hd k
    subst this;refine⟨{e with parts:=e.parts.filter λq=>q.owner !=o},yW hd _ rfl,p,dG.2 ⟨hp,?_⟩,rfl⟩
    simpa using c
   .exact⟨e,Kt he k,p,hp,rfl⟩
  .rintro⟨e,he,p,hp,q⟩
   subst q;rcases mem_putD he with k|⟨k,n⟩
   .subst k
    rw[dG]at hp;refine⟨⟨d,hd,p,hp.1,rfl⟩,?_⟩;simpa using hp.2
   .refine⟨⟨e,k,p,hp,rfl⟩,?_⟩
    have:¬e.num=d.num:=n;simp[this]
theorem Ord.add{m:aL}(O:Ord m P)(h:d.parts=[]):Ord {m with deals:=m.deals++[d]} P where
 sorted:=O.sorted
 mem x:=by
  rw[O.mem];constructor
  .rintro⟨e,he,p,hp,q⟩;exact⟨e,b6.2 (.inl he),p,hp,q⟩
  .rintro⟨e,he,p,hp,q⟩
   rcases b6.1 he with k|k
   .exact⟨e,k,p,hp,q⟩
   .simp only[de]at k;subst k;rw[h]at hp;simp at hp
theorem Ord.same{m m':aL}(O:Ord m P)(h:m'.deals=m.deals):Ord m' P:=⟨O.sorted,λx=>by rw[h];exact O.mem x⟩
theorem Ord.nil{m:aL}(h:m.deals=[]):Ord m []:=⟨by simp,λx=>by simp[h]⟩
theorem Ord.nodup{no:Nat}{m:aL}(G:bo no nx sn m)(O:Ord m P):(P.map λx=>(x.2.1,x.2.2.1)).Nodup:=by
 rw[My,sX];refine aau (λ{a b} ha hb h q=>?_) O.sorted;obtain⟨d,hd,p,hp,e1⟩:=(O.mem a).1 ha;obtain⟨e,he,r,hr,e2⟩:=(O.mem b).1 hb;subst e1;subst e2;simp only[Yt]at q;have:=G.up.inj hd he q.1;subst this;have:=Af (G.owners d hd) hp hr q.2;subst this;simp at h
theorem Ord.len{no:Nat}{m:aL}(G:bo no nx sn m)(O:Ord m P):P.length<=16*no:=by
 have h1:(P.map λx=>(x.2.1,x.2.2.1)).length<=((m.deals.map (·.num)).flatMap λn=>(cR no).map λo=>(n,o)).length:=by
  refine uS (O.nodup G) (λx hx=>?_);obtain⟨y,hy,q⟩:=bw.1 hx;obtain⟨d,hd,p,hp,e⟩:=(O.mem y).1 hy;subst e;subst q;simp only[lp,bw,kq];exact⟨d.num,⟨d,hd,rfl⟩,p.owner,G.nF hd hp,rfl⟩
 have h2:∀l:List Nat,(l.flatMap λn=>(cR no).map λo=>(n,o)).length=l.length*no:=by
  intro l;induction l with
  |nil=>simp
  |cons x r ih=>rw[gQ,bV,ih,aA,sZ,cY,Nat.succ_mul];omega
 rw[aA,h2,aA]at h1;exact fi h1 (Yv _ G.c5)
def dz(d:aZ)(ks:List Nat):aZ:={d with parts:=d.parts.filter λq=> !ks.contains q.owner}
structure jC(no nx sn:Nat)(m:aL)(d:aZ)(ks:List Nat)(m':aL):Prop where
 good:bo no nx sn m'
 goods:m'.goods=m.goods
 deals:m'.deals=putD m.deals (dz d ks)
 free:∀o g,g<m.goods->amount m'.free o g=amount m.free o g+if o∈ks then cX d o g else 0
 held:∀o g,g<m.goods->amount m'.held o g=amount m.held o g - if o∈ks then cX d o g else 0
theorem OE(u:Up ds)(hd:d∈ds):putD ds d=ds:=by
 unfold putD
 conv=>rhs;rw[<-vL ds]
 refine i5 (λx hx=>?_);split
 .rename_i h;exact(u.inj hx hd h).symm
 .rfl
theorem Ml(ds:List aZ)(e f:aZ)(h:e.num=f.num):putD (putD ds e) f=putD ds f:=by
 unfold putD;rw[bU];refine i5 (λx z=>?_);simp only[EG];by_cases c:x.num=e.num
 .rw[ay c,ay h,ay (c.trans h)]
 .rw[aq c]
theorem O0(ds:List aZ)(e:aZ):cutD (putD ds e) e.num=cutD ds e.num:=by
 unfold cutD putD;induction ds with
 |nil=>rfl
 |cons x r ih=>
  rw[bS,fZ,fZ,ih];by_cases c:x.num=e.num
  .rw[ay c];simp[c]
  .rw[aq c]
theorem jC.begin{no:Nat}{m:aL}(G:bo no nx sn m)(hd:d∈m.deals):jC no nx sn m d [] m:=by
 refine⟨G,rfl,?_,λz z z=>by simp,λz z z=>by simp⟩
 have:dz d []=d:=by unfold dz;cases d;simp
 rw[this,OE G.up hd]
theorem jC.mem{no:Nat}{m m':aL}{ks:List Nat}(D:jC no nx sn m d ks m')(hd:d∈m.deals):dz d ks∈m'.deals:=by rw[D.deals];exact yW hd _ rfl
theorem LX(d:aZ)(ks:List Nat)(o:Nat):{dz d ks with parts:=(dz d ks).parts.filter λq=>q.owner !=o}=dz d (ks++[o]):=by
 unfold dz;simp only[Yw,Deal.mk.injEq,true_and];refine nU (λq z=>?_);rw[lu];simp;exact And.comm
theorem GP(d:aZ)(ks:List Nat)(o g:Nat):cX (dz d ks) o g=if o∈ks then 0 else cX d o g:=by
 unfold cX;have:gc (dz d ks) o=(decide (¬o∈ks)&&gc d o):=by
  rw[lu,ib,i3,i3,Mz];constructor
  .rintro⟨p,hp,e,hh⟩
   obtain⟨a,b⟩:=dG.1 hp;subst e;exact⟨by simpa using b,p,a,rfl,hh⟩
  .rintro⟨c,p,hp,e,hh⟩
   subst e;exact⟨p,dG.2 ⟨hp,by simpa using c⟩,rfl,hh⟩
 rw[this];by_cases c:o∈ks<;>simp[c,dz]
theorem jC.one{no:Nat}{m m':aL}{ks:List Nat}{p:i6}(D:jC no nx sn m d ks m')(hd:d∈m.deals)(hp:p∈(dz d ks).parts)(hk:¬p.owner∈ks):jC no nx sn m d (ks++[p.owner]) (gh m' (dz d ks) p):=by
 obtain⟨z,b,c,e,f⟩:=AQ D.good (D.mem hd) hp;refine⟨D.good.drops (D.mem hd) hp,b.trans D.goods,?_,λo g h=>?_,λo g h=>?_⟩
 .rw[c,LX,D.deals];exact Ml _ _ _ rfl
 .rw[e o g (by rw[D.goods];exact h),D.free o g h,GP]
  by_cases q:o=p.owner
  .subst q;simp[hk]
  .simp[q]
 .rw[f o g (by rw[D.goods];exact h),D.held o g h,GP]
  by_cases q:o=p.owner
  .subst q;simp[hk]
  .simp[q]
theorem jC.skip{no:Nat}{m m':aL}{ks:List Nat}(D:jC no nx sn m d ks m')(ho:¬∃p∈d.parts,p.owner=o):jC no nx sn m d (ks++[o]) m':=by
 have z:∀g,cX d o g=0:=λg=>by
  unfold cX;rw[aq];intro h;obtain⟨p,hp,e,y⟩:=i3.1 h;exact ho ⟨p,hp,e⟩
 have e:dz d (ks++[o])=dz d ks:=by
  unfold dz
  congr 1
  refine nU (λq hq=>?_);have:q.owner≠o:=λk=>ho ⟨q,hq,k⟩;simp[this]
 refine⟨D.good,D.goods,by rw[e];exact D.deals,λo' g h=>?_,λo' g h=>?_⟩
 .rw[D.free o' g h]
  by_cases c:o'=o
  .subst c;simp[z]
  .simp[c]
 .rw[D.held o' g h]
  by_cases c:o'=o
  .subst c;simp[z]
  .simp[c]
theorem Ar{m m':aL}(h1:m.goods=m'.goods)(h2:m.free=m'.free)(h3:m.held=m'.held)(h4:m.deals=m'.deals):m=m':=by cases m;cases m';simp at*;exact⟨h1,h2,h3,h4⟩
theorem jC.off{no:Nat}{m m':aL}{ks:List Nat}(D:jC no nx sn m d ks m')(G:bo no nx sn m)(hd:d∈m.deals)(hk:∀o∈dj d.legs,o∈ks):Mx m' d.num=dv m d:=by
 obtain⟨F,a,b,c,e⟩:=DC G hd;have key:∀o g,(if o∈ks then cX d o g else 0)=cX d o g:=by
  intro o g;split
  .rfl
  .rename_i h
   unfold cX;rw[aq];intro k;obtain⟨p,hp,q,_⟩:=i3.1 k;subst q;exact h (hk _ (G.g9 d hd p hp))
 have hf:=D.good.frame.free;have hh:=D.good.frame.held;rw[D.goods]at hf hh;have Ff:=F.free;have Fh:=F.held;rw[a]at Ff Fh;refine Ar (D.goods.trans a.symm) ?_ ?_ ?_
 .exact J5 hf Ff (λo g _ h=>by show amount m'.free o g=amount (iG m d).free o g;rw[D.free o g h,key,c o g h])
 .exact J5 hh Fh (λo g _ h=>by show amount m'.held o g=amount (iG m d).held o g;rw[D.held o g h,key,e o g h])
 .rw[uB,Bw,D.deals]
  exact O0 m.deals (dz d ks)
theorem LZ{t:Text}{k:Nat}(h:natural t=some k):k<=999999999/\t.all dP=true/\t≠[]/\t.length<=9:=by
 unfold natural at h;split at h
 .cases h
 .rename_i c
  simp only[i8,vM]at c;obtain⟨c1,c2,c3,_⟩:=c;injection h with h
  have key:∀(t:Text)(a:Nat),t.all dP=true->t.foldl (λn c=>10*n+(c - 48)) a<(a+1)*10^t.length:=by
   intro t;induction t with
   |nil=>intro a _;simp
   |cons x r ih=>
    intro a hd;rw[tj,ib]at hd;have hx:x - 48<=9:=by
     have:=hd.1;unfold dP at this;simp only[kr]at this;omega
    have h1:=ih (10*a+(x - 48)) hd.2;rw[lj,cY,Nat.pow_succ];refine ie h1 ?_;have:(10*a+(x - 48)+1)<=(a+1)*10:=by omega
    calc (10*a+(x - 48)+1)*10^r.length<=((a+1)*10)*10^r.length:=Yv _ this
     _=(a+1)*(10^r.length*10):=by rw[Nat.mul_assoc,Yx 10]
  have h2:=key t 0 c3;rw[h]at h2;have h3:10^t.length<=10^9:=Nat.pow_le_pow_right (by decide) (by omega)
  have h4:(10:Nat)^9=1000000000:=by decide
  refine⟨by omega,c3,c1,by omega⟩
theorem placeOf_some{l:List Text}{t:Text}{i:Nat}(h:jQ l t=some i):i<l.length/\l[i]? =some t:=by
 unfold jQ at h;simp only at h;split at h
 .rename_i hl
  injection h with h
  subst h;refine⟨hl,?_⟩;have:=Yy (w:=hl);rw[bH hl];simpa using this
 .cases h
theorem Uo{owners goods:List Text}{t:Text}{x:bN}(h:fM owners goods t=some x):x.from_<owners.length/\x.to_<owners.length/\x.good<goods.length/\1<=x.n/\x.n<=999999999:=by
 unfold fM at h;split at h
 .split at h
  .cases h
  .split at h
   .rename_i i k j o h1 h2 h3 h4
    split at h
    .cases h
    .rename_i c
     injection h with h
     subst h;have:=(LZ h2).1;refine⟨(placeOf_some h1).1,(placeOf_some h4).1,(placeOf_some h3).1,?_,this⟩;show 1<=k;omega
   .cases h
 .cases h
theorem K6{owners goods:List Text}:∀{ts:List Text}{k:Nat}{l:List bN},qH owners goods k ts=.ok l->l.length=ts.length/\∀x∈l,x.from_<owners.length/\x.to_<owners.length/\x.good<goods.length/\1<=x.n/\x.n<=999999999
 |[],k,l,h=>by
  unfold qH at h;injection h with h
  subst h;exact⟨rfl,λ_ h=>by simp at h⟩
 |t::r,k,l,h=>by
  unfold qH at h;split at h
  .cases h
  .rename_i x hx
   split at h
   .cases h
   .rename_i m hm
    injection h with h
    subst h;obtain⟨a,b⟩:=K6 hm;refine⟨by simp[a],λy hy=>?_⟩
    rcases bM.1 hy with e|e
    .subst e;exact Uo hx
    .exact b y e
theorem yH{owners goods:List Text}{t:Text}{l:List bN}(h:ly owners goods t=.ok l):j7 owners.length goods.length l/\l≠[]/\l.length<=12/\∀x∈l,1<=x.n/\x.n<=999999999:=by
 unfold ly at h;split at h
 .rename_i r _
  split at h
  .cases h
  .rename_i hr
   split at h
   .cases h
   .rename_i hl
    obtain⟨a,b⟩:=K6 h;rw[Yz]at a;refine⟨⟨λx hx=>(b x hx).1,λx hx=>(b x hx).2.1,λx hx=>(b x hx).2.2.1⟩,λe=>?_,?_,λx hx=>(b x hx).2.2.2⟩
    .rw[e]at a
     have:r=[]:=MH (by simpa using a.symm)
     rw[this]at hr;exact hr rfl
    .unfold LEGS at hl;omega
 .cases h
structure gx(os gs:List Text):Prop where
 name:∀t∈os++gs,dD t=true
 nodup:(os++gs).Nodup
 owners:os.length<=8
 goods:gs.length<=6
theorem gx.owner{os gs:List Text}{n:Text}(h:gx os gs)(hn:dD n=true)(h1:os.contains n=false)(h2:gs.contains n=false)(hl:os.length<8):gx (os++[n]) gs:=by
 have m1:¬n∈os:=by simpa using h1
 have m2:¬n∈gs:=by simpa using h2
 refine⟨λt ht=>?_,?_,by simp;omega,h.goods⟩
 .simp only[b6,de]at ht
  rcases ht with(ht|ht)|ht
  .exact h.name t (by simp[ht])
  .subst ht;exact hn
  .exact h.name t (by simp[ht])
 .have:=h.nodup
  rw[nT];rw[pz]at this⊢;obtain⟨a,b,c⟩:=this;refine⟨a,?_,?_⟩
  .rw[List.singleton_append,gC];exact⟨m2,b⟩
  .intro x hx y hy e
   rcases b6.1 hy with q|q
   .simp only[de]at q;subst q;subst e;exact m1 hx
   .exact c x hx y q e
theorem gx.good{os gs:List Text}{n:Text}(h:gx os gs)(hn:dD n=true)(h1:os.contains n=false)(h2:gs.contains n=false)(hl:gs.length<6):gx os (gs++[n]):=by
 have m1:¬n∈os:=by simpa using h1
 have m2:¬n∈gs:=by simpa using h2
 refine⟨λt ht=>?_,?_,h.owners,by simp;omega⟩
 .simp only[b6,de]at ht
  rcases ht with ht|ht|ht
  .exact h.name t (by simp[ht])
  .exact h.name t (by simp[ht])
  .subst ht;exact hn
 .have:=h.nodup
  rw[<-nT,pz];refine⟨this,by simp,?_⟩
  intro x hx y hy e;simp only[de]at hy;subst hy;subst e;rcases b6.1 hx with q|q
  .exact m1 q
  .exact m2 q
theorem CI:∀{ts:List Text}{k:Nat}{x y:List Text×List Text},gx x.1 x.2->pD k x ts=.ok y->gx y.1 y.2
 |[],k,x,y,h,e=>by
  unfold pD at e;injection e with e
  subst e;exact h
 |t::r,k,x,y,h,e=>by
  unfold pD at e;split at e
  .rename_i w n _
   split at e
   .cases e
   .rename_i c
    simp only[i8,vM,zv]at c;split at e
    .split at e
     .cases e
     .rename_i hl
      exact CI (h.owner c.1 c.2.1 c.2.2 (by unfold OWNERS at hl;omega)) e
    .split at e
     .split at e
      .cases e
      .rename_i hl
       exact CI (h.good c.1 c.2.1 c.2.2 (by unfold GOODS at hl;omega)) e
     .cases e
  .cases e
theorem Kl{t:Text}{y:List Text×List Text}(h:tm t=.ok y):gx y.1 y.2:=by
 unfold tm at h;split at h
 .exact CI (x:=([],[])) ⟨by simp,by simp,by simp,by simp⟩ h
 .cases h
structure iK(s:aT):Prop where
 m:bo s.owners.length s.next s.since s.market
 goods:s.market.goods=s.goods.length
 made:s.made.length=s.goods.length
 burned:s.burned.length=s.goods.length
 names:gx s.owners s.goods
 calm:jM s.market
 next:1<=s.next
theorem LI(os gs:List Text):Shape os.length gs.length (os.map λz=>gs.map λz=>0):=by
 refine⟨by simp,λr hr=>?_⟩
 obtain⟨z,z,e⟩:=bw.1 hr;rw[<-e];simp
theorem Sz(os gs:List Text)(o g:Nat):amount (os.map λz=>gs.map λz=>0) o g=0:=by
 unfold amount;simp only[eA,bz];cases os[o]? <;>simp;cases gs[g]? <;>simp
theorem Tr{m:aL}(h:m.deals=[]):jM m:=by
 constructor
 .unfold fg sW;rw[h];rfl
 .unfold gE;rw[h];rfl
theorem IM{os gs:List Text}(h:gx os gs):iK (iQ os gs) where
 m:=⟨⟨LI os gs,LI os gs⟩,by simp[iQ],by simp[iQ],by simp[iQ],by simp[iQ],by simp[iQ],by simp[iQ],by simp[iQ],by simp[iQ],by simp[iQ],λo g _ _=>Sz os gs o g,by simp[iQ]⟩
 goods:=rfl
 made:=by simp[iQ]
 burned:=by simp[iQ]
 names:=h
 calm:=Tr rfl
 next:=bK _
theorem Xe:iK vN:=IM ⟨by simp,by simp,by simp,by simp⟩
theorem iK.settle{s:aT}(h:iK s){s':aT}{m:aL}(ho:s'.owners=s.owners)(hg:s'.goods=s.goods)(hm:s'.made.length=s.made.length)(hb:s'.burned.length=s.burned.length)(hn:1<=s'.next)(G:bo s.owners.length s'.next s'.since m)(hgo:m.goods=s.market.goods)(before:List Int)(old:nS)(hold:m.deals.length+old.length<=16):iK (pE s' m before old).1/\(pE s' m before old).2.length<=before.length+33:=by
 obtain⟨a,b,c,d⟩:=G.wW;constructor
 .exact⟨by show bo s'.owners.length _ _ _;rw[ho];exact a,by show(dk m).1.goods=s'.goods.length;rw[d,hgo,h.goods,hg],by show s'.made.length=s'.goods.length;rw[hm,h.made,hg],by show s'.burned.length=s'.goods.length;rw[hb,h.burned,hg],by show gx s'.owners s'.goods;rw[ho,hg];exact h.names,b,hn⟩
 .show(0::(before++nq (old++(dk m).2))).length<=_
  have:∀l:nS,(nq l).length=2*l.length:=by
   intro l;induction l with
   |nil=>rfl
   |cons x r ih=>unfold nq at*;rw[gQ,bV,ih];simp;omega
  rw[cY,bV,this,bV];omega
theorem iK.isOwner{s:aT}{o:Int}(h:¬nW s o=false):0<=o/\o.toNat<s.owners.length:=by
 rw[vM]at h;unfold nW nr at h;simp only[kr]at h;omega
theorem iK.isGood{s:aT}{g:Int}(h:¬zw s g=false):0<=g/\g.toNat<s.goods.length:=by
 rw[vM]at h;unfold zw nr at h;simp only[kr]at h;omega
theorem j8{s:aT}{d:Int}{x:aZ}(h:ku s d=some x):x∈s.market.deals/\(x.num:Int)=d:=by
 unfold ku at h;split at h
 .cases h
 .obtain⟨a,b⟩:=Ci h
  exact⟨a,by rw[b];omega⟩
theorem jM.add{no:Nat}{m:aL}(G:bo no nx sn m)(c:jM m)(hn:d.num=nx)(hp:d.parts=[]):jM {m with deals:=m.deals++[d]}:=by
 have hw:sW {m with deals:=m.deals++[d]}=sW m:=by
  unfold sW;rw[md];simp[hp]
 constructor
 .have h1:=c.hold
  unfold fg at h1⊢;rw[hw];rw[List.findSome?_eq_none_iff]at h1⊢;intro x hx;have h2:=h1 x hx;rw[va,vv,Ep]at hx;obtain⟨e,he,p,z,z,q⟩:=hx;subst q;have e1:l9 m e.num=some e:=yn G.up he;have e2:l9 {m with deals:=m.deals++[d]} e.num=some e:=by
   unfold l9 at e1⊢;rw[List.find?_append,e1];rfl
  simp only at h2⊢;rw[e1]at h2;rw[e2];exact h2
 .have he:∀a b,(a,b)∈gS {m with deals:=m.deals++[d]}↔(a,b)∈gS m:=by
   intro a b;rw[xp,xp];constructor
   .rintro⟨x,hx,y,hy,w,q1,q2⟩
    have w':pB m x y=true:=w;have hx':x∈m.deals:=by
     rcases b6.1 hx with k|k
     .exact k
     .simp only[de]at k;subst k
      unfold pB at w';rw[hp]at w';simp at w'
    have hy':y∈m.deals:=by
     rcases b6.1 hy with k|k
     .exact k
     .simp only[de]at k;subst k
      unfold pB at w';rw[hp]at w';simp at w'
    exact⟨x,hx',y,hy',w',q1,q2⟩
   .rintro⟨x,hx,y,hy,w,q1,q2⟩
    exact⟨x,b6.2 (.inl hx),y,b6.2 (.inl hy),w,q1,q2⟩
  have hway:∀a b,Way (gS {m with deals:=m.deals++[d]}) a b->Way (gS m) a b:=by
   intro a b h;induction h with
   |single k=>exact .single ((he _ _).1 k)
   |tail _ k ih=>exact .tail ih ((he _ _).1 k)
  rw[A6];intro x hx;rw[vJ];intro hr;have w:=hway _ _ ((ur _ _).1 hr);obtain⟨k,hk⟩:=Kp w;obtain⟨z,z,y,hy,z,z,q⟩:=xp.1 hk;have:=(A6.1 c.ring) y hy;rw[q,<-zv]at this;exact this ((ur _ _).2 w)
theorem Di{no:Nat}(h:Shape no ng b)(l:List bN):Shape no ng (me b ng l):=by
 unfold me;refine⟨by simp[h.len],λr hr=>?_⟩
 obtain⟨x,hx,e⟩:=bw.1 hr;have:x.2∈b:=(nu hx).2;have:=h.row _ this;rw[<-e];simp[this]
theorem Hy{no:Nat}{m:aL}(G:bo no nx sn m)(hd:d∈m.deals):d.parts.length<=no:=by
 have:=uS (G.owners d hd) (r:=cR no) (λx hx=>by
  obtain⟨p,hp,e⟩:=bw.1 hx
  rw[<-e];exact kq.2 (G.nF hd hp))
 simpa using this
theorem lO{α β:Type}(f:α->List β)(k:Nat):∀l:List α,(∀x∈l,(f x).length<=k)->(l.flatMap f).length<=k*l.length
 |[],_=>by simp
 |x::r,h=>by
  rw[gQ,bV,cY,Nat.mul_succ];have h1:=h x (by simp)
  have h2:=lO f k r (λy hy=>h y (b8 _ hy));omega
theorem AV{os gs:List Text}(h:gx os gs){t:Text}(ht:t∈os++gs):t.length<=8:=by
 have:=h.name t ht;unfold dD at this;simp only[ib,kr]at this;exact this.1.2
theorem Ea{os gs:List Text}(h:gx os gs)(l:List Text)(hl:∀t∈l,t∈os++gs)(i:Nat):(l.getD i []).length<=8:=by
 rw[eA];cases e:l[i]? with
 |none=>simp
 |some t=>exact AV h (hl t (cZ e))
def Kept(x:aT×List Int):Prop:=iK x.1/\x.2.length<=1000
theorem eQ{s:aT}(h:iK s)(k:Nat):Kept (no s k):=⟨h,by simp[no]⟩
theorem jy{s:aT}(h:iK s){l:List Int}(hl:l.length<=999):Kept (fN s l):=⟨h,by simp[fN];omega⟩
theorem qy{s:aT}(h:iK s){s':aT}{m:aL}(ho:s'.owners=s.owners)(hg:s'.goods=s.goods)(hm:s'.made.length=s.made.length)(hb:s'.burned.length=s.burned.length)(hn:1<=s'.next)(G:bo s.owners.length s'.next s'.since m)(hgo:m.goods=s.market.goods):Kept (pE s' m [] []):=by
 obtain⟨a,b⟩:=h.settle ho hg hm hb hn G hgo [] [] (by simpa using G.c5)
 exact⟨a,by simp at b;omega⟩
theorem QL{m:aL}(h:m.deals.length<=16):(gS m).length<=256:=by
 have:=lO (λd=>(m.deals.filter (pB m d)).map λe=>(d.num,e.num)) 16 m.deals (λd z=>by rw[aA];exact fi (tp _ _) h)
 unfold gS;omega
theorem SE(hdec:∀n,n<=999999999->(tq n).length<=9){s:aT}(h:iK s)(c:Call):Kept (step s c):=by
 have hgo:=h.goods;have ho8:=h.names.owners;have hg6:=h.names.goods;cases c with
 |market t=>
  simp only[step];split
  .exact eQ h 2
  .rename_i x hx
   exact jy (IM (Kl hx)) (by simp)
 |make o g n=>
  simp only[step];split
  .exact eQ h 1
  .rename_i c
   simp only[i8]at c;split
   .exact eQ h 5
   .obtain⟨_,h2⟩:=iK.isOwner c.1
    exact qy (m:={s.market with free:=iP s.market.free o.toNat g.toNat n.toNat}) h rfl rfl (by simp) rfl h.next (h.m.freed (qm h.m.frame.free _ _ _)) rfl
 |burn o g n=>
  simp only[step];split
  .exact eQ h 1
  .split
   .exact eQ h 4
   .exact qy (m:={s.market with free:=fL s.market.free o.toNat g.toNat n.toNat}) h rfl rfl rfl (by simp) h.next (h.m.freed (pU h.m.frame.free _ _ _)) rfl
 |deal ticks t=>
  simp only[step];split
  .exact eQ h 1
  .split
   .exact eQ h 2
   .rename_i l hl
    split
    .exact eQ h 5
    .rename_i hd
     obtain⟨a,b⟩:=yH hl;have hd':s.market.deals.length<16:=by unfold EJ at hd;omega
     have a':j7 s.owners.length s.market.goods l:=by rw[hgo];exact a
     refine jy ?_ (by simp)
     exact⟨h.m.P8 a' b h.next hd',hgo,h.made,h.burned,h.names,h.calm.add h.m rfl rfl,by show 1<=s.next+1;omega⟩
 |agree d o=>
  simp only[step];split
  .exact eQ h 1
  .split
   .exact eQ h 3
   .rename_i x hx
    obtain⟨hd,_⟩:=j8 hx;split
    .exact eQ h 4
    .rename_i c
     simp only[i8,vM,zv]at c;refine qy (s':={s with since:=s.since+1}) h rfl rfl rfl rfl h.next (h.m.IH hd (by simpa using c.1) ?_) rfl
     rintro⟨p,hp,e⟩;have:=c.2;rw[YA]at this;exact this p hp (by simpa using e)
 |withdraw d o=>
  simp only[step];split
  .exact eQ h 1
  .split
   .exact eQ h 3
   .rename_i x hx
    obtain⟨hd,_⟩:=j8 hx;split
    .exact eQ h 4
    .rename_i p hp
     have hm:p∈x.parts:=zt hp;have ho:p.owner=o.toNat:=by simpa using zu hp
     have G:=h.m.drops hd hm;rw[<-ho];refine qy (m:=gh s.market x p) h rfl rfl rfl rfl h.next G ?_;exact(AQ h.m hd hm).2.1
 |cancel d=>
  simp only[step];split
  .exact eQ h 3
  .rename_i x hx
   obtain⟨hd,_⟩:=j8 hx;exact qy h rfl rfl rfl rfl h.next (h.m.off hd) (xP _ _)
 |swap t=>
  simp only[step];split
  .exact eQ h 2
  .split
   .exact eQ h 4
   .rename_i l _ _
    have sh:=Di h.m.frame.free l;rw[hgo]at sh;exact qy (m:={s.market with free:=me s.market.free s.goods.length l}) h rfl rfl rfl rfl h.next (h.m.freed (by rw[hgo];exact sh)) rfl
 |tick k=>
  simp only[step];split
  .exact eQ h 1
  .split
   .exact eQ h 5
   .obtain⟨a,b,c,d⟩:=bo.Es k.toNat s.now h.m h.calm
    refine jy (s:={s with market:=(dU k.toNat s.now s.market).1,now:=s.now+k.toNat}) ⟨a,by show(dU k.toNat s.now s.market).1.goods=_;rw[c,hgo],h.made,h.burned,h.names,b,h.next⟩ ?_
    have e:∀l:nS,(nq l).length=2*l.length:=by
     intro l;induction l with
     |nil=>rfl
     |cons x r ih=>unfold nq at*;rw[gQ,bV,ih];simp;omega
    have:=h.m.c5;rw[cY,e];omega
 |account o=>
  simp only[step];split
  .exact eQ h 1
  .refine jy h ?_
   have:=lO (λg=>[(amount s.market.free o.toNat g:Int),(amount s.market.held o.toNat g:Int)]) 2 (cR s.goods.length) (λx _=>by simp)
   rw[sZ]at this;omega
 |deals=>
  simp only[step];refine jy h ?_;have:=lO (λd:aZ=>Vbwsaj.ints [d.num,d.until_,(dj d.legs).length,d.parts.length,(d.parts.filter λp=>p.held).length]) 5 s.market.deals (λx _=>by simp[Vbwsaj.ints])
  have:=h.m.c5;omega
 |parts d=>
  simp only[step];split
  .exact eQ h 3
  .rename_i x hx
   obtain⟨hd,_⟩:=j8 hx;refine jy h ?_;have:=lO (λp:i6=>[(p.owner:Int),if p.held=true then 1 else 0]) 2 x.parts (λx _=>by simp)
   have:=Hy h.m hd;omega
 |legs d=>
  simp only[step];split
  .exact eQ h 3
  .rename_i x hx
   obtain⟨hd,_⟩:=j8 hx;obtain⟨_,h12,hn⟩:=h.m.size x hd;refine jy h ?_;unfold Vbwsaj.ints;rw[aA]
   have:=lO (tu s.owners s.goods) 46 x.legs (λy hy=>by
    have a:=Ea h.names s.owners (λt ht=>by simp[ht]) y.from_
    have b:=Ea h.names s.owners (λt ht=>by simp[ht]) y.to_
    have c:=Ea h.names s.goods (λt ht=>by simp[ht]) y.good
    have e:=hdec y.n (hn y hy).2;have e1:(ck " gives ").length=7:=by decide
    have e2:(ck " to ").length=4:=by decide
    unfold tu;simp only[bV,cY,ma,e1,e2]
    omega)
   omega
 |waits=>
  simp only[step];refine jy h ?_;have:=lO (λe:Nat×Nat=>[(e.1:Int),(e.2:Int)]) 2 (gS s.market) (λx _=>by simp)
  have:=QL h.m.c5;omega
 |books=>
  simp only[step];refine jy h ?_;have:=lO (λg=>Vbwsaj.ints [s.made.getD g 0,s.burned.getD g 0,mf s.market.free g,mf s.market.held g]) 4 (cR s.goods.length) (λx _=>by simp[Vbwsaj.ints])
  rw[sZ]at this;omega
 |could d=>
  simp only[step];split
  .exact eQ h 3
  .exact jy h (by simp)
 |read t=>
  simp only[step];split
  .exact jy h (by simp)
  .exact jy h (by simp)
 |move a b g n=>
  simp only[step];split
  .exact eQ h 1
  .split
   .exact eQ h 4
   .exact qy (m:={s.market with free:=iP (fL s.market.free a.toNat g.toNat n.toNat) b.toNat g.toNat n.toNat}) h rfl rfl rfl rfl h.next (h.m.freed (qm (pU h.m.frame.free _ _ _) _ _ _)) rfl
 |names=>
  simp only[step];refine jy h ?_;unfold Vbwsaj.ints;rw[aA,bV,cY];have a:=lO (λt:Text=>t++[10]) 9 s.owners (λt ht=>by have:=AV h.names (t:=t) (by simp[ht]);simp;omega)
  have b:=lO (λt:Text=>t++[10]) 9 s.goods (λt ht=>by have:=AV h.names (t:=t) (by simp[ht]);simp;omega)
  omega
 |lacks d o=>
  simp only[step];split
  .exact eQ h 1
  .split
   .exact eQ h 3
   .split
    .exact eQ h 4
    .exact jy h (by simp;omega)
theorem L6(sep:Nat):∀(u acc:Text),d8 sep acc u≠[]
 |[],acc=>by simp[d8]
 |c::r,acc=>by
  unfold d8;split
  .simp
  .exact L6 sep r _
theorem ua(sep:Nat):∀(u acc:Text),(d8 sep acc u).length<=u.length+1
 |[],acc=>by simp[d8]
 |c::r,acc=>by
  unfold d8;split
  .have:=ua sep r [];simp;omega
  .have:=ua sep r (acc++[c]);simp;omega
def sg(c:Nat):Nat:=if mh c=true\/dP c=true\/c=32\/c=10 then c else 63
theorem Ut(c:Nat):mh (sg c)=mh c:=by
 unfold sg;split
 .rfl
 .rename_i h
  simp only[i8,zv]at h;rw[h.1];decide
theorem OX(c:Nat):dP (sg c)=dP c:=by
 unfold sg;split
 .rfl
 .rename_i h
  simp only[i8,zv]at h;rw[h.2.1];decide
theorem Lq{c d:Nat}(hd:mh d=true\/dP d=true\/d=32\/d=10):sg c=d↔c=d:=by
 unfold sg;split
 .exact Iff.rfl
 .rename_i h
  constructor
  .intro e
   subst e;exfalso
   revert hd;decide
  .intro e;subst e;exact absurd hd h
theorem sv{sep:Nat}(hs:sep=32\/sep=10):∀(t acc:Text),d8 sep (acc.map sg) (t.map sg)=(d8 sep acc t).map (·.map sg)
 |[],acc=>by simp[d8]
 |c::r,acc=>by
  rw[bS];unfold d8;have e:sg c=sep↔c=sep:=Lq (by rcases hs with h|h<;>simp[h])
  by_cases q:c=sep
  .rw[ay (e.2 q),ay q,bS]
   have:=sv hs r [];rw[i7]at this;rw[this]
  .rw[aq (λz=>q (e.1 z)),aq q]
   have:=sv hs r (acc++[c]);rw[bZ]at this;exact this
theorem CH(t:Text):gq (t.map sg)=(gq t).map (·.map sg):=by
 unfold gq;have:=sv (sep:=32) (.inl rfl) t [];rw[i7]at this;rw[this,tw]
 congr 1
 refine nU (λx z=>?_);simp
def plain(w:Text):Bool:=w.all λc=>mh c||dP c
theorem kb{w v:Text}(hv:plain v=true):w.map sg=v↔w=v:=by
 induction w generalizing v with
 |nil=>simp[eq_comm]
 |cons c r ih=>
  cases v with
  |nil=>simp
  |cons d q=>
   unfold plain at hv;rw[tj,ib,EH]at hv;rw[bS,YB,YB,ih hv.2,Lq (by rcases hv.1 with h|h<;>simp[h])]
theorem oI{w:Text}(h:dD w=true):plain w=true:=by
 unfold dD at h;rw[ib]at h;unfold plain;rw[fE]at*;intro c hc;rw[h.2 c hc];rfl
theorem VG(w:Text):dD (w.map sg)=dD w:=by
 unfold dD;rw[aA,pF]
 congr 1
 refine MJ rfl (λc=>?_);exact Ut c
theorem Ma{w:Text}(h:w.all dP=true):w.map sg=w:=by
 conv=>rhs;rw[<-vL w]
 refine i5 (λc hc=>?_);have:=fE.1 h c hc;unfold sg;rw[ay (.inr (.inl this))];rfl
theorem Q9(w:Text):(∃k,natural w=some k/\k≠0)↔1<=w.length/\w.length<=9/\w.head?≠some 48/\w.all dP=true:=by
 have grow:∀(r:Text)(a:Nat),a<=r.foldl (λn c=>10*n+(c - 48)) a:=by
  intro r;induction r with
  |nil=>intro a;exact bK _
  |cons c r ih=>intro a;rw[lj];exact fi (by omega) (ih _)
 constructor
 .rintro⟨k,h,hk⟩
  obtain⟨_,h2,h3,h4⟩:=LZ h;refine⟨by cases w with|nil=>exact absurd rfl h3|cons a b=>simp,h4,λe=>?_,h2⟩
  unfold natural at h;split at h
  .cases h
  .rename_i c
   simp only[i8,not_and]at c;cases w with
   |nil=>exact h3 rfl
   |cons a b=>
    cases b with
    |nil=>
     simp at e;subst e;simp at h;exact hk h.symm
    |cons x y=>exact c.2.2.2 (by simp) e
 .rintro⟨h1,h2,h3,h4⟩
  have hn:¬(w=[]\/9<w.length\/w.all dP=false\/(1<w.length/\w.head? =some 48)):=by
   rintro(q|q|q|q)
   .subst q;simp at h1
   .omega
   .rw[h4]at q;cases q
   .exact h3 q.2
  refine⟨_,by unfold natural;rw[aq hn],?_⟩
  cases w with
  |nil=>simp at h1
  |cons a b=>
   rw[lj];rw[tj,ib]at h4;have ha:=h4.1;unfold dP at ha;simp only[kr]at ha;have:a≠48:=λq=>h3 (by simp[q])
   have:=grow b (10*0+(a - 48));omega
theorem Jg:plain (ck "gives")=true:=by decide
theorem JM:plain (ck "to")=true:=by decide
theorem Ue:plain (ck "owner")=true:=by decide
theorem T9:plain (ck "good")=true:=by decide
def e7(ws:List Text)(os gs:List Text):Option (List Text×List Text):=match ws with
 |[w,n]=>if dD n=false\/os.contains n=true\/gs.contains n=true then none
  else if w=ck "owner" then(if 8<=os.length then none else some (os++[n],gs))
  else if w=ck "good" then(if 6<=gs.length then none else some (os,gs++[n]))else none
 |_=>none
def jF:List Text×List Text->List Text->Option (List Text×List Text)
 |x,[]=>some x
 |x,t::r=>match e7 (gq t) x.1 x.2 with
  |none=>none
  |some y=>jF y r
theorem Sl(k:Nat)(x:List Text×List Text)(t:Text)(r:List Text):pD k x (t::r)=match e7 (gq t) x.1 x.2 with|none=>.error k|some y=>pD (k+1) y r:=by
 conv=>lhs;unfold pD
 unfold e7;generalize gq t=ws;rcases ws with _|⟨w,_|⟨n,_|⟨_,_⟩⟩⟩
 .rfl
 .rfl
 .dsimp only
  by_cases h1:dD n=false\/x.1.contains n=true\/x.2.contains n=true
  .rw[ay h1,ay h1]
  .rw[aq h1,aq h1]
   by_cases h2:w=ck "owner"
   .rw[ay h2,ay h2]
    by_cases h3:8<=x.1.length
    .rw[ay h3,ay (show OWNERS<=x.1.length from h3)]
    .rw[aq h3,aq (show¬OWNERS<=x.1.length from h3)]
   .rw[aq h2,aq h2]
    by_cases h3:w=ck "good"
    .rw[ay h3,ay h3]
     by_cases h4:6<=x.2.length
     .rw[ay h4,ay (show GOODS<=x.2.length from h4)]
     .rw[aq h4,aq (show¬GOODS<=x.2.length from h4)]
    .rw[aq h3,aq h3]
 .rfl
theorem Du:∀(l:List Text)(k:Nat)(x:List Text×List Text),match jF x l with|none=>∃e,pD k x l=.error e|some y=>pD k x l=.ok y
 |[],k,x=>rfl
 |t::r,k,x=>by
  rw[Sl];unfold jF;cases e7 (gq t) x.1 x.2 with
  |none=>exact⟨k,rfl⟩
  |some y=>exact Du r (k+1) y
theorem TH(ws os gs:List Text):e7 (ws.map (·.map sg)) os gs=e7 ws os gs:=by
 match ws with
 |[]=>rfl
 |[_]=>rfl
 |_::_::_::_=>rfl
 |[w,n]=>
  show e7 [w.map sg,n.map sg] os gs=e7 [w,n] os gs;unfold e7;have ew (v:Text) (hv:plain v=true):(w.map sg=v)=(w=v):=propext (kb hv);dsimp only;simp only[VG,ew _ Ue,ew _ T9];by_cases h:dD n=false
  .rw[ay (.inl h),ay (.inl h)]
  .have h':dD n=true:=by simpa using h
   rw[(kb (oI h')).2 rfl]
theorem V9{ws os gs os' gs':List Text}(h:e7 ws os gs=some (os',gs'))(h1:∀x∈os,dD x=true)(h2:∀x∈gs,dD x=true):(∀x∈os',dD x=true)/\(∀x∈gs',dD x=true)/\os'.length<=max os.length 8/\gs'.length<=max gs.length 6:=by
 unfold e7 at h;split at h
 .rename_i w n
  split at h
  .cases h
  .rename_i c
   simp only[i8,vM]at c;split at h
   .split at h
    .cases h
    .rename_i q
     cases h;refine⟨λx hx=>?_,h2,by simp;omega,by omega⟩
     rcases b6.mp hx with z|z
     .exact h1 x z
     .rw[de.mp z];exact c.1
   .split at h
    .split at h
     .cases h
     .rename_i q
      cases h;refine⟨h1,λx hx=>?_,by omega,by simp;omega⟩
      rcases b6.mp hx with z|z
      .exact h2 x z
      .rw[de.mp z];exact c.1
    .cases h
 .cases h
theorem Cc(sep:Nat)(t:Text):∃I l,d8 sep [] t=I++[l]:=by
 rcases YC (d8 sep [] t)with h|⟨I,l,h⟩
 .exact absurd h (L6 sep t [])
 .exact⟨I,l,by simpa using h⟩
theorem Xl{t:Text}{I:List Text}{l:Text}(h:d8 10 [] t=I++[l]):tm t=if l=[]then pD 1 ([],[]) I else .error (I.length+1):=by
 unfold tm;rw[h,YD];show(match l::I.reverse with|[]::r=>_|r=>_)=_
 cases l with
 |nil=>simp
 |cons a b=>simp
theorem LY{os gs:List Text}{t:Text}{I:List Text}{l:Text}(h:d8 10 [] t=I++[l]):ly os gs t=if l=[]then(if I=[]then .error 1 else if 12<I.length then .error 13 else qH os gs 1 I)else .error (I.length+1):=by
 unfold ly;rw[h,YD];show(match l::I.reverse with|[]::r=>_|r=>_)=_
 cases l with
 |nil=>
  show(if I.reverse.isEmpty=true then _ else if LEGS<I.reverse.length then _ else qH os gs 1 I.reverse.reverse)=_;rw[Yp,Yz,ay rfl];cases I with
  |nil=>rfl
  |cons a b=>simp[LEGS]<;>rfl
 |cons a b=>simp
def jJ(ws os gs:List Text):Bool:=match ws with
 |[a,g,n,x,t,b]=>decide (g=ck "gives")&&(decide (t=ck "to")&&(os.contains a&&(os.contains b&&(decide (a≠b)&&(decide (1<=n.length/\n.length<=9/\n.head?≠some 48/\n.all dP=true)&&gs.contains x)))))
 |_=>false
theorem rK{l:List Text}{t:Text}{i:Nat}(h:jQ l t=some i):l[i]? =some t/\∀m x,m<i->l[m]? =some x->x≠t:=by
 unfold jQ at h;dsimp only at h;split at h
 .rename_i hl
  cases h;refine⟨?_,λm x hm hx=>?_⟩
  .rw[bH hl]
   have:=Yy (w:=hl);exact cq some (eq_of_beq this)
  .have:=List.not_of_lt_findIdx (p:=λx=>x==t) (xs:=l) hm
   obtain⟨hm',e⟩:=cN.mp hx;rw[e]at this;intro q;subst q;simp at this
 .cases h
theorem CY(l:List Text)(t:Text):(jQ l t).isSome=l.contains t:=by
 unfold jQ;dsimp only;by_cases h:l.findIdx (λx=>x==t)<l.length
 .rw[ay h]
  have:=YE.mp h;obtain⟨x,hx,e⟩:=this;rw[<-eq_of_beq e];show true=_;rw[nk.mpr hx]
 .rw[aq h]
  show false=_;cases q:l.contains t with
  |false=>rfl
  |true=>exact absurd (YE.mpr ⟨t,nk.mp q,by simp⟩) h
theorem Ox(os gs:List Text)(t:Text):(fM os gs t).isSome=jJ (gq t) os gs:=by
 unfold fM jJ;generalize gq t=ws;split
 .rename_i a g n x t' b
  dsimp only;by_cases h1:g≠ck "gives"\/t'≠ck "to"
  .rw[ay h1]
   rcases h1 with h|h
   .rw[cU h];rfl
   .rw[cU h];simp
  .rw[aq h1]
   simp only[i8,i9]at h1;rw[dw h1.1,dw h1.2,qI,qI,<-CY,<-CY,<-CY];cases ea:jQ os a with
   |none=>rfl
   |some i=>
    cases eb:jQ os b with
    |none=>cases natural n<;>cases jQ gs x<;>rfl
    |some o=>
     have hne:decide (a≠b)=decide (i≠o):=by
      have pa:=rK ea;have pb:=rK eb;by_cases q:a=b
      .subst q;rw[ea]at eb;cases eb;simp
      .rw[dw q,dw]
       intro z;subst z;rw[pa.1]at pb;exact q (dQ pb.1)
     rw[hne];have hp:=Q9 n;cases en:natural n with
     |none=>
      have:¬(1<=n.length/\n.length<=9/\n.head?≠some 48/\n.all dP=true):=λz=>by
       obtain⟨k,hk,_⟩:=hp.2 z;rw[en]at hk;cases hk
      rw[cU this];cases jQ gs x<;>simp
     |some k=>
      have hk:decide (1<=n.length/\n.length<=9/\n.head?≠some 48/\n.all dP=true)=decide (k≠0):=by
       refine jr.mpr ⟨λz=>?_,λq=>hp.1 ⟨k,en,q⟩⟩;obtain⟨k',h',h2⟩:=hp.2 z;rw[en]at h';cases h';exact h2
      rw[hk];cases jQ gs x with
      |none=>simp
      |some j=>
       dsimp only;by_cases q:k=0\/i=o
       .rw[ay q]
        rcases q with q|q<;>simp[q]
       .rw[aq q]
        simp only[i8]at q;simp[q]
 .rename_i hw
  split
  .rename_i a g n x t' b;exact absurd rfl (by first|exact hw a g n x t' b|exact λz=>hw _ _ _ _ _ _ z)
  .rfl
theorem XH{os gs:List Text}(ho:∀x∈os,dD x=true)(hg:∀x∈gs,dD x=true)(ws:List Text):jJ (ws.map (·.map sg)) os gs=jJ ws os gs:=by
 have ct (l:List Text) (hl:∀x∈l,dD x=true) (a:Text):l.contains (a.map sg)=l.contains a:=by
  by_cases h:a∈l
  .rw[(kb (oI (hl a h))).2 rfl]
  .rw[show l.contains a=false by simpa using h]
   cases q:l.contains (a.map sg)with
   |false=>rfl
   |true=>
    have m:=nk.mp q;have:=(kb (w:=a) (oI (hl _ m))).1 rfl;exact absurd (this▸m) h
 match ws with
 |[]=>rfl
 |[_]=>rfl
 |[_,_]=>rfl
 |[_,_,_]=>rfl
 |[_,_,_,_]=>rfl
 |[_,_,_,_,_]=>rfl
 |_::_::_::_::_::_::_::_=>rfl
 |[a,g,n,x,t,b]=>
  show jJ [a.map sg,g.map sg,n.map sg,x.map sg,t.map sg,b.map sg] os gs=jJ [a,g,n,x,t,b] os gs;unfold jJ;dsimp only;have e1:decide (g.map sg=ck "gives")=decide (g=ck "gives"):=jr.mpr (kb Jg);have e2:decide (t.map sg=ck "to")=decide (t=ck "to"):=jr.mpr (kb JM);have e3:decide (1<=(n.map sg).length/\(n.map sg).length<=9/\(n.map sg).head?≠some 48/\(n.map sg).all dP=true)=decide (1<=n.length/\n.length<=9/\n.head?≠some 48/\n.all dP=true):=by
   have ea:(n.map sg).all dP=n.all dP:=by rw[pF];exact MJ rfl (λc=>OX c)
   by_cases q:n.all dP=true
   .rw[Ma q]
   .rw[cU (by rintro⟨_,_,_,z⟩;exact q (ea▸z)),cU (by rintro⟨_,_,_,z⟩;exact q z)]
  rw[e1,e2,e3,ct os ho,ct os ho,ct gs hg];by_cases ha:os.contains a=true
  .by_cases hb:os.contains b=true
   .have pa:=(kb (oI (ho a (nk.mp ha)))).2 (rfl:a=a)
    have pb:=(kb (oI (ho b (nk.mp hb)))).2 (rfl:b=b);rw[pa,pb]
   .rw[show os.contains b=false by simpa using hb];simp
  .rw[show os.contains a=false by simpa using ha];simp
theorem Qk{os gs:List Text}{t:Text}{l:bN}(h:fM os gs t=some l):∃a n x b,gq t=[a,ck "gives",n,x,ck "to",b]/\jQ os a=some l.from_/\natural n=some l.n/\jQ gs x=some l.good/\jQ os b=some l.to_/\l.n≠0/\l.from_≠l.to_:=by
 unfold fM at h;split at h
 .rename_i a g n x t' b hw
  split at h
  .cases h
  .rename_i c
   simp only[i8,i9]at c;split at h
   .rename_i i k j o h1 h2 h3 h4
    split at h
    .cases h
    .rename_i c2
     simp only[i8]at c2;cases h;refine⟨a,n,x,b,?_,h1,h2,h3,h4,c2.1,c2.2⟩;rw[hw,c.1,c.2]
   .cases h
 .cases h
def lU(os gs:List Text):Nat->List Text->Option Nat
 |_,[]=>none
 |k,t::r=>if(fM os gs t).isSome=true then lU os gs (k+1) r else some k
theorem CN(os gs:List Text):∀(l:List Text)(k:Nat),match lU os gs k l with|some e=>qH os gs k l=.error e|none=>∃ls,qH os gs k l=.ok ls/\ls.map some=l.map (fM os gs)
 |[],k=>⟨[],rfl,rfl⟩
 |t::r,k=>by
  unfold lU qH;cases e:fM os gs t with
  |none=>rfl
  |some x=>
   simp only[MK,iF];have ih:=CN os gs r (k+1);cases q:lU os gs (k+1) r with
   |some e'=>rw[q]at ih;dsimp only at ih;rw[ih]
   |none=>
    rw[q]at ih;obtain⟨ls,h1,h2⟩:=ih;rw[h1];exact⟨x::ls,rfl,by rw[bS,bS,h2,e]⟩
structure j0(no ng:Nat)(b:List (List Int)):Prop where
 len:b.length=no
 row:∀r∈b,r.length=ng
def mC(b:List (List Int))(o g:Nat)(f:Int->Int):List (List Int):=b.modify o λl=>l.modify g f
def gj(b:List (List Int))(o g:Nat):Int:=(b.getD o []).getD g 0
theorem AY{no:Nat}{b:List (List Int)}(h:j0 no ng b)(o g:Nat)(f:Int->Int):j0 no ng (mC b o g f):=by
 unfold mC;constructor
 .rw[EC];exact h.len
 .intro r hr
  obtain⟨i,hi,e⟩:=ED.1 hr;rw[Yq]at e;have hi':i<b.length:=by simpa using hi
  split at e
  .rw[<-e,EC];exact h.row _ (fo _)
  .rw[<-e];exact h.row _ (fo _)
theorem DD{no:Nat}{b:List (List Int)}(h:j0 no ng b){g:Nat}(ho:o<no)(hg:g<ng)(f:Int->Int)(o' g':Nat):gj (mC b o g f) o' g'=if o'=o/\g'=g then f (gj b o g)else gj b o' g':=by
 have hl:o<b.length:=by rw[h.len];exact ho
 have hr:(b[o]).length=ng:=h.row _ (fo hl);unfold gj mC;simp only[eA,EE];by_cases e:o'=o
 .subst e
  simp only[bH hl,iF,Yr,zr,EF,EE,true_and];by_cases eg:g'=g
  .subst eg
   have hg2:g'<(b[o']).length:=by rw[hr];exact hg
   simp[bH hg2]
  .rw[aq eg]
   have:¬g=g':=λq=>eg q.symm;simp[this]
 .have:¬o=o':=λq=>e q.symm
  simp[this,e]
theorem ve{no:Nat}{b:List (List Int)}(h:j0 no ng b){g:Nat}(ho:o<no)(hg:g<ng):∃r,b[o]? =some r/\r[g]? =some (gj b o g):=by
 have hl:o<b.length:=by rw[h.len];exact ho
 have hr:(b[o]).length=ng:=h.row _ (fo hl);refine⟨b[o],bH hl,?_⟩;unfold gj;have hg2:g<(b[o]).length:=by rw[hr];exact hg
 have e1:b.getD o []=b[o]:=by rw[eA,bH hl];rfl
 rw[e1,eA,bH hg2];rfl
theorem SI{no:Nat}{b c:List (List Int)}(hb:j0 no ng b)(hc:j0 no ng c)(h:∀o g,o<no->g<ng->gj b o g=gj c o g):b=c:=by
 refine EK λo=>?_;by_cases ho:o<no
 .have h1:o<b.length:=by rw[hb.len];exact ho
  have h2:o<c.length:=by rw[hc.len];exact ho
  rw[bH h1,bH h2]
  congr 1
  have r1:(b[o]).length=ng:=hb.row _ (fo h1);have r2:(c[o]).length=ng:=hc.row _ (fo h2);refine EK λg=>?_;by_cases hg:g<ng
  .obtain⟨r,e1,e2⟩:=ve hb ho hg
   obtain⟨q,e3,e4⟩:=ve hc ho hg;rw[bH h1]at e1;rw[bH h2]at e3;cases e1;cases e3;rw[e2,e4,h o g ho hg]
  .rw[nX (by omega),nX (by omega)]
 .rw[nX (by rw[hb.len];omega),nX (by rw[hc.len];omega)]
def dY(b:jO):List (List Int):=b.map λr=>r.map λ(n:Nat)=>(n:Int)
theorem sk{no:Nat}(h:Shape no ng b):j0 no ng (dY b):=by
 refine⟨by unfold dY;rw[aA];exact h.len,λr hr=>?_⟩
 obtain⟨x,hx,rfl⟩:=bw.1 hr;rw[aA];exact h.row x hx
theorem vq(b:jO)(o g:Nat):gj (dY b) o g=(amount b o g:Int):=by
 unfold gj dY amount;simp only[eA,bz];cases b[o]? with
 |none=>simp
 |some r=>
  simp only[zr,EF,bz];cases r[g]? <;>rfl
def xo(b:List (List Int))(x:bN):List (List Int):=mC (mC b x.from_ x.good λz=>z - (x.n:Int)) x.to_ x.good λz=>z+(x.n:Int)
def xK(b:List (List Int))(l:List bN):List (List Int):=l.foldl xo b
theorem VM(b:List (List Int))(l:List bN)(x:bN):xK b (l++[x])=xo (xK b l) x:=by unfold xK;rw[sY];rfl
theorem sJ{no ng:Nat}:∀(l:List bN){b:List (List Int)},j0 no ng b->j7 no ng l->j0 no ng (xK b l)/\∀o g,gj (xK b l) o g=gj b o g+(gets l o g:Int) - (gives l o g:Int)
 |[],b,h,_=>⟨h,λo g=>by rw[D0,r9];show gj b o g=_;omega⟩
 |x::r,b,h,ok=>by
  have h1:=AY h x.from_ x.good λz=>z - (x.n:Int);have h2:=AY h1 x.to_ x.good λz=>z+(x.n:Int);have f1:=ok.lM x (gF ..);have t1:=ok.lN x (gF ..);have g1:=ok.jK x (gF ..);obtain⟨s,e⟩:=sJ r h2 ⟨λy hy=>ok.lM y (b8 _ hy),λy hy=>ok.lN y (b8 _ hy),λy hy=>ok.jK y (b8 _ hy)⟩;refine⟨s,λo g=>?_⟩;show gj (xK (xo b x) r) o g=_;unfold xo;rw[e o g,DD h1 t1 g1,DD h f1 g1,DD h f1 g1,nD,yJ];by_cases c1:o=x.to_/\g=x.good<;>by_cases c2:o=x.from_/\g=x.good
  .rw[ay c1,ay (⟨c1.1.symm.trans c2.1,rfl⟩:x.to_=x.from_/\x.good=x.good),ay ⟨c1.1.symm,c1.2.symm⟩,ay ⟨c2.1.symm,c2.2.symm⟩,<-c2.1,<-c1.2];omega
  .have c3:¬(x.to_=x.from_/\x.good=x.good):=λq=>c2 ⟨c1.1.trans q.1,c1.2⟩
   rw[ay c1,aq c3,ay ⟨c1.1.symm,c1.2.symm⟩,aq (λq=>c2 ⟨q.1.symm,q.2.symm⟩),<-c1.1,<-c1.2];omega
  .rw[aq c1,ay c2,aq (λq=>c1 ⟨q.1.symm,q.2.symm⟩),ay ⟨c2.1.symm,c2.2.symm⟩,<-c2.1,<-c2.2];omega
  .rw[aq c1,aq c2,aq (λq=>c1 ⟨q.1.symm,q.2.symm⟩),aq (λq=>c2 ⟨q.1.symm,q.2.symm⟩)];omega
def rZ(b:List (List Int)):Bool:=b.all λr=>r.all λz=>decide (0<=z)
theorem Hg{no:Nat}{b:List (List Int)}(h:j0 no ng b):rZ b=true↔∀o g,o<no->g<ng->0<=gj b o g:=by
 unfold rZ;rw[fE];constructor
 .intro q o g ho hg
  obtain⟨r,e1,e2⟩:=ve h ho hg;have:=fE.1 (q r (cZ e1)) _ (cZ e2);exact lz this
 .intro q r hr
  rw[fE];intro z hz;obtain⟨o,ho,rfl⟩:=ED.1 hr;obtain⟨g,hg,rfl⟩:=ED.1 hz;have ho':o<no:=by rw[<-h.len];exact ho
  have hg':g<ng:=by rw[<-h.row _ hr];exact hg
  have:=q o g ho' hg';obtain⟨r,e1,e2⟩:=ve h ho' hg';rw[bH ho]at e1;cases e1;rw[bH hg]at e2;rw[dQ e2];exact dw this
theorem Ae{no:Nat}(h:Shape no ng b){l:List bN}(ok:j7 no ng l):nY b ng l=rZ (xK (dY b) l):=by
 obtain⟨s,e⟩:=sJ l (sk h) ok;rw[lu,Hg s];unfold nY;rw[fE];constructor
 .intro q o g ho hg
  rw[e o g,vq];by_cases c:o∈dj l
  .have:=lz (fE.1 (q o c) g (kq.2 hg))
   omega
  .rw[Ek c];omega
 .intro q o ho
  rw[fE];intro g hg;have:=q o g (wV ok o ho) (kq.1 hg);rw[e o g,vq]at this;exact dw (by omega)
theorem RM{no:Nat}(h:Shape no ng b)(l:List bN){g:Nat}(ho:o<no)(hg:g<ng):amount (me b ng l) o g=amount b o g+gets l o g - gives l o g:=by
 have hl:o<b.length:=by rw[h.len];exact ho
 have hr:(b[o]).length=ng:=h.row _ (fo hl);have hg2:g<(b[o]).length:=by rw[hr];exact hg
 have e1:(me b ng l)[o]? =some (((cR ng).zip b[o]).map λy=>y.2+gets l o y.1 - gives l o y.1):=by
  unfold me;rw[bz];have:((cR b.length).zip b)[o]? =some (o,b[o]):=by
   rw[mj];exact⟨by rw[mn hl],bH hl⟩
  rw[this];rfl
 have e2:((cR ng).zip b[o])[g]? =some (g,b[o][g]):=by
  rw[mj];exact⟨by rw[mn hg],bH hg2⟩
 unfold amount;rw[eA (l:=me b ng l),e1,EF,eA,bz,e2];simp[eA,bH hl,bH hg2]
theorem Th{no:Nat}(h:Shape no ng b){l:List bN}(ok:j7 no ng l)(c:nY b ng l=true):dY (me b ng l)=xK (dY b) l:=by
 obtain⟨s,e⟩:=sJ l (sk h) ok;have hn:=(Hg s).1 (by rw[<-Ae h ok];exact c)
 refine SI (sk (Di h l)) s λo g ho hg=>?_;have:=hn o g ho hg;rw[e o g,vq]at this;rw[vq,RM h l ho hg,e o g,vq];omega
open VbwsajNeutral
inductive Flat:List Int->cu->Prop
 |market {t:List Int} (h:tz 600 t=true):Flat (0::(t.length:Int)::t) (.market (nZ t))
 |make {o g n:Int} (h:(gr o&&(gr g&&gr n))=true):Flat [1,o,g,n] (.make o g n)
 |burn {o g n:Int} (h:(gr o&&(gr g&&gr n))=true):Flat [2,o,g,n] (.burn o g n)
 |deal {k:Int} {t:List Int} (h:(gr k&&tz 600 t)=true):Flat (3::k::(t.length:Int)::t) (.deal k (nZ t))
 |agree {d o:Int} (h:(gr d&&gr o)=true):Flat [4,d,o] (.agree d o)
 |withdraw {d o:Int} (h:(gr d&&gr o)=true):Flat [5,d,o] (.withdraw d o)
 |cancel {d:Int} (h:gr d=true):Flat [6,d] (.cancel d)
 |swap {t:List Int} (h:tz 600 t=true):Flat (7::(t.length:Int)::t) (.swap (nZ t))
 |tick {k:Int} (h:gr k=true):Flat [8,k] (.tick k)
 |account {o:Int} (h:gr o=true):Flat [9,o] (.account o)
 |deals:Flat [10] .deals
 |parts {d:Int} (h:gr d=true):Flat [11,d] (.parts d)
 |legs {d:Int} (h:gr d=true):Flat [12,d] (.legs d)
 |waits:Flat [13] .waits
 |books:Flat [14] .books
 |could {d:Int} (h:gr d=true):Flat [15,d] (.could d)
 |read {t:List Int} (h:tz 600 t=true):Flat (16::(t.length:Int)::t) (.read (nZ t))
 |move {a b g n:Int} (h:(gr a&&(gr b&&(gr g&&gr n)))=true):Flat [17,a,b,g,n] (.move a b g n)
 |names:Flat [18] .names
 |lacks {d o:Int} (h:(gr d&&gr o)=true):Flat [19,d,o] (.lacks d o)
theorem len0{α:Type}{l:List α}(h:0=l.length):l=[]:=MH h.symm
theorem jf{α:Type}{l:List α}(h:1=l.length):∃a,l=[a]:=by
 match l,h with
 |[a],_=>exact⟨a,rfl⟩
theorem uw{α:Type}{l:List α}(h:2=l.length):∃a b,l=[a,b]:=by
 match l,h with
 |[a,b],_=>exact⟨a,b,rfl⟩
theorem LK{α:Type}{l:List α}(h:3=l.length):∃a b c,l=[a,b,c]:=by
 match l,h with
 |[a,b,c],_=>exact⟨a,b,c,rfl⟩
theorem DP{α:Type}{l:List α}(h:4=l.length):∃a b c d,l=[a,b,c,d]:=by
 match l,h with
 |[a,b,c,d],_=>exact⟨a,b,c,d,rfl⟩
theorem pairOf{n k m l:Nat}(h:some (n,k)=some (m,l)):n=m/\k=l:=by
 injection h with h
 injection h with h1 h2
 exact⟨h1,h2⟩
theorem WT{p:Int}{x:Nat×Nat}(hs:zx p=some x):p=0\/p=1\/p=2\/p=3\/p=4\/p=5\/p=6\/p=7\/p=8\/p=9\/p=10\/p=11\/p=12\/p=13\/p=14\/p=15\/p=16\/p=17\/p=18\/p=19:=by
 refine Classical.byContradiction λhc=>?_;simp only[i8]at hc;unfold zx at hs;simp[hc]at hs
theorem Xu{c:List (List Int)}(ok:YF zx c)(h:asked1 (tD c)=true):∃d,callOf (tD c)=some d/\Flat (pG c) d:=by
 obtain⟨p,a,xs,e,hs⟩:=ok;subst e;rcases WT hs with e|e|e|e|e|e|e|e|e|e|e|e|e|e|e|e|e|e|e|e
 .subst e;obtain⟨h1,h2⟩:=pairOf (show some (0,1)=some (a.length,xs.length) from hs)
  have:=len0 h1;subst this;obtain⟨t,e⟩:=jf h2;subst e;exact⟨_,rfl,by rw[show pG [[0],t]=0::(t.length:Int)::t from by simp[pG,EL,EM]];exact .market h⟩
 .subst e;obtain⟨h1,h2⟩:=pairOf (show some (3,0)=some (a.length,xs.length) from hs)
  have:=len0 h2;subst this;obtain⟨x,y,z,e⟩:=LK h1;subst e;exact⟨_,rfl,.make h⟩
 .subst e;obtain⟨h1,h2⟩:=pairOf (show some (3,0)=some (a.length,xs.length) from hs)
  have:=len0 h2;subst this;obtain⟨x,y,z,e⟩:=LK h1;subst e;exact⟨_,rfl,.burn h⟩
 .subst e;obtain⟨h1,h2⟩:=pairOf (show some (1,1)=some (a.length,xs.length) from hs)
  obtain⟨k,e⟩:=jf h1;subst e;obtain⟨t,e⟩:=jf h2;subst e;exact⟨_,rfl,by rw[show pG [[3,k],t]=3::k::(t.length:Int)::t from by simp[pG,EL,EM]];exact .deal h⟩
 .subst e;obtain⟨h1,h2⟩:=pairOf (show some (2,0)=some (a.length,xs.length) from hs)
  have:=len0 h2;subst this;obtain⟨x,y,e⟩:=uw h1;subst e;exact⟨_,rfl,.agree h⟩
 .subst e;obtain⟨h1,h2⟩:=pairOf (show some (2,0)=some (a.length,xs.length) from hs)
  have:=len0 h2;subst this;obtain⟨x,y,e⟩:=uw h1;subst e;exact⟨_,rfl,.withdraw h⟩
 .subst e;obtain⟨h1,h2⟩:=pairOf (show some (1,0)=some (a.length,xs.length) from hs)
  have:=len0 h2;subst this;obtain⟨x,e⟩:=jf h1;subst e;exact⟨_,rfl,.cancel h⟩
 .subst e;obtain⟨h1,h2⟩:=pairOf (show some (0,1)=some (a.length,xs.length) from hs)
  have:=len0 h1;subst this;obtain⟨t,e⟩:=jf h2;subst e;exact⟨_,rfl,by rw[show pG [[7],t]=7::(t.length:Int)::t from by simp[pG,EL,EM]];exact .swap h⟩
 .subst e;obtain⟨h1,h2⟩:=pairOf (show some (1,0)=some (a.length,xs.length) from hs)
  have:=len0 h2;subst this;obtain⟨x,e⟩:=jf h1;subst e;exact⟨_,rfl,.tick h⟩
 .subst e;obtain⟨h1,h2⟩:=pairOf (show some (1,0)=some (a.length,xs.length) from hs)
  have:=len0 h2;subst this;obtain⟨x,e⟩:=jf h1;subst e;exact⟨_,rfl,.account h⟩
 .subst e;obtain⟨h1,h2⟩:=pairOf (show some (0,0)=some (a.length,xs.length) from hs)
  have:=len0 h2;subst this;have:=len0 h1;subst this;exact⟨_,rfl,.deals⟩
 .subst e;obtain⟨h1,h2⟩:=pairOf (show some (1,0)=some (a.length,xs.length) from hs)
  have:=len0 h2;subst this;obtain⟨x,e⟩:=jf h1;subst e;exact⟨_,rfl,.parts h⟩
 .subst e;obtain⟨h1,h2⟩:=pairOf (show some (1,0)=some (a.length,xs.length) from hs)
  have:=len0 h2;subst this;obtain⟨x,e⟩:=jf h1;subst e;exact⟨_,rfl,.legs h⟩
 .subst e;obtain⟨h1,h2⟩:=pairOf (show some (0,0)=some (a.length,xs.length) from hs)
  have:=len0 h2;subst this;have:=len0 h1;subst this;exact⟨_,rfl,.waits⟩
 .subst e;obtain⟨h1,h2⟩:=pairOf (show some (0,0)=some (a.length,xs.length) from hs)
  have:=len0 h2;subst this;have:=len0 h1;subst this;exact⟨_,rfl,.books⟩
 .subst e;obtain⟨h1,h2⟩:=pairOf (show some (1,0)=some (a.length,xs.length) from hs)
  have:=len0 h2;subst this;obtain⟨x,e⟩:=jf h1;subst e;exact⟨_,rfl,.could h⟩
 .subst e;obtain⟨h1,h2⟩:=pairOf (show some (0,1)=some (a.length,xs.length) from hs)
  have:=len0 h1;subst this;obtain⟨t,e⟩:=jf h2;subst e;exact⟨_,rfl,by rw[show pG [[16],t]=16::(t.length:Int)::t from by simp[pG,EL,EM]];exact .read h⟩
 .subst e;obtain⟨h1,h2⟩:=pairOf (show some (4,0)=some (a.length,xs.length) from hs)
  have:=len0 h2;subst this;obtain⟨x,y,z,u,e⟩:=DP h1;subst e;exact⟨_,rfl,.move h⟩
 .subst e;obtain⟨h1,h2⟩:=pairOf (show some (0,0)=some (a.length,xs.length) from hs)
  have:=len0 h2;subst this;have:=len0 h1;subst this;exact⟨_,rfl,.names⟩
 .subst e;obtain⟨h1,h2⟩:=pairOf (show some (2,0)=some (a.length,xs.length) from hs)
  have:=len0 h2;subst this;obtain⟨x,y,e⟩:=uw h1;subst e;exact⟨_,rfl,.lacks h⟩
def p7(s:aT):List cu->List Int
 |[]=>[]
 |c::r=>((zy s c).2.length:Int)::((zy s c).2++p7 (zy s c).1 r)
inductive Flats:List Int->List cu->Prop
 |nil:Flats [] []
 |cons {l r:List Int} {c:cu} {cs:List cu} (h:Flat l c) (t:Flats r cs):Flats (l++r) (c::cs)
theorem Kw:∀(cs:List (List (List Int)))(s:aT),(∀c∈cs,YF zx c)->(∀c∈cs,asked1 (tD c)=true)->∃ds,Flats (PyFlat.put cs) ds/\ds.length=cs.length/\ML (MM EN s (cs.map tD))=p7 s ds
 |[],_,_,_=>⟨[],.nil,rfl,rfl⟩
 |c::cs,s,h1,h2=>by
  obtain⟨d,e,F⟩:=Xu (h1 c (by simp)) (h2 c (by simp))
  have st:EN s (tD c)=zy s d:=by unfold EN;rw[e]
  obtain⟨ds,Fs,hl,ht⟩:=Kw cs (zy s d).1 (λx hx=>h1 x (b8 _ hx)) (λx hx=>h2 x (b8 _ hx));refine⟨d::ds,.cons F Fs,by simp[hl],?_⟩
  show ML (MM EN s (tD c::cs.map tD))=_;unfold MM;rw[st];unfold ML at*;rw[gQ,ht];rfl
theorem PU{l:List Int}(h:MN l=true):∃ds,Flats l ds/\1<=ds.length/\ds.length<=300/\MO l=p7 vN ds:=by
 unfold MN YG at h;unfold MO YG;cases e:PyFlat.calls zx l.length l with
 |none=>rw[e]at h;simp at h
 |some cs=>
  rw[e]at h;obtain⟨e1,h1⟩:=PyFlat.put_calls _ _ _ e;simp only[ib]at h;obtain⟨z,h2⟩:=h;unfold aav at h2;simp only[ib,kr,fE,bw,forall_exists_index,and_imp,forall_apply_eq_imp_iff₂,aA]at h2;obtain⟨ds,a,b,c⟩:=Kw cs vN h1 h2.1;exact⟨ds,by rw[e1];exact a,by omega,by omega,c⟩
theorem N1{t:List Int}(h:tz 600 t=true):t.length<=600/\∀z∈t,0<=z/\z<=255:=by
 unfold tz at h;simp only[ib,kr,fE]at h;refine⟨h.1,λz hz=>?_⟩;have:=h.2 z hz;unfold aaw at this;simp only[ib,kr]at this;omega
end Rm
namespace PySem
variable {E Q:af->aC->Prop}
theorem Hz{prog:bA}{w:bB}{A:d9}{s:aC}{id:String}{b:Builtin}{args:List af}{kw:List (ae×af)}(hk:builtinKind id=none)(hp:plainId id=true)(hb:entryFor table id=some b)(ha:n0 id ⟨args,kw⟩)(hc:aJ (ba prog w) A.in1 (b ⟨args,kw⟩) (λfin s'=>match fin with
 | .done fl=>(match(Except.ok fl:vO)with| .ok (.ret v)=>Q v s'| .ok _=>False| .error e=>E e s')
 | .again c=>c.quiet=true/\mo (ba prog w) A c (λr s'=>match r with| .ok (.ret v)=>Q v s'| .ok _=>False| .error e=>E e s') s') E s):
 aJ (ba prog w) A (fO (.builtin id) args kw) Q E s:=by
 refine EO (MP hp hb ?_);simp only[MQ,hk];cases sg:Manifest.signature? id with
 |none=>exact br hc
 |some sig=>
  have ok:Bind.checkArgs id sig ⟨args,kw⟩=pure ():=by simpa only[n0,sg]using ha
  simp only[ok];exact br hc
theorem F.TF(a:af):n0 "max" ⟨[a],[("default",.none)]⟩:=by unfold n0;kernel_rfl
section
variable{prog:bA}{w:bB}{A:d9}{R:vO->aC->Prop}{it:aa}{own chg:List aa}{num:Nat}{Pi:Nat->af->Prop}{At:Nat->a9->Prop}
theorem SK(Wk:zA prog w A.in1 it own chg num Pi At)(bt:Nat->Nat->Bool)(cmp:CmpOf prog w A.in1 .Gt Pi bt)(box:aa)(nbox:box∉own):∀(left j:Nat)(s:aC)(best:af)(cap:Nat),num - (j+1)=left->j+1<=num->At (j+1) s.heap->Pi (js bt j) best->s.heap.get? box=some {cls:=.type "list",dict:=none,data:=.seq #[best,best] cap,slots:=#[]}->(∀v h' tk,Pi (js bt (num - 1)) v->(∀b o,b∉chg->b≠box->s.heap.get? b=some o->h'.get? b=some o)->R (.ok (.ret v)) {s with heap:=h',toks:=tk})->mo (ba prog w) A (.builtin "max.loop" ⟨[.ref it,.none,.ref box],[("default",.none)]⟩) R s:=by
 have nchg:box∉chg:=λz=>nbox (Wk.sub _ z);have nm:(toString "max"++toString ".loop":String)="max.loop":=by decide
 intro left;induction left with
 |zero=>
  intro j s best cap hl hj ha hb hB fin;have ej:j+1=num:=by omega
  refine tE F.entry_max_loop ?_;rw[vP F.plain_max_loop _];show aJ _ A.in1 (vQ (.ref box)>>= _) _ _ s;refine az (vR hB rfl ?_);show aJ _ A.in1 (tryCatch (iS (.ref it)) _>>= _) _ _ s;refine az (n4 (Wk.done s _ _ (ej▸ha) λh' tk kp=>?_));have hB':=kp box _ nchg hB;show aJ _ A.in1 (ER box (λy=>#[])>>= _) _ _ _;refine az (vS hB' rfl (az (n6 (br ?_))));exact fin best _ tk (by rw[<-ej];exact hb) λb o n1 n2 e=>(mq _ _ (eW n2)).trans (kp b o n1 e)
 |succ left ih=>
  intro j s best cap hl hj ha hb hB fin;have lt:j+1<num:=by omega
  refine tE F.entry_max_loop ?_;rw[vP F.plain_max_loop _];show aJ _ A.in1 (vQ (.ref box)>>= _) _ _ s;refine az (vR hB rfl ?_);show aJ _ A.in1 (tryCatch (iS (.ref it)) _>>= _) _ _ s;refine az (n4 (Wk.item (j+1) s _ _ lt ha λv h' tk hv ha' kp=>?_));have hB':=kp box _ nchg hB;show aJ _ A.in1 (tryCatch (qJ [v,v] (richCompare .Gt v best>>= _)) _>>= _) _ _ _;refine az (n4 (wpAny_holding (az (cmp (j+1) (js bt j) v best _ _ _ hv hb ?_))));refine az (wpAny_holding (n8 (az (n6 (br ?_)))));cases q:bt (j+1) (js bt j)with
  |true=>
   simp only[iF];refine az (vS hB' rfl (az (n6 ?_)));rw[nm];refine br ⟨qK F.plain_max_loop _,ih (j+1) _ v _ (by omega) lt (Wk.frame _ _ _ ha' λb hbf o e=>?_) (by simp only[js,q,iF];exact hv) (tG _ hB' rfl) λv' h'' tk'' hv' kp'=>?_⟩
   .exact(mq _ _ (λz:box=b=>nbox (by rw[z];exact hbf))).trans e
   .exact fin v' h'' tk'' hv' λb o n1 n2 e=>kp' b o n1 n2 ((mq _ _ (eW n2)).trans (kp b o n1 e))
  |false=>
   simp only[ko,ic];refine az (n6 ?_);rw[nm];refine br ⟨qK F.plain_max_loop _,ih (j+1) _ best cap (by omega) lt ha' (by simp only[js,q,ko,ic];exact hb) hB' λv' h'' tk'' hv' kp'=>?_⟩
   exact fin v' h'' tk'' hv' λb o n1 n2 e=>kp' b o n1 n2 (kp b o n1 e)
theorem WY(Wk:zA prog w A.in1 it own chg num Pi At)(bt:Nat->Nat->Bool)(cmp:CmpOf prog w A.in1 .Gt Pi bt)(box:aa)(nbox:box∉own){s:aC}{cap:Nat}(ha:At 0 s.heap)(hB:s.heap.get? box=some {cls:=.type "list",dict:=none,data:=.seq #[] cap,slots:=#[]})(fin0:num=0->∀h' tk,(∀b o,b∉chg->b≠box->s.heap.get? b=some o->h'.get? b=some o)->R (.ok (.ret .none)) {s with heap:=h',toks:=tk})(fin:0<num->∀v h' tk,Pi (js bt (num - 1)) v->(∀b o,b∉chg->b≠box->s.heap.get? b=some o->h'.get? b=some o)->R (.ok (.ret v)) {s with heap:=h',toks:=tk}):mo (ba prog w) A (.builtin "max.loop" ⟨[.ref it,.none,.ref box],[("default",.none)]⟩) R s:=by
 have nchg:box∉chg:=λz=>nbox (Wk.sub _ z);have nm:(toString "max"++toString ".loop":String)="max.loop":=by decide
 refine tE F.entry_max_loop ?_;rw[vP F.plain_max_loop _];show aJ _ A.in1 (vQ (.ref box)>>= _) _ _ s;refine az (vR hB rfl ?_);show aJ _ A.in1 (tryCatch (iS (.ref it)) _>>= _) _ _ s;by_cases hn:0<num
 .refine az (n4 (Wk.item 0 s _ _ hn ha λv h' tk hv ha' kp=>?_))
  have hB':=kp box _ nchg hB;show aJ _ A.in1 (ER box (λy=>#[v,v])>>= _) _ _ _;refine az (vS hB' rfl ?_);rw[nm];refine br ⟨qK F.plain_max_loop _,SK Wk bt cmp box nbox _ 0 _ v _ rfl hn (Wk.frame _ _ _ ha' λb hbf o e=>?_) hv (tG _ hB' rfl) λv' h'' tk'' hv' kp'=>?_⟩
  .exact(mq _ _ (λz:box=b=>nbox (by rw[z];exact hbf))).trans e
  .exact fin hn v' h'' tk'' hv' λb o n1 n2 e=>kp' b o n1 n2 ((mq _ _ (eW n2)).trans (kp b o n1 e))
 .have e0:num=0:=by omega
  refine az (n4 (Wk.done s _ _ (e0▸ha) λh' tk kp=>?_));refine az (wpAny_rule (br ?_));exact fin0 e0 h' tk λb o n1 n2 e=>kp b o n1 e
end
section
variable{prog:bA}{w:bB}{A:d9}{s:aC}{l:aa}{xs:Array (Int×jR)}
theorem R5(hh:A.handled=none)(hl:s.heap.IsList l (ja xs))(h0:xs.size=0->∀h' tk,(∀b o,s.heap.get? b=some o->h'.get? b=some o)->Q .none {s with heap:=h',toks:=tk})(h:0<xs.size->∀v h' tk,(ja xs)[js (λi j=>decide (n9 xs i>n9 xs j)) (xs.size - 1)]? =some v->(∀b o,s.heap.get? b=some o->h'.get? b=some o)->Q v {s with heap:=h',toks:=tk}):aJ (ba prog w) A (fO (.builtin "max") [.ref l] [("default",.none)]) Q E s:=by
 have nm:(toString "max"++toString ".loop":String)="max.loop":=by decide
 refine Hz F.kind_max F.plain_max F.entry_max (F.TF _) ?_;show aJ _ A.in1 (ES "max" ["key","default"] 0 ⟨[],[("default",.none)]⟩>>= _) _ _ s;refine az (zB (show ES "max" ["key","default"] 0 ⟨[],[("default",.none)]⟩=pure [none,some .none] from by kernel_rfl) ?_)
 refine az (br (az ?_));refine YH hl λs₂ e st hfp ne=>?_;subst e;refine az (oe ?_);rw[nm];refine br ⟨qK F.plain_max_loop _,WY (ET (A:=A.in1) hh _ l ne (ja xs)) _ (CmpOf.ints_gt (n9 xs) (λy y=>vT)) _ (λz=>kx _ (hfp _ z)) ⟨st.1.at λo q=>dB _ q,st.2.push _⟩ (dW _ rfl) (λhz h' tk kp=>?_) λhn v h' tk hv kp=>?_⟩
 .exact h0 (by simpa[ja]using hz) h' tk (EU λb o nb e=>kp b o nb (dM (cO e)) (dB _ e))
 .exact h (by simpa[ja]using hn) v h' tk (by simpa[ja]using hv) (EU λb o nb e=>kp b o nb (dM (cO e)) (dB _ e))
end
theorem F.QT(a:af):n0 "min" ⟨[a],[("default",.none)]⟩:=by unfold n0;kernel_rfl
section
variable{prog:bA}{w:bB}{A:d9}{R:vO->aC->Prop}{it:aa}{own chg:List aa}{num:Nat}{Pi:Nat->af->Prop}{At:Nat->a9->Prop}
theorem Va(Wk:zA prog w A.in1 it own chg num Pi At)(bt:Nat->Nat->Bool)(cmp:CmpOf prog w A.in1 .Lt Pi bt)(box:aa)(nbox:box∉own):∀(left j:Nat)(s:aC)(best:af)(cap:Nat),num - (j+1)=left->j+1<=num->At (j+1) s.heap->Pi (js bt j) best->s.heap.get? box=some {cls:=.type "list",dict:=none,data:=.seq #[best,best] cap,slots:=#[]}->(∀v h' tk,Pi (js bt (num - 1)) v->(∀b o,b∉chg->b≠box->s.heap.get? b=some o->h'.get? b=some o)->R (.ok (.ret v)) {s with heap:=h',toks:=tk})->mo (ba prog w) A (.builtin "min.loop" ⟨[.ref it,.none,.ref box],[("default",.none)]⟩) R s:=by
 have nchg:box∉chg:=λz=>nbox (Wk.sub _ z);have nm:(toString "min"++toString ".loop":String)="min.loop":=by decide
 intro left;induction left with
 |zero=>
  intro j s best cap hl hj ha hb hB fin;have ej:j+1=num:=by omega
  refine tE F.entry_min_loop ?_;rw[vP F.plain_min_loop _];show aJ _ A.in1 (vQ (.ref box)>>= _) _ _ s;refine az (vR hB rfl ?_);show aJ _ A.in1 (tryCatch (iS (.ref it)) _>>= _) _ _ s;refine az (n4 (Wk.done s _ _ (ej▸ha) λh' tk kp=>?_));have hB':=kp box _ nchg hB;show aJ _ A.in1 (ER box (λy=>#[])>>= _) _ _ _;refine az (vS hB' rfl (az (n6 (br ?_))));exact fin best _ tk (by rw[<-ej];exact hb) λb o n1 n2 e=>(mq _ _ (eW n2)).trans (kp b o n1 e)
 |succ left ih=>
  intro j s best cap hl hj ha hb hB fin;have lt:j+1<num:=by omega
  refine tE F.entry_min_loop ?_;rw[vP F.plain_min_loop _];show aJ _ A.in1 (vQ (.ref box)>>= _) _ _ s;refine az (vR hB rfl ?_);show aJ _ A.in1 (tryCatch (iS (.ref it)) _>>= _) _ _ s;refine az (n4 (Wk.item (j+1) s _ _ lt ha λv h' tk hv ha' kp=>?_));have hB':=kp box _ nchg hB;show aJ _ A.in1 (tryCatch (qJ [v,v] (richCompare .Lt v best>>= _)) _>>= _) _ _ _;refine az (n4 (wpAny_holding (az (cmp (j+1) (js bt j) v best _ _ _ hv hb ?_))));refine az (wpAny_holding (n8 (az (n6 (br ?_)))));cases q:bt (j+1) (js bt j)with
  |true=>
   simp only[iF];refine az (vS hB' rfl (az (n6 ?_)));rw[nm];refine br ⟨qK F.plain_min_loop _,ih (j+1) _ v _ (by omega) lt (Wk.frame _ _ _ ha' λb hbf o e=>?_) (by simp only[js,q,iF];exact hv) (tG _ hB' rfl) λv' h'' tk'' hv' kp'=>?_⟩
   .exact(mq _ _ (λz:box=b=>nbox (by rw[z];exact hbf))).trans e
   .exact fin v' h'' tk'' hv' λb o n1 n2 e=>kp' b o n1 n2 ((mq _ _ (eW n2)).trans (kp b o n1 e))
  |false=>
   simp only[ko,ic];refine az (n6 ?_);rw[nm];refine br ⟨qK F.plain_min_loop _,ih (j+1) _ best cap (by omega) lt ha' (by simp only[js,q,ko,ic];exact hb) hB' λv' h'' tk'' hv' kp'=>?_⟩
   exact fin v' h'' tk'' hv' λb o n1 n2 e=>kp' b o n1 n2 (kp b o n1 e)
theorem Wi(Wk:zA prog w A.in1 it own chg num Pi At)(bt:Nat->Nat->Bool)(cmp:CmpOf prog w A.in1 .Lt Pi bt)(box:aa)(nbox:box∉own){s:aC}{cap:Nat}(ha:At 0 s.heap)(hB:s.heap.get? box=some {cls:=.type "list",dict:=none,data:=.seq #[] cap,slots:=#[]})(fin0:num=0->∀h' tk,(∀b o,b∉chg->b≠box->s.heap.get? b=some o->h'.get? b=some o)->R (.ok (.ret .none)) {s with heap:=h',toks:=tk})(fin:0<num->∀v h' tk,Pi (js bt (num - 1)) v->(∀b o,b∉chg->b≠box->s.heap.get? b=some o->h'.get? b=some o)->R (.ok (.ret v)) {s with heap:=h',toks:=tk}):mo (ba prog w) A (.builtin "min.loop" ⟨[.ref it,.none,.ref box],[("default",.none)]⟩) R s:=by
 have nchg:box∉chg:=λz=>nbox (Wk.sub _ z);have nm:(toString "min"++toString ".loop":String)="min.loop":=by decide
 refine tE F.entry_min_loop ?_;rw[vP F.plain_min_loop _];show aJ _ A.in1 (vQ (.ref box)>>= _) _ _ s;refine az (vR hB rfl ?_);show aJ _ A.in1 (tryCatch (iS (.ref it)) _>>= _) _ _ s;by_cases hn:0<num
 .refine az (n4 (Wk.item 0 s _ _ hn ha λv h' tk hv ha' kp=>?_))
  have hB':=kp box _ nchg hB;show aJ _ A.in1 (ER box (λy=>#[v,v])>>= _) _ _ _;refine az (vS hB' rfl ?_);rw[nm];refine br ⟨qK F.plain_min_loop _,Va Wk bt cmp box nbox _ 0 _ v _ rfl hn (Wk.frame _ _ _ ha' λb hbf o e=>?_) hv (tG _ hB' rfl) λv' h'' tk'' hv' kp'=>?_⟩
  .exact(mq _ _ (λz:box=b=>nbox (by rw[z];exact hbf))).trans e
  .exact fin hn v' h'' tk'' hv' λb o n1 n2 e=>kp' b o n1 n2 ((mq _ _ (eW n2)).trans (kp b o n1 e))
 .have e0:num=0:=by omega
  refine az (n4 (Wk.done s _ _ (e0▸ha) λh' tk kp=>?_));refine az (wpAny_rule (br ?_));exact fin0 e0 h' tk λb o n1 n2 e=>kp b o n1 e
end
section
variable{prog:bA}{w:bB}{A:d9}{s:aC}{l:aa}{xs:Array (Int×jR)}
theorem Oq(hh:A.handled=none)(hl:s.heap.IsList l (ja xs))(h0:xs.size=0->∀h' tk,(∀b o,s.heap.get? b=some o->h'.get? b=some o)->Q .none {s with heap:=h',toks:=tk})(h:0<xs.size->∀v h' tk,(ja xs)[js (λi j=>decide (n9 xs i<n9 xs j)) (xs.size - 1)]? =some v->(∀b o,s.heap.get? b=some o->h'.get? b=some o)->Q v {s with heap:=h',toks:=tk}):aJ (ba prog w) A (fO (.builtin "min") [.ref l] [("default",.none)]) Q E s:=by
 have nm:(toString "min"++toString ".loop":String)="min.loop":=by decide
 refine Hz F.kind_min F.plain_min F.entry_min (F.QT _) ?_;show aJ _ A.in1 (ES "min" ["key","default"] 0 ⟨[],[("default",.none)]⟩>>= _) _ _ s;refine az (zB (show ES "min" ["key","default"] 0 ⟨[],[("default",.none)]⟩=pure [none,some .none] from by kernel_rfl) ?_)
 refine az (br (az ?_));refine YH hl λs₂ e st hfp ne=>?_;subst e;refine az (oe ?_);rw[nm];refine br ⟨qK F.plain_min_loop _,Wi (ET (A:=A.in1) hh _ l ne (ja xs)) _ (CmpOf.ints_lt (n9 xs) (λy y=>vT)) _ (λz=>kx _ (hfp _ z)) ⟨st.1.at λo q=>dB _ q,st.2.push _⟩ (dW _ rfl) (λhz h' tk kp=>?_) λhn v h' tk hv kp=>?_⟩
 .exact h0 (by simpa[ja]using hz) h' tk (EU λb o nb e=>kp b o nb (dM (cO e)) (dB _ e))
 .exact h (by simpa[ja]using hn) v h' tk (by simpa[ja]using hv) (EU λb o nb e=>kp b o nb (dM (cO e)) (dB _ e))
end
namespace F
theorem Xz(a b:af):YI "enumerate" ⟨[a],[("start",b)]⟩=pure ():=by kernel_rfl
theorem W9(a b:af):MQ "enumerate.__new__" ⟨[.type "enumerate",a],[("start",b)]⟩=pure ():=by kernel_rfl
theorem VU(o a b:af):n0 "object.__init__" ⟨[o,a],[("start",b)]⟩:=by unfold n0;kernel_rfl
end F
theorem Ph(l:aa)(items:Array af)(n:Nat)(dct:Option aa)(sl:Array (Option af))(t:jR):Meets (Builtin.«enumerate.__new__» ⟨[.type "enumerate",.ref l],[("start",.int 1 t)]⟩) (λ_ R s=>s.heap.get? l=some {cls:=.type "list",dict:=dct,data:=.seq items n,slots:=sl}/\R (.ok (.ret (.ref (s.heap.push {cls:=.type "list_iterator",data:=.fields #[.ref l,.int 0 0]}).objs.size))) {s with heap:=(s.heap.push {cls:=.type "list_iterator",data:=.fields #[.ref l,.int 0 0]}).push {cls:=.type "enumerate",data:=.fields #[.none,.bool false,.ref s.heap.objs.size,ny 1,.none,.none]}}):=.of_wp λprog w A R s hyp=>by
 obtain⟨hp,g,d,tk,os⟩:=s;obtain⟨hl,fin⟩:=hyp;have hsub:=sub_enumerate;have hL:Heap.IsList (Shared.heap ⟨hp,g,d,tk,os⟩) l items:=⟨_,hl,rfl,n,rfl⟩
 wp_walk using EV hl
 refine wpAny_stack_any λst=>br ?_;split
 .rename_i c _ _ _ _ _
  cases(c==oh "enumerate")
  .wp_walk using EV hl,zC hL
   exact⟨_,rfl,fin⟩
  .wp_walk using EV hl,zC hL
   exact⟨_,rfl,fin⟩
 .wp_walk using EV hl,zC hL
  exact⟨_,rfl,fin⟩
section
variable{prog:bA}{w:bB}{A:d9}{s:aC}
theorem Rt{T newId:String}{Bn:Builtin}{args:List af}{kw:List (ae×af)}{S:Spec}(ft:TypeCalled T newId "object.__init__")(nob:(some newId !=some "object.__new__")=true)(c1:YI T ⟨args,kw⟩=pure ())(c2:MQ newId ⟨.type T::args,kw⟩=pure ())(c3:∀obj,n0 "object.__init__" ⟨obj::args,kw⟩)(en:entryFor table newId=some Bn)(g:Meets (Bn ⟨.type T::args,kw⟩) S)(gi:∀obj:af,Meets (Builtin.«object.__init__» ⟨obj::args,kw⟩) (λz R s=>s.TypeIs obj T/\R (.ok (.ret .none)) s))(h:S A.in1 (wants (λobj s₁=>s₁.TypeIs obj T/\Q obj s₁) E) s):aJ (ba prog w) A (fO (.type T) args kw) Q E s:=by
 obtain⟨c,tl,hmro⟩:=ft.mro;have hmade:=ft.made;have hsub:=ft.sub;refine EO (codeAny_of_tree ?_);show aJ _ _ (callAny (.type T) _) _ _ _;refine br ⟨Code.quiet_builtin _ (by decide+kernel),tE F.entry_type_call ?_⟩
 rw[Around.under_plain (weight_type_call_type T args kw) (units_type_call_type T args kw)];have h1:=ft.notType;have h2:=ft.canCreate
 repeat (any_goals (first|assumption|wp_step))
 refine vU (MP ft.plain en (zB c2 (g prog w A.in1 _ s h))) λr s₁ hr=>?_;cases r with
 |error e=>exact hr
 |ok fl=>
  cases fl with
  |ret obj=>
   obtain⟨hT,hq⟩:=hr;have hli:=ft.init.lookup;have hbi:=ft.init.bind obj
   repeat (any_goals (first|assumption|wp_step))
   refine vU (MP ft.init.plain F.entry_object_init (ft.init.check _ _ _ _ _ _ _ _ hT (c3 obj) (gi obj prog w A.in1 (wants (λr s₂=>r=.none/\Q obj s₂) E) s₁ ⟨hT,rfl,hq⟩))) λr₂ s₂ hr₂=>?_;cases r₂ with
   |error e=>exact hr₂
   |ok fl₂=>
    cases fl₂ with
    |ret r=>
     obtain⟨rfl,hq⟩:=hr₂
     repeat (any_goals (first|assumption|wp_step))
    |_=>exact hr₂.elim
  |_=>exact hr.elim
theorem W6{T newId:String}{self a:af}{kw:List (ae×af)}(hl:MR (.type T) "__init__"=pure (some (.builtin "object.__init__")))(hm:Bind.madeBy (.type T)=pure (some newId))(nob:(some newId !=some "object.__new__")=true):Meets (Builtin.«object.__init__» ⟨[self,a],kw⟩) (λz R s=>s.TypeIs self T/\R (.ok (.ret .none)) s):=by
 refine Meets.of_wp λprog w A R s hs=>?_;obtain⟨hT,hq⟩:=hs
 repeat (any_goals (first|assumption|wp_step))
 exact⟨_,rfl,hq⟩
theorem VZ{l:aa}{items:Array af}{t:jR}(hL:s.heap.IsList l items)(h:∀h',IsEnum h' (s.heap.objs.size+1) s.heap.objs.size 1 .none->h'.IsListIter s.heap.objs.size l 0->(∀b o,s.heap.get? b=some o->h'.get? b=some o)->Q (.ref (s.heap.objs.size+1)) {s with heap:=h'}):aJ (ba prog w) A (fO (.type "enumerate") [.ref l] [("start",.int 1 t)]) Q E s:=by
 obtain⟨⟨c,dct,dt,sl⟩,hl,hc,n,hd⟩:=hL;replace hc:c=.type "list":=hc;replace hd:dt=.seq items n:=hd;subst hc hd;refine Rt F.called_enumerate (by decide) (F.Xz _ _) (F.W9 _ _) (λobj=>F.VU obj _ _) F.entry_enumerate_new
  (Ph l items n dct sl t) (λobj=>W6 F.called_enumerate.init.lookup F.called_enumerate.made (by decide)) ⟨hl,?_⟩
 generalize hh:s.heap.push {cls:=.type "list_iterator",data:=.fields #[.ref l,.int 0 0]}=h1;have hz:h1.objs.size=s.heap.objs.size+1:=by rw[<-hh];exact lA ..
 have e1:=dW h1 (o:={cls:=.type "enumerate",data:=.fields #[.none,.bool false,.ref s.heap.objs.size,ny 1,.none,.none]}) rfl;have i1:h1.get? s.heap.objs.size=some {cls:=.type "list_iterator",data:=.fields #[.ref l,.int 0 0]}:=by rw[<-hh];exact dW _ rfl
 rw[hz]at e1;show _/\_;rw[hz];exact⟨⟨_,e1,rfl⟩,h _ e1 ⟨_,dB _ i1,rfl,rfl⟩ λb o x=>dB _ (by rw[<-hh];exact dB _ x)⟩
theorem Xr{M:tH}{env:ei}{pos:cI}{T:String}{e:bE}{kws:List zD}(h:aJ M A (MS [(false,bP e env)]) (λvs s₁=>aJ M A (evalAll ((lB pos (lC kws env)).map (·.2))) (λkvs s₂=>aJ M A (fO (.type T) vs (((lB pos (lC kws env)).filterMap (·.1)).zip kvs)) Q E s₂) E s₁) E s)(hall:(lB pos (lC kws env)).all (·.1.isSome)=true:=by rfl)(hkw:(lB pos (lC kws env)).any (·.1.isNone)=false:=by rfl):aJ M A (nz pos (.type T) [] [(false,bP e env)] (lB pos (lC kws env))) Q E s:=by
 unfold nz;refine az (wpAny_holding (jb (aax (Q:=λa s₁=>aJ M A (fO (.type T) ([]++a.pos) a.kw) Q E s₁) hall h) (λa s₁ h₁=>az (MT ?_)) λz z x=>x));simp only[hkw,YJ];refine az (br ?_);exact az (jb h₁ (λr s₂ hr=>az (wpAny_holding (wpAny_point (br hr)))) λz z x=>x)
end
end PySem
namespace L2
open PySem PySem.Spec PyProof.Rows
variable {xs:List V}{us its:List af}{H H':Hp}{a b C d:aa}{o:bc}{u:af}{P prog:bA}{w:bB}{h base:a9}{x qual:ae}{e tg:bE}{X:Cx}{pins:List (aa×bc)}{s:aC}{t' n:Nat}{A:d9}{E Q:af->aC->Prop}{pos tpos:cI}{K:aU}{te:TE}{es elts:List bE}{mg:ae->Option af}{CX:e8}{fd:fP}{ps:List ae}{scope:eV}{kvs:List (List Key×V)}{L:List (aa×HO)}
abbrev Key:=Sum Int ae
def mJ:Key->af->Bool
 | .inl k,v=>YK k v
 | .inr x,v=>YL x v
def Tg(w:bB):Key->Int
 | .inl k=>hashInt k
 | .inr x=>hashStr w x
theorem lJ:∀{k:Key}{v:af},mJ k v=true->(∃i t,k=bG i/\v=tI i t)\/(∃x t,k=tJ x/\v=zE x t)
 | .inl i,v,h=>by
  obtain⟨t,e⟩:=Value.isInt_shape (k:=i) (v:=v) h;exact .inl ⟨i,t,rfl,e⟩
 | .inr x,v,h=>by
  obtain⟨t,e⟩:=Value.isStrOf_shape (x:=x) (v:=v) h;exact .inr ⟨x,t,rfl,e⟩
theorem RS(i:Int)(t:jR):mJ (.inl i) (.int i t)=true:=by simp[mJ,YK]
theorem QI(x:ae)(t:jR):mJ (.inr x) (.str x t)=true:=by simp[mJ,YL]
theorem X7(a b:Int):decide ((bG a:Key)=bG b)=(a==b):=by
 by_cases e:a=b
 .subst e;simp
 .have h:¬(bG a:Key)=bG b:=λq=>e (lD q)
  rw[cU h];exact(vV.mpr e).symm
theorem Ts(a b:ae):decide ((tJ a:Key)=tJ b)=decide (a=b):=by
 by_cases e:a=b
 .subst e;simp
 .have h:¬(tJ a:Key)=tJ b:=λq=>e (Sum.inr.inj q)
  rw[cU h,cU e]
theorem Pl(a:Int)(b:ae):decide ((bG a:Key)=tJ b)=false:=cU (λq=>nomatch q)
theorem Xk(a:ae)(b:Int):decide ((tJ a:Key)=bG b)=false:=cU (λq=>nomatch q)
def fX(prog:bA)(w:bB):PySem.KeyKind prog w Key where
 is:=mJ
 hash:=Tg w
 inj:=λv a b ha hb=>by
  rcases lJ ha with⟨i,t,rfl,rfl⟩|⟨x,t,rfl,rfl⟩
  .rcases lJ hb with⟨j,u,rfl,e⟩|⟨y,u,rfl,e⟩
   .injection e with e1 _;rw[e1]
   .exact nomatch e
  .rcases lJ hb with⟨j,u,rfl,e⟩|⟨y,u,rfl,e⟩
   .exact nomatch e
   .injection e with e1 _;rw[e1]
 byValue:=λk v h=>by rcases lJ h with⟨i,t,rfl,rfl⟩|⟨x,t,rfl,rfl⟩<;>rfl
 pyHash:=λhv h=>by
  rcases lJ hv with⟨i,t,rfl,rfl⟩|⟨x,t,rfl,rfl⟩
  .exact wpAny_pyHash_int h
  .exact wpAny_pyHash_str h
 eqBool:=λhu hv h=>by
  rcases lJ hu with⟨i,t,rfl,rfl⟩|⟨x,t,rfl,rfl⟩
  .rcases lJ hv with⟨j,u,rfl,rfl⟩|⟨y,u,rfl,rfl⟩
   .rw[X7]at h;exact wpAny_eqBool_int h
   .rw[Pl]at h;exact YM i t y u _ _ _ _ h
  .rcases lJ hv with⟨j,u,rfl,rfl⟩|⟨y,u,rfl,rfl⟩
   .rw[Xk]at h;exact YN x t j u _ _ _ _ h
   .rw[Ts]at h;exact wpAny_eqBool_str h
 «strs»:=λk x t v h=>by
  rcases lJ h with⟨i,u,rfl,e⟩|⟨y,u,rfl,e⟩
  .exact nomatch e
  .injection e with e1 _
   subst e1;cases v<;>rfl
theorem WA(prog:bA)(w:bB)(i:Int)(t:jR):(fX prog w).is (.inl i) (.int i t)=true:=RS i t
theorem Ti(prog:bA)(w:bB)(x:ae)(t:jR):(fX prog w).is (.inr x) (.str x t)=true:=QI x t
inductive V where
 |bI|bl (b:Bool)|int (i:Int)|str (x:ae)|iI (b:Array UInt8)|u5 (b:UInt64)|ref (a:aa)|ty (n:String)
 deriving DecidableEq
def RelV:V->af->Prop
 | .bI,u=>u=kz
 | .bl b,u=>u=qL b
 | .int i,u=>∃t,u=tI i t
 | .str x,u=>∃t,u=zE x t
 | .iI b,u=>∃t,u=YO b t
 | .u5 b,u=>∃t,u=YQ b t
 | .ref a,u=>u=cV a
 | .ty n,u=>u=oh n
abbrev bD:List V->List af->Prop:=Paired RelV
theorem bD.length(r:bD xs us):xs.length=us.length:=Paired.length r
theorem bD.get:∀{xs:List V}{us:List af}{i:Nat}{x:V},bD xs us->xs[i]? =some x->∃u,us[i]? =some u/\RelV x u
 |_,_,_,_,.nil,e=>by simp at e
 |_,_,0,_,.cons r _,e=>by simp at e;subst e;exact⟨_,rfl,r⟩
 |_,_,i+1,x,.cons _ t,e=>by
  obtain⟨u,h1,h2⟩:=bD.get (i:=i) (x:=x) t (by simpa using e)
  exact⟨u,by simpa using h1,h2⟩
theorem bD.set{x:V}{u:af}(r:RelV x u):∀{xs:List V}{us:List af}(i:Nat),bD xs us->bD (xs.set i x) (us.set i u)
 |_,_,_,.nil=>.nil
 |_,_,0,.cons _ t=>.cons r t
 |_,_,i+1,.cons q t=>.cons q (bD.set r i t)
theorem bD.append:∀{xs ys:List V}{us ws:List af},bD xs us->bD ys ws->bD (xs++ys) (us++ws)
 |_,_,_,_,.nil,s=>s
 |_,_,_,_,.cons r t,s=>.cons r (bD.append t s)
theorem bD.take:∀{xs:List V}{us:List af}(n:Nat),bD xs us->bD (xs.take n) (us.take n)
 |_,_,0,_=>.nil
 |_,_,_+1,.nil=>.nil
 |_,_,n+1,.cons r t=>.cons r (bD.take n t)
theorem bD.drop:∀{xs:List V}{us:List af}(n:Nat),bD xs us->bD (xs.drop n) (us.drop n)
 |_,_,0,r=>r
 |_,_,_+1,.nil=>.nil
 |_,_,n+1,.cons _ t=>bD.drop n t
def gG:Option V->Option af->Prop
 |some v,some u=>RelV v u
 |none,none=>True
 |_,_=>False
def KV{κ:Type}:List (κ×V)->List (κ×af)->Prop:=Paired λ(p:κ×V) (q:κ×af)=>p.1=q.1/\RelV p.2 q.2
def kV:Key->V
 | .inl i=>.int i
 | .inr x=>.str x
inductive HO where
 |lst (xs:List V)
 |tup (xs:List V)
 |dK (kvs:List (Key×V))|dT (kvs:List (List Key×V))
 |set (S:Int->Bool) (n:Nat)
 |ins (C dx:aa) (fs:List (ae×V))
 |own (x:aa)
 |xd (fs:List (ae×V))
 |met (f x:aa)
 |yA (lo hi:Int)
 |bu (o:bc) (u:HO)
 |oB (ps:Array af)
 |ext (φ:a9->Prop)
abbrev Hp:=aa->Option HO
def upd(H:Hp)(a:aa)(o:HO):Hp:=λb=>if b=a then some o else H b
theorem aR{o:HO}:upd H a o a=some o:=by unfold upd;rw[ay rfl]
theorem aI{o:HO}(h:b≠a):upd H a o b=H b:=by unfold upd;rw[aq h]
theorem gL{o u:HO}(h:H a=some o)(h':H b=some u)(d:o≠u):a≠b:=by intro e;subst e;rw[h]at h';exact d (dQ h')
theorem cQ{o:HO}(h:H a=some o)(h':H b=none):a≠b:=by intro e;subst e;rw[h]at h';cases h'
section
variable(P:bA)(w:bB)
def dF(H:Hp)(h:a9)(a:aa):HO->Prop
 | .lst xs=>xs.length<=sizeLine/\∃(its:List af)(n:Nat),bD xs its/\h.get? a=some {cls:=.type "list",data:=.seq its.toArray n}
 | .tup xs=>xs.length<=sizeLine/\∃its:List af,bD xs its/\IsTup h a its.toArray
 | .dK kvs=>kvs.length<=sizeLine/\(a==jS)=false/\∃vs,KV kvs vs/\h.DictOf (fX P w) a vs
 | .dT kvs=>kvs.length<=sizeLine/\(a==jS)=false/\∃xs:List (List Key×aa×af),
  Paired (λ(p:List Key×V) (q:List Key×aa×af)=>p.1=q.1/\H q.2.1=some (.tup (p.1.map kV))/\RelV p.2 q.2.2) kvs xs/\
  ∃o es ep,h.get? a=some o/\o.ExactDict/\o.data=.dict es ep/\es.toList=xs.map (entryOfKey (tK (fX P w)))/\(xs.map (·.1)).Nodup
 | .set S n=>h.SetOf (intKind P w) a S n
 | .ins C dx fs=>H dx=some (.own a)/\fs.length<=1000/\dx≠a/\h.get? a=some (qM C dx)/\
  ∃mA,h.Ns1 dx mA/\(∀f,gG (fs.lookup f) (mA f))/\MU mA (fs.map (·.1))
 | .own _=>∃o,h.get? a=some o
 | .xd fs=>∃mA,h.Ns1 a mA/\∀f,gG (fs.lookup f) (mA f)
 | .yA lo hi=>∃t u v,h.get? a=some {cls:=.type "range",data:=.fields #[.int lo t,.int hi u,.int 1 v]}
 | .bu o u=>h.get? a=some o/\dF H h a u
 | .oB ps=>h.get? a=some {cls:=.none,data:=.fields ps}
 | .met f x=>h.get? a=some (MV (.ref f) (.ref x))
 | .ext φ=>φ h/\(∃o,h.get? a=some o)/\∀h1 h2:a9,φ h1->(∀o,h1.get? a=some o->h2.get? a=some o)->φ h2
def c8(H:Hp)(h:a9):Prop:=∀a o,H a=some o->dF P w H h a o
end
section
variable{h':a9}{o:HO}
theorem dF.lt(x:dF P w H h a o):a<h.objs.size:=by
 cases o with
 |lst xs=>obtain⟨z,z,z,z,e⟩:=x;exact cO e
 |tup xs=>obtain⟨z,z,z,p⟩:=x;exact p.lt
 |dK kvs=>obtain⟨z,z,z,z,o,z,z,e,z⟩:=x;exact cO e
 |dT kvs=>obtain⟨z,z,z,z,o,z,z,e,z⟩:=x;exact cO e
 |set S n=>obtain⟨o,z,z,z,e,z⟩:=x;exact cO e
 |ins C dx fs=>obtain⟨z,z,z,e,z⟩:=x;exact cO e
 |own y=>obtain⟨z,e⟩:=x;exact cO e
 |xd fs=>obtain⟨z,⟨z,z,z,e,z⟩,z⟩:=x;exact cO e
 |yA lo hi=>obtain⟨z,z,z,e⟩:=x;exact cO e
 |bu ob u=>obtain⟨e,z⟩:=x;exact cO e
 |oB ps=>exact cO (show h.get? a=some _ from x)
 |met f y=>exact cO (show h.get? a=some _ from x)
 |ext φ=>obtain⟨z,⟨z,e⟩,z⟩:=x;exact cO e
theorem Paired.Bh{α β:Type}{F G:α->β->Prop}:∀{l₁:List α}{l₂:List β},Paired F l₁ l₂->(∀a b,F a b->G a b)->Paired G l₁ l₂
 |_,_,.nil,_=>.nil
 |_,_,.cons r t,f=>.cons (f _ _ r) (Paired.Bh t f)
theorem dF.lK(x:dF P w H h a o)(k:∀b u,(b=a\/H b=some (.own a))->h.get? b=some u->h'.get? b=some u)(ho:∀b,H b=some (.own a)->H' b=some (.own a))(ht:∀b xs,H b=some (.tup xs)->H' b=some (.tup xs)):dF P w H' h' a o:=by
 induction o with
 |lst xs=>obtain⟨z,its,n,r,e⟩:=x;exact⟨z,its,n,r,k _ _ (.inl rfl) e⟩
 |tup xs=>obtain⟨z,its,r,ob,e,c⟩:=x;exact⟨z,its,r,ob,k _ _ (.inl rfl) e,c⟩
 |dK kvs=>obtain⟨z,y,vs,r,ob,es,ep,e,c⟩:=x;exact⟨z,y,vs,r,ob,es,ep,k _ _ (.inl rfl) e,c⟩
 |dT kvs=>
  obtain⟨z,y,xs,r,ob,es,ep,e,c⟩:=x;exact⟨z,y,xs,Paired.Bh r λp q z=>⟨z.1,ht _ _ z.2.1,z.2.2⟩,ob,es,ep,k _ _ (.inl rfl) e,c⟩
 |set S n=>obtain⟨ob,es,ep,t,e,c⟩:=x;exact⟨ob,es,ep,t,k _ _ (.inl rfl) e,c⟩
 |ins C dx fs=>
  obtain⟨d,z,ne,e,mA,⟨od,es,ep,e2,c⟩,r⟩:=x;exact⟨ho _ d,z,ne,k _ _ (.inl rfl) e,mA,⟨od,es,ep,k _ _ (.inr d) e2,c⟩,r⟩
 |own y=>obtain⟨ob,e⟩:=x;exact⟨ob,k _ _ (.inl rfl) e⟩
 |xd fs=>obtain⟨mA,⟨od,es,ep,e,c⟩,r⟩:=x;exact⟨mA,⟨od,es,ep,k _ _ (.inl rfl) e,c⟩,r⟩
 |yA lo hi=>obtain⟨t,u,v,e⟩:=x;exact⟨t,u,v,k _ _ (.inl rfl) e⟩
 |bu ob u ih=>obtain⟨e,q⟩:=x;exact⟨k _ _ (.inl rfl) e,ih q⟩
 |oB ps=>
  have e:h.get? a=some {cls:=.none,data:=.fields ps}:=x;show h'.get? a=some {cls:=.none,data:=.fields ps};exact k a _ (.inl rfl) e
 |met f y=>
  have e:h.get? a=some (MV (.ref f) (.ref y)):=x;show h'.get? a=some (MV (.ref f) (.ref y));exact k a _ (.inl rfl) e
 |ext φ=>obtain⟨p,⟨o,e⟩,st⟩:=x;exact⟨st _ _ p λo q=>k _ _ (.inl rfl) q,⟨o,k _ _ (.inl rfl) e⟩,st⟩
theorem c8.lt(x:c8 P w H h)(e:H a=some o):a<h.objs.size:=(x a o e).lt
theorem c8.fresh(x:c8 P w H h)(e:h.objs.size<=a):H a=none:=by
 cases q:H a with
 |none=>rfl
 |some u=>exact absurd (ie (x.lt q) e) (kx _)
theorem c8.kept(x:c8 P w H h)(k:∀b u,h.get? b=some u->h'.get? b=some u):c8 P w H h':=λa o e=>(x a o e).lK (λb u z q=>k b u q) (λz q=>q) λz z q=>q
theorem c8.laid(x:c8 P w H h)(k:∀b u,h.get? b=some u->h'.get? b=some u)(hp:h.objs.size<=a)(new:dF P w (upd H a o) h' a o):c8 P w (upd H a o) h':=λb u e=>by
 have hn:=x.fresh hp;by_cases hb:b=a
 .subst hb;rw[aR]at e;cases e;exact new
 .rw[aI hb]at e
  exact(x b u e).lK (λc v z q=>k c v q) (λc q=>by rw[aI (cQ q hn)];exact q) λc xs q=>by rw[aI (cQ q hn)];exact q
end
def Rd(H:Hp)(a:aa)(u:HO):Prop:=H a=some u\/∃o,H a=some (.bu o u)
theorem Rd.ok{u:HO}(r:Rd H a u)(x:c8 P w H h):dF P w H h a u:=by
 rcases r with r|⟨o,r⟩
 .exact x a u r
 .obtain⟨z,q⟩:=x a _ r
  exact q
def lL:Option HO->Prop
 |some (.lst _)=>True
 |some (.dK _)=>True
 |some (.dT _)=>True
 |some (.set _ _)=>True
 |some (.ins _ _ _)=>True
 |some (.ext _)=>True
 |_=>False
section
variable{h':a9}{x e:aa}{o':HO}
theorem c8.write(ok:c8 P w H h)(mu:lL (H x))(he:e=x\/H e=some (.own x))(k:∀b u,b≠e->h.get? b=some u->h'.get? b=some u)(heo:∃u,h'.get? e=some u)(new:dF P w (upd H x o') h' x o'):c8 P w (upd H x o') h':=λb u q=>by
 have nown:∀c y,H c=some (.own y)->c≠x:=λc y r z=>by subst z;rw[r]at mu;exact mu
 have ntup:∀c xs,H c=some (.tup xs)->c≠x:=λc xs r z=>by subst z;rw[r]at mu;exact mu
 by_cases hb:b=x
 .subst hb;rw[aR]at q;cases q;exact new
 .rw[aI hb]at q
  by_cases hbe:b=e
  .have q':H b=some (.own x):=by
    rcases he with z|z
    .exact absurd (hbe.trans z) hb
    .rw[hbe];exact z
   rw[q]at q';cases q';obtain⟨v,hv⟩:=heo;exact⟨v,by rw[hbe];exact hv⟩
  .refine(ok b u q).lK (λc v hc r=>k c v ?_ r) (λc r=>by rw[aI (nown c b r)];exact r) λc xs r=>by rw[aI (ntup c xs r)];exact r
   rcases hc with rfl|hc
   .exact hbe
   .rintro rfl
    rcases he with z|z
    .exact nown c b hc z
    .rw[hc]at z;cases z;exact hb rfl
end
structure Un(fs ex:List aa)(H H':Hp)(h h':a9):Prop where
 keep:∀b o,h.get? b=some o->H b=none->b∉fs->b∉ex->h'.get? b=some o
 slot:∀b o,h.get? b=some o->H b=none->b∈fs->b∉ex->∃sl,h'.get? b=some {o with slots:=sl}
 free:∀b o,h.get? b=some o->H b=none->b∉ex->H' b=none
 there:∀b o,h.get? b=some o->b∉ex->∃o',h'.get? b=some o'
 gA:∀b xs,H b=some (.tup xs)->H' b=some (.tup xs)
 kg:∀b o u,H b=some (.bu o u)->H' b=some (.bu o u)
 l7:∀b ps,H b=some (.oB ps)->∃more,H' b=some (.oB (ps++more))
section
variable{fs fs' ex ex':List aa}{H1 H2:Hp}{h1 h2 h':a9}{x e:aa}{o:HO}
theorem Un.any(u:Un fs ex H H1 h h1){ob:bc}(q:h.get? b=some ob)(n:H b=none)(hx:b∉ex):∃sl,h1.get? b=some {ob with slots:=sl}:=by
 by_cases hb:b∈fs
 .exact u.slot b ob q n hb hx
 .exact⟨ob.slots,u.keep b ob q n hb hx⟩
theorem Un.kept(k:∀b u,h.get? b=some u->h'.get? b=some u):Un fs ex H H h h':=⟨λb ob q z z z=>k b ob q,λb ob q z z z=>⟨ob.slots,k b ob q⟩,λz z z n z=>n,λb ob q z=>⟨ob,k b ob q⟩,λz z q=>q,λz z z q=>q,λz ps q=>⟨#[],by rw[q];simp⟩⟩
theorem Un.refl:Un fs ex H H h h:=Un.kept λz z q=>q
theorem Un.laid(k:∀b u,h.get? b=some u->h'.get? b=some u)(hp:h.objs.size<=a)(hn:H a=none):Un fs ex H (upd H a o) h h' where
 keep:=λb u q z z z=>k b u q
 slot:=λb u q z z z=>⟨u.slots,k b u q⟩
 free:=λb u q n z=>by rw[aI (dM (ie (cO q) hp))];exact n
 there:=λb u q z=>⟨u,k b u q⟩
 gA:=λb xs q=>by rw[aI (cQ q hn)];exact q
 kg:=λb u xs q=>by rw[aI (cQ q hn)];exact q
 l7:=λb ps q=>⟨#[],by rw[aI (cQ q hn),q];simp⟩
theorem Un.write(mu:lL (H x))(he:e=x\/H e=some (.own x))(k:∀b u,b≠e->h.get? b=some u->h'.get? b=some u)(heo:∃u,h'.get? e=some u):Un fs ex H (upd H x o) h h':=by
 have hx:∀b,H b=none->b≠x:=λb n z=>by subst z;rw[n]at mu;exact mu
 have hb:∀b,H b=none->b≠e:=λb n z=>by
  subst z;rcases he with r|r
  .exact hx b n r
  .rw[n]at r;cases r
 have hm:∀b u,H b=some u->¬lL (some u)->b≠x:=λb u q nm z=>by subst z;rw[q]at mu;exact nm mu
 refine⟨λb u q n y y=>k b u (hb b n) q,λb u q n y y=>⟨u.slots,k b u (hb b n) q⟩,λb u q n y=>by rw[aI (hx b n)];exact n,λb u q y=>?_,
  λb xs q=>by rw[aI (hm b _ q λz=>z)];exact q,λb u xs q=>by rw[aI (hm b _ q λz=>z)];exact q,λb ps q=>⟨#[],by rw[aI (hm b _ q λz=>z),q];simp⟩⟩
 by_cases hbe:b=e
 .subst hbe;exact heo
 .exact⟨u,k b u hbe q⟩
end
def x6(h:a9)(H:Hp):List aa:=(cR h.objs.size).filter λa=>(H a).isSome
def nG(h:a9)(H:Hp):a9:=EW h (x6 h H)
theorem Xp(h:a9)(H:Hp):(nG h H).objs.size=h.objs.size:=PySem.W.hideAll_size _ _
theorem Pd(e:h.get? b=some o)(n:H b=none):(nG h H).get? b=some o:=MW _ e λhm=>by
 have q:(H b).isSome=true:=(dG.mp hm).2;rw[n]at q;simp at q
theorem PD(e:(nG h H).get? b=some o):h.get? b=some o/\H b=none:=by
 have e':h.get? b=some o:=YR (x6 h H) e;refine⟨e',?_⟩;cases q:H b with
 |none=>rfl
 |some x=>
  have hm:b∈x6 h H:=dG.mpr ⟨kq.mpr (cO e'),by simp[q]⟩
  have z:(nG h H).get? b=none:=PySem.W.hideAll_none (x6 h H) hm;rw[z]at e;cases e
def N6(g h:a9)(L:aa):List (aa×bc):=(cR h.objs.size).filterMap λa=>if a=L\/(g.get? a).isSome=true then none else(h.get? a).map λo=>(a,o)
def rest(g h:a9)(L d:aa):List (aa×bc):=(N6 g h L).filter λp=>decide (p.1≠d)
structure Mod(K:aU)(mg:ae->Option af)(base:a9):Prop where
 pR:K.In base
 glob:base.Ns iD mg
 blt:∃mb,base.Ns MX mb/\∀x:ae,x≠"__name__"->mb x=vW x
 nolimit:base.NoLimit
structure Cx where
 prog:bA
 w:bB
 K:aU
 mg:ae->Option af
 base:a9
 A:d9
 N:List ae
 gg:aC
 ph:Hp
 env:ei
 outer:List ei
 stack:List ei
 ex:List aa
 fn:ae->Bool
 calm:Bool
 pn:List (aa×bc)
 xe:af->aC->Prop
def e9(l:List ei):List aa:=l.filterMap (·.frame)
abbrev Cx.fs(X:Cx):List aa:=e9 X.outer
def uJ(sc:eV)(x:ae):Prop:=sc.names.lookup x=some .local\/sc.names.lookup x=some .cell\/sc.names.lookup x=some .free
def Loc(sc:eV)(x:ae):Prop:=sc.names.lookup x=some .local\/sc.names.lookup x=some .cell
def Look(env:ei)(h:a9)(m:ae->Option af)(x:ae)(u:af):Prop:=(env.kindOf x=some .local/\m x=some u)\/((env.kindOf x=some .cell\/env.kindOf x=some .free)/\∃c,env.cells.lookup x=some c/\h.IsCell c (some u))
structure Cx.Ok(X:Cx):Prop where
 mod:Mod X.K X.mg X.base
 kind:X.env.scope.kind=.function
 glob:X.env.globals=iD
 blt:X.env.builtins=MX
 above:X.gg.heap.objs.size<=X.env.locals
 inj:∀x y c,X.env.cells.lookup x=some c->X.env.cells.lookup y=some c->x=y
 has:∀x,(X.env.kindOf x=some .cell\/X.env.kindOf x=some .free)->∃c,X.env.cells.lookup x=some c
 qx:∀x c,X.fn x=true->X.env.cells.lookup x=some c->X.gg.heap.objs.size<=c
 hd:X.calm=true->X.A.handled=none
 frames:X.A.frames=some X.stack
 rG:X.stack=X.outer\/(X.stack=X.env::X.outer/\X.env.frame=some X.env.locals)
 sr:∀b∈X.ex,b≠X.env.locals/\∀x c,X.env.cells.lookup x=some c->c≠b
 bs:∀b o,X.base.get? b=some o->X.gg.heap.get? b=some o/\X.ph b=none
 lX:X.base.objs.size<=X.gg.heap.objs.size
 qj:∀b o,X.base.get? b=some o->b∉X.ex
 pW:∀b∈X.ex,b∉X.fs
 jH:X.gg.heap.FunFrames X.base X.outer
 nB:∀b∈X.fs,X.ph b=none
structure Inv(X:Cx)(pins:List (aa×bc))(σ:List (Option V))(H:Hp)(s:aC):Prop where
 ok:X.Ok
 os:s.os=X.gg.os
 bare:pH s.gens
 base:Un X.fs X.ex X.ph H X.gg.heap s.heap
 loc:∃m,s.heap.Ns X.env.locals m/\∀(i:Nat)(x:ae)(v:V),X.N[i]? =some x->σ[i]? =some (some v)->uJ X.env.scope x->∃u,RelV v u/\Look X.env s.heap m x u
 cell:∀x c,X.env.cells.lookup x=some c->∃v,s.heap.IsCell c v
 free:H X.env.locals=none
 iL:∀x c,X.env.cells.lookup x=some c->H c=none
 pin:∀p∈X.pn++pins,s.heap.get? p.1=some p.2/\H p.1=none/\p.1≠X.env.locals/\p.1∉X.fs/\∀v,p.2.data≠.cell v
 aW:c8 X.prog X.w H s.heap
 len:σ.length=X.N.length
section
variable{σ:List (Option V)}{h':a9}
theorem Cx.Ok.Ug(ok:X.Ok)(e:X.base.get? b=some o):b∉X.fs:=λhb=>by
 have:=(ok.jH.mem hb).1;rw[e]at this;cases this
theorem Inv.bs(I:Inv X pins σ H s):∀b o,X.base.get? b=some o->s.heap.get? b=some o/\H b=none:=λb o e=>⟨I.base.keep b o (I.ok.bs b o e).1 (I.ok.bs b o e).2 (I.ok.Ug e) (I.ok.qj b o e),I.base.free b o (I.ok.bs b o e).1 (I.ok.bs b o e).2 (I.ok.qj b o e)⟩
theorem Inv.bk(I:Inv X pins σ H s):∀b o,X.base.get? b=some o->s.heap.get? b=some o:=λb o e=>(I.bs b o e).1
theorem Inv.mod(I:Inv X pins σ H s):Mod X.K X.mg X.base:=I.ok.mod
theorem Inv.iC(I:Inv X pins σ H s):X.K.In s.heap:=I.ok.mod.pR.keeps I.bk
theorem Inv.lt(I:Inv X pins σ H s):X.env.locals<s.heap.objs.size:=let⟨_,hn,_⟩:=I.loc;hn.lt
theorem Inv.sz(I:Inv X pins σ H s):X.gg.heap.objs.size<=s.heap.objs.size:=fi I.ok.above (vX I.lt)
theorem Inv.Vf(I:Inv X pins σ H s)(h:s.heap.objs.size<=a):a∉X.fs:=λhb=>by
 obtain⟨z,o,ho,z⟩:=I.ok.jH.mem hb;exact absurd (ie (cO ho) (fi I.sz h)) (kx _)
theorem Inv.qp(I:Inv X pins σ H s):∀x c,X.env.cells.lookup x=some c->c≠X.env.locals:=λx c e z=>by
 obtain⟨v,o,ho,hd⟩:=I.cell x c e;obtain⟨m,⟨o',es,ep,ho',hd',y⟩,y⟩:=I.loc;rw[z,ho']at ho;cases ho;rw[hd']at hd;cases hd
theorem Inv.jH(I:Inv X pins σ H s):s.heap.FunFrames X.base X.outer:=by
 have all:∀(l:List ei),(∀b∈e9 l,b∈X.fs)->X.gg.heap.FunFrames X.base l->s.heap.FunFrames X.base l:=by
  intro l;induction l with
  |nil=>intro y y;trivial
  |cons env r ih=>
   intro hs hl;obtain⟨hk,⟨L,o,hf,hn,ho,hd⟩,hr⟩:=hl;have hL:L∈X.fs:=hs L (by unfold e9;rw[oj,hf];exact gF)
   obtain⟨sl,e⟩:=I.base.slot L o ho (I.ok.nB L hL) hL λz=>I.ok.pW L z hL;exact⟨hk,⟨L,_,hf,hn,e,hd⟩,ih (λb hb=>hs b (by unfold e9;rw[oj,hf];exact b8 _ hb)) hr⟩
 exact all X.outer (λy hb=>hb) I.ok.jH
theorem Inv.stack(I:Inv X pins σ H s):s.heap.FunFrames X.base X.stack:=by
 rcases I.ok.rG with e|⟨e,hf⟩
 .rw[e];exact I.jH
 .rw[e]
  obtain⟨m,hn,z⟩:=I.loc;refine .cons (by rw[I.ok.kind];decide) hf hn ?_ I.jH
  exact Heap.get?_none_of_le (fi I.ok.lX I.ok.above)
theorem Inv.yb(I:Inv X pins σ H s):∀b∈e9 X.stack,b∈X.env.locals::X.fs:=λb hb=>by
 rcases I.ok.rG with e|⟨e,hf⟩
 .rw[e]at hb;exact b8 _ hb
 .rw[e]at hb
  unfold e9 at hb;rw[oj,hf]at hb;exact hb
theorem Inv.CJ(I:Inv X pins σ H s):∀b∈e9 X.stack,H b=none:=λb hb=>by
 rcases bM.mp (I.yb b hb)with e|hb
 .rw[e];exact I.free
 .obtain⟨y,o,ho,y⟩:=I.ok.jH.mem hb
  exact I.base.free b o ho (I.ok.nB b hb) λz=>I.ok.pW b z hb
theorem Inv.step{g':Array Mr}{d':Drawn}{ch:List aa}(I:Inv X pins σ H s)(hch:∀b∈ch,(b∈X.ex\/X.gg.heap.objs.size<=b)/\b≠X.env.locals/\(∀x c,X.env.cells.lookup x=some c->c≠b)/\∀p∈X.pn++pins,p.1≠b)(keep:∀b o,b≠X.env.locals->b∉X.fs->b∉ch->s.heap.get? b=some o->H b=none->h'.get? b=some o)(slot:∀b o,b≠X.env.locals->b∈X.fs->b∉ch->s.heap.get? b=some o->H b=none->∃sl,h'.get? b=some {o with slots:=sl})(free:∀b o,b∉ch->s.heap.get? b=some o->H b=none->H' b=none)(there:∀b o,b∉ch->s.heap.get? b=some o->∃o',h'.get? b=some o')(gA:∀b xs,H b=some (.tup xs)->H' b=some (.tup xs))(kg:∀b o u,H b=some (.bu o u)->H' b=some (.bu o u))(l7:∀b ps,H b=some (.oB ps)->∃more,H' b=some (.oB (ps++more)))(ns:∀m,s.heap.Ns X.env.locals m->h'.Ns X.env.locals m)(aW:c8 X.prog X.w H' h')(hg:pH g'):Inv X pins σ H' {s with heap:=h',gens:=g',drawn:=d',toks:=t'}:=by
 have neL:∀b o,X.gg.heap.get? b=some o->b≠X.env.locals:=λb o e=>dM (ie (cO e) I.ok.above);have u6:∀b o,X.gg.heap.get? b=some o->b∉X.ex->b∉ch:=λb o e hx hb=>by
  rcases(hch b hb).1 with z|z
  .exact hx z
  .exact absurd (ie (cO e) z) (kx _)
 have cellK:∀x c,X.env.cells.lookup x=some c->∀v,s.heap.IsCell c v->h'.IsCell c v:=λx c e v ⟨o,ho,hd⟩=>by
  have nch:c∉ch:=λz=>(hch c z).2.2.1 x c e rfl;by_cases hc:c∈X.fs
  .obtain⟨sl,q⟩:=slot c o (I.qp x c e) hc nch ho (I.iL x c e)
   exact⟨_,q,hd⟩
  .exact⟨o,keep c o (I.qp x c e) hc nch ho (I.iL x c e),hd⟩
 refine⟨I.ok,I.os,hg,⟨λb o e n hb hx=>?_,λb o e n hb hx=>?_,λb o e n hx=>?_,λb o e hx=>?_,λb xs e=>gA b xs (I.base.gA b xs e),λb o xs e=>kg b o xs (I.base.kg b o xs e),λb ps e=>?_⟩,?_,λx c e=>?_,?_,λx c e=>?_,λp hp=>?_,aW,I.len⟩
 .exact keep b o (neL b o e) hb (u6 b o e hx) (I.base.keep b o e n hb hx) (I.base.free b o e n hx)
 .obtain⟨sl,e1⟩:=I.base.slot b o e n hb hx
  obtain⟨sl',e2⟩:=slot b _ (neL b o e) hb (u6 b o e hx) e1 (I.base.free b o e n hx);exact⟨sl',e2⟩
 .obtain⟨o',e1⟩:=I.base.there b o e hx
  exact free b o' (u6 b o e hx) e1 (I.base.free b o e n hx)
 .obtain⟨o',e1⟩:=I.base.there b o e hx
  exact there b o' (u6 b o e hx) e1
 .obtain⟨m1,e1⟩:=I.base.l7 b ps e
  obtain⟨m2,e2⟩:=l7 b _ e1;exact⟨m1++m2,by rw[e2,Array.append_assoc]⟩
 .obtain⟨m,hn,hl⟩:=I.loc
  refine⟨m,ns m hn,λi x v e1 e2 e3=>?_⟩;obtain⟨u,r,l⟩:=hl i x v e1 e2 e3;refine⟨u,r,?_⟩;rcases l with l|⟨k,c,e,z⟩
  .exact .inl l
  .exact .inr ⟨k,c,e,cellK x c e _ z⟩
 .obtain⟨v,z⟩:=I.cell x c e
  exact⟨v,cellK x c e v z⟩
 .obtain⟨m,⟨o,y,y,ho,y⟩,y⟩:=I.loc
  exact free _ o (λz=>(hch _ z).2.1 rfl) ho I.free
 .obtain⟨v,o,ho,hd⟩:=I.cell x c e
  exact free c o (λz=>(hch c z).2.2.1 x c e rfl) ho (I.iL x c e)
 .obtain⟨e,n,ne,nf,d⟩:=I.pin p hp
  have nch:p.1∉ch:=λz=>(hch p.1 z).2.2.2 p hp rfl;exact⟨keep p.1 p.2 ne nf nch e n,free p.1 p.2 nch e n,ne,nf,d⟩
theorem Inv.un(I:Inv X pins σ H s)(u:Un X.fs [] H H' s.heap h')(aW:c8 X.prog X.w H' h'):Inv X pins σ H' {s with heap:=h',toks:=t'}:=by
 obtain⟨m,⟨o,es,ep,ho,r⟩,y⟩:=id I.loc;obtain⟨sl,hL⟩:=u.any ho I.free (by simp)
 exact I.step (g':=s.gens) (d':=s.drawn) (ch:=[]) (λy z=>nomatch z) (λb o y hb y e n=>u.keep b o e n hb (by simp)) (λb o y hb y e n=>u.slot b o e n hb (by simp)) (λb o y e n=>u.free b o e n (by simp)) (λb o y e=>u.there b o e (by simp)) u.gA u.kg u.l7 (λm' hm=>by
  obtain⟨o',es',ep',ho',r'⟩:=hm;rw[ho]at ho';cases ho'
  exact⟨_,es',ep',hL,r'⟩) aW I.bare
theorem Inv.call{g':Array Mr}{d':Drawn}{ch:List aa}(I:Inv X pins σ H s)(u:Un (e9 X.stack) ch H H' s.heap h')(aW:c8 X.prog X.w H' h')(hg:pH g')(hch:∀b∈ch,(b∈X.ex\/X.gg.heap.objs.size<=b)/\b≠X.env.locals/\(∀x c,X.env.cells.lookup x=some c->c≠b)/\∀p∈X.pn++pins,p.1≠b):Inv X pins σ H' {s with heap:=h',gens:=g',drawn:=d',toks:=t'}:=by
 obtain⟨m,⟨o,es,ep,ho,r⟩,y⟩:=id I.loc;obtain⟨sl,hL⟩:=u.any ho I.free λz=>(hch _ z).2.1 rfl
 exact I.step (ch:=ch) hch (λb o hL hb hc e n=>u.keep b o e n (λz=>(bM.mp (I.yb b z)).elim hL hb) hc) (λb o y y hc e n=>u.any e n hc) (λb o hc e n=>u.free b o e n hc) (λb o hc e=>u.there b o e hc) u.gA u.kg u.l7 (λm' hm=>by
  obtain⟨o',es',ep',ho',r'⟩:=hm;rw[ho]at ho';cases ho'
  exact⟨_,es',ep',hL,r'⟩) aW hg
theorem Inv.turned{it:aa}(I:Inv X pins σ H s)(k:∀b o,b≠it->s.heap.get? b=some o->h'.get? b=some o)(hn:H it=none)(hL:it≠X.env.locals)(h1:it∈X.ex\/X.gg.heap.objs.size<=it)(h2:∀x c,X.env.cells.lookup x=some c->c≠it)(h3:∀p∈X.pn++pins,p.1≠it):Inv X pins σ H {s with heap:=h',toks:=t'}:=by
 have nit:∀b u,H b=some u->b≠it:=λb u e z=>by rw[z,hn]at e;cases e
 refine I.step (g':=s.gens) (d':=s.drawn) (ch:=[it]) (λb hb=>?_) (λb o y y hc e y=>k b o (λz=>hc (by simp[z])) e) (λb o y y hc e y=>⟨o.slots,k b o (λz=>hc (by simp[z])) e⟩) (λy y y y n=>n)
  (λb o hc e=>⟨o,k b o (λz=>hc (by simp[z])) e⟩) (λy y e=>e) (λy y y e=>e) (λb ps e=>⟨#[],by rw[e];simp⟩) (λm hm=>?_) (λb u e=>?_) I.bare
 .have e:b=it:=by simpa using hb
  subst e;exact⟨h1,hL,h2,h3⟩
 .obtain⟨o,es,ep,ho,r⟩:=hm
  exact⟨o,es,ep,k _ o (eW hL) ho,r⟩
 .refine(I.aW b u e).lK (λc v hc q=>k c v ?_ q) (λy q=>q) λy y q=>q
  rcases hc with z|z
  .rw[z];exact nit b u e
  .exact nit c _ z
theorem Inv.tok(I:Inv X pins σ H s)(t:Nat):Inv X pins σ H {s with toks:=t}:=I.un (h':=s.heap) (t':=t) Un.refl I.aW
theorem Inv.kept(I:Inv X pins σ H s)(k:∀b u,s.heap.get? b=some u->h'.get? b=some u):Inv X pins σ H {s with heap:=h',toks:=t'}:=I.un (Un.kept k) (I.aW.kept k)
theorem Inv.laid{o:HO}(I:Inv X pins σ H s)(k:∀b u,s.heap.get? b=some u->h'.get? b=some u)(hp:s.heap.objs.size<=a)(new:dF X.prog X.w (upd H a o) h' a o):Inv X pins σ (upd H a o) {s with heap:=h',toks:=t'}:=I.un (Un.laid k hp (I.aW.fresh hp)) (I.aW.laid k hp new)
theorem Inv.write{x e:aa}{o:HO}(I:Inv X pins σ H s)(mu:lL (H x))(he:e=x\/H e=some (.own x))(k:∀b u,b≠e->s.heap.get? b=some u->h'.get? b=some u)(heo:∃u,h'.get? e=some u)(new:dF X.prog X.w (upd H x o) h' x o):Inv X pins σ (upd H x o) {s with heap:=h',toks:=t'}:=I.un (Un.write mu he k heo) (I.aW.write mu he k heo new)
theorem Inv.weak{σ':List (Option V)}(I:Inv X pins σ H s)(hl:σ'.length=σ.length)(w:∀(i:Nat) v,σ'[i]? =some (some v)->σ[i]? =some (some v)):Inv X pins σ' H s:=⟨I.ok,I.os,I.bare,I.base,let⟨m,hn,hl'⟩:=I.loc;⟨m,hn,λi x v e1 e2 e3=>hl' i x v e1 (w i v e2) e3⟩,I.cell,I.free,I.iL,I.pin,I.aW,hl.trans I.len⟩
theorem Inv.Ll{pins':List (aa×bc)}(I:Inv X pins σ H s)(h:∀p∈pins',s.heap.get? p.1=some p.2/\H p.1=none/\p.1≠X.env.locals/\p.1∉X.fs/\∀v,p.2.data≠.cell v):Inv X pins' σ H s:=⟨I.ok,I.os,I.bare,I.base,I.loc,I.cell,I.free,I.iL,λp hp=>(b6.mp hp).elim (λz=>I.pin p (fq _ z)) (h p),I.aW,I.len⟩
theorem Ay{N:List ae}(hN:N.Nodup){i j:Nat}(a:N[i]? =some x)(b:N[j]? =some x):i=j:=by
 obtain⟨h1,e1⟩:=cN.mp a;obtain⟨h2,e2⟩:=cN.mp b;exact(YS hN).mp (e1.trans e2.symm)
theorem Hh{M:tH}{i:Nat}{v:V}{Q:Unit->aC->Prop}(I:Inv X pins σ H s)(hN:X.N.Nodup)(hi:X.N[i]? =some x)(hx:Loc X.env.scope x)(r:RelV v u)(h:∀s',Inv X pins (σ.set i (some v)) H s'->(∃a,tL a s.heap s'.heap/\(a=X.env.locals\/X.env.cells.lookup x=some a))->Q () s')(hf:X.fn x=true\/X.env.scope.names.lookup x=some .local:=by first|exact .inl rfl|exact .inr rfl|assumption):aJ M A (storeName X.env x u) Q E s:=by
 obtain⟨m,hn,hl⟩:=id I.loc;have hcls:(X.env.scope.kind==.class||(X.env.scope.kind==.module&&X.env.locals !=X.env.globals))=false:=by rw[I.ok.kind];rfl
 have hiσ:i<σ.length:=by rw[I.len];exact(cN.mp hi).1
 have qp:=I.qp;have tracked:∀{a:aa}{h':a9},(∃o,s.heap.get? a=some o/\H a=none)->tL a s.heap h'->c8 X.prog X.w H h':=λ{a h'} ha hs b ob e=>by
  obtain⟨t,t,hfree⟩:=ha;refine(I.aW b ob e).lK (λc w' hc q=>(hs.2 c ?_).trans q) (λt q=>q) λt t q=>q;rintro rfl;rcases hc with rfl|hc
  .rw[hfree]at e;cases e
  .rw[hfree]at hc;cases hc
 rcases hx with hk|hk
 .refine wpAny_storeName_local hk hn (λh' hn' hs=>?_) hcls
  obtain⟨oL,t,t,hoL,t⟩:=id hn;refine h _ ⟨I.ok,I.os,I.bare,⟨λb o e n hb hx=>?_,λb o e n hb hx=>?_,I.base.free,λb o e hx=>?_,I.base.gA,I.base.kg,I.base.l7⟩,⟨_,hn',λj y v' e1 e2 e3=>?_⟩,λy c e=>?_,I.free,I.iL,λp hp=>?_,tracked ⟨oL,hoL,I.free⟩ hs,by simpa using I.len⟩ ⟨_,hs,.inl rfl⟩
  .exact(hs.2 b (dM (ie (cO e) I.ok.above))).trans (I.base.keep b o e n hb hx)
  .obtain⟨sl,e1⟩:=I.base.slot b o e n hb hx
   exact⟨sl,(hs.2 b (dM (ie (cO e) I.ok.above))).trans e1⟩
  .obtain⟨o',e1⟩:=I.base.there b o e hx
   exact⟨o',(hs.2 b (dM (ie (cO e) I.ok.above))).trans e1⟩
  .by_cases hj:j=i
   .subst hj
    rw[hi]at e1;cases e1;rw[MY hiσ]at e2;cases e2;exact⟨u,r,.inl ⟨hk,by simp⟩⟩
   .rw[MZ (eW hj)]at e2
    obtain⟨u',r',q⟩:=hl j y v' e1 e2 e3;refine⟨u',r',?_⟩;rcases q with⟨k,e⟩|⟨k,c,e,z⟩
    .refine .inl ⟨k,?_⟩
     have:y≠x:=λe=>hj (Ay hN e1 (e▸hi));simp[this,e]
    .exact .inr ⟨k,c,e,z.sameBut hs (qp y c e)⟩
  .obtain⟨w',z⟩:=I.cell y c e
   exact⟨w',z.sameBut hs (qp y c e)⟩
  .obtain⟨e,n,ne,nf,d⟩:=I.pin p hp
   exact⟨(hs.2 p.1 ne).trans e,n,ne,nf,d⟩
 .have hfn:X.fn x=true:=by
   rcases hf with z|z
   .exact z
   .rw[z]at hk;cases hk
  obtain⟨c,hc⟩:=I.ok.has x (.inl hk);obtain⟨w',z⟩:=I.cell x c hc;refine wpAny_storeName_cell I.ok.kind hk hc z (λh' hc' hs=>?_);obtain⟨oc,hoc,hocd⟩:=id z;refine h {s with heap:=h'} ⟨I.ok,I.os,I.bare,⟨λb o e n hb hx=>?_,λb o e n hb hx=>?_,I.base.free,λb o e hx=>?_,I.base.gA,I.base.kg,I.base.l7⟩,⟨m,hn.sameBut hs (eW (qp x c hc)),λj y v' e1 e2 e3=>?_⟩,λy c' e=>?_,I.free,I.iL,λp hp=>?_,tracked ⟨oc,hoc,I.iL x c hc⟩ hs,by simpa using I.len⟩ ⟨c,hs,.inr hc⟩
  .exact(hs.2 b (dM (ie (cO e) (I.ok.qx x c hfn hc)))).trans (I.base.keep b o e n hb hx)
  .obtain⟨sl,e1⟩:=I.base.slot b o e n hb hx
   exact⟨sl,(hs.2 b (dM (ie (cO e) (I.ok.qx x c hfn hc)))).trans e1⟩
  .obtain⟨o',e1⟩:=I.base.there b o e hx
   exact⟨o',(hs.2 b (dM (ie (cO e) (I.ok.qx x c hfn hc)))).trans e1⟩
  .by_cases hj:j=i
   .subst hj
    rw[hi]at e1;cases e1;rw[MY hiσ]at e2;cases e2;exact⟨u,r,.inr ⟨.inl hk,c,hc,hc'⟩⟩
   .rw[MZ (eW hj)]at e2
    obtain⟨u',r',q⟩:=hl j y v' e1 e2 e3;refine⟨u',r',?_⟩;rcases q with q|⟨k,c',e,z'⟩
    .exact .inl q
    .refine .inr ⟨k,c',e,z'.sameBut hs ?_⟩
     rintro rfl;exact hj (Ay hN e1 (I.ok.inj _ _ _ e hc▸hi))
  .by_cases hcc:c'=c
   .subst hcc;exact⟨_,hc'⟩
   .obtain⟨w2,z2⟩:=I.cell y c' e
    exact⟨w2,z2.sameBut hs hcc⟩
  .obtain⟨e,n,ne,nf,d⟩:=I.pin p hp
   refine⟨(hs.2 p.1 ?_).trans e,n,ne,nf,d⟩;intro q;rw[q,hoc]at e;have q':oc=p.2:=dQ e;exact d w' (by rw[<-q'];exact hocd)
theorem Jd{M:tH}{i:Nat}{v:V}{Q:Unit->aC->Prop}(I:Inv X pins σ H s)(hN:X.N.Nodup)(hi:X.N[i]? =some x)(hx:Loc X.env.scope x)(r:RelV v u)(h:∀s',Inv X pins (σ.set i (some v)) H s'->Q () s')(hf:X.fn x=true\/X.env.scope.names.lookup x=some .local:=by first|exact .inl rfl|exact .inr rfl|assumption):aJ M A (storeName X.env x u) Q E s:=Hh I hN hi hx r (λs' I' z=>h s' I') hf
theorem Inv.Ez{s':aC}{ch:List aa}(I:Inv X pins σ H s)(ho:s'.os=s.os)(u:Un (e9 X.stack) ch H H' s.heap s'.heap)(aW:c8 X.prog X.w H' s'.heap)(hg:pH s'.gens)(hch:∀b∈ch,(b∈X.ex\/X.gg.heap.objs.size<=b)/\b≠X.env.locals/\(∀x c,X.env.cells.lookup x=some c->c≠b)/\∀p∈X.pn++pins,p.1≠b):Inv X pins σ H' s':=by
 obtain⟨h',g',d',t',o'⟩:=s';have e:o'=s.os:=ho;subst e;exact I.call (g':=g') (t':=t') (d':=d') u aW hg hch
end
abbrev XK:=af->Option aa->Hp->Prop
abbrev St:=List (Option V)
abbrev VK:=V->Hp->Prop
abbrev TE:=St->Hp->VK->Prop
abbrev TT:=St->Hp->(Bool->Hp->Prop)->Prop
abbrev TA:=St->Hp->(List V->Hp->Prop)->Prop
structure Ends where
 nx:St->Hp->Prop
 rt:VK
 bk:St->Hp->Prop:=λz z=>False
 ct:St->Hp->Prop:=λz z=>False
abbrev TS:=Ends->St->Hp->Prop
def EP(X:Cx)(pins:List (aa×bc))(σ:St)(Q:VK)(u:af)(s':aC):Prop:=∃v H',Inv X pins σ H' s'/\RelV v u/\Q v H'
def TP(X:Cx)(pins:List (aa×bc))(σ:St)(Q:Bool->Hp->Prop)(b:Bool)(s':aC):Prop:=∃H',Inv X pins σ H' s'/\Q b H'
def AP(X:Cx)(pins:List (aa×bc))(σ:St)(Q:List V->Hp->Prop)(us:List af)(s':aC):Prop:=∃vs H',Inv X pins σ H' s'/\bD vs us/\Q vs H'
def SP(X:Cx)(pins:List (aa×bc))(D:Ends)(f:Flow)(s':aC):Prop:=match f with
 | .next=>∃σ' H',Inv X pins σ' H' s'/\D.nx σ' H'
 | .brk=>∃σ' H',Inv X pins σ' H' s'/\D.bk σ' H'
 | .cont=>∃σ' H',Inv X pins σ' H' s'/\D.ct σ' H'
 | .ret u=>∃v σ' H',Inv X pins σ' H' s'/\RelV v u/\D.rt v H'
def PE(X:Cx)(e:bE)(t:TE):Prop:=∀(pins:List (aa×bc))(s:aC)(σ:St)(H:Hp)(Q:VK),Inv X pins σ H s->t σ H Q->aJ (ba X.prog X.w) X.A (bP e X.env) (EP X pins σ Q) X.xe s
def PT(X:Cx)(e:bE)(t:TT):Prop:=∀(pins:List (aa×bc))(s:aC)(σ:St)(H:Hp)(Q:Bool->Hp->Prop),Inv X pins σ H s->t σ H Q->aJ (ba X.prog X.w) X.A (zF e X.env (bP e X.env)) (TP X pins σ Q) X.xe s
def PW(X:Cx)(e:bE)(t:TT):Prop:=∀(whole:jc af)(pins:List (aa×bc))(s:aC)(σ:St)(H:Hp)(Q:Bool->Hp->Prop),Inv X pins σ H s->t σ H Q->aJ (ba X.prog X.w) X.A (zF e X.env whole) (TP X pins σ Q) X.xe s
theorem PW.pt{t:TT}(h:PW X e t):PT X e t:=h _
def PA(X:Cx)(es:List bE)(t:TA):Prop:=∀(pos:cI)(pins:List (aa×bc))(s:aC)(σ:St)(H:Hp)(Q:List V->Hp->Prop),Inv X pins σ H s->t σ H Q->aJ (ba X.prog X.w) X.A (MS (f7 pos (cn es X.env))) (AP X pins σ Q) X.xe s
def PS(X:Cx)(st:bq)(t:TS):Prop:=∀(pins:List (aa×bc))(s:aC)(σ:St)(H:Hp)(D:Ends),Inv X pins σ H s->t D σ H->aJ (ba X.prog X.w) X.A (exec st X.env) (SP X pins D) X.xe s
def hR(X:Cx)(st:List bq)(t:TS):Prop:=∀(pins:List (aa×bc))(s:aC)(σ:St)(H:Hp)(D:Ends),Inv X pins σ H s->t D σ H->aJ (ba X.prog X.w) X.A (execs st X.env) (SP X pins D) X.xe s
theorem bf{α:Type}{t:jc α}{Q Q':α->aC->Prop}{M:tH}(h:aJ M A t Q E s)(hQ:∀a s,Q a s->Q' a s):aJ M A t Q' E s:=jb h hQ λz z x=>x
section
def sd(i:Nat):TE:=λσ H Q=>∃v,σ[i]? =some (some v)/\Q v H
def tC(v:V):TE:=λz H Q=>Q v H
theorem WM{i:Nat}(hN:X.N[i]? =some x)(hv:uJ X.env.scope x)(hd:(x==("__debug__":ae))=false:=by decide)(hcd:(x==("__classdict__":ae))=false:=by decide):PE X (.Name x pos) (sd i):=by
 intro pins s σ H Q I h;obtain⟨v,e,h⟩:=h;obtain⟨m,hn,hl⟩:=I.loc;obtain⟨u,r,l⟩:=hl i x v hN e hv;have fin:EP X pins σ Q u s:=⟨v,H,I,r,h⟩;rcases l with⟨hk,hm⟩|⟨hk,c,hc,hcell⟩
 .exact M0 (wpAny_loadName_local I.ok.kind hk hn hm fin) hd
 .rcases hk with hk|hk
  .exact M0 (wpAny_loadName_cell I.ok.kind hk hc hcell fin) hd
  .exact M0 (wpAny_loadName_free I.ok.kind hk hc hcell fin hcd) hd
theorem aQ{i j pos}:PE X (.Constant (.int i) j pos) (tC (.int i)):=λz z z H z I h=>YT ⟨.int i,H,I.tok _,⟨_,rfl⟩,h⟩
theorem oQ{b j pos}:PE X (.Constant (.bool b) j pos) (tC (.bl b)):=λz z z H z I h=>Constant_bool ⟨.bl b,H,I,rfl,h⟩
theorem Wc{j pos}:PE X (.Constant .none j pos) (tC .bI):=λz z z H z I h=>EX ⟨.bI,H,I,rfl,h⟩
theorem gz{x j pos}:PE X (.Constant (.str x) j pos) (tC (.str x)):=λz z z H z I h=>Calls.Constant_str ⟨.str x,H,I.tok _,⟨_,rfl⟩,h⟩
def Gl(X:Cx)(x:ae):Prop:=X.env.kindOf x=some .globalImplicit
theorem qA{σ:St}(I:Inv X pins σ H s)(hg:Gl X x)(hm:X.mg x=some u)(h:Q u s)(hd:(x==("__debug__":ae))=false:=by decide):aJ (ba X.prog X.w) X.A (bP (.Name x pos) X.env) Q E s:=YU I.ok.kind hg (Calls.loadGlobal_global (by rw[I.ok.glob];exact I.mod.glob.keeps I.bk) hm h) hd
theorem o3{σ:St}(I:Inv X pins σ H s)(hg:Gl X x)(hm:X.mg x=none)(hv:vW x=some u)(h:Q u s)(hn:x≠"__name__":=by decide)(hd:(x==("__debug__":ae))=false:=by decide):aJ (ba X.prog X.w) X.A (bP (.Name x pos) X.env) Q E s:=by
 obtain⟨mb,h1,h2⟩:=I.mod.blt;exact YU I.ok.kind hg (Calls.loadGlobal_builtin (by rw[I.ok.glob];exact I.mod.glob.keeps I.bk) hm (by rw[I.ok.blt];exact h1.keeps I.bk) ((h2 x hn).trans hv) h) hd
theorem CA{v:V}(hg:Gl X x)(hm:X.mg x=some u)(r:RelV v u)(hd:(x==("__debug__":ae))=false:=by decide):PE X (.Name x pos) (tC v):=λz z z H z I h=>qA I hg hm ⟨v,H,I,r,h⟩ hd
variable{a b:bE}{ta tb:TE}
def PC(X:Cx)(op:qN)(a b:bE)(t:TE):Prop:=∀(pins:List (aa×bc))(s:aC)(σ:St)(H:Hp)(Q:VK),Inv X pins σ H s->t σ H Q->
 aJ (ba X.prog X.w) X.A (bP a X.env) (λv s₁=>aJ (ba X.prog X.w) X.A (bP b X.env) (λu s₂=>aJ (ba X.prog X.w) X.A (iT op v u) (EP X pins σ Q) X.xe s₂) X.xe s₁) X.xe s
theorem Ro(b:bE){op:qN}(h:op≠.In)(h2:op≠.NotIn):tM op b=false:=by
 have e1:(op==YV)=false:=by cases op<;>first|rfl|exact absurd rfl h
 have e2:(op==YW)=false:=by cases op<;>first|rfl|exact absurd rfl h2
 cases b<;>simp[tM,e1,e2]
def Ql(ta:TE):TE:=λσ H Q=>ta σ H λx H1=>Q (.bl (!decide (x=.bI))) H1
theorem RelV.XQ{x:V}{v:af}(r:RelV x v):(v==kz)=decide (x=.bI):=by
 cases x with
 |bI=>cases r;rfl
 |bl _=>cases r;rfl
 |int _=>obtain⟨t,rfl⟩:=r;rfl
 |str _=>obtain⟨t,rfl⟩:=r;rfl
 |iI _=>obtain⟨t,rfl⟩:=r;rfl
 |u5 _=>obtain⟨t,rfl⟩:=r;rfl
 |ref _=>cases r;rfl
 |ty _=>cases r;rfl
theorem wK{j pos'}(ha:PE X a ta):PC X .IsNot a (.Constant .none j pos') (Ql ta):=by
 intro pins s σ H Q I h;refine bf (ha pins s σ H _ I h) λv s1 ⟨x,H1,I1,r1,q1⟩=>?_;exact EX (isnot_none_gen ⟨.bl _,H1,I1,by rw[r1.XQ];rfl,q1⟩)
def tB(t:TE):TT:=λσ H Q=>t σ H λx H1=>∃c,x=.bl c/\Q c H1
theorem k4{op:qN}{t:TE}(h:PC X op a b t)(h1:tM op b=false:=by first|exact Ro _ (by decide) (by decide)|rfl):PT X (.Compare a [op] [b] pos) (tB t):=by
 intro pins s σ H Q I hw;refine YX (bf (h pins s σ H _ I hw) λv s1 h1=>bf h1 λu s2 h2=>bf h2 λc s3 ⟨x,H1,I1,r1,q1⟩=>?_) h1;obtain⟨d,rfl,q⟩:=q1;cases r1;exact n8 ⟨H1,I1,q⟩
theorem nO{t:TE}(h:PE X e t)(he:∀whole,zF e X.env whole=(do let v<-whole;zG e.pos;qJ [v] (truthy v)):=by intro z;rfl):PT X e (tB t):=by
 intro pins s σ H Q I hw;refine isTrue_plain (bf (h pins s σ H _ I hw) λv s1 ⟨x,H1,I1,r1,q1⟩=>?_) (he _);obtain⟨d,rfl,q⟩:=q1;cases r1;exact n8 ⟨H1,I1,q⟩
variable{tA tB':TT}{rest:List bE}
def L9(t u:TT):TT:=λσ H Q=>t σ H λc H1=>if c=true then u σ H1 Q else Q false H1
def Ui(t u:TT):TT:=λσ H Q=>t σ H λc H1=>if c=true then Q true H1 else u σ H1 Q
def N2(t:TT):TT:=λσ H Q=>t σ H λc H1=>Q (!c) H1
theorem DL(ha:PT X a tA):PW X (.BoolOp .And [a] pos) tA:=by
 intro wh pins s σ H Q I h;refine isTrue_and (bf (ha pins s σ H Q I h) λc s1 e=>?_);cases c with
 |true=>exact isTrue_and_nil e
 |false=>exact e
theorem sC(ha:PT X a tA):PW X (.BoolOp .Or [a] pos) tA:=by
 intro wh pins s σ H Q I h;refine isTrue_or (bf (ha pins s σ H Q I h) λc s1 e=>?_);cases c with
 |false=>exact isTrue_or_nil e
 |true=>exact e
theorem Dl(ha:PT X a tA)(hb:PW X (.BoolOp .And (b::rest) pos) tB'):PW X (.BoolOp .And (a::b::rest) pos) (L9 tA tB'):=by
 intro wh pins s σ H Q I h;refine isTrue_and (bf (ha pins s σ H _ I h) λc s1 ⟨H1,I1,q1⟩=>?_);cases c with
 |true=>exact hb wh pins s1 σ H1 Q I1 q1
 |false=>exact⟨H1,I1,q1⟩
theorem oZ(ha:PT X a tA)(hb:PW X (.BoolOp .Or (b::rest) pos) tB'):PW X (.BoolOp .Or (a::b::rest) pos) (Ui tA tB'):=by
 intro wh pins s σ H Q I h;refine isTrue_or (bf (ha pins s σ H _ I h) λc s1 ⟨H1,I1,q1⟩=>?_);cases c with
 |true=>exact⟨H1,I1,q1⟩
 |false=>exact hb wh pins s1 σ H1 Q I1 q1
theorem vi(ha:PT X a tA):PT X (.UnaryOp .Not a pos) (N2 tA):=by
 intro pins s σ H Q I h;exact isTrue_not (ha pins s σ H (λc H1=>Q (!c) H1) I h)
def VR(ta tb:TE):TE:=λσ H Q=>ta σ H λx H1=>∃c,x=.bl c/\if c=true then tb σ H1 Q else Q (.bl false) H1
theorem C5{op}{t:TE}(h:PE X a t):PE X (.BoolOp op [a] pos) t:=λpins s σ H Q I hw=>BoolOp_one (h pins s σ H Q I hw)
theorem Aa(ha:PE X a ta)(hb:PE X (.BoolOp .And (b::rest) pos) tb):PE X (.BoolOp .And (a::b::rest) pos) (VR ta tb):=by
 intro pins s σ H Q I h;refine BoolOp_and (bf (ha pins s σ H _ I h) λv s1 ⟨x,H1,I1,r1,q1⟩=>?_);obtain⟨c,rfl,q1⟩:=q1;cases r1;refine n8 ?_;cases c with
 |true=>exact hb pins s1 σ H1 Q I1 q1
 |false=>exact⟨.bl false,H1,I1,rfl,q1⟩
def Ws(t:TT)(ta tb:TE):TE:=λσ H Q=>t σ H λc H1=>if c=true then ta σ H1 Q else tb σ H1 Q
theorem D3{c:bE}(hc:PT X c tA)(ha:PE X a ta)(hb:PE X b tb):PE X (.IfExp c a b pos) (Ws tA ta tb):=by
 intro pins s σ H Q I h;refine wpAny_IfExp (bf (hc pins s σ H _ I h) λd s1 ⟨H1,I1,q1⟩=>?_);cases d with
 |true=>exact ha pins s1 σ H1 Q I1 q1
 |false=>exact hb pins s1 σ H1 Q I1 q1
end
def aj(K:aU)(H:Hp)(a:aa)(xs:List V):Prop:=Rd H a (.lst xs)\/
 ∃(o:bc)(its:Array af)(n:Nat),K.lookup a=some o/\o.cls=.type "list"/\o.dict=none/\o.data=.seq its n/\its.size<=sizeLine/\bD xs its.toList
def cv(K:aU)(H:Hp)(a:aa)(xs:List V):Prop:=Rd H a (.tup xs)\/
 ∃(o:bc)(its:Array af)(n:Nat),K.lookup a=some o/\o.cls=.type "tuple"/\o.data=.seq its n/\its.size<=sizeLine/\bD xs its.toList
def Sy:af->Option V
 | .none=>some .bI
 | .bool b=>some (.bl b)
 | .int i _=>some (.int i)
 | .str x _=>some (.str x)
 | .bytes b _=>some (.iI b)
 | .float b _=>some (.u5 b)
 | .ref a=>some (.ref a)
 | .type n=>some (.ty n)
 |_=>none
theorem RelV.abs{x:V}(r:RelV x u):Sy u=some x:=by
 cases x with
 |bI=>cases r;rfl
 |bl _=>cases r;rfl
 |int _=>obtain⟨t,rfl⟩:=r;rfl
 |str _=>obtain⟨t,rfl⟩:=r;rfl
 |iI _=>obtain⟨t,rfl⟩:=r;rfl
 |u5 _=>obtain⟨t,rfl⟩:=r;rfl
 |ref _=>cases r;rfl
 |ty _=>cases r;rfl
theorem RelV.inj{x y:V}(r:RelV x u)(q:RelV y u):x=y:=dQ (r.abs.symm.trans q.abs)
theorem bD.inj:∀{xs ys:List V}{us:List af},bD xs us->bD ys us->xs=ys
 |_,_,_,.nil,.nil=>rfl
 |_,_,_,.cons r t,.cons r' t'=>by rw[r.inj r',bD.inj t t']
section
variable{σ:St}{ys:List V}
theorem aj.of(h:H a=some (.lst xs)):aj K H a xs:=.inl (.inl h)
theorem cv.of(h:H a=some (.tup xs)):cv K H a xs:=.inl (.inl h)
theorem Inv.list(I:Inv X pins σ H s)(h:aj X.K H a xs):∃its:List af,bD xs its/\PlainL s.heap a its.toArray/\xs.length<=sizeLine:=by
 rcases h with h|⟨o,its,n,hk,hc,hd,hs,hz,r⟩
 .obtain⟨z,its,n,r,e⟩:=h.ok I.aW
  exact⟨its,r,⟨_,n,e,rfl,rfl,rfl⟩,z⟩
 .refine⟨its.toList,r,⟨o,n,I.iC a o hk,hc,hd,by simpa using hs⟩,?_⟩
  have e:=r.length;simp only[mr]at e;omega
theorem Inv.tuple(I:Inv X pins σ H s)(h:cv X.K H a xs):∃its:List af,bD xs its/\IsTup s.heap a its.toArray/\xs.length<=sizeLine:=by
 rcases h with h|⟨o,its,n,hk,hc,hs,hz,r⟩
 .obtain⟨z,its,r,p⟩:=h.ok I.aW
  exact⟨its,r,p,z⟩
 .refine⟨its.toList,r,⟨o,I.iC a o hk,hc,n,by simpa using hs⟩,?_⟩
  have e:=r.length;simp only[mr]at e;omega
theorem Inv.vf(I:Inv X pins σ H s)(h:aj X.K H a xs)(h':aj X.K H a ys):xs=ys:=by
 obtain⟨its,r,⟨o,n,e,z,z,d⟩,z⟩:=I.list h;obtain⟨its',r',⟨o',n',e',z,z,d'⟩,z⟩:=I.list h';rw[e]at e';cases e';rw[d]at d';injection d' with d1 _
 have:its=its':=by simpa using cq M2 d1
 subst this;exact r.inj r'
theorem Inv.VD(I:Inv X pins σ H s)(h:cv X.K H a xs)(h':cv X.K H a ys):xs=ys:=by
 obtain⟨its,r,⟨o,e,z,n,d⟩,z⟩:=I.tuple h;obtain⟨its',r',⟨o',e',z,n',d'⟩,z⟩:=I.tuple h';rw[e]at e';cases e';rw[d]at d';injection d' with d1 _
 have:its=its':=by simpa using cq M2 d1
 subst this;exact r.inj r'
end
abbrev Cx.mP(X:Cx)(E:af->aC->Prop):Cx:={X with xe:=E}
abbrev Cx.rP(X:Cx):Cx:=X.mP λz z=>False
theorem Cx.Ok.mP(ok:X.Ok)(E:af->aC->Prop):(X.mP E).Ok:=⟨ok.mod,ok.kind,ok.glob,ok.blt,ok.above,ok.inj,ok.has,ok.qx,ok.hd,ok.frames,ok.rG,ok.sr,ok.bs,ok.lX,ok.qj,ok.pW,ok.jH,ok.nB⟩
theorem Cx.Ok.oW(ok:(X.mP E).Ok):X.Ok:=⟨ok.mod,ok.kind,ok.glob,ok.blt,ok.above,ok.inj,ok.has,ok.qx,ok.hd,ok.frames,ok.rG,ok.sr,ok.bs,ok.lX,ok.qj,ok.pW,ok.jH,ok.nB⟩
section
variable{σ:St}
theorem Inv.mP(I:Inv X pins σ H s)(E:af->aC->Prop):Inv (X.mP E) pins σ H s:=⟨I.ok.mP E,I.os,I.bare,I.base,I.loc,I.cell,I.free,I.iL,I.pin,I.aW,I.len⟩
theorem Inv.oW(I:Inv (X.mP E) pins σ H s):Inv X pins σ H s:=⟨I.ok.oW,I.os,I.bare,I.base,I.loc,I.cell,I.free,I.iL,I.pin,I.aW,I.len⟩
theorem SP.oW{D:Ends}{f:Flow}{s':aC}(h:SP (X.mP E) pins D f s'):SP X pins D f s':=by
 cases f with
 |next=>obtain⟨σ',H',I,q⟩:=h;exact⟨σ',H',I.oW,q⟩
 |brk=>obtain⟨σ',H',I,q⟩:=h;exact⟨σ',H',I.oW,q⟩
 |cont=>obtain⟨σ',H',I,q⟩:=h;exact⟨σ',H',I.oW,q⟩
 |ret u=>obtain⟨v,σ',H',I,r,q⟩:=h;exact⟨v,σ',H',I.oW,r,q⟩
theorem hR.rP{st:List bq}{t:TS}(h:hR X.rP st t):hR X st t:=λpins s σ H D I hw=>jb (h pins s σ H D (I.mP _) hw) (λy y q=>q.oW) λy y z=>jd z
end
section
variable{st:bq}{rest:List bq}{t u:TS}
def Uu:TS:=λD σ H=>D.nx σ H
def Wl(t u:TS):TS:=λD σ H=>t {D with nx:=u D} σ H
theorem mF:hR X [] Uu:=λz z σ H z I h=>zH ⟨σ,H,I,h⟩
theorem aK(h1:PS X st t)(h2:hR X rest u):hR X (st::rest) (Wl t u):=by
 intro pins s σ H D I h;refine YY (bf (h1 pins s σ H {D with nx:=u D} I h) λf s1 q=>?_)
 cases f with
 |next=>
  obtain⟨σ',H',I',q⟩:=q;exact h2 pins s1 σ' H' D I' q
 |ret v=>exact q
 |brk=>exact q
 |cont=>exact q
theorem aX(h1:PS X st t):hR X [st] t:=by
 intro pins s σ H D I h;refine YY (bf (h1 pins s σ H D I h) λf s1 q=>?_);cases f with
 |next=>exact zH q
 |ret v=>exact q
 |brk=>exact q
 |cont=>exact q
theorem Inv.quiet{σ:St}(I:Inv X pins σ H s):interactive X.env=false:=by simp[interactive,I.ok.kind]
def HB(te:TE):TS:=λD σ H=>te σ H λz H1=>D.nx σ H1
theorem cG(he:PE X e te)(hs:zI e none pos.line X.env=pure false:=by rfl):PS X (.Expr e pos) (HB te):=by
 intro pins s σ H D I h;exact wpAny_Expr_any (bf (he pins s σ H _ I h) λv s1 ⟨x,H1,I1,r1,q1⟩=>⟨σ,H1,I1,q1⟩) I.quiet hs
def QE(te:TE):TS:=λD σ H=>te σ H D.rt
theorem bT(he:PE X e te):PS X (.Return (some e) pos) (QE te):=by
 intro pins s σ H D I h;exact wpAny_Return_some (bf (he pins s σ H _ I h) λv s1 ⟨x,H1,I1,r1,q1⟩=>⟨x,σ,H1,I1,r1,q1⟩)
def HP(c:TT)(t u:TS):TS:=λD σ H=>c σ H λb H1=>if b=true then t D σ H1 else u D σ H1
theorem kO{c:bE}{a b:List bq}{tc:TT}(hc:PT X c tc)(ha:hR X a t)(hb:hR X b u):PS X (.If c a b pos) (HP tc t u):=by
 intro pins s σ H D I h;refine wpAny_If (bf (hc pins s σ H _ I h) λd s1 ⟨H1,I1,q1⟩=>?_);cases d with
 |true=>exact ha pins s1 σ H1 D I1 q1
 |false=>exact hb pins s1 σ H1 D I1 q1
end
abbrev TG:=V->St->Hp->(St->Hp->Prop)->Prop
abbrev oM:=List V->St->Hp->(St->Hp->Prop)->Prop
def PG(X:Cx)(target:bE)(t:TG):Prop:=∀(pins:List (aa×bc))(s:aC)(σ:St)(H:Hp)(v:V)(u:af)(Q:St->Hp->Prop),Inv X pins σ H s->RelV v u->t v σ H Q->
 aJ (ba X.prog X.w) X.A (zJ target X.env u) (λz s'=>∃σ' H',Inv X pins σ' H' s'/\Q σ' H') X.xe s
def uA(X:Cx)(ts:List bE)(t:oM):Prop:=∀(pins:List (aa×bc))(s:aC)(σ:St)(H:Hp)(vs:List V)(us:List af)(Q:St->Hp->Prop),Inv X pins σ H s->bD vs us->t vs σ H Q->
 aJ (ba X.prog X.w) X.A (assignInOrder ((tN ts X.env).map (·.2)) us) (λz s'=>∃σ' H',Inv X pins σ' H' s'/\Q σ' H') X.xe s
abbrev Cf:=V->V->V->Hp->(Hp->Prop)->Prop
def Il(X:Cx)(t:Cf):Prop:=∀(pins:List (aa×bc))(s:aC)(σ:St)(H:Hp)(o i v:V)(ov iv u:af)(Q:Hp->Prop),Inv X pins σ H s->RelV o ov->RelV i iv->RelV v u->t o i v H Q->
 aJ (ba X.prog X.w) X.A (M3 ov iv u) (λz s'=>∃H',Inv X pins σ H' s'/\Q H') X.xe s
abbrev xO:=V->V->Hp->VK->Prop
def CP(X:Cx)(op:zK)(t:xO):Prop:=∀(pins:List (aa×bc))(s:aC)(σ:St)(H:Hp)(x y:V)(v u:af)(Q:VK),Inv X pins σ H s->RelV x v->RelV y u->t x y H Q->
 aJ (ba X.prog X.w) X.A (inplaceOp op v u) (EP X pins σ Q) X.xe s
def yq(i:Nat):TG:=λv σ H Q=>Q (σ.set i (some v)) H
theorem bY{i:Nat}(hN:X.N.Nodup)(hi:X.N[i]? =some x)(hx:Loc X.env.scope x)(hf:X.fn x=true\/X.env.scope.names.lookup x=some .local:=by first|exact .inl rfl|exact .inr rfl|assumption):PG X (.Name x pos) (yq i):=by
 intro pins s σ H v u Q I r h;exact YZ (Jd I hN hi hx r (λs' I'=>⟨_,H,I',h⟩) hf)
def Wd:oM:=λvs σ H Q=>vs=[]/\Q σ H
def V2(t:TG)(u:oM):oM:=λvs σ H Q=>∃v r,vs=v::r/\t v σ H λσ' H'=>u r σ' H' Q
theorem ji:uA X [] Wd:=by
 intro pins s σ H vs us Q I r h;obtain⟨e,h⟩:=h;subst e;cases r;exact assignInOrder_nil ⟨σ,H,I,h⟩
theorem dA{t:TG}{u:oM}(h1:PG X e t)(h2:uA X es u)(hs:(tN (e::es) X.env).map (·.2)=zJ e X.env::(tN es X.env).map (·.2):=by rfl):uA X (e::es) (V2 t u):=by
 intro pins s σ H vs us Q I r h;obtain⟨v,vr,e1,h⟩:=h;subst e1;cases r with
 |cons r rr=>
  rw[hs];refine assignInOrder_cons (bf (h1 pins s σ H _ _ _ I r h) λz s1 ⟨σ1,H1,I1,q1⟩=>?_);exact h2 pins s1 σ1 H1 _ _ Q I1 rr q1
def JQ(K:aU)(n:Nat)(t:oM):TG:=λv σ H Q=>∃a xs,v=.ref a/\cv K H a xs/\xs.length=n/\t xs σ H Q
theorem lS{k:Nat}{t:oM}(hc:X.calm=true)(h:uA X es t)(hn:(tN es X.env).length=n:=by rfl)(hst:(tN es X.env).findIdx? (·.1)=none:=by rfl):PG X (.Tuple es k pos) (JQ X.K n t):=by
 intro pins s σ H v u Q I r hw;obtain⟨a,xs,e1,hq,hl,hw⟩:=hw;subst e1;cases r;obtain⟨its,rv,ht,hz⟩:=I.tuple hq;refine assign_Tuple_tuple (I.ok.hd hc) ht (by simp[hn,<-hl,rv.length]) hst λh' hx=>?_
 have I1:Inv X pins σ H {s with heap:=h'}:=I.kept (t':=s.toks) λb o e=>hx b o (dM (cO e)) e
 exact h pins _ σ H xs _ Q I1 (by simpa using rv) hw
def GX(te:TE)(g:TG):TS:=λD σ H=>te σ H λx H1=>g x σ H1 D.nx
theorem bW{i:Nat}{pos':cI}(hN:X.N.Nodup)(hi:X.N[i]? =some x)(hx:Loc X.env.scope x)(he:PE X e te)(hs:zI e (some (.Name x pos')) pos.line X.env=pure false:=by rfl)(hf:X.fn x=true\/X.env.scope.names.lookup x=some .local:=by first|exact .inl rfl|exact .inr rfl|assumption):PS X (.Assign [.Name x pos'] e pos) (GX te (yq i)):=by
 intro pins s σ H D I h;refine wpAny_Assign_Name (bf (he pins s σ H _ I h) λv s1 ⟨y,H1,I1,r1,q1⟩=>?_) hs;exact Jd I1 hN hi hx r1 (λs2 I2=>⟨_,H1,I2,q1⟩) hf
def Qn(to ti te:TE)(tget:V->V->Hp->VK->Prop)(tip:xO)(tset:Cf):TS:=λD σ H=>to σ H λo H1=>ti σ H1 λi H2=>tget o i H2 λx H3=>te σ H3 λy H4=>tip x y H4 λz H5=>tset o i z H5 λH6=>D.nx σ H6
def Gn(X:Cx)(t:V->V->Hp->VK->Prop):Prop:=∀(pins:List (aa×bc))(s:aC)(σ:St)(H:Hp)(o i:V)(ov iv:af)(Q:VK),Inv X pins σ H s->RelV o ov->RelV i iv->t o i H Q->
 aJ (ba X.prog X.w) X.A (tO ov iv) (EP X pins σ Q) X.xe s
theorem jg{o i:bE}{to ti:TE}{tget:V->V->Hp->VK->Prop}{tip:xO}{tset:Cf}{op:zK}(ho:PE X o to)(hi:PE X i ti)(hg:Gn X tget)(he:PE X e te)(hp:CP X op tip)(hs:Il X tset)(ha:∀ov iv new,augStore i ov iv new=(do qJ [new,ov,iv] (M3 ov iv new);release [new,ov,iv] [];pure .next):=by intros;rfl):PS X (.AugAssign (.Subscript o i tpos) op e pos) (Qn to ti te tget tip tset):=by
 intro pins s σ H D I h;refine wpAny_AugAssign_SubscriptAny (bf (ho pins s σ H _ I h) λov s1 ⟨x1,H1,I1,r1,q1⟩=>?_) ha;refine bf (hi pins s1 σ H1 _ I1 q1) λiv s2 ⟨x2,H2,I2,r2,q2⟩=>?_;refine bf (hg pins s2 σ H2 x1 x2 ov iv _ I2 r1 r2 q2) λold s3 ⟨x3,H3,I3,r3,q3⟩=>?_;refine bf (he pins s3 σ H3 _ I3 q3) λv s4 ⟨x4,H4,I4,r4,q4⟩=>?_;refine bf (hp pins s4 σ H4 x3 x4 old v _ I4 r3 r4 q4) λnew s5 ⟨x5,H5,I5,r5,q5⟩=>?_;exact bf (hs pins s5 σ H5 x1 x2 x5 ov iv new _ I5 r1 r2 r5 q5) λ_ s6 ⟨H6,I6,q6⟩=>⟨σ,H6,I6,q6⟩
def Kk(f:Int->Int->Int):xO:=λx y H Q=>∃i j,x=.int i/\y=.int j/\Q (.int (f i j)) H
theorem nR:CP X .Add (Kk λi j=>i+j):=by
 intro pins s σ H x y v u Q I r1 r2 h;obtain⟨i,j,e1,e2,q⟩:=h;subst e1;subst e2;obtain⟨t,rfl⟩:=r1;obtain⟨t',rfl⟩:=r2;exact Y0 ⟨.int _,H,I.tok _,⟨_,rfl⟩,q⟩
theorem rM:CP X .Sub (Kk λi j=>i - j):=by
 intro pins s σ H x y v u Q I r1 r2 h;obtain⟨i,j,e1,e2,q⟩:=h;subst e1;subst e2;obtain⟨t,rfl⟩:=r1;obtain⟨t',rfl⟩:=r2;exact isub_int ⟨.int _,H,I.tok _,⟨_,rfl⟩,q⟩
def RE(c:TT)(tb:TS):TS:=λD σ H=>∃W:Nat->St->Hp->Prop,(∃m,W m σ H)/\∀m σ H,W m σ H->
 c σ H λb H1=>if b=true then∃N:St->Hp->Prop,(∀σ' H',N σ' H'->∃m',m'<m/\W m' σ' H')/\tb {D with nx:=N,ct:=N,bk:=D.nx} σ H1 else D.nx σ H1
theorem xQ{c:bE}{body:List bq}{tc:TT}{tb:TS}(hp:PassesOwn (ba X.prog X.w) X.A X.env X.xe)(hc:PT X c tc)(hb:hR X body tb):PS X (.While c body [] pos) (RE tc tb):=by
 intro pins s σ H D I h;obtain⟨W,⟨m0,w0⟩,turn⟩:=h;refine wpAny_While (codeAny_whileLoop (λn s'=>∃σ' H',Inv X pins σ' H' s'/\W n σ' H') ?_ m0 ⟨σ,H,I,w0⟩);rintro n s1 ⟨σ1,H1,I1,w1⟩;refine tP hp (bf (hc pins s1 σ1 H1 _ I1 (turn n σ1 H1 w1)) λb s2 ⟨H2,I2,q2⟩=>?_);cases b with
 |true=>
  obtain⟨N,hN,q2⟩:=q2;rw[ay rfl];refine tP hp (bf (hb pins s2 σ1 H2 _ I2 q2) λf s3 q3=>?_);cases f with
  |next=>
   obtain⟨σ3,H3,I3,n3⟩:=q3;obtain⟨m',hm,w3⟩:=hN σ3 H3 n3;exact⟨m',hm,σ3,H3,I3,w3⟩
  |cont=>
   obtain⟨σ3,H3,I3,n3⟩:=q3;obtain⟨m',hm,w3⟩:=hN σ3 H3 n3;exact⟨m',hm,σ3,H3,I3,w3⟩
  |brk=>exact q3
  |ret v=>exact q3
 |false=>
  rw[aq dH];exact zH ⟨σ1,H2,I2,q2⟩
structure It where
 go:Nat->Hp->Prop
 m7:Nat->Hp->V->Hp->Prop
 stop:Nat->Hp->Prop
def kH(X:Cx)(pins:List (aa×bc))(H:Hp)(b:aa):Prop:=H b=none/\b≠X.env.locals/\b∉X.fs/\(b∈X.ex\/X.gg.heap.objs.size<=b)/\(∀x c,X.env.cells.lookup x=some c->c≠b)/\∀p∈X.pn++pins,p.1≠b
theorem Inv.oy{σ:St}(I:Inv X pins σ H s)(hb:s.heap.objs.size<=b)(hn:H' b=none):kH X pins H' b:=by
 refine⟨hn,vY (ie I.lt hb),I.Vf hb,.inr (fi I.sz hb),λx c e z=>?_,λp hp z=>?_⟩
 .obtain⟨v,q⟩:=I.cell x c e
  exact absurd (ie q.lt (by rw[z];exact hb)) (kx _)
 .exact absurd (ie (cO (I.pin p hp).1) (by rw[z];exact hb)) (kx _)
structure Turn(P:bA)(w:bB)(K:aU)(tg:bE)(J:It)(fp:List aa)(it:aa)(tn:Nat->a9->Prop):Prop where
 mem:it∈fp
 obj:∀i h,tn i h->∀b∈fp,∃o,h.get? b=some o/\∀v,o.data≠.cell v
 keep:∀i h h',tn i h->(∀b∈fp,∀o,h.get? b=some o->h'.get? b=some o)->tn i h'
 item:∀(X:Cx),X.prog=P->X.w=w->X.K=K->X.calm=true->∀(i:Nat)(pins:List (aa×bc))(s:aC)(σ:St)(H:Hp)(E:af->aC->Prop),Inv X pins σ H s->(∀b∈fp,kH X pins H b)->tn i s.heap->J.go i H->
  aJ (ba P w) X.A (iS (.ref it)) (λr s1=>∃u,r=some u/\aJ (ba P w) X.A (EY tg (.ref it) u) (λz s2=>∃x H',Inv X pins σ H' s2/\RelV x u/\J.m7 i H x H'/\tn (i+1) s2.heap/\∀b∈fp,H' b=none) E s1) E s
 done:∀(X:Cx),X.prog=P->X.w=w->X.K=K->X.calm=true->∀(i:Nat)(pins:List (aa×bc))(s:aC)(σ:St)(H:Hp)(E:af->aC->Prop),Inv X pins σ H s->(∀b∈fp,kH X pins H b)->tn i s.heap->J.stop i H->
  aJ (ba P w) X.A (iS (.ref it)) (λr s1=>r=none/\Inv X pins σ H s1) E s
 self:∀(A:d9)(i:Nat)(s:aC)(Q:af->aC->Prop)(E:af->aC->Prop),tn i s.heap->Q (.ref it) s->aJ (ba P w) A (qO (.ref it)) Q E s
abbrev TI:=St->Hp->(It->Hp->Prop)->Prop
def sA(X:Cx)(pins:List (aa×bc))(σ:St)(tg:bE)(R:It->Hp->Prop)(itv:af)(s2:aC):Prop:=∃(it:aa)(fp:List aa)(tn:Nat->a9->Prop)(J:It)(H':Hp),itv=.ref it/\Inv X pins σ H' s2/\Turn X.prog X.w X.K tg J fp it tn/\tn 0 s2.heap/\(∀b∈fp,kH X pins H' b)/\R J H'
def PI(X:Cx)(tg iter:bE)(wi:TI):Prop:=∀(pins:List (aa×bc))(s:aC)(σ:St)(H:Hp)(R:It->Hp->Prop),Inv X pins σ H s->wi σ H R->
 aJ (ba X.prog X.w) X.A (bP iter X.env) (λv s1=>aJ (ba X.prog X.w) X.A (qO v) (sA X pins σ tg R) X.xe s1) X.xe s
theorem pT{M:tH}{it:aa}{n:String}{vs:Array af}{Q:Unit->aC->Prop}(ho:s.heap.get? it=some o)(hc:o.cls=.type n)(hd:o.data=.fields vs)(hn:["enumerate","zip","dict_itemiterator","dict_reverseitemiterator","odict_iterator","itertools.zip_longest","itertools.pairwise"].contains n=false)(hQ:Q () s):aJ M A (EY tg (.ref it) u) Q E s:=by
 unfold EY;cases tg<;>first
  |exact br hQ
  |(cases u<;>first
     |exact br hQ
     |(refine az (wpAny_load ho ?_)
       rw[hc,hd];show aJ M A (if(["enumerate","zip","dict_itemiterator","dict_reverseitemiterator","odict_iterator","itertools.zip_longest","itertools.pairwise"].contains n&&vs[0]? ==some (ny _))=true then _ else _) Q E s;rw[aq (by intro h;rw[hn,vZ]at h;cases h)]
       exact br hQ))
def Ah(K:aU)(a:aa):It:=⟨λi H=>∃xs x,aj K H a xs/\xs[i]? =some x,λi H x H'=>H'=H/\∀xs,aj K H a xs->xs[i]? =some x,λi H=>∃xs,aj K H a xs/\xs.length<=i⟩
def C2(K:aU)(a:aa):It:=⟨λi H=>∃xs x,cv K H a xs/\xs[i]? =some x,λi H x H'=>H'=H/\∀xs,cv K H a xs->xs[i]? =some x,λi H=>∃xs,cv K H a xs/\xs.length<=i⟩
def xY(lo:Int)(n:Nat):It:=⟨λi z=>i<n,λi H x H'=>H'=H/\x=.int (lo+i),λi z=>n<=i⟩
theorem Rg(a it:aa):Turn P w K tg (Ah K a) [it] it (λi h=>h.IsListIter it a i) where
 mem:=by simp
 obj:=λi h st b hb=>by
  have e:b=it:=by simpa using hb
  subst e;obtain⟨o,e,c,d⟩:=st;exact⟨o,e,λv z=>by rw[d]at z;cases z⟩
 keep:=λi h h' st k=>st.at λo e=>k it (by simp) o e
 item:=by
  intro X hP hw hK hc i pins s σ H E I hf st hg;subst hP hw hK;obtain⟨xs,x,hq,hx⟩:=hg;obtain⟨its,rv,p,hz⟩:=I.list hq;obtain⟨u,hu,ru⟩:=rv.get hx;obtain⟨f0,f1,f2,f3,f4,f5⟩:=hf it (by simp)
  refine wpAny_pyNext_list_item st p.isList (x:=u) (by simpa using hu) λh' st' sb=>?_
  have I1:Inv X pins σ H {s with heap:=h'}:=I.turned (t':=s.toks) (λb o hb e=>(sb.2 b hb).trans e) f0 f1 f3 f4 f5
  obtain⟨o,e,c,d⟩:=id st';exact⟨u,rfl,pT (s:={s with heap:=h'}) e c d (by decide) ⟨x,H,I1,ru,⟨rfl,λys hy=>by rw[I.vf hy hq];exact hx⟩,st',λb hb=>(hf b hb).1⟩⟩
 done:=by
  intro X hP hw hK hc i pins s σ H E I hf st hg;subst hP hw hK;obtain⟨xs,hq,hx⟩:=hg;obtain⟨its,rv,p,hz⟩:=I.list hq;obtain⟨f0,f1,f2,f3,f4,f5⟩:=hf it (by simp)
  have hl:=rv.length;exact wpAny_pyNext_list_end (I.ok.hd hc) st p.isList (by simp;omega) λh' eb=>⟨rfl,I.turned (t':=s.toks) (λb o hb e=>eb b o hb e) f0 f1 f3 f4 f5⟩
 self:=λy y y y y st h=>wpAny_pyIter_listiter st h
theorem Ud(a it:aa):Turn P w K tg (C2 K a) [it] it (λi h=>h.IsTupleIter it a i) where
 mem:=by simp
 obj:=λi h st b hb=>by
  have e:b=it:=by simpa using hb
  subst e;obtain⟨o,e,c,d⟩:=st;exact⟨o,e,λv z=>by rw[d]at z;cases z⟩
 keep:=λi h h' st k=>st.at λo e=>k it (by simp) o e
 item:=by
  intro X hP hw hK hc i pins s σ H E I hf st hg;subst hP hw hK;obtain⟨xs,x,hq,hx⟩:=hg;obtain⟨its,rv,p,hz⟩:=I.tuple hq;obtain⟨u,hu,ru⟩:=rv.get hx;obtain⟨f0,f1,f2,f3,f4,f5⟩:=hf it (by simp)
  refine wpAny_pyNext_tuple_item st (show s.heap.IsTuple a its.toArray from p) (x:=u) (by simpa using hu) λh' st' sb=>?_
  have I1:Inv X pins σ H {s with heap:=h'}:=I.turned (t':=s.toks) (λb o hb e=>(sb.2 b hb).trans e) f0 f1 f3 f4 f5
  obtain⟨o,e,c,d⟩:=id st';exact⟨u,rfl,pT (s:={s with heap:=h'}) e c d (by decide) ⟨x,H,I1,ru,⟨rfl,λys hy=>by rw[I.VD hy hq];exact hx⟩,st',λb hb=>(hf b hb).1⟩⟩
 done:=by
  intro X hP hw hK hc i pins s σ H E I hf st hg;subst hP hw hK;obtain⟨xs,hq,hx⟩:=hg;obtain⟨its,rv,p,hz⟩:=I.tuple hq;obtain⟨f0,f1,f2,f3,f4,f5⟩:=hf it (by simp)
  have hl:=rv.length;exact wpAny_pyNext_tuple_end (I.ok.hd hc) st (show s.heap.IsTuple a its.toArray from p) (by simp;omega) λh' eb=>⟨rfl,I.turned (t':=s.toks) (λb o hb e=>eb b o hb e) f0 f1 f3 f4 f5⟩
 self:=λy y y y y st h=>wpAny_pyIter_tupleiter st h
theorem Qs(it:aa)(lo:Int)(n:Nat):Turn P w K tg (xY lo n) [it] it (λi h=>IsRangeIter h it (lo+(i:Nat)*1) ((n:Int) - (i:Nat)) 1) where
 mem:=by simp
 obj:=λi h st b hb=>by
  have e:b=it:=by simpa using hb
  subst e
  exact⟨_,st,λv z=>by
   have z':Data.fields _=Data.cell v:=z
   cases z'⟩
 keep:=λi h h' st k=>k it (by simp) _ st
 item:=by
  intro X hP hw hK hc i pins s σ H E I hf st hg;subst hP hw hK;obtain⟨f0,f1,f2,f3,f4,f5⟩:=hf it (by simp)
  have W:=Walks.range (prog:=X.prog) (w:=X.w) (I.ok.hd hc) it lo 1 n;refine W.item i s _ _ hg st λv h' tk hv st' kk=>?_;obtain⟨t,rfl⟩:=hv;have I1:Inv X pins σ H {s with heap:=h',toks:=tk}:=I.turned (λb o hb e=>kk b o (by simpa using hb) e) f0 f1 f3 f4 f5
  refine⟨_,rfl,pT (s:={s with heap:=h',toks:=tk}) (n:="range_iterator") st' rfl rfl (by decide) ⟨.int (lo+i),H,I1,⟨t,?_⟩,⟨rfl,rfl⟩,st',λb hb=>(hf b hb).1⟩⟩
  rw[Int.mul_one]
 done:=by
  intro X hP hw hK hc i pins s σ H E I hf st hg;subst hP hw hK;obtain⟨f0,f1,f2,f3,f4,f5⟩:=hf it (by simp)
  exact wpAny_pyNext_range_end (I.ok.hd hc) st (by have:n<=i:=hg;omega) λh' eb=>⟨rfl,I.turned (t':=s.toks) (λb o hb e=>eb b o hb e) f0 f1 f3 f4 f5⟩
 self:=λy y y y y st h=>wpAny_pyIter_rangeiter st h
def Kh(K:aU)(tl:TE):TI:=λσ H R=>tl σ H λx H1=>∃a,x=.ref a/\(∃xs,aj K H1 a xs)/\R (Ah K a) H1
def Vy(K:aU)(tl:TE):TI:=λσ H R=>tl σ H λx H1=>∃a,x=.ref a/\(∃xs,cv K H1 a xs)/\R (C2 K a) H1
theorem fH{l:bE}{tl:TE}(hl:PE X l tl):PI X tg l (Kh X.K tl):=by
 intro pins s σ H R I h;refine bf (hl pins s σ H _ I h) λv s1 ⟨x,H1,I1,r1,q1⟩=>?_;obtain⟨a,e,⟨xs,hq⟩,q⟩:=q1;subst e;cases r1;obtain⟨its,rv,p,hz⟩:=I1.list hq;refine zC p.isList ?_;refine⟨s1.heap.objs.size,[s1.heap.objs.size],_,_,H1,rfl,I1.kept (t':=s1.toks) λb o e=>dB _ e,Rg a _,⟨_,dW _ rfl,rfl,rfl⟩,λb hb=>?_,q⟩;have e:b=s1.heap.objs.size:=by simpa using hb
 subst e;exact I1.oy (bK _) (I1.aW.fresh (bK _))
theorem WE{l:bE}{tl:TE}(hl:PE X l tl):PI X tg l (Vy X.K tl):=by
 intro pins s σ H R I h;refine bf (hl pins s σ H _ I h) λv s1 ⟨x,H1,I1,r1,q1⟩=>?_;obtain⟨a,e,⟨xs,hq⟩,q⟩:=q1;subst e;cases r1;obtain⟨its,rv,p,hz⟩:=I1.tuple hq;refine wpAny_pyIter_tuple (show s1.heap.IsTuple a its.toArray from p) ?_;refine⟨s1.heap.objs.size,[s1.heap.objs.size],_,_,H1,rfl,I1.kept (t':=s1.toks) λb o e=>dB _ e,Ud a _,⟨_,dW _ rfl,rfl,rfl⟩,λb hb=>?_,q⟩;have e:b=s1.heap.objs.size:=by simpa using hb
 subst e;exact I1.oy (bK _) (I1.aW.fresh (bK _))
theorem Pk{σ:St}{R:It->Hp->Prop}{lo hi:Int}{t u v:jR}{tk:Nat}(I:Inv X pins σ H s)(h1: -(2^62)<=lo)(h2:lo<2^62)(h3: -(2^62)<=hi)(h4:hi<2^62)(q:R (xY lo (hi - lo).toNat) H):aJ (ba X.prog X.w) X.A (qO (.ref s.heap.objs.size)) (sA X pins σ tg R) E {s with heap:=s.heap.push {cls:=.type "range",data:=.fields #[.int lo t,.int hi u,.int 1 v]},toks:=tk}:=by
 refine wpAny_pyIter_range (IsRange.new ..) (small_one h1 h2 h3 h4) ?_;have I1:Inv X pins σ H {s with heap:=s.heap.push {cls:=.type "range",data:=.fields #[.int lo t,.int hi u,.int 1 v]},toks:=tk}:=I.kept λb o e=>dB _ e
 refine⟨(s.heap.push {cls:=.type "range",data:=.fields #[.int lo t,.int hi u,.int 1 v]}).objs.size,[(s.heap.push {cls:=.type "range",data:=.fields #[.int lo t,.int hi u,.int 1 v]}).objs.size],_,_,H,rfl,I1.kept (t':=tk) λb o e=>dB _ e,Qs _ lo (hi - lo).toNat,?_,λb hb=>?_,q⟩
 .have e1:lo+((0:Nat):Int)*1=lo:=by simp
  have e2:(((hi - lo).toNat:Nat):Int) - ((0:Nat):Int)=aay lo hi 1:=by rw[rangeSize_one];split<;>omega
  show IsRangeIter _ _ (lo+((0:Nat):Int)*1) ((((hi - lo).toNat:Nat):Int) - ((0:Nat):Int)) 1;rw[e1,e2];exact dW _ rfl
 .have e:b=(s.heap.push {cls:=.type "range",data:=.fields #[.int lo t,.int hi u,.int 1 v]}).objs.size:=by simpa using hb
  subst e;exact I1.oy (bK _) (I1.aW.fresh (bK _))
def WZ(ta:TA):TI:=λσ H R=>ta σ H λvs H1=>∃j:Int,vs=[.int j]/\ -(2^62)<=j/\j<2^62/\R (xY 0 j.toNat) H1
theorem JI{a:bE}{ta:TA}{p:cI}(hg:Gl X "range")(hm:X.mg "range"=none)(ha:PA X [a] ta)(hs:cn [a] X.env=[(false,bP a X.env)]:=by rfl):PI X tg (.Call (.Name "range" p) [a] [] pos) (WZ ta):=by
 intro pins s σ H R I h;refine Call_ (o3 I hg hm boot_range (EZ (bf (ha pos pins s σ H _ I h) λus s1 ⟨vs,H1,I1,r1,q1⟩=>?_) hs rfl));obtain⟨j,e,q1,q2,q⟩:=q1;subst e;cases r1 with
 |cons r rr=>
  cases rr;obtain⟨t,rfl⟩:=r;exact call_range_1 (Pk I1 (by omega) (by omega) q1 q2 (by simpa using q))
def Ol(wi:TI)(g:TG)(tb:TS):TS:=λD σ H=>wi σ H λJ H1=>∃W:Nat->Nat->St->Hp->Prop,(∃m,W 0 m σ H1)/\∀i m σ H,W i m σ H->
 (J.stop i H/\D.nx σ H)\/(J.go i H/\∃N:St->Hp->Prop,(∀σ' H',N σ' H'->∃m',m'<m/\W (i+1) m' σ' H')/\∀x H',J.m7 i H x H'->g x σ H' λσ2 H2=>tb {D with nx:=N,ct:=N,bk:=D.nx} σ2 H2)
def vy(fp:List aa)(h:a9):List (aa×bc):=fp.filterMap λb=>(h.get? b).map λo=>(b,o)
theorem DW{fp:List aa}(hb:b∈fp)(e:h.get? b=some o):(b,o)∈vy fp h:=E6.mpr ⟨b,hb,by rw[e];rfl⟩
theorem Xx{fp:List aa}{p:aa×bc}(hp:p∈vy fp h):p.1∈fp/\h.get? p.1=some p.2:=by
 obtain⟨b,hb,e⟩:=E6.mp hp;cases q:h.get? b with
 |none=>rw[q]at e;cases e
 |some o=>
  rw[q]at e;have e':(b,o)=p:=dQ e;subst e';exact⟨hb,q⟩
theorem Inv.pinned{σ:St}{fp:List aa}(I:Inv X pins σ H s)(hf:∀b∈fp,kH X pins H b)(ho:∀b∈fp,∃o,s.heap.get? b=some o/\∀v,o.data≠.cell v):Inv X (pins++vy fp s.heap) σ H s:=I.Ll λp hp=>(b6.mp hp).elim (λz=>I.pin p (cP _ z)) λz=>by
 obtain⟨hb,e⟩:=Xx z;obtain⟨f0,f1,f2,y⟩:=hf p.1 hb;obtain⟨o,e',d⟩:=ho p.1 hb;rw[e]at e';cases e';exact⟨e,f0,f1,f2,d⟩
theorem Inv.xG{pl:List (aa×bc)}{σ:St}(I:Inv X (pins++pl) σ H s):Inv X pins σ H s:=I.Ll λp hp=>I.pin p (cP _ (fq _ hp))
theorem g7{iter:bE}{body:List bq}{wi:TI}{g:TG}{tb:TS}(hp:PassesOwn (ba X.prog X.w) X.A X.env X.xe)(hc:X.calm=true)(hi:PI X tg iter wi)(hg:PG X tg g)(hb:hR X body tb)(hs:∀x,E7 iter X.env x=pure x:=by intro _;rfl):PS X (.For tg iter body [] pos) (Ol wi g tb):=by
 intro pins s σ H D I h;refine wpAny_For (bf (hi pins s σ H _ I h) λv s1 h1=>bf h1 λitv s2 h2=>?_) hs;obtain⟨it,fp,tn,J,H2,e,I2,T,st2,f2,W,⟨m0,w0⟩,turn⟩:=h2;subst e;have stat:∀{H':Hp},(∀b∈fp,H' b=none)->∀b∈fp,kH X pins H' b:=λhn b hb=>⟨hn b hb,(f2 b hb).2⟩;refine codeAny_forLoop_any (λn s'=>∃i σ' H',Inv X pins σ' H' s'/\tn i s'.heap/\(∀b∈fp,H' b=none)/\W i n σ' H') ?_ m0 ⟨0,σ,H2,I2,st2,λb hb=>(f2 b hb).1,w0⟩;rintro n s3 ⟨i,σ3,H3,I3,st3,fr3,w3⟩;rcases turn i n σ3 H3 w3 with⟨stop,qn⟩|⟨go,N,hN,step⟩
 .refine tP hp (bf (T.done X rfl rfl rfl hc i pins s3 σ3 H3 X.xe I3 (stat fr3) st3 stop) λr s4 ⟨hr,I4⟩=>?_)
  subst hr;exact zH ⟨σ3,H3,I4,qn⟩
 .refine tP hp (bf (T.item X rfl rfl rfl hc i pins s3 σ3 H3 X.xe I3 (stat fr3) st3 go) λr s4 ⟨u,hr,h4⟩=>?_)
  subst hr;refine tP hp (bf h4 λ_ s5 ⟨x,H5,I5,r5,y5,st5,fr5⟩=>?_);have I5':=I5.pinned (stat fr5) (T.obj _ _ st5);refine tP hp (bf (hg _ s5 σ3 H5 x u _ I5' r5 (step x H5 y5)) λ_ s6 ⟨σ6,H6,I6,q6⟩=>?_);refine tP hp (bf (hb _ s6 σ6 H6 _ I6 q6) λf s7 q7=>?_);have again:∀{σ7:St}{H7:Hp},Inv X (pins++vy fp s5.heap) σ7 H7 s7->N σ7 H7->∃m,m<n/\∃i σ' H',Inv X pins σ' H' s7/\tn i s7.heap/\(∀b∈fp,H' b=none)/\W i m σ' H':=λ{σ7 H7} I7 n7=>by
   obtain⟨m',hm,w7⟩:=hN σ7 H7 n7;refine⟨m',hm,i+1,σ7,H7,I7.xG,T.keep _ _ _ st5 λb hb o e=>(I7.pin (b,o) (cP _ (cP _ (DW hb e)))).1,λb hb=>?_,w7⟩;obtain⟨o,e,d⟩:=T.obj _ _ st5 b hb;exact(I7.pin (b,o) (cP _ (cP _ (DW hb e)))).2.1
  cases f with
  |next=>obtain⟨σ7,H7,I7,n7⟩:=q7;exact again I7 n7
  |cont=>obtain⟨σ7,H7,I7,n7⟩:=q7;exact again I7 n7
  |brk=>obtain⟨σ7,H7,I7,q7⟩:=q7;exact⟨σ7,H7,I7.xG,q7⟩
  |ret v=>obtain⟨x7,σ7,H7,I7,r7,q7⟩:=q7;exact⟨x7,σ7,H7,I7.xG,r7,q7⟩
abbrev R2:=V->V->Hp->VK->Prop
def gn(X:Cx)(f:af->af->jc af)(r:R2):Prop:=∀(pins:List (aa×bc))(s:aC)(σ:St)(H:Hp)(x y:V)(v u:af)(Q:VK),Inv X pins σ H s->RelV x v->RelV y u->r x y H Q->
 aJ (ba X.prog X.w) X.A (f v u) (EP X pins σ Q) X.xe s
def AN(X:Cx)(f:af->jc af)(r:V->Hp->VK->Prop):Prop:=∀(pins:List (aa×bc))(s:aC)(σ:St)(H:Hp)(x:V)(v:af)(Q:VK),Inv X pins σ H s->RelV x v->r x H Q->
 aJ (ba X.prog X.w) X.A (f v) (EP X pins σ Q) X.xe s
def iB(X:Cx)(f:af)(r:List V->Hp->VK->Prop):Prop:=∀(pins:List (aa×bc))(s:aC)(σ:St)(H:Hp)(xs:List V)(us:List af)(Q:VK),Inv X pins σ H s->bD xs us->r xs H Q->
 aJ (ba X.prog X.w) X.A (fO f us) (EP X pins σ Q) X.xe s
def nJ(r:R2)(ta tb:TE):TE:=λσ H Q=>ta σ H λx H1=>tb σ H1 λy H2=>r x y H2 Q
def WV(r:V->Hp->VK->Prop)(ta:TE):TE:=λσ H Q=>ta σ H λx H1=>r x H1 Q
def lY(g:Int->Int->V):R2:=λx y H Q=>∃i j,x=.int i/\y=.int j/\Q (g i j) H
def rU(g:Int->V):V->Hp->VK->Prop:=λx H Q=>∃i,x=.int i/\Q (g i) H
section
variable{a b c:bE}{ta tb tc:TE}
theorem Dx(ha:PE X a ta)(hb:PE X b tb){σ:St}{R:V->V->Hp->Prop}(I:Inv X pins σ H s)(h:ta σ H λx H1=>tb σ H1 λy H2=>R x y H2){f:af->af->jc af}(hf:∀v u s2 x y H2,Inv X pins σ H2 s2->RelV x v->RelV y u->R x y H2->aJ (ba X.prog X.w) X.A (f v u) Q X.xe s2):aJ (ba X.prog X.w) X.A (bP a X.env) (λv s₁=>aJ (ba X.prog X.w) X.A (bP b X.env) (λu s₂=>aJ (ba X.prog X.w) X.A (f v u) Q X.xe s₂) X.xe s₁) X.xe s:=by
 refine bf (ha pins s σ H _ I h) λv s1 ⟨x,H1,I1,r1,q1⟩=>?_;refine bf (hb pins s1 σ H1 _ I1 q1) λu s2 ⟨y,H2,I2,r2,q2⟩=>?_;exact hf v u s2 x y H2 I2 r1 r2 q2
theorem eG{op:zK}{r:R2}(ho:gn X (zL op) r)(ha:PE X a ta)(hb:PE X b tb):PE X (.BinOp a op b pos) (nJ r ta tb):=by
 intro pins s σ H Q I h;exact wpAny_BinOp (Dx ha hb I h λv u s2 x y H2 I2 rx ry q=>ho pins s2 σ H2 x y v u Q I2 rx ry q)
theorem mZ{op:UnaryOp}{r:V->Hp->VK->Prop}(ho:AN X (unaryOp op) r)(ha:PE X a ta):PE X (.UnaryOp op a pos) (WV r ta):=by
 intro pins s σ H Q I h;exact UnaryOp_ (bf (ha pins s σ H _ I h) λv s1 ⟨x,H1,I1,r1,q1⟩=>ho pins s1 σ H1 x v Q I1 r1 q1)
theorem G7{f:af->af->jc af}{g:Int->Int->Int}(rule:∀(i j:Int)(t u:jR)(s:aC)(Q:af->aC->Prop)(E:af->aC->Prop),Q (.int (g i j) s.toks) {s with toks:=s.toks+1}->aJ (ba X.prog X.w) X.A (f (.int i t) (.int j u)) Q E s):gn X f (lY λi j=>.int (g i j)):=by
 intro pins s σ H x y v u Q I rx ry h;obtain⟨i,j,rfl,rfl,q⟩:=h;obtain⟨t,rfl⟩:=rx;obtain⟨t',rfl⟩:=ry;exact rule i j t t' s _ _ ⟨.int (g i j),H,I.tok _,⟨_,rfl⟩,q⟩
theorem xm{f:af->af->jc af}{g:Int->Int->Bool}(rule:∀(i j:Int)(t u:jR)(s:aC)(Q:af->aC->Prop)(E:af->aC->Prop),Q (.bool (g i j)) s->aJ (ba X.prog X.w) X.A (f (.int i t) (.int j u)) Q E s):gn X f (lY λi j=>.bl (g i j)):=by
 intro pins s σ H x y v u Q I rx ry h;obtain⟨i,j,rfl,rfl,q⟩:=h;obtain⟨t,rfl⟩:=rx;obtain⟨t',rfl⟩:=ry;exact rule i j t t' s _ _ ⟨.bl (g i j),H,I,rfl,q⟩
theorem mx:gn X (zL .Add) (lY λi j=>.int (i+j)):=G7 λz z z z z z z q=>add_int q
theorem uC:gn X (zL .Sub) (lY λi j=>.int (i - j)):=G7 λz z z z z z z q=>sub_int q
theorem OW{f:af->jc af}{g:Int->Int}(rule:∀(i:Int)(t:jR)(s:aC)(Q:af->aC->Prop)(E:af->aC->Prop),Q (.int (g i) s.toks) {s with toks:=s.toks+1}->aJ (ba X.prog X.w) X.A (f (.int i t)) Q E s):AN X f (rU λi=>.int (g i)):=by
 intro pins s σ H x v Q I rx h;obtain⟨i,rfl,q⟩:=h;obtain⟨t,rfl⟩:=rx;exact rule i t s _ _ ⟨.int (g i),H,I.tok _,⟨_,rfl⟩,q⟩
theorem mE:AN X (unaryOp .USub) (rU λi=>.int (-i)):=OW λz z z z z q=>neg_int q
end
def yZ:V->V->Bool
 | .bI,.bI=>true| .bI,.int _=>true| .int _,.bI=>true| .bI,.bl _=>true| .bl _,.bI=>true| .bI,.str _=>true| .str _,.bI=>true
 | .int _,.int _=>true| .bl _,.bl _=>true| .str _,.str _=>true| .iI _,.iI _=>true
 | .int _,.str _=>true| .str _,.int _=>true| .bl _,.str _=>true| .str _,.bl _=>true
 |_,_=>false
def Cr:R2:=λx y H Q=>yZ x y=true/\Q (.bl (decide (x=y))) H
def Uh:R2:=λx y H Q=>yZ x y=true/\Q (.bl (!decide (x=y))) H
theorem IF{i j:Int}:decide (V.int i=V.int j)=(i==j):=by
 rw[lu];simp
theorem Ii{i j:Bool}:decide (V.bl i=V.bl j)=(i==j):=by
 rw[lu];simp
theorem Lo{i j:ae}:decide (V.str i=V.str j)=(i==j):=by
 rw[lu];simp
theorem L7{i j:Array UInt8}:decide (V.iI i=V.iI j)=(i.toList==j.toList):=by
 rw[lu];cases i;cases j;simp
section
variable{a b c:bE}{ta tb tc:TE}
theorem dX{σ:St}{Q:VK}{k k':Bool}(I:Inv X pins σ H s)(q:Q (.bl k) H)(e:k=k'):EP X pins σ Q (.bool k') s:=by
 subst e;exact⟨.bl k,H,I,rfl,q⟩
theorem iX:gn X (iT .Eq) Cr:=by
 intro pins s σ H x y v u Q I rx ry h;obtain⟨hs,q⟩:=h;cases x with
 |bI=>
  cases rx;cases y with
  |bI=>cases ry;exact aaz (dX I q (by simp))
  |bl j=>cases ry;exact aaA (dX I q (by simp))
  |int j=>obtain⟨t',rfl⟩:=ry;exact aaB (dX I q (by simp))
  |str j=>obtain⟨t',rfl⟩:=ry;exact aaC (dX I q (by simp))
  |_=>exact absurd (show false=true from hs) dH
 |bl i=>
  cases rx;cases y with
  |bI=>cases ry;exact aaD (dX I q (by simp))
  |bl j=>cases ry;exact eq_bool (dX I q Ii)
  |str j=>obtain⟨t',rfl⟩:=ry;exact aaE (dX I q (by simp))
  |_=>exact absurd (show false=true from hs) dH
 |int i=>
  obtain⟨t,rfl⟩:=rx;cases y with
  |bI=>cases ry;exact aaF (dX I q (by simp))
  |int j=>obtain⟨t',rfl⟩:=ry;exact eq_int (dX I q IF)
  |str j=>obtain⟨t',rfl⟩:=ry;exact aaG (dX I q (by simp))
  |_=>exact absurd (show false=true from hs) dH
 |str i=>
  obtain⟨t,rfl⟩:=rx;cases y with
  |bI=>cases ry;exact aaH (dX I q (by simp))
  |bl j=>cases ry;exact aaI (dX I q (by simp))
  |int j=>obtain⟨t',rfl⟩:=ry;exact aaJ (dX I q (by simp))
  |str j=>obtain⟨t',rfl⟩:=ry;exact eq_str (dX I q Lo)
  |_=>exact absurd (show false=true from hs) dH
 |iI i=>
  obtain⟨t,rfl⟩:=rx;cases y with
  |iI j=>obtain⟨t',rfl⟩:=ry;exact PySem.W.eq_bytes (dX I q L7)
  |_=>exact absurd (show false=true from hs) dH
 |_=>cases y<;>exact absurd (show false=true from hs) dH
theorem nH:gn X (iT .NotEq) Uh:=by
 intro pins s σ H x y v u Q I rx ry h;obtain⟨hs,q⟩:=h;cases x with
 |bI=>
  cases rx;cases y with
  |bI=>cases ry;exact aaK (dX I q (by simp))
  |bl j=>cases ry;exact aaL (dX I q (by simp))
  |int j=>obtain⟨t',rfl⟩:=ry;exact aaM (dX I q (by simp))
  |str j=>obtain⟨t',rfl⟩:=ry;exact aaN (dX I q (by simp))
  |_=>exact absurd (show false=true from hs) dH
 |bl i=>
  cases rx;cases y with
  |bI=>cases ry;exact aaO (dX I q (by simp))
  |bl j=>cases ry;exact ne_bool (dX I q (cq not Ii))
  |str j=>obtain⟨t',rfl⟩:=ry;exact aaP (dX I q (by simp))
  |_=>exact absurd (show false=true from hs) dH
 |int i=>
  obtain⟨t,rfl⟩:=rx;cases y with
  |bI=>cases ry;exact aaQ (dX I q (by simp))
  |int j=>obtain⟨t',rfl⟩:=ry;exact ne_int (dX I q (cq not IF))
  |str j=>obtain⟨t',rfl⟩:=ry;exact aaR (dX I q (by simp))
  |_=>exact absurd (show false=true from hs) dH
 |str i=>
  obtain⟨t,rfl⟩:=rx;cases y with
  |bI=>cases ry;exact aaS (dX I q (by simp))
  |bl j=>cases ry;exact aaT (dX I q (by simp))
  |int j=>obtain⟨t',rfl⟩:=ry;exact aaU (dX I q (by simp))
  |str j=>obtain⟨t',rfl⟩:=ry;exact ne_str (dX I q (cq not Lo))
  |_=>exact absurd (show false=true from hs) dH
 |iI i=>
  obtain⟨t,rfl⟩:=rx;cases y with
  |iI j=>obtain⟨t',rfl⟩:=ry;exact PySem.W.ne_bytes (dX I q (cq not L7))
  |_=>exact absurd (show false=true from hs) dH
 |_=>cases y<;>exact absurd (show false=true from hs) dH
theorem vA:gn X (iT .Lt) (lY λi j=>.bl (decide (i<j))):=xm λz z z z z z z q=>lt_int q
theorem mT:gn X (iT .LtE) (lY λi j=>.bl (decide (i<=j))):=xm λz z z z z z z q=>le_int q
theorem qz:gn X (iT .Gt) (lY λi j=>.bl (decide (j<i))):=xm λz z z z z z z q=>gt_int q
theorem LC:gn X (iT .GtE) (lY λi j=>.bl (decide (j<=i))):=xm λz z z z z z z q=>ge_int q
theorem c7(b:bE){op:qN}(h:op≠.In:=by decide)(h2:op≠.NotIn:=by decide):tM op b=false:=by
 have e1:(op==YV)=false:=by cases op<;>first|rfl|exact absurd rfl h
 have e2:(op==YW)=false:=by cases op<;>first|rfl|exact absurd rfl h2
 cases b<;>simp[tM,e1,e2]
theorem oU{op:qN}{r:R2}(ho:gn X (iT op) r)(ha:PE X a ta)(hb:PE X b tb)(hm:tM op b=false):PE X (.Compare a [op] [b] pos) (nJ r ta tb):=by
 intro pins s σ H Q I h;exact wpAny_Compare1 (Dx ha hb I h λv u s2 x y H2 I2 rx ry q=>ho pins s2 σ H2 x y v u Q I2 rx ry q) hm
def sG(t:TE):TT:=λσ H Q=>t σ H λx H'=>∃k,x=.bl k/\Q k H'
theorem df{op:qN}{r:R2}(ho:gn X (iT op) r)(ha:PE X a ta)(hb:PE X b tb)(hm:tM op b=false):PT X (.Compare a [op] [b] pos) (sG (nJ r ta tb)):=by
 intro pins s σ H Q I h;refine YX (bf (ha pins s σ H _ I h) λv s1 ⟨x,H1,I1,r1,q1⟩=>bf (hb pins s1 σ H1 _ I1 q1) λu s2 ⟨y,H2,I2,r2,q2⟩=>bf (ho pins s2 σ H2 x y v u _ I2 r1 r2 q2) λc s3 ⟨z,H3,I3,r3,k,e,q3⟩=>?_) hm;subst e;cases r3;exact n8 ⟨H3,I3,q3⟩
def C9(r r':R2)(ta tb tc:TE):TE:=λσ H Q=>ta σ H λx H1=>tb σ H1 λy H2=>r x y H2 λz H3=>∃k,z=.bl k/\
 (if k=true then tc σ H3 λw' H4=>r' y w' H4 Q else Q (.bl false) H3)
theorem U6{op op':qN}{r r':R2}(ho:gn X (iT op) r)(ho':gn X (iT op') r')(ha:PE X a ta)(hb:PE X b tb)(hc:PE X c tc)(hm:lastMarks [op,op'] [b,c]=false:=by with_unfolding_all rfl):PE X (.Compare a [op,op'] [b,c] pos) (C9 r r' ta tb tc):=by
 intro pins s σ H Q I h;refine Compare_chain (bf (ha pins s σ H _ I h) λv s1 ⟨x,H1,I1,r1,q1⟩=>chain_link (bf (hb pins s1 σ H1 _ I1 q1) λu s2 ⟨y,H2,I2,r2,q2⟩=>bf (ho pins s2 σ H2 x y v u _ I2 r1 r2 q2) λd s3 ⟨z,H3,I3,r3,k,e,q3⟩=>?_)) hm;subst e;cases r3;refine n8 ?_;cases k with
 |false=>exact ite_ff ⟨.bl false,H3,I3,rfl,q3⟩
 |true=>exact ite_tt (chain_last (bf (hc pins s3 σ H3 _ I3 q3) λw' s4 ⟨z',H4,I4,r4,q4⟩=>ho' pins s4 σ H4 y z' u w' Q I4 r2 r4 q4))
theorem yu{op op':qN}{r r':R2}(ho:gn X (iT op) r)(ho':gn X (iT op') r')(ha:PE X a ta)(hb:PE X b tb)(hc:PE X c tc)(hm:lastMarks [op,op'] [b,c]=false:=by with_unfolding_all rfl):PT X (.Compare a [op,op'] [b,c] pos) (sG (C9 r r' ta tb tc)):=by
 intro pins s σ H Q I h;refine isTrue_chain (bf (ha pins s σ H _ I h) λv s1 ⟨x,H1,I1,r1,q1⟩=>test_link (bf (hb pins s1 σ H1 _ I1 q1) λu s2 ⟨y,H2,I2,r2,q2⟩=>bf (ho pins s2 σ H2 x y v u _ I2 r1 r2 q2) λd s3 ⟨z,H3,I3,r3,k,e,q3⟩=>?_)) hm;subst e;cases r3;refine n8 ?_;cases k with
 |false=>
  obtain⟨k',e',q'⟩:=q3;cases e';exact ite_ff ⟨H3,I3,q'⟩
 |true=>
  refine ite_tt (test_last (bf (hc pins s3 σ H3 _ I3 q3) λw' s4 ⟨z',H4,I4,r4,q4⟩=>bf (ho' pins s4 σ H4 y z' u w' _ I4 r2 r4 q4) λd' s5 ⟨z2,H5,I5,r5,k2,e2,q5⟩=>?_));subst e2;cases r5;exact n8 ⟨H5,I5,q5⟩
theorem qc:(sizeLine:Nat)<2^63:=by rw[zM];decide
theorem T5:gn X (zL .Add) (λx y H Q=>∃i j,x=.str i/\y=.str j/\i.length+j.length<=sizeLine/\Q (.str (i++j)) H):=by
 intro pins s σ H x y v u Q I rx ry h;obtain⟨i,j,rfl,rfl,hz,q⟩:=h;obtain⟨t,rfl⟩:=rx;obtain⟨t',rfl⟩:=ry;exact add_str (λt' tk=>⟨.str (i++j),H,I.tok _,⟨_,rfl⟩,q⟩) hz
theorem vals1{x:V}(r:bD [x] us):∃u,us=[u]/\RelV x u:=by
 cases r with
 |cons r1 r2=>cases r2;exact⟨_,rfl,r1⟩
theorem vals2{x y:V}(r:bD [x,y] us):∃u w',us=[u,w']/\RelV x u/\RelV y w':=by
 cases r with
 |cons r1 r2=>
  cases r2 with
  |cons r3 r4=>cases r4;exact⟨_,_,rfl,r1,r3⟩
theorem N8(hc:X.calm=true):iB X (.builtin "max") (λxs H Q=>∃i j,xs=[.int i,.int j]/\Q (.int (if j>i then j else i)) H):=by
 intro pins s σ H xs us Q I r h;obtain⟨i,j,rfl,q⟩:=h;obtain⟨u,w',rfl,⟨t,rfl⟩,⟨t',rfl⟩⟩:=vals2 r;refine max_two_ints (I.ok.hd hc) λh' tk k=>⟨_,H,I.kept k,?_,q⟩;by_cases hj:j>i
 .rw[ay hj,ay hj];exact⟨_,rfl⟩
 .rw[aq hj,aq hj];exact⟨_,rfl⟩
theorem X5:iB X (.type "str") (λxs H Q=>∃i,xs=[.int i]/\i.natAbs.log2<1920/\Q (.str (toString i)) H):=by
 intro pins s σ H xs us Q I r h;obtain⟨i,rfl,hz,q⟩:=h;obtain⟨u,rfl,t,rfl⟩:=vals1 r;exact PySem.P.str_of_int hz ⟨.str _,H,I.tok _,⟨_,rfl⟩,q⟩
theorem Ib:iB X (.builtin "ord") (λxs H Q=>∃x,xs=[.str x]/\x.length=1/\Q (.int (x.cps.getD 0 0:Nat)) H):=by
 intro pins s σ H xs us Q I r h;obtain⟨x,rfl,hz,q⟩:=h;obtain⟨u,rfl,t,rfl⟩:=vals1 r;exact ord_of_one hz ⟨.int _,H,I.tok _,⟨_,rfl⟩,q⟩
end
structure pY(h:a9)(x dx C:aa)(mA:ae->Option af):Prop where
 obj:h.get? x=some (qM C dx)
 ns:h.Ns1 dx mA
 ne:dx≠x
theorem Oi{dx:aa}{mA:ae->Option af}(n:h.Ns1 dx mA):∃od,h.get? dx=some od/\∀name,E8 name od=some (mA name):=by
 obtain⟨o,es,ep,ho,hd,hk,_,hm⟩:=n;refine⟨o,ho,λname=>?_⟩;have e:=hm name;unfold nsFind findBy at e;rw[<-Array.find?_toList]at e;unfold E8;rw[hd];dsimp only;split
 .rename_i y q
  rw[q]at e;exact cq some e
 .rename_i q
  rw[q]at e;have a:es.toList.any (·.refKey)=false:=by
   rw[YA];intro y hy;obtain⟨z,t,hkey⟩:=hk y (Array.mem_toList_iff.mp hy);simp[DictEntry.refKey,hkey]
  have a':¬es.toList.any (·.refKey)=true:=by rw[a];exact dH
  rw[aq a'];exact cq some e
theorem pY.look{x dx:aa}{mA:ae->Option af}(I:pY h x dx C mA):∃od,PySem.W.InstAt h x (qM C dx) C (some od)/\∀name,E8 name od=some (mA name):=let⟨od,ho,hl⟩:=Oi I.ns
 ⟨od,⟨I.obj,rfl,rfl,ho⟩,hl⟩
section
variable{x dx f:aa}{mA:ae->Option af}{name:ae}{v:af}
theorem get_map{expr:Bool}(X:K.In s.heap)(I:pY s.heap x dx C mA)(hg:E9 K C name=true)(hh:M4 K C=true)(ha:pI K (.ref C) name=some none)(hv:mA name=some v)(hv':Y1 v=true)(h:Q v {s with toks:=s.toks+1}):aJ (ba prog w) A (M5 (.ref x) name expr) Q E s:=by
 obtain⟨od,J,hl⟩:=I.look;exact PySem.W.get_value X J (M6 hg).1 (PySem.W.findObj_own hh ha rfl (by rw[hl,hv])) hv' h
theorem VX{pl:jc Bool}{Q:af×List af->aC->Prop}(X:K.In s.heap)(I:pY s.heap x dx C mA)(hg:E9 K C name=true)(hf:pI K (.ref C) name=some (some (.ref f)))(ht:M7 K (.ref f)=true)(hv:mA name=none)(h:Q (.ref f,[.ref x]) s):aJ (ba prog w) A (v9 (.ref x) name pl) Q E s:=by
 obtain⟨od,J,hl⟩:=I.look;exact PySem.W.method_fn X J (M6 hg).1 (M6 hg).2 hf (pC.mp ht) (by show(E8 name od).map (·.isSome)=some false;rw[hl,hv];rfl) h
theorem W0{ns:List ae}{Q:Unit->aC->Prop}(X:K.In s.heap)(I:pY s.heap x dx C mA)(hs:pI K (.ref C) "__setattr__"=some (some (.builtin "object.__setattr__")))(hp:Y2 K C=true)(ht:M8 K C name=some none)(hh:M4 K C=true)(hw:MU mA ns)(hsz:ns.length<=sizeLine)(h:∀h',pY h' x dx C (λy=>if y=name then some v else mA y)->tL dx s.heap h'->Q () {s with heap:=h',toks:=s.toks+2}):aJ (ba prog w) A (setAttr (.ref x) name v) Q E s:=by
 obtain⟨od,J,hl⟩:=I.look;refine PySem.W.set_plain X J hs (PySem.W.osa_open (s:={s with toks:=s.toks+1}) (r:=none) X J hp ht λb=>?_)
 obtain⟨cd,hc,hd'⟩:=PySem.W.any_some hh;have hx:s.heap.get? x=some ⟨.ref C,some dx,.plain,#[]⟩:=I.obj;refine az (br (az (az (wpAny_loadPart hx (az (aaV (s:={s with toks:=s.toks+1}) (PySem.W.looks_clsIn X hc) ?_))))))
 rw[hd'];refine br (a:=some dx) (az (br (az ?_)));refine wpAny_nsSet1 (s:={s with toks:=s.toks+1}) I.ns λh' hn2 hs2=>?_
 obtain⟨oD,esD,epD,hoD,hdD,hcD⟩:=hn2.count (aaW name v hw);refine az (wpAny_lookBehind hoD (by rw[hdD];exact pastItsLine_dict (fi hcD (by rw[cY];omega))) ?_)
 exact br (h _ ⟨(hs2.2 _ (eW I.ne)).trans I.obj,hn2,I.ne⟩ hs2)
theorem R6{R:vO->aC->Prop}{vs:List af}{kw:List (ae×af)}(X:K.In s.heap)(hm:Y3 K C=true)(hi:pI K (.ref C) "__init__"=some (some (.ref f)))(hf:PySem.W.typeIn K (.ref f)=some (.type "function"))(h:mo (ba prog w) (A.under (.builtin "type.__call__" ⟨.ref C::vs,kw⟩)) (.call (.ref f) ⟨.ref (s.heap.objs.size+1)::vs,kw⟩) (PySem.W.InitBack (s.heap.objs.size+1) R) {s with heap:=(s.heap.push pJ).push (qM C s.heap.objs.size)}):mo (ba prog w) A (.call (.ref C) ⟨vs,kw⟩) R s:=by
 obtain⟨hh,g,d,t,os⟩:=s;exact PySem.W.make_core (PySem.W.makes_of X hm) (PySem.W.looks_findIn X hi) (λself=>PySem.W.bind_fn X self hf) (.inl rfl) h
end
def b9(f:ae)(v:V):List (ae×V)->List (ae×V)
 |[]=>[(f,v)]
 |(g,x)::r=>if g=f then(g,v)::r else(g,x)::b9 f v r
theorem mW(f g:ae)(v:V):∀fs:List (ae×V),(b9 f v fs).lookup g=if g=f then some v else fs.lookup g
 |[]=>by
  show qP g [(f,v)]=_;by_cases h:g=f
  .have hb:(g==f)=true:=pC.mpr h
   simp only[qP,hb,ay h]
  .have hb:(g==f)=false:=vV.mpr h
   simp only[qP,hb,aq h]
 |(k,x)::r=>by
  have ih:=mW f g v r;rw[show b9 f v ((k,x)::r)=(if k=f then(k,v)::r else(k,x)::b9 f v r) from rfl];by_cases hk:k=f
  .rw[ay hk]
   by_cases h:g=k
   .have hb:(g==k)=true:=pC.mpr h
    simp only[qP,hb,ay (h.trans hk)]
   .have hb:(g==k)=false:=vV.mpr h
    simp only[qP,hb,aq (λe:g=f=>h (e.trans hk.symm))]
  .rw[aq hk]
   by_cases h:g=k
   .have hb:(g==k)=true:=pC.mpr h
    simp only[qP,hb,aq (λe:g=f=>hk (h.symm.trans e))]
   .have hb:(g==k)=false:=vV.mpr h
    simp only[qP,hb];exact ih
theorem DJ(f:ae)(v:V):∀fs:List (ae×V),f∈(b9 f v fs).map (·.1)/\∀g,g∈fs.map (·.1)->g∈(b9 f v fs).map (·.1)
 |[]=>⟨by simp[b9],λg h=>by simp at h⟩
 |(k,x)::r=>by
  obtain⟨i1,i2⟩:=DJ f v r;rw[show b9 f v ((k,x)::r)=(if k=f then(k,v)::r else(k,x)::b9 f v r) from rfl];by_cases hk:k=f
  .rw[ay hk]
   subst hk;exact⟨by simp,λg h=>by simpa using h⟩
  .rw[aq hk]
   refine⟨?_,λg h=>?_⟩
   .rw[bS]
    exact b8 _ i1
   .rw[bS]at h⊢
    rcases bM.mp h with e|e
    .exact bM.mpr (.inl e)
    .exact b8 _ (i2 g e)
theorem Mi(f:ae)(v:V):∀fs:List (ae×V),(b9 f v fs).length<=fs.length+1
 |[]=>by simp[b9]
 |(k,x)::r=>by
  have ih:=Mi f v r;rw[show b9 f v ((k,x)::r)=(if k=f then(k,v)::r else(k,x)::b9 f v r) from rfl];by_cases hk:k=f
  .rw[ay hk,cY,cY];omega
  .rw[aq hk,cY,cY];omega
theorem gG.some_of{v:V}{o:Option af}(r:gG (some v) o):∃u,o=some u/\RelV v u:=by
 cases o with
 |none=>exact(show False from r).elim
 |some u=>exact⟨u,rfl,r⟩
theorem gG.none_of{o:Option af}(r:gG none o):o=none:=by
 cases o with
 |none=>rfl
 |some u=>exact(show False from r).elim
theorem UN{v:V}(r:RelV v u):Y1 u=true:=by
 cases v with
 |bI=>cases(show u=kz from r);rfl
 |bl b=>cases(show u=qL b from r);rfl
 |int i=>obtain⟨t,e⟩:=(show∃t,u=tI i t from r);cases e;rfl
 |str x=>obtain⟨t,e⟩:=(show∃t,u=zE x t from r);cases e;rfl
 |iI b=>obtain⟨t,e⟩:=(show∃t,u=YO b t from r);cases e;rfl
 |u5 b=>obtain⟨t,e⟩:=(show∃t,u=YQ b t from r);cases e;rfl
 |ref a=>cases(show u=cV a from r);rfl
 |ty n=>cases(show u=oh n from r);rfl
section
variable{h':a9}{dx:aa}{fs fs':List (ae×V)}
theorem Dc(aW:c8 P w H h)(e:H a=some (.ins C dx fs)):∃mA,pY h a dx C mA/\(∀f,gG (fs.lookup f) (mA f))/\MU mA (fs.map (·.1))/\fs.length<=1000/\H dx=some (.own a):=by
 obtain⟨d,z,ne,ob,mA,n,r,q⟩:=(show dF P w H h a (.ins C dx fs) from aW a _ e);exact⟨mA,⟨ob,n,ne⟩,r,q,z,d⟩
end
structure iW(K:aU)(C:aa):Prop where
 pg:E9 K C Str.empty=true
 hd:M4 K C=true
 po:Y2 K C=true
 sa:pI K (.ref C) "__setattr__"=some (some (.builtin "object.__setattr__"))
theorem iW.get(c:iW K C)(f:ae):E9 K C f=true:=c.pg
def fR(K:aU)(C:aa)(f:ae):Prop:=pI K (.ref C) f=some none
theorem fR.Qq{f:ae}(n:fR K C f):M8 K C f=some none:=by
 unfold M8;rw[show pI K (.ref C) f=some none from n];rfl
structure vj(K:aU)(C:aa)(m:ae)(f:aa):Prop where
 at_:pI K (.ref C) m=some (some (.ref f))
 fn:M7 K (.ref f)=true
 kp:qQ K (.ref f)=true
section
variable{σ:St}{dx:aa}{fs:List (ae×V)}{f:ae}{v:V}
theorem II{b:Bool}(I:Inv X pins σ H s)(e:H a=some (.ins C dx fs))(c:iW X.K C)(n:fR X.K C f)(l:fs.lookup f=some v)(h:∀u s',Inv X pins σ H s'->RelV v u->Q u s'):aJ (ba X.prog X.w) A (M5 (.ref a) f b) Q E s:=by
 obtain⟨mA,O,r,z,z,z⟩:=Dc I.aW e;obtain⟨u,hu,ru⟩:=gG.some_of (v:=v) (o:=mA f) (by rw[<-l];exact r f)
 exact get_map I.iC O (c.get f) c.hd n hu (UN ru) (h u _ (I.tok _) ru)
theorem LA{m:ae}{g:aa}{pl:jc Bool}{Q:af×List af->aC->Prop}(I:Inv X pins σ H s)(e:H a=some (.ins C dx fs))(c:iW X.K C)(k:vj X.K C m g)(l:fs.lookup m=none)(h:Q (.ref g,[.ref a]) s):aJ (ba X.prog X.w) A (v9 (.ref a) m pl) Q E s:=by
 obtain⟨mA,O,r,z,z,z⟩:=Dc I.aW e;have hn:mA m=none:=gG.none_of (by rw[<-l];exact r m)
 exact VX I.iC O (c.get m) k.at_ k.fn hn h
theorem Ke{y:V}{Q:Unit->aC->Prop}(I:Inv X pins σ H s)(e:H a=some (.ins C dx fs))(c:iW X.K C)(n:fR X.K C f)(hl:fs.length<1000)(ry:RelV y u)(h:∀s',Inv X pins σ (upd H a (.ins C dx (b9 f y fs))) s'->Q () s'):aJ (ba X.prog X.w) A (setAttr (.ref a) f u) Q E s:=by
 obtain⟨mA,O,r,wi,v,ho⟩:=Dc I.aW e;have hz:(fs.map (·.1)).length<=sizeLine:=by rw[aA,zM];omega
 refine W0 I.iC O c.sa c.po n.Qq c.hd wi hz λh' O' sb=>h _ ?_;have hd:∃o,h'.get? dx=some o:=let⟨o,_,_,e',_⟩:=O'.ns;⟨o,e'⟩;refine I.write (x:=a) (e:=dx) (by rw[e];exact dy) (.inr ho) (λb q hb z=>(sb.2 b hb).trans z) hd ?_
 refine⟨by rw[aI O.ne];exact ho,?_,O.ne,O'.obj,_,O'.ns,λg=>?_,λg hg=>?_⟩
 .have:=Mi f y fs;omega
 .show gG ((b9 f y fs).lookup g) (if g=f then some u else mA g)
  rw[mW];by_cases q:g=f
  .rw[ay q,ay q];exact ry
  .rw[aq q,aq q];exact r g
 .by_cases q:g=f
  .rw[q];exact(DJ f y fs).1
  .refine(DJ f y fs).2 g (wi g λz=>hg ?_)
   show(if g=f then some u else mA g)=none;rw[aq q];exact z
theorem Inv.made(I:Inv X pins σ H s):Inv X pins σ (upd (upd H s.heap.objs.size (.own (s.heap.objs.size+1))) (s.heap.objs.size+1) (.ins C s.heap.objs.size [])) {s with heap:=(s.heap.push pJ).push (qM C s.heap.objs.size)}:=by
 have e1:(s.heap.push pJ).get? s.heap.objs.size=some pJ:=dW s.heap rfl;have e2:((s.heap.push pJ).push (qM C s.heap.objs.size)).get? (s.heap.objs.size+1)=some (qM C s.heap.objs.size):=by
  have:=dW (s.heap.push pJ) (o:=qM C s.heap.objs.size) rfl
  rwa [lA]at this
 have e3:(s.heap.push pJ).Ns s.heap.objs.size (λz=>none):=⟨pJ,#[],_,e1,rfl,(λe he=>absurd he (by simp)),λz=>rfl⟩
 have I1:=I.laid (a:=s.heap.objs.size) (o:=.own (s.heap.objs.size+1)) (h':=s.heap.push pJ) (t':=s.toks) (λb u q=>dB _ q) (bK _) ⟨_,e1⟩;refine I1.laid (a:=s.heap.objs.size+1) (o:=.ins C s.heap.objs.size []) (t':=s.toks) (λb u q=>dB _ q) (Fb (lA _ _)) ?_;have ne:s.heap.objs.size≠s.heap.objs.size+1:=dM (M9 _);refine⟨by rw[aI ne,aR],gp _,ne,e2,λz=>none,(Heap.Ns1.of_empty e3).at λo q=>dB _ q,λz=>dy,λy hy=>absurd rfl hy⟩
theorem XN{env:ei}(hb:mv e f env (bP e env)=bP e env)(h:aJ (ba prog w) A (bP e env) (λo s₁=>aJ (ba prog w) A (M5 o f true) Q E s₁) E s):aJ (ba prog w) A (bP (.Attribute e f pos) env) Q E s:=Attribute_any_ h (by rw[arm_eval_Attribute,hb])
end
def LU(K:aU)(ta:TE)(f:ae):TE:=λσ H Q=>ta σ H λx H1=>∃a C dx fs v,x=.ref a/\H1 a=some (.ins C dx fs)/\iW K C/\fR K C f/\fs.lookup f=some v/\Q v H1
def RN(K:aU)(ta tv:TE)(f:ae):TS:=λD σ H=>tv σ H λy H1=>ta σ H1 λx H2=>∃a C dx fs,x=.ref a/\H2 a=some (.ins C dx fs)/\iW K C/\fR K C f/\fs.length<1000/\
 D.nx σ (upd H2 a (.ins C dx (b9 f y fs)))
def Gv(X:Cx)(op:zK)(rd:V->V->Hp->VK->Prop):Prop:=∀(pins:List (aa×bc))(s:aC)(σ:St)(H:Hp)(x y:V)(u v:af)(Q:VK),Inv X pins σ H s->RelV x u->RelV y v->rd x y H Q->aJ (ba X.prog X.w) X.A (inplaceOp op u v) (EP X pins σ Q) X.xe s
def Qm(K:aU)(ta tv:TE)(rd:V->V->Hp->VK->Prop)(f:ae):TS:=λD σ H=>ta σ H λx H1=>∃a C dx fs v,x=.ref a/\H1 a=some (.ins C dx fs)/\iW K C/\fR K C f/\fs.lookup f=some v/\
 tv σ H1 λy H2=>rd v y H2 λz H3=>∃dx' fs',H3 a=some (.ins C dx' fs')/\fs'.length<1000/\D.nx σ (upd H3 a (.ins C dx' (b9 f z fs')))
section
variable{o value:bE}{f:ae}{pos':cI}{ta tv:TE}
theorem bx(he:PE X e ta)(hb:mv e f X.env (bP e X.env)=bP e X.env):PE X (.Attribute e f pos) (LU X.K ta f):=by
 intro pins s σ H Q I h;refine XN hb (bf (he pins s σ H _ I h) λu s1 ⟨x,H1,I1,rx,a,C,dx,fs,v,ex,ea,c,n,l,q⟩=>?_);subst ex;obtain rfl:u=cV a:=rx;exact II I1 ea c n l λu' s2 I2 ru=>⟨v,H1,I2,ru,q⟩
theorem jm(ha:PE X o ta)(hv:PE X value tv)(hs:zI value (some (.Attribute o f pos')) pos.line X.env=pure false):PS X (.Assign [.Attribute o f pos'] value pos) (RN X.K ta tv f):=by
 intro pins s σ H D I h;refine plainObj_wpAny_Assign_Attribute (bf (hv pins s σ H _ I h) λu s1 ⟨y,H1,I1,ry,q⟩=>bf (ha pins s1 σ H1 _ I1 q) λov s2 ⟨x,H2,I2,rx,a,C,dx,fs,ex,ea,c,n,l,q2⟩=>?_) hs;subst ex;obtain rfl:ov=cV a:=rx;exact Ke I2 ea c n l ry λs3 I3=>⟨σ,_,I3,q2⟩
theorem JL{op:zK}{rd:V->V->Hp->VK->Prop}(ha:PE X o ta)(hv:PE X value tv)(hop:Gv X op rd):PS X (.AugAssign (.Attribute o f tpos) op value pos) (Qm X.K ta tv rd f):=by
 intro pins s σ H D I h;refine wpAny_AugAssign_AttributeAny (bf (ha pins s σ H _ I h) λov s1 ⟨x,H1,I1,rx,a,C,dx,fs,v,ex,ea,c,n,l,q⟩=>?_);subst ex;obtain rfl:ov=cV a:=rx;refine II I1 ea c n l λu s2 I2 ru=>bf (hv pins s2 σ H1 _ I2 q) λw3 s3 ⟨y,H2,I3,ry,q3⟩=>bf (hop pins s3 σ H2 v y u w3 _ I3 ru ry q3) λw4 s4 ⟨z,H3,I4,rz,dx',fs',ea',l',q4⟩=>?_;exact Ke I4 ea' c n l' rz λs5 I5=>⟨σ,_,I5,q4⟩
def Xh:V->V->Hp->VK->Prop:=λx y H Q=>∃i j,x=.int i/\y=.int j/\Q (.int (i+j)) H
theorem Ia:Gv X .Add Xh:=by
 rintro pins s σ H x y u v Q I rx ry ⟨i,j,rfl,rfl,q⟩;obtain⟨t,rfl⟩:=(show∃t,u=tI i t from rx);obtain⟨t',rfl⟩:=(show∃t',v=tI j t' from ry);exact Y0 ⟨.int (i+j),H,I.tok _,⟨_,rfl⟩,q⟩
end
structure c6(k:Nat)(A:d9):Prop where
 hd:A.handled=none
 dp:A.depth+3*k+5<Y4
 un:A.units+16*k+200<jt
theorem c6.mono{j k:Nat}(r:c6 k A)(h:j<=k):c6 j A:=⟨r.hd,by have:=r.dp;omega,by have:=r.un;omega⟩
theorem c6.deeper{k:Nat}(r:c6 (k+1) A)(env:ei):c6 k (A.deeper env):=⟨r.hd,by have:=r.dp;show A.depth+1+3*k+5<_;omega,by have:=r.un;show A.units+3+16*k+200<_;omega⟩
theorem UQ{kw:List (ae×af)}:(A.under (.builtin "type.__call__" ⟨.ref C::us,kw⟩)).depth=A.depth+1:=by first|rfl|simp[Na,Code.weight,Code.isCreation,Code.isGuard,Code.isCaller,Y5,Nb,guardIds]
theorem Yc{kw:List (ae×af)}:(A.under (.builtin "type.__call__" ⟨.ref C::us,kw⟩)).units=A.units+1:=by first|rfl|simp[Na,Code.cUnits,Y5,Nb]
theorem c6.make{k:Nat}(r:c6 (k+1) A)(C:aa)(us:List af)(kw:List (ae×af)):c6 k (A.under (.builtin "type.__call__" ⟨.ref C::us,kw⟩)):=⟨r.hd,by have:=r.dp;rw[UQ];omega,by have:=r.un;rw[Yc];omega⟩
theorem c6.depth{k:Nat}(r:c6 k A):A.depth<Y4:=by have:=r.dp;omega
theorem c6.units{k:Nat}(r:c6 k A):A.units+64<jt:=by have:=r.un;omega
def oS:TA:=λz H Q=>Q [] H
def yh(ta:TE)(tr:TA):TA:=λσ H Q=>ta σ H λx H1=>tr σ H1 λxs H2=>Q (x::xs) H2
section
variable{t:TA}
theorem au:PA X [] oS:=λz z z z H Q I h=>qR ⟨[],H,I,.nil,h⟩
theorem ai(ha:PE X e te)(hr:PA X es t)(hs:cn (e::es) X.env=(false,bP e X.env)::cn es X.env:=by rfl):PA X (e::es) (yh te t):=by
 intro pos pins s σ H Q I h;rw[hs];show aJ _ _ (MS ((false,bP e X.env)::f7 pos (cn es X.env))) _ _ s;refine qS (bf (ha pins s σ H _ I h) λu s1 ⟨x,H1,I1,r1,q1⟩=>?_);exact bf (hr pos pins s1 σ H1 _ I1 q1) λus s2 ⟨xs,H2,I2,r2,q2⟩=>⟨x::xs,H2,I2,.cons r1 r2,q2⟩
def We(t:TA):TE:=λσ H Q=>t σ H λxs H1=>xs.length<=sizeLine/\∀p,H1 p=none->Q (.ref p) (upd H1 p (.tup xs))
def Wg(t:TA):TE:=λσ H Q=>t σ H λxs H1=>xs.length<=sizeLine/\∀p,H1 p=none->Q (.ref p) (upd H1 p (.lst xs))
theorem jl{x1}(h:PA X es t):PE X (.Tuple es x1 pos) (We t):=by
 intro pins s σ H Q I hq;refine wpAny_Tuple_spliced (bf (h pos pins s σ H _ I hq) λus s1 ⟨xs,H1,I1,r,z,q⟩=>⟨by rw[<-r.length];exact z,?_⟩)
 have hf:H1 s1.heap.objs.size=none:=I1.aW.fresh (bK _);refine⟨.ref s1.heap.objs.size,upd H1 s1.heap.objs.size (.tup xs),I1.laid (t':=s1.toks) (λb u e=>dB _ e) (bK _) ?_,rfl,q _ hf⟩;exact⟨z,us,r,⟨_,dW _ rfl,rfl,_,rfl⟩⟩
theorem cW(h:PA X es t):PE X (.List es pos) (Wg t):=by
 intro pins s σ H Q I hq;refine wpAny_List_spliced (bf (h pos pins s σ H _ I hq) λus s1 ⟨xs,H1,I1,r,z,q⟩=>⟨by rw[<-r.length];exact z,?_⟩)
 have hf:H1 s1.heap.objs.size=none:=I1.aW.fresh (bK _);refine⟨.ref s1.heap.objs.size,upd H1 s1.heap.objs.size (.lst xs),I1.laid (t':=s1.toks) (λb u e=>dB _ e) (bK _) ?_,rfl,q _ hf⟩;exact⟨z,us,0,r,dW _ rfl⟩
end
abbrev Sp:=List V->Hp->VK->XK->Prop
abbrev e8:=List ei->Hp->aC->XK->af->aC->Prop
structure qg(P:bA)(w:bB)(K:aU)(mg:ae->Option af)(base:a9)(A:d9)(outer:List ei)(s:aC)(H:Hp):Prop where
 frames:A.frames=some outer
 mod:Mod K mg base
 bs:∀b o,base.get? b=some o->s.heap.get? b=some o/\H b=none
 lX:base.objs.size<=s.heap.objs.size
 jH:s.heap.FunFrames base outer
 nB:∀b∈e9 outer,H b=none
 aW:c8 P w H s.heap
 bare:pH s.gens
def CE(outer:List ei)(P:bA)(w:bB)(H:Hp)(s:aC)(Q:VK)(u:af)(s':aC):Prop:=∃v H',s'.os=s.os/\pH s'.gens/\Un (e9 outer) [] H H' s.heap s'.heap/\c8 P w H' s'.heap/\RelV v u/\Q v H'
def CR(CX:e8)(outer:List ei)(P:bA)(w:bB)(H:Hp)(s:aC)(Q:VK)(E:XK)(r:vO)(s':aC):Prop:=match r with
 | .ok (.ret u)=>CE outer P w H s Q u s'
 | .ok _=>False
 | .error e=>CX outer H s E e s'
structure eO(P:bA)(w:bB)(K:aU)(mg:ae->Option af)(base:a9)(CX:e8)(k:Nat)(f:aa)(fd:fP)(ps:List ae)(sp:Sp):Prop where
 len:∀vs H Q E,sp vs H Q E->vs.length=ps.length
 run:∀(A:d9)(outer:List ei)(s:aC)(H:Hp)(args:Args)(us:List af)(vs:List V)(Q:VK)(E:XK),c6 k A->qg P w K mg base A outer s H->wa s fd args (ps.zip us)->bD vs us->sp vs H Q E->
  mo (ba P w) A (.call (.ref f) args) (CR CX outer P w H s Q E) s
theorem eO.mono{j k:Nat}{f:aa}{sp:Sp}(F:eO P w K mg base CX j f fd ps sp)(h:j<=k):eO P w K mg base CX k f fd ps sp:=⟨F.len,λA outer s H args us vs Q E hr=>F.run A outer s H args us vs Q E (hr.mono h)⟩
theorem eO.imp{k:Nat}{f:aa}{sp sp':Sp}(F:eO P w K mg base CX k f fd ps sp)(h:∀vs H Q E,sp' vs H Q E->sp vs H Q E):eO P w K mg base CX k f fd ps sp':=⟨λvs H Q E q=>F.len vs H Q E (h _ _ _ _ q),λA outer s H args us vs Q E hr he hb hv hs=>F.run A outer s H args us vs Q E hr he hb hv (h _ _ _ _ hs)⟩
theorem qg.make{outer:List ei}(e:qg P w K mg base A outer s H)(C:aa)(us:List af)(kw:List (ae×af)):qg P w K mg base (A.under (.builtin "type.__call__" ⟨.ref C::us,kw⟩)) outer s H:=⟨by first|exact e.frames|(simpa[Na,Code.envs,Nb,pushEnvs]using e.frames),e.mod,e.bs,e.lX,e.jH,e.nB,e.aW,e.bare⟩
section
variable{σ:St}{s':aC}
theorem Inv.FV(I:Inv X pins σ H s):qg X.prog X.w X.K X.mg X.base X.A X.stack s H:=⟨I.ok.frames,I.ok.mod,I.bs,fi I.ok.lX I.sz,I.stack,I.CJ,I.aW,I.bare⟩
theorem Inv.after{Q:VK}(I:Inv X pins σ H s)(h:CE X.stack X.prog X.w H s Q u s'):EP X pins σ Q u s':=by
 obtain⟨v,H',os,bare,un,aW,r,q⟩:=h;obtain⟨hh,g,d,t,os'⟩:=s';obtain rfl:os'=s.os:=os;exact⟨v,H',I.call (h':=hh) (g':=g) (d':=d) (t':=t) (ch:=[]) un aW bare (λb z=>absurd z (by simp)),r,q⟩
end
def K4(sp:Sp)(dvs:List V)(E:XK)(t:TA):TE:=λσ H Q=>t σ H λvs H1=>sp (vs++dvs) H1 Q E
def xH(C:aa)(m:ae)(sp:Sp)(dvs:List V)(E:XK)(ta:TE)(t:TA):TE:=λσ H Q=>ta σ H λx H1=>∃a dx fs,x=.ref a/\H1 a=some (.ins C dx fs)/\fs.lookup m=none/\
 t σ H1 λvs H2=>sp (x::(vs++dvs)) H2 Q E
def xt(C:aa)(sp:Sp)(dvs:List V)(E:XK)(t:TA):TE:=λσ H Q=>t σ H λvs H1=>∀x dx,H1 x=none->H1 dx=none->dx≠x->
 sp (.ref x::(vs++dvs)) (upd (upd H1 dx (.own x)) x (.ins C dx [])) (λv H2=>v=.bI/\Q (.ref x) H2) E
def Binds(K:aU)(fd:fP)(ps:List ae)(ds:List af):Prop:=∀(s:aC)(us:List af),K.In s.heap->(us++ds).length=ps.length->wa s fd ⟨us,[]⟩ (ps.zip (us++ds))
theorem Binds.all(h:∀us:List af,us.length=ps.length->om fd ⟨us,[]⟩=pure (ps.zip us)):Binds K fd ps []:=λs us z hl=>by
 rw[oo]at hl⊢;exact .of_eq (h us hl)
def ik(CX:e8)(X:Cx)(E:XK):Prop:=∀(pins:List (aa×bc))(σ:St)(H:Hp)(s:aC)(e:af)(s':aC),Inv X pins σ H s->CX X.stack H s E e s'->X.xe e s'
section
variable{k:Nat}{f:aa}{sp:Sp}{dvs:List V}{ds:List af}{E:XK}{m:ae}{p apos:cI}{o:bE}{ta:TE}{t:TA}
theorem zj{σ:St}{Q:VK}{vs:List V}(F:eO X.prog X.w X.K X.mg X.base CX k f fd ps sp)(hr:c6 k X.A)(hb:Binds X.K fd ps ds)(hd:bD dvs ds)(hx:ik CX X E)(I:Inv X pins σ H s)(r:bD vs us)(h:sp (vs++dvs) H Q E):aJ (ba X.prog X.w) X.A (fO (.ref f) us) (EP X pins σ Q) X.xe s:=by
 have r2:bD (vs++dvs) (us++ds):=r.append hd;have hl:(us++ds).length=ps.length:=by rw[<-r2.length];exact F.len _ _ _ _ h
 refine EO (vU (F.run X.A X.stack s H ⟨us,[]⟩ (us++ds) (vs++dvs) Q E hr I.FV (hb s us I.iC hl) r2 h) λr s' hq=>?_);cases r with
 |error e=>exact hx pins σ H s e s' I hq
 |ok fl=>
  cases fl with
  |ret u=>exact I.after hq
  |next=>exact jd hq
  |brk=>exact jd hq
  |cont=>exact jd hq
theorem VW(F:eO X.prog X.w X.K X.mg X.base CX k f fd ps sp)(hr:c6 k X.A)(hg:Gl X x)(hm:X.mg x=some (.ref f))(hk:qQ X.K (.ref f)=true)(hb:Binds X.K fd ps ds)(hd:bD dvs ds)(hx:ik CX X E)(ha:PA X (e::es) t)(hdb:(x==("__debug__":ae))=false:=by decide)(he:cn (e::es) X.env=(false,bP e X.env)::cn es X.env:=by rfl)(hpl:(f7 pos (cn es X.env)).any (·.1)=false:=by rfl):PE X (.Call (.Name x p) (e::es) [] pos) (K4 sp dvs E t):=by
 intro pins s σ H Q I h;refine qT (qA I hg hm ?_ hdb);refine Fc (h₀:=X.base) I.ok.mod.pR hk (bf (ha pos pins s σ H _ I h) λus s1 ⟨vs,H1,I1,r,q⟩=>⟨I1.iC,?_⟩) he hpl;exact zj F hr hb hd hx I1 r q
theorem Vk{pl:jc Bool}(he:PE X o ta)(c:iW X.K C)(hm:vj X.K C m f)(F:eO X.prog X.w X.K X.mg X.base CX k f fd ps sp)(hr:c6 k X.A)(hb:Binds X.K fd ps ds)(hd:bD dvs ds)(hx:ik CX X E)(ha:PA X (e::es) t)(hst:cn (e::es) X.env=(false,bP e X.env)::cn es X.env:=by rfl)(hpl:(f7 pos (cn es X.env)).any (·.1)=false:=by rfl)(ht:bP (.Call (.Attribute o m apos) (e::es) [] pos) X.env=(do
 let ov<-bP o X.env
 zG apos.atName
 let(f,first)<-qJ [ov] (v9 ov m pl)
 nz pos f first (f7 pos (cn (e::es) X.env)) (lB pos (lC [] X.env))):=by rfl):
 PE X (.Call (.Attribute o m apos) (e::es) [] pos) (xH C m sp dvs E ta t):=by
 intro pins s σ H Q I h;refine Y6 (pl:=pl) (bf (he pins s σ H _ I h) λu s1 ⟨x,H1,I1,rx,a,dx,fs,ex,ea,l,q⟩=>?_) ht;subst ex;obtain rfl:u=cV a:=rx;refine LA I1 ea c hm l ?_;refine Fc (first:=[.ref a]) (h₀:=X.base) I.ok.mod.pR hm.kp (bf (ha pos pins s1 σ H1 _ I1 q) λus s2 ⟨vs,H2,I2,r,q2⟩=>⟨I2.iC,?_⟩) hst hpl
 exact zj (us:=.ref a::us) (vs:=.ref a::vs) F hr hb hd hx I2 (.cons rfl r) q2
theorem V5{pl:jc Bool}(he:PE X o ta)(c:iW X.K C)(hm:vj X.K C m f)(F:eO X.prog X.w X.K X.mg X.base CX k f fd ps sp)(hr:c6 k X.A)(hb:Binds X.K fd ps ds)(hd:bD dvs ds)(hx:ik CX X E)(ht:bP (.Call (.Attribute o m apos) [] [] pos) X.env=(do
 let ov<-bP o X.env
 zG apos.atName
 let(f,first)<-qJ [ov] (v9 ov m pl)
 nz pos f first (f7 pos (cn [] X.env)) (lB pos (lC [] X.env))):=by rfl):
 PE X (.Call (.Attribute o m apos) [] [] pos) (xH C m sp dvs E ta oS):=by
 intro pins s σ H Q I h;refine Y6 (pl:=pl) (bf (he pins s σ H _ I h) λu s1 ⟨x,H1,I1,rx,a,dx,fs,ex,ea,l,q⟩=>?_) ht;subst ex;obtain rfl:u=cV a:=rx;refine LA I1 ea c hm l ?_;exact Y7 (first:=[.ref a]) I1.iC hm.kp (zj (us:=[.ref a]) (vs:=[.ref a]) F hr hb hd hx I1 (.cons rfl .nil) q)
structure Mk(K:aU)(C f:aa):Prop where
 makes:Y3 K C=true
 init:pI K (.ref C) "__init__"=some (some (.ref f))
 fn:M7 K (.ref f)=true
 kp:qQ K (.ref C)=true
theorem KE{σ:St}{Q:VK}{vs:List V}(M:Mk X.K C f)(F:eO X.prog X.w X.K X.mg X.base CX k f fd ps sp)(hr:c6 (k+1) X.A)(hb:Binds X.K fd ps ds)(hd:bD dvs ds)(hx:ik CX X E)(I:Inv X pins σ H s)(r:bD vs us)(h:∀x dx,H x=none->H dx=none->dx≠x->sp (.ref x::(vs++dvs)) (upd (upd H dx (.own x)) x (.ins C dx [])) (λv H2=>v=.bI/\Q (.ref x) H2) E):aJ (ba X.prog X.w) X.A (fO (.ref C) us) (EP X pins σ Q) X.xe s:=by
 have hq:=h (s.heap.objs.size+1) s.heap.objs.size (I.aW.fresh (Nat.le_succ _)) (I.aW.fresh (bK _)) (dM (M9 _));have I2:=Inv.made (C:=C) I;have r2:bD (V.ref (s.heap.objs.size+1)::(vs++dvs)) (cV (s.heap.objs.size+1)::(us++ds)):=.cons rfl (r.append hd);have hl:(cV (s.heap.objs.size+1)::us++ds).length=ps.length:=by
  have e:=r2.length;rw[F.len _ _ _ _ hq]at e;exact e.symm
 refine EO (R6 (f:=f) I.iC M.makes M.init (pC.mp M.fn) (vU (F.run _ X.stack _ _ ⟨cV (s.heap.objs.size+1)::us,[]⟩ (cV (s.heap.objs.size+1)::(us++ds)) _ _ E (hr.make C us []) (I2.FV.make C us []) (hb _ (cV (s.heap.objs.size+1)::us) I2.iC hl) r2 hq) λr s' hq'=>?_));cases r with
 |error e=>exact hx pins σ _ _ e s' I2 hq'
 |ok fl=>
  cases fl with
  |ret u=>
   obtain⟨v,H',I3,rv,ev,q3⟩:=I2.after hq';subst ev;exact⟨rv,⟨V.ref (s.heap.objs.size+1),H',I3,rfl,q3⟩⟩
  |next=>exact jd hq'
  |brk=>exact jd hq'
  |cont=>exact jd hq'
theorem VQ(M:Mk X.K C f)(F:eO X.prog X.w X.K X.mg X.base CX k f fd ps sp)(hr:c6 (k+1) X.A)(hg:Gl X x)(hm:X.mg x=some (.ref C))(hb:Binds X.K fd ps ds)(hd:bD dvs ds)(hx:ik CX X E)(ha:PA X (e::es) t)(hdb:(x==("__debug__":ae))=false:=by decide)(he:cn (e::es) X.env=(false,bP e X.env)::cn es X.env:=by rfl)(hpl:(f7 pos (cn es X.env)).any (·.1)=false:=by rfl):PE X (.Call (.Name x p) (e::es) [] pos) (xt C sp dvs E t):=by
 intro pins s σ H Q I h;refine qT (qA I hg hm ?_ hdb);refine Fc (h₀:=X.base) I.ok.mod.pR M.kp (bf (ha pos pins s σ H _ I h) λus s1 ⟨vs,H1,I1,r,q⟩=>⟨I1.iC,?_⟩) he hpl;exact KE M F hr hb hd hx I1 r q
theorem Oa(M:Mk X.K C f)(F:eO X.prog X.w X.K X.mg X.base CX k f fd ps sp)(hr:c6 (k+1) X.A)(hg:Gl X x)(hm:X.mg x=some (.ref C))(hb:Binds X.K fd ps ds)(hd:bD dvs ds)(hx:ik CX X E)(hdb:(x==("__debug__":ae))=false:=by decide):PE X (.Call (.Name x p) [] [] pos) (xt C sp dvs E oS):=by
 intro pins s σ H Q I h;refine qT (qA I hg hm ?_ hdb);exact Y7 I.iC M.kp (KE (us:=[]) M F hr hb hd hx I .nil h)
end
structure bX(N P:List ae)(sc:eV):Prop where
 kind:sc.kind=.function
 co:sc.isCoroutine=false
 gen:sc.isGenerator=false
 nd:N.Nodup
 pre:N.take P.length=P
 par:∀x∈P,sc.names.lookup x=some .local\/sc.names.lookup x=some .cell
 O3:∀y∈sc.names,y.2≠.free
theorem GD{kindOf:ae->Option ju}{x:ae}:∀{binds:List (ae×af)}{m:ae->Option af},(∀v,(x,v)∉binds)->qU kindOf binds m x=m x
 |[],_,_=>rfl
 |(n,v)::r,m,h=>by
  unfold qU;rw[GD λw hw=>h w (b8 _ hw)];split
  .have:x≠n:=by rintro rfl;exact h v gF
   simp[this]
  .rfl
theorem Ho{kindOf:ae->Option ju}{x:ae}:∀{binds:List (ae×af)}{m:ae->Option af},(∀v,(x,v)∉binds)->qV kindOf binds m x=m x
 |[],_,_=>rfl
 |(n,v)::r,m,h=>by
  unfold qV;rw[Ho λw hw=>h w (b8 _ hw)];split
  .rfl
  .have:x≠n:=by rintro rfl;exact h v gF
   simp[this]
theorem KD{kindOf:ae->Option ju}{x:ae}{v:af}:∀{P:List ae}{vs:List af}{i:Nat}{m:ae->Option af},P.Nodup->P[i]? =some x->vs[i]? =some v->kindOf x=some .local->qU kindOf (P.zip vs) m x=some v
 |[],_,_,_,_,h,_,_=>by simp at h
 |_::_,[],_,_,_,_,h,_=>by simp at h
 |p::P,w::vs,0,m,nd,h1,h2,hk=>by
  simp at h1 h2;subst h1;subst h2;show qU kindOf ((p,w)::P.zip vs) m p=_;unfold qU;rw[GD λv hv=>(gC.mp nd).1 (nu hv).1,ay hk];simp
 |p::P,w::vs,i+1,m,nd,h1,h2,hk=>by
  show qU kindOf ((p,w)::P.zip vs) m x=_;unfold qU;exact KD (i:=i) (gC.mp nd).2 (by simpa using h1) (by simpa using h2) hk
theorem KH{kindOf:ae->Option ju}{x:ae}{v:af}:∀{P:List ae}{vs:List af}{i:Nat}{m:ae->Option af},P.Nodup->P[i]? =some x->vs[i]? =some v->kindOf x≠some .local->qV kindOf (P.zip vs) m x=some v
 |[],_,_,_,_,h,_,_=>by simp at h
 |_::_,[],_,_,_,_,h,_=>by simp at h
 |p::P,w::vs,0,m,nd,h1,h2,hk=>by
  simp at h1 h2;subst h1;subst h2;show qV kindOf ((p,w)::P.zip vs) m p=_;unfold qV;rw[Ho λv hv=>(gC.mp nd).1 (nu hv).1,aq hk];simp
 |p::P,w::vs,i+1,m,nd,h1,h2,hk=>by
  show qV kindOf ((p,w)::P.zip vs) m x=_;unfold qV;exact KH (i:=i) (gC.mp nd).2 (by simpa using h1) (by simpa using h2) hk
def start(N:List ae)(vs:List V):St:=vs.map some++ig (N.length - vs.length) none
def gw(CX:e8)(P:bA)(w:bB)(K:aU)(mg:ae->Option af)(base:a9)(N:List ae)(qual:ae)(scope:eV)(f:aa)(cd:af)(A:d9)(outer:List ei)(s:aC)(H:Hp)(E:XK):Cx where
 prog:=P
 w:=w
 K:=K
 mg:=mg
 base:=base
 A:=A.deeper (oq qual scope s.heap.objs.size f cd)
 N:=N
 gg:=s
 ph:=H
 env:=oq qual scope s.heap.objs.size f cd
 outer:=outer
 stack:=oq qual scope s.heap.objs.size f cd::outer
 ex:=[]
 calm:=true
 fn:=λz=>true
 pn:=[]
 xe:=λe s'=>aJ (ba P w) (A.deeper (oq qual scope s.heap.objs.size f cd)) (leaving (oq qual scope s.heap.objs.size f cd) e) (λz s''=>CX outer H s E e s'') (λe' s''=>CX outer H s E e' s'') s'
theorem Jj{sc:eV}(h:sc.names.lookup x=some .cell):∃c,(gT n sc.names []).lookup x=some c:=by
 have q:=Y8 sc.names n [] (.inl h);exact Y9.mp q
theorem Xj{N:List ae}{f:aa}{cd:af}{outer:List ei}{s1:aC}{E:XK}{vs:List V}(S:bX N ps scope)(hd:A.handled=none)(e0:qg P w K mg base A outer s H)(hl:vs.length=ps.length)(r:bD vs us)(x:InCallC s s.heap.objs.size (qU (oq qual scope s.heap.objs.size f cd).kindOf (ps.zip us) λt=>none) (gT (s.heap.objs.size+1) scope.names []) (qV (oq qual scope s.heap.objs.size f cd).kindOf (ps.zip us) λt=>none) s1):Inv (gw CX P w K mg base N qual scope f cd A outer s H E) [] (start N vs) H s1:=by
 have hpl:ps.length<=N.length:=by have:=cq wb S.pre;rw[jT]at this;omega
 obtain⟨h1,tk,rfl,hk⟩:=x.done;have noA:∀b:aa,b∉(gw CX P w K mg base N qual scope f cd A outer s H E).ex:=λb z=>absurd (show b∈([]:List aa) from z) (by simp)
 refine⟨⟨e0.mod,S.kind,rfl,rfl,bK _,λy z c h1 h2=>?_,λy hy=>?_,λy c t h=>?_,λt=>hd,Around.frames_deeper e0.frames,.inr ⟨rfl,rfl⟩,λb z=>absurd z (noA b),e0.bs,e0.lX,λb t t=>noA b,λb z=>absurd z (noA b),e0.jH,e0.nB⟩,rfl,e0.bare,Un.kept hk,⟨_,x.toInCall.ns,λi y v h1 h2 h3=>?_⟩,λy c h=>⟨_,x.cell y c h⟩,e0.aW.fresh (bK _),λy c h=>?_,λp hp=>absurd (show p∈([]:List (aa×bc)) from hp) (by simp),e0.aW.kept hk,?_⟩
 .exact name_of_addr x.apart (jU h1) (jU h2)
 .have hy:scope.names.lookup y=some .cell\/scope.names.lookup y=some .free:=hy
  rcases hy with hy|hy
  .exact Jj hy
  .exact absurd rfl (S.O3 _ (jU hy))
 .exact vX (x.above y c (jU h))
 .have hi:i<vs.length:=by
   unfold start at h2;by_cases hi:i<vs.length
   .exact hi
   .rw[Za (by simpa using hi)]at h2
    rw[List.getElem?_replicate]at h2;split at h2<;>cases h2
  have ha:vs[i]? =some v:=by
   unfold start at h2;rw[Nc (by simpa using hi),bz]at h2
   cases e:vs[i]? with
   |none=>rw[e]at h2;cases h2
   |some a=>rw[e]at h2;cases h2;rfl
  obtain⟨u,hu,rv⟩:=r.get ha;have hp:ps[i]? =some y:=by rw[<-S.pre,zN (by omega)];exact h1
  have ndP:ps.Nodup:=by rw[<-S.pre];exact S.nd.sublist (List.take_sublist _ _)
  refine⟨u,rv,?_⟩;rcases S.par y (cZ hp)with k|k
  .exact .inl ⟨k,KD ndP hp hu k⟩
  .obtain⟨c,e⟩:=Jj (n:=s.heap.objs.size+1) k
   refine .inr ⟨.inl k,c,e,?_⟩;have q:=x.cell y c e;rw[KH ndP hp hu (by show scope.names.lookup y≠_;rw[k];decide)]at q
   exact q
 .exact e0.aW.fresh (vX (x.above y c (jU h)))
 .unfold start
  show _=N.length;rw[bV,aA,Zb];omega
theorem J3{k:Nat}{f:aa}{name:ae}{params:Arguments}{body:List bq}{dV kV doc pm cdv ct oc:af}{an od:Option aa}{osl:Array (Option af)}{N:List ae}{sp:Sp}(lk:K.lookup f=some ⟨oc,od,.func (kG name qual params body scope dV kV doc pm an cdv ct),osl⟩)(hcd:Nd K cdv qual=true)(S:bX N ps scope)(len:∀vs H Q E,sp vs H Q E->vs.length=ps.length)(hbody:∀(A:d9)(outer:List ei)(s:aC)(H:Hp)(vs:List V)(Q:VK)(E:XK),c6 k (A.deeper (oq qual scope s.heap.objs.size f cdv))->sp vs H Q E->∃t,hR (gw CX P w K mg base N qual scope f cdv A outer s H E) body t/\t {nx:=λ_ H'=>Q .bI H',rt:=Q} (start N vs) H):eO P w K mg base CX (k+1) f (kG name qual params body scope dV kV doc pm an cdv ct) ps sp:=by
 refine⟨len,λA outer s H args us vs Q E hr e0 hb r hsp=>?_⟩;have hl:=len _ _ _ _ hsp;have KX:K.In s.heap:=e0.mod.pR.keeps λb o e=>(e0.bs b o e).1;have lim:s.heap.NoLimit:=e0.mod.nolimit.keeps λb o e=>(e0.bs b o e).1;have hkind:∀y∈ps.zip us,scope.names.lookup y.1=some .local\/(scope.names.lookup y.1=some .cell/\((gT (s.heap.objs.size+1) scope.names []).lookup y.1).isSome=true):=λ⟨n,v⟩ hy=>by
  rcases S.par n (nu hy).1 with q|q
  .exact .inl q
  .exact .inr ⟨q,Y8 _ _ _ (.inl q)⟩
 refine codeAny_call_function hr.depth (KX _ _ lk) rfl S.co S.gen rfl (PySem.W.codeRec_of KX hcd) (hb _ _ _ _ ?_);refine wpAny_newFunctionEnv_cells S.kind hkind λenv he s1 x=>?_;subst he;refine⟨lim.keeps x.toInCall.keep,codeAny_func ?_⟩;obtain⟨t,ht,hq⟩:=hbody A outer s H vs Q E (hr.deeper _) hsp;have I:Inv (gw CX P w K mg base N qual scope f cdv A outer s H E) [] (start N vs) H s1:=Xj S hr.hd e0 hl r x;refine jb (ht [] s1 (start N vs) H _ I hq) (λfl s' hs=>?_) λe s' hs=>hs;have fin:∀{σ':St}{H':Hp}{v:V}{u:af},Inv (gw CX P w K mg base N qual scope f cdv A outer s H E) [] σ' H' s'->RelV v u->Q v H'->CE outer P w H s Q u s':=λ{σ' H' v u} J rv q=>⟨v,H',J.os,J.bare,J.base,J.aW,rv,q⟩;cases fl with
 |ret u=>
  obtain⟨v,σ',H',J,rv,q⟩:=hs;exact fin J rv q
 |next=>
  obtain⟨σ',H',J,q⟩:=hs;exact fin (v:=V.bI) (u:=kz) J rfl q
 |brk=>
  obtain⟨_,_,_,q⟩:=hs;exact jd q
 |cont=>
  obtain⟨_,_,_,q⟩:=hs;exact jd q
section
variable{p:cI}{t:TA}{id T:String}{r:List V->Hp->VK->Prop}
def yN(r:List V->Hp->VK->Prop)(t:TA):TE:=λσ H Q=>t σ H λvs H1=>r vs H1 Q
theorem dh(hc:iB X (.builtin id) r)(hg:Gl X x)(hm:X.mg x=none)(hv:vW x=some (.builtin id))(ha:PA X (e::es) t)(hn:x≠"__name__":=by decide)(hdb:(x==("__debug__":ae))=false:=by decide)(he:cn (e::es) X.env=(false,bP e X.env)::cn es X.env:=by rfl)(hpl:(f7 pos (cn es X.env)).any (·.1)=false:=by rfl):PE X (.Call (.Name x p) (e::es) [] pos) (yN r t):=by
 intro pins s σ H Q I h;refine qT (o3 I hg hm hv ?_ hn hdb);exact aaX (bf (ha pos pins s σ H _ I h) λus s1 ⟨vs,H1,I1,r1,q1⟩=>hc pins s1 σ H1 vs us Q I1 r1 q1) he hpl
theorem uT(hc:iB X (.type T) r)(hg:Gl X x)(hm:X.mg x=none)(hv:vW x=some (.type T))(ha:PA X (e::es) t)(hn:x≠"__name__":=by decide)(hdb:(x==("__debug__":ae))=false:=by decide)(he:cn (e::es) X.env=(false,bP e X.env)::cn es X.env:=by rfl)(hpl:(f7 pos (cn es X.env)).any (·.1)=false:=by rfl):PE X (.Call (.Name x p) (e::es) [] pos) (yN r t):=by
 intro pins s σ H Q I h;refine qT (o3 I hg hm hv ?_ hn hdb);exact EZ (bf (ha pos pins s σ H _ I h) λus s1 ⟨vs,H1,I1,r1,q1⟩=>hc pins s1 σ H1 vs us Q I1 r1 q1) he hpl
end
namespace HT
def g5(n d:Nat):Option Int->Nat
 |none=>d
 |some v=>if v<0 then(v+(n:Int)).toNat else min v.toNat n
theorem Mn(n d k:Nat):g5 n d (some (k:Int))=min k n:=by
 show(if(k:Int)<0 then((k:Int)+(n:Int)).toNat else min (k:Int).toNat n)=min k n;rw[aq (by omega),ij]
end HT
abbrev TO:=St->Hp->(Option Int->Hp->Prop)->Prop
def PO(X:Cx)(e:Option bE)(t:TO):Prop:=∀(pins:List (aa×bc))(s:aC)(σ:St)(H:Hp)(Q:Option Int->Hp->Prop),Inv X pins σ H s->t σ H Q->
 aJ (ba X.prog X.w) X.A (evalPart e X.env) (λu s'=>∃o H',Inv X pins σ H' s'/\IsPart u o/\Q o H') X.xe s
def O9:TO:=λz H Q=>Q none H
def WB(t:TE):TO:=λσ H Q=>t σ H λx H1=>∃i,x=.int i/\Q (some i) H1
section
variable{lo hi:Option bE}{tl th:TO}{p2:cI}
theorem BC:PO X none O9:=by
 intro pins s σ H Q I h;rw[Zc];exact br ⟨none,H,I,.none,h⟩
theorem qk(h:PE X e te):PO X (some e) (WB te):=by
 intro pins s σ H Q I hw;rw[evalPart_some];refine bf (h pins s σ H _ I hw) λu s1 ⟨x,H1,I1,r1,q1⟩=>?_;obtain⟨i,rfl,q⟩:=q1;obtain⟨t,rfl⟩:=r1;exact⟨some i,H1,I1,.int i t,q⟩
def HS(X:Cx)(r:V->Option Int->Option Int->Hp->VK->Prop):Prop:=∀(pins:List (aa×bc))(s:aC)(σ:St)(H:Hp)(x:V)(v vl vu:af)(lo hi:Option Int)(sl:aa)(Q:VK),Inv X pins σ H s->RelV x v->s.heap.IsSliceOf sl vl vu .none->IsPart vl lo->IsPart vu hi->r x lo hi H Q->
 ∃T id,MR (.type T) "__getitem__"=pure (some (.builtin id))/\s.TypeIs v T/\aJ (ba X.prog X.w) X.A (tO v (.ref sl)) (EP X pins σ Q) X.xe s
def VI(r:V->Option Int->Option Int->Hp->VK->Prop)(te:TE)(tl th:TO):TE:=λσ H Q=>te σ H λx H1=>tl σ H1 λl H2=>th σ H2 λu H3=>r x l u H3 Q
theorem uq{r:V->Option Int->Option Int->Hp->VK->Prop}(hr:HS X r)(he:PE X e te)(hl:PO X lo tl)(hu:PO X hi th):PE X (.Subscript e (.Slice lo hi none p2) pos) (VI r te tl th):=by
 intro pins s σ H Q I h;refine Nf (bf (he pins s σ H _ I h) λv s1 ⟨x,H1,I1,r1,q1⟩=>?_);refine wpAny_Slice (bf (hl pins s1 σ H1 _ I1 q1) λvl s2 ⟨l,H2,I2,pl,q2⟩=>bf (hu pins s2 σ H2 _ I2 q2) λvu s3 ⟨u,H3,I3,pu,q3⟩=>?_);rw[Zc];refine br ?_;have I4:Inv X pins σ H3 {s3 with heap:=s3.heap.push {cls:=.type "slice",data:=.fields #[vl,vu,.none]}}:=I3.kept (t':=s3.toks) λb ob q=>dB _ q
 obtain⟨T,id,hT,ht,hg⟩:=hr pins {s3 with heap:=s3.heap.push {cls:=.type "slice",data:=.fields #[vl,vu,.none]}} σ H3 x v vl vu l u s3.heap.objs.size Q I4 r1 (aaY ..) pl pu q3
 show aJ (ba X.prog X.w) X.A (Ng e (.Slice lo hi none p2) v (.ref s3.heap.objs.size)) (EP X pins σ Q) X.xe {s3 with heap:=s3.heap.push {cls:=.type "slice",data:=.fields #[vl,vu,.none]}}
 exact tail_any (ops:=[.ref s3.heap.objs.size,v]) ht hT hg (by with_unfolding_all rfl)
def d3(xs:List V)(lo hi:Option Int):List V:=(xs.drop (HT.g5 xs.length 0 lo)).take (HT.g5 xs.length xs.length hi - HT.g5 xs.length 0 lo)
theorem Rr(xs:List V)(lo hi:Option Int):(d3 xs lo hi).length<=xs.length:=by
 unfold d3;rw[jT,Fd];omega
end
def jn(n:Nat)(i:Int):Option Nat:=if 0<=i then(if i<n then some i.toNat else none)else if -(n:Int)<=i then some (i+n).toNat else none
def iN{α:Type}(xs:List α)(i:Int):Option α:=(jn xs.length i).bind λj=>xs[j]?
theorem JV{i:Int}{j:Nat}(h:jn n i=some j):seqIndex? i n=some j/\j<n/\ -(n:Int)<=i/\i<n:=by
 unfold jn at h;by_cases h0:0<=i
 .rw[ay h0]at h
  by_cases h1:i<n
  .rw[ay h1]at h
   have e:i.toNat=j:=dQ h;exact⟨by rw[Nh h0 h1,e],by omega,by omega,h1⟩
  .rw[aq h1]at h;cases h
 .rw[aq h0]at h
  by_cases h1: -(n:Int)<=i
  .rw[ay h1]at h
   have e:(i+n).toNat=j:=dQ h;exact⟨by rw[Ni (by omega) h1,e],by omega,h1,by omega⟩
  .rw[aq h1]at h;cases h
theorem En{α:Type}{xs:List α}{i:Int}{v:α}(h:iN xs i=some v):∃j,seqIndex? i xs.length=some j/\xs[j]? =some v/\j<xs.length/\ -(xs.length:Int)<=i/\i<xs.length:=by
 unfold iN at h;cases e:jn xs.length i with
 |none=>rw[e]at h;cases h
 |some j=>
  rw[e]at h;obtain⟨h1,h2,h3,h4⟩:=JV e;exact⟨j,h1,h,h2,h3,h4⟩
theorem bj{α:Type}{xs:List α}{j:Nat}{v:α}(h:xs[j]? =some v):iN xs (j:Int)=some v:=by
 have hj:j<xs.length:=(cN.mp h).1;have e:jn xs.length (j:Int)=some j:=by
  unfold jn;rw[ay (by omega),ay (by omega)];simp
 unfold iN;rw[e];exact h
theorem Dn{α:Type}(xs:List α)(v:α):iN (xs++[v]) (-1)=some v:=by
 have hl:(xs++[v]).length=xs.length+1:=by simp
 have e:jn (xs++[v]).length (-1)=some xs.length:=by
  unfold jn;rw[hl,aq (by decide),ay (by omega)]
  congr 1
  omega
 unfold iN;rw[e];show(xs++[v])[xs.length]? =some v;simp
def ON(b:bE):Prop:=∀o i,Fe b false o i=Nj [o,i] (tO o i)
def rI(X:Cx)(r:R2):Prop:=∀(value slice:bE)(pins:List (aa×bc))(s:aC)(σ:St)(H:Hp)(x y:V)(v u:af)(Q:VK),Inv X pins σ H s->RelV x v->RelV y u->r x y H Q->
 Fe slice false v u=Nj [v,u] (tO v u)->aJ (ba X.prog X.w) X.A (Ng value slice v u) (EP X pins σ Q) X.xe s
def qe(X:Cx)(id:String)(r:V->List V->Hp->VK->Prop):Prop:=∀(pins:List (aa×bc))(s:aC)(σ:St)(H:Hp)(x:V)(xs:List V)(v:af)(us:List af)(Q:VK),Inv X pins σ H s->RelV x v->bD xs us->r x xs H Q->
 aJ (ba X.prog X.w) X.A (fO (.builtin id) (v::us)) (EP X pins σ Q) X.xe s
section
variable{a b:bE}{ta tb:TE}
theorem bh{r:R2}(hr:rI X r)(ha:PE X a ta)(hb:PE X b tb)(hs:ON b):PE X (.Subscript a b pos) (nJ r ta tb):=by
 intro pins s σ H Q I h;exact Nf (Dx ha hb I h λv u s2 x y H2 I2 rx ry q=>hr a b pins s2 σ H2 x y v u Q I2 rx ry q (hs _ _))
def wZ(K:aU):R2:=λx y H Q=>∃p xs i v,x=.ref p/\y=.int i/\aj K H p xs/\iN xs i=some v/\Q v H
def F7(K:aU):R2:=λx y H Q=>∃p xs i v,x=.ref p/\y=.int i/\cv K H p xs/\iN xs i=some v/\Q v H
def RT:R2:=λx y H Q=>∃z i c,x=.str z/\y=.int i/\z.length<=sizeLine/\iN z.cps.toList i=some c/\Q (.str ⟨#[c]⟩) H
theorem bO:rI X (wZ X.K):=by
 intro value slice pins s σ H x y v u Q I rx ry h hs;obtain⟨p,xs,i,z,rfl,rfl,hq,he,q⟩:=h;cases rx;obtain⟨t,rfl⟩:=ry;obtain⟨its,r,pl,hz⟩:=I.list hq;obtain⟨j,h1,h2,h3,h4,h5⟩:=En he;obtain⟨w,ew,rw'⟩:=r.get h2;have hl:=r.length;have hn:=qc;have fin:EP X pins σ Q w s:=⟨z,H,I,rw',q⟩;by_cases h0:0<=i
 .have hj:i.toNat=j:=by
   rw[Nh h0 h5]at h1;exact dQ h1
  exact item_listR pl.isList h0 (by omega) (by rw[hj];simpa using ew) fin hs
 .have hj:(i+(its.toArray.size:Int)).toNat=j:=by
   rw[Ni (by omega) h4]at h1
   rw[fj,<-hl];exact dQ h1
  exact Zd (x:=w) pl.isList.typeIs Ze.lookup
   (wpAny_getItem_list_neg (Q:=λr s'=>r=w/\EP X pins σ Q r s') pl.isList (by omega) (by rw[fj]<;>omega) (by omega) (by rw[hj];simpa using ew) ⟨rfl,fin⟩) hs
theorem iy:rI X (F7 X.K):=by
 intro value slice pins s σ H x y v u Q I rx ry h hs;obtain⟨p,xs,i,z,rfl,rfl,hq,he,q⟩:=h;cases rx;obtain⟨t,rfl⟩:=ry;obtain⟨its,r,pl,hz⟩:=I.tuple hq;obtain⟨j,h1,h2,h3,h4,h5⟩:=En he;obtain⟨w,ew,rw'⟩:=r.get h2;have hl:=r.length;have hn:=qc;have fin:EP X pins σ Q w s:=⟨z,H,I,rw',q⟩;exact Zd (x:=w) pl.typeIs slot_tuple_getitem.lookup
  (getItem_tuple (j:=j) (Q:=λr s'=>r=w/\EP X pins σ Q r s') pl (by omega) (by omega) (by rw[fj,<-hl];exact h1) (by simpa using ew) ⟨rfl,fin⟩) hs
theorem BJ:rI X RT:=by
 intro value slice pins s σ H x y v u Q I rx ry h hs;obtain⟨z,i,c,rfl,rfl,hz,he,q⟩:=h;obtain⟨t,rfl⟩:=rx;obtain⟨t',rfl⟩:=ry;obtain⟨j,h1,h2,h3,h4,h5⟩:=En he;have hl:z.cps.toList.length=z.length:=by simp[zO]
 rw[hl]at h1 h4 h5;have hn:=qc
 exact tail_any (wc s z t) slot_str_getitem.lookup (getItem_str (c:=c) (by
  have e1:decide (i< -(2^63:Int))=false:=cU (by omega)
  have e2:decide (i>=2^63)=false:=cU (by omega)
  rw[e1,e2,YJ]) (by rw[h1];simpa using h2) ⟨.str ⟨#[c]⟩,H,I.tok _,⟨_,rfl⟩,q⟩) hs
theorem QD(its:List af)(n j:Nat)(u:af):zP (·.setIfInBounds j u) {cls:=.type "list",data:=.seq its.toArray n}={cls:=.type "list",data:=.seq (its.set j u).toArray n}:=by simp[zP]
theorem Inv.lst{σ:St}{p:aa}(I:Inv X pins σ H s)(h:H p=some (.lst xs)):∃(its:List af)(n:Nat),bD xs its/\s.heap.get? p=some {cls:=.type "list",data:=.seq its.toArray n}/\xs.length<=sizeLine:=by
 obtain⟨z,its,n,r,e⟩:=I.aW p _ h;exact⟨its,n,r,e,z⟩
theorem Inv.Q8{σ:St}{p:aa}{ys:List V}{its':List af}{n':Nat}{f:bc->bc}(I:Inv X pins σ H s)(h:H p=some (.lst xs))(ho:s.heap.get? p=some {cls:=.type "list",data:=.seq its.toArray n})(hf:f {cls:=.type "list",data:=.seq its.toArray n}={cls:=.type "list",data:=.seq its'.toArray n'})(r:bD ys its')(hz:ys.length<=sizeLine)(t:Nat):Inv X pins σ (upd H p (.lst ys)) {s with heap:=s.heap.update p f,toks:=t}:=by
 have e:(s.heap.update p f).get? p=some {cls:=.type "list",data:=.seq its'.toArray n'}:=by rw[tG f ho (by rw[hf]<;>rfl),hf]
 refine I.write (x:=p) (e:=p) (by rw[h];trivial) (.inl rfl) (λb u hb q=>(mq _ _ (eW hb)).trans q) ⟨_,e⟩ ?_
 exact⟨hz,its',n',r,e⟩
def Ou:V->V->V->Hp->(Hp->Prop)->Prop:=λo i v H Q=>∃p xs k j,o=.ref p/\i=.int k/\H p=some (.lst xs)/\jn xs.length k=some j/\Q (upd H p (.lst (xs.set j v)))
theorem set_list:Il X Ou:=by
 intro pins s σ H o i v ov iv u Q I ro ri rv h;obtain⟨p,xs,k,j,rfl,rfl,hp,hj,q⟩:=h;cases ro;obtain⟨t,rfl⟩:=ri;obtain⟨its,n,r,ho,hz⟩:=I.lst hp;obtain⟨h1,h2,h3,h4⟩:=JV hj;have hl:=r.length;have hn:=qc;have I':Inv X pins σ (upd H p (.lst (xs.set j v))) {s with heap:=s.heap.update p (zP (·.setIfInBounds j u))}:=I.Q8 hp ho (QD its n j u) (r.set rv j) (by rw[Zf];exact hz) s.toks
 by_cases h0:0<=k
 .have hk:k.toNat=j:=by
   rw[Nh h0 h4]at h1;exact dQ h1
  exact PySem.W.ki_setAt ho h0 (by omega) (by rw[fj,<-hl];exact h4) (by rw[hk];exact⟨_,I',q⟩)
 .have hk:(k+(its.toArray.size:Int)).toNat=j:=by
   rw[Ni (by omega) h3]at h1
   rw[fj,<-hl];exact dQ h1
  exact PySem.W.ki_setBack ho (by omega) (by rw[fj,<-hl];exact h3) (by omega) (by rw[hk];exact⟨_,I',q⟩)
theorem Rb(lo hi:Option Int)(n:Nat):(tQ lo hi none n).1=((HT.g5 n 0 lo:Nat):Int)/\(tQ lo hi none n).2.1=((HT.g5 n n hi:Nat):Int)/\(tQ lo hi none n).2.2=1:=by
 refine⟨?_,?_,rfl⟩
 .cases lo with
  |none=>simp[tQ,HT.g5]
  |some i=>
   simp only[tQ,HT.g5,Zg,show(1:Int)>0 by decide,iF]
   by_cases h:i<0
   .simp only[h,iF]<;>omega
   .simp only[h,ic]<;>omega
 .cases hi with
  |none=>simp[tQ,HT.g5]
  |some i=>
   simp only[tQ,HT.g5,Zg,show(1:Int)>0 by decide,iF]
   by_cases h:i<0
   .simp only[h,iF]<;>omega
   .simp only[h,ic]<;>omega
theorem Xd(its:List af)(lo hi:Option Int):slicePick its.toArray lo hi none=((its.drop (HT.g5 its.length 0 lo)).take (HT.g5 its.length its.length hi - HT.g5 its.length 0 lo)).toArray:=by
 obtain⟨h1,h2,h3⟩:=Rb lo hi its.toArray.size;unfold slicePick;rw[h1,h2,h3];simp only[sliceRange_one,pick_run,fj]<;>rfl
def SS(K:aU):V->Option Int->Option Int->Hp->VK->Prop:=λx lo hi H Q=>∃a xs,x=.ref a/\aj K H a xs/\∀p,H p=none->Q (.ref p) (upd H p (.lst (d3 xs lo hi)))
theorem uR:HS X (SS X.K):=by
 intro pins s σ H x v vl vu lo hi sl Q I rx hs pl pu h;obtain⟨a,xs,rfl,hx,q⟩:=h;cases rx;obtain⟨its,r,ht,hz⟩:=I.list hx;have hlen:=r.length;refine⟨"list",_,Ze.lookup,ht.isList.typeIs,?_⟩;refine wpAny_getItem_list_slice ht.isList hs pl pu .none (by simp) ?_ (by rw[fj]<;>omega)
 rw[Xd,<-hlen];refine⟨.ref s.heap.objs.size,_,I.laid (t':=s.toks) (o:=.lst (d3 xs lo hi)) (λb ob q=>dB _ q) (bK _) ?_,rfl,q _ (I.aW.fresh (bK _))⟩;exact⟨fi (Rr xs lo hi) hz,_,0,(r.drop (HT.g5 xs.length 0 lo)).take (HT.g5 xs.length xs.length hi - HT.g5 xs.length 0 lo),dW _ rfl⟩
def kc:V->Bool
 | .bI=>true
 | .bl _=>true
 | .int _=>true
 | .str _=>true
 |_=>false
def kd:V->V->Bool
 | .bI,.bI=>true
 | .bl a,.bl b=>a==b
 | .bl a,.int b=>(if a then 1 else 0)==b
 | .int a,.bl b=>a==(if b then 1 else 0)
 | .int a,.int b=>a==b
 | .str a,.str b=>a==b
 |_,_=>false
theorem X1{y x:V}{v:af}(ry:RelV y u)(rx:RelV x v)(fy:kc y=true)(fx:kc x=true):Zh A s u v (kd y x):=by
 cases y with
 |bI=>
  cases ry;cases x with
  |bI=>cases rx;exact SeqAt.EqAt.same _
  |bl b=>cases rx;exact SeqAt.EqAt.none_bool b
  |int b=>obtain⟨t,rfl⟩:=rx;exact SeqAt.EqAt.none_int b t
  |str b=>obtain⟨t,rfl⟩:=rx;exact SeqAt.EqAt.none_str b t
  |_=>exact absurd (show false=true from fx) dH
 |bl a=>
  cases ry;cases x with
  |bI=>cases rx;exact SeqAt.EqAt.bool_none a
  |bl b=>cases rx;exact SeqAt.EqAt.bool_bool a b
  |int b=>obtain⟨t,rfl⟩:=rx;exact SeqAt.EqAt.bool_int a b t
  |str b=>obtain⟨t,rfl⟩:=rx;exact SeqAt.EqAt.bool_str a b t
  |_=>exact absurd (show false=true from fx) dH
 |int a=>
  obtain⟨t',rfl⟩:=ry;cases x with
  |bI=>cases rx;exact SeqAt.EqAt.int_none a t'
  |bl b=>cases rx;exact SeqAt.EqAt.int_bool a t' b
  |int b=>obtain⟨t,rfl⟩:=rx;exact SeqAt.EqAt.int_int a t' b t
  |str b=>obtain⟨t,rfl⟩:=rx;exact YM a t' b t
  |_=>exact absurd (show false=true from fx) dH
 |str a=>
  obtain⟨t',rfl⟩:=ry;cases x with
  |bI=>cases rx;exact SeqAt.EqAt.str_none a t'
  |bl b=>cases rx;exact SeqAt.EqAt.str_bool a t' b
  |int b=>obtain⟨t,rfl⟩:=rx;exact YN a t' b t
  |str b=>obtain⟨t,rfl⟩:=rx;exact SeqAt.EqAt.str_str a t' b t
  |_=>exact absurd (show false=true from fx) dH
 |_=>exact absurd (show false=true from fy) dH
def i4(x:V)(u:af):Bool:=match u with
 | .none=>kd .bI x
 | .bool b=>kd (.bl b) x
 | .int i _=>kd (.int i) x
 | .str z _=>kd (.str z) x
 |_=>false
theorem zp{x y:V}(r:RelV y u)(f:kc y=true):i4 x u=kd y x:=by
 cases y with
 |bI=>cases r;rfl
 |bl b=>cases r;rfl
 |int i=>obtain⟨t,rfl⟩:=r;rfl
 |str z=>obtain⟨t,rfl⟩:=r;rfl
 |_=>exact absurd (show false=true from f) dH
theorem uo{x:V}:∀{xs:List V}{us:List af},bD xs us->xs.all kc=true->us.any (i4 x)=xs.any λy=>kd y x
 |_,_,.nil,_=>rfl
 |y::xs,u::us,.cons r t,f=>by
  rw[tj,ib]at f;rw[qW,qW,zp r f.1,uo t f.2]
theorem rD{A:d9}{s:aC}{x:V}{v:af}(rx:RelV x v)(fx:kc x=true):∀{xs:List V}{us:List af},bD xs us->xs.all kc=true->∀u∈us,Zh A s u v (i4 x u)
 |_,_,.nil,_=>λu hu=>by cases hu
 |y::xs,u::us,.cons r t,f=>λu' hu=>by
  rw[tj,ib]at f;rcases bM.mp hu with rfl|hu
  .rw[zp r f.1];exact X1 r rx f.1 fx
  .exact rD rx fx t f.2 u' hu
def yl(x:V)(xs:List V):Bool:=xs.any λy=>kd y x
def K7(K:aU)(neg:Bool):R2:=λx y H Q=>∃p xs,y=.ref p/\(aj K H p xs\/cv K H p xs)/\kc x=true/\xs.all kc=true/\Q (.bl (if neg then !yl x xs else yl x xs)) H
theorem CG:gn X (iT .In) (K7 X.K false):=by
 intro pins s σ H x y v u Q I rx ry h;obtain⟨p,xs,rfl,hq,fx,fs,q⟩:=h;cases ry;rcases hq with hq|hq
 .obtain⟨its,r,pl,hz⟩:=I.list hq
  refine SeqAt.in_listAt (i4 x) pl.isList (λw hw=>rD rx fx r fs w (by simpa using hw)) ⟨.bl _,H,I,rfl,?_⟩
  rw[show its.toArray.any (i4 x)=its.any (i4 x) by simp,uo r fs]
  exact q
 .obtain⟨its,r,pl,hz⟩:=I.tuple hq
  refine SeqAt.in_tupleAt (i4 x) pl (λw hw=>rD rx fx r fs w (by simpa using hw)) ⟨.bl _,H,I,rfl,?_⟩
  rw[show its.toArray.any (i4 x)=its.any (i4 x) by simp,uo r fs]
  exact q
theorem JO:gn X (iT .NotIn) (K7 X.K true):=by
 intro pins s σ H x y v u Q I rx ry h;obtain⟨p,xs,rfl,hq,fx,fs,q⟩:=h;cases ry;rcases hq with hq|hq
 .obtain⟨its,r,pl,hz⟩:=I.list hq
  refine SeqAt.notIn_listAt (i4 x) pl.isList (λw hw=>rD rx fx r fs w (by simpa using hw)) ⟨.bl _,H,I,rfl,?_⟩
  rw[show its.toArray.any (i4 x)=its.any (i4 x) by simp,uo r fs]
  exact q
 .obtain⟨its,r,pl,hz⟩:=I.tuple hq
  refine SeqAt.notIn_tupleAt (i4 x) pl (λw hw=>rD rx fx r fs w (by simpa using hw)) ⟨.bl _,H,I,rfl,?_⟩
  rw[show its.toArray.any (i4 x)=its.any (i4 x) by simp,uo r fs]
  exact q
theorem iA:iB X (.builtin "len") (λxs H Q=>∃p ys,xs=[.ref p]/\(aj X.K H p ys\/cv X.K H p ys)/\Q (.int ys.length) H):=by
 intro pins s σ H xs us Q I r h;obtain⟨p,ys,rfl,hq,q⟩:=h;obtain⟨u,rfl,rx⟩:=vals1 r;cases rx;have hn:=qc;rcases hq with hq|hq
 .obtain⟨its,r',pl,hz⟩:=I.list hq
  have hlen:=r'.length;exact Calls.call_len_list pl.isList (by simp only[fj]<;>omega) ⟨.int ys.length,H,I.tok _,⟨s.toks+1,by rw[fj,hlen]⟩,q⟩
 .obtain⟨its,r',pl,hz⟩:=I.tuple hq
  have hlen:=r'.length;exact len_tuple pl (by simp only[fj]<;>omega) ⟨.int ys.length,H,I.tok _,⟨s.toks+1,by rw[fj,hlen]⟩,q⟩
theorem Ja:iB X (.builtin "len") (λxs H Q=>∃z,xs=[.str z]/\z.length<=sizeLine/\Q (.int z.length) H):=by
 intro pins s σ H xs us Q I r h;obtain⟨z,rfl,hz,q⟩:=h;obtain⟨u,rfl,t,rfl⟩:=vals1 r;have hn:=qc;exact len_str (by omega) ⟨.int z.length,H,I.tok _,⟨_,rfl⟩,q⟩
theorem Lw:iB X (.type "list") (λxs H Q=>∃p ys,xs=[.ref p]/\(aj X.K H p ys\/cv X.K H p ys)/\∀l,H l=none->Q (.ref l) (upd H l (.lst ys))):=by
 intro pins s σ H xs us Q I r h;obtain⟨p,ys,rfl,hq,q⟩:=h;obtain⟨u,rfl,rx⟩:=vals1 r;cases rx;have fin:∀(its:List af),bD ys its->ys.length<=sizeLine->∀(h':a9)(c':Nat),(∀b o',s.heap.get? b=some o'->h'.get? b=some o')->
  h'.get? s.heap.objs.size=some {cls:=.type "list",dict:=none,data:=.seq its.toArray c',slots:=#[]}->EP X pins σ Q (.ref s.heap.objs.size) {s with heap:=h'}:=λits r' hz h' c' kp e=>
  ⟨.ref s.heap.objs.size,_,I.laid (t':=s.toks) kp (bK _) (show dF X.prog X.w _ h' _ (.lst ys) from⟨hz,its,c',r',e⟩),rfl,q _ (I.aW.fresh (bK _))⟩
 rcases hq with hq|hq
 .obtain⟨its,r',pl,hz⟩:=I.list hq
  have hlen:=r'.length;obtain⟨o,ho,hc,n,hd⟩:=pl.isList;exact Zi p (.inl rfl) ho hc hd (λh' c' kp e=>fin its r' hz h' c' kp e) (by simp only[fj]<;>omega)
 .obtain⟨its,r',pl,hz⟩:=I.tuple hq
  have hlen:=r'.length;obtain⟨o,ho,hc,n,hd⟩:=pl;exact Zi p (.inr rfl) ho hc hd (λh' c' kp e=>fin its r' hz h' c' kp e) (by simp only[fj]<;>omega)
def DF(K:aU)(T:String)(x:V)(H:Hp):Prop:=match x with
 | .str _=>T="str"
 | .int _=>T="int"
 | .ref p=>(T="list"/\∃xs,aj K H p xs)\/(T="tuple"/\∃o,K.lookup p=some o/\o.cls=.type "tuple"/\o.dict=none)\/
  (T="dict"/\((∃kvs,H p=some (.dK kvs))\/∃kvs,H p=some (.dT kvs)))\/(T="set"/\∃S n,H p=some (.set S n))
 |_=>False
theorem IJ{σ:St}{T:String}{x:V}{v:af}(I:Inv X pins σ H s)(r:RelV x v)(ty:DF X.K T x H):s.TypeIs v T/\∀a,v=.ref a->∃ob,s.heap.get? a=some ob/\ob.dict=none:=by
 cases x with
 |str z=>
  obtain⟨t,rfl⟩:=r;cases(show T="str" from ty);exact⟨wc s z t,λy e=>nomatch e⟩
 |int i=>
  obtain⟨t,rfl⟩:=r;cases(show T="int" from ty);exact⟨typeIs_int s i t,λy e=>nomatch e⟩
 |ref p=>
  cases r;rcases ty with⟨rfl,xs,hq⟩|⟨rfl,o,hk,hc,hd⟩|⟨rfl,hk⟩|⟨rfl,S,n,hk⟩
  .obtain⟨its,y,pl,y⟩:=I.list hq
   refine⟨pl.isList.typeIs,λa e=>?_⟩;cases e;obtain⟨o,n,e,c,hd,y⟩:=pl;exact⟨o,e,hd⟩
  .refine⟨⟨o,I.iC p o hk,hc⟩,λa e=>?_⟩
   cases e;exact⟨o,I.iC _ o hk,hd⟩
  .have z:∃o,s.heap.get? p=some o/\o.ExactDict:=by
    rcases hk with⟨kvs,hk⟩|⟨kvs,hk⟩
    .obtain⟨y,y,y,y,o,y,y,e,ex,y⟩:=I.aW p _ hk
     exact⟨o,e,ex⟩
    .obtain⟨y,y,y,y,o,y,y,e,ex,y⟩:=I.aW p _ hk
     exact⟨o,e,ex⟩
   obtain⟨o,e,ex⟩:=z;refine⟨⟨o,e,ex.1⟩,λa e2=>?_⟩;cases e2;exact⟨o,e,ex.2.1⟩
  .obtain⟨o,y,y,y,e,ex,y⟩:=I.aW p _ hk
   refine⟨⟨o,e,ex.1⟩,λa e2=>?_⟩;cases e2;exact⟨o,e,ex.2.1⟩
 |_=>exact jd ty
def N9(K:aU)(T:String)(r:V->List V->Hp->VK->Prop)(to:TE):TE:=λσ H Q=>to σ H λx H1=>DF K T x H1/\r x [] H1 Q
def GA(K:aU)(T:String)(r:V->List V->Hp->VK->Prop)(to:TE)(t:TA):TE:=λσ H Q=>to σ H λx H1=>DF K T x H1/\t σ H1 λxs H2=>r x xs H2 Q
variable{o:bE}{to:TE}{t:TA}{name:ae}{apos cpos:cI}{T id:String}{r:V->List V->Hp->VK->Prop}
theorem Yl(pa:PlainAttrs T)(slot:Slot T name id)(hty:Fg (.builtin id)=pure (.type "method_descriptor"))(hm:qe X id r)(ho:PE X o to)(hbase:mv o name X.env (bP o X.env)=bP o X.env:=by rfl)(hline:(apos.endLine==cpos.line)=true:=by rfl):PE X (.Call (.Attribute o name apos) [] [] cpos) (N9 X.K T r to):=by
 intro pins s σ H Q I h;refine wpAny_Call_method0_late hbase hline (bf (ho pins s σ H _ I h) λv s1 ⟨x,H1,I1,r1,ty,q1⟩=>?_);obtain⟨h1,h2⟩:=IJ I1 r1 ty;exact⟨T,id,pa,slot,hty,h1,h2,wd rfl (Fi (hm pins s1 σ H1 x [] v [] Q I1 r1 .nil q1))⟩
theorem gI(pa:PlainAttrs T)(slot:Slot T name id)(hty:Fg (.builtin id)=pure (.type "method_descriptor"))(hm:qe X id r)(ho:PE X o to)(ha:PA X (e::es) t)(hbase:mv o name X.env (bP o X.env)=bP o X.env:=by rfl)(hfew:((f7 cpos (cn (e::es) X.env)).all (λx=> !x.1)&&(lB cpos (lC [] X.env)).all (λx=>x.1.isSome)&&decide ((e::es).length+([]:List zD).length+(if([]:List zD).isEmpty then 0 else 1)<30))=true:=by rfl)(hline:(apos.endLine==cpos.line)=true:=by rfl)(hs:cn (e::es) X.env=(false,bP e X.env)::cn es X.env:=by rfl)(hplain:(f7 cpos (cn es X.env)).any (·.1)=false:=by rfl):PE X (.Call (.Attribute o name apos) (e::es) [] cpos) (GA X.K T r to t):=by
 intro pins s σ H Q I h;refine wpAny_Call_method_late hbase hfew hline rfl (bf (ho pins s σ H _ I h) λv s1 ⟨x,H1,I1,r1,ty,q1⟩=>?_);obtain⟨h1,h2⟩:=IJ I1 r1 ty;refine⟨T,id,pa,slot,hty,h1,h2,?_⟩;have hA:=ha cpos pins s1 σ H1 _ I1 q1;rw[hs]at hA⊢;refine wd (by show(false||(f7 cpos (cn es X.env)).any (·.1))=false;rw[hplain]<;>rfl) (zQ ?_)
 exact bf hA λus s2 ⟨vs,H2,I2,r2,q2⟩=>hm pins s2 σ H2 x vs v us Q I2 r1 r2 q2
end
def A2(X:Cx)(id:String)(r:V->List V->Hp->VK->Prop):Prop:=∀(pins:List (aa×bc))(s:aC)(σ:St)(H:Hp)(x:V)(xs:List V)(v:af)(us:List af)(Q:VK),Inv X pins σ H s->RelV x v->bD xs us->r x xs H Q->
 aJ (ba X.prog X.w) X.A (fO (.builtin id) (v::us)) (EP X pins σ Q) X.xe s
theorem bD.one:∀{x:V}{us:List af},bD [x] us->∃u,us=[u]/\RelV x u
 |_,_,.cons r .nil=>⟨_,rfl,r⟩
theorem bD.zero:∀{us:List af},bD [] us->us=[]
 |_,.nil=>rfl
theorem bD.dropLast(h:bD xs us):bD xs.dropLast us.dropLast:=by
 induction h with
 |nil=>exact .nil
 |cons r t ih=>
  cases t with
  |nil=>exact .nil
  |cons q t'=>exact .cons r ih
theorem UT{α:Type}(l:List α):l.eraseIdx (l.length - 1)=l.dropLast:=by
 induction l with
 |nil=>rfl
 |cons a r ih=>
  cases r with
  |nil=>rfl
  |cons b r=>
   have e:(a::b::r).length - 1=((b::r).length - 1)+1:=by
    have h1:(a::b::r).length=r.length+2:=rfl;have h2:(b::r).length=r.length+1:=rfl;omega
   rw[e,List.eraseIdx_cons_succ,ih]
   all_goals rfl
section
variable{σ:St}{l:aa}{ys zs:List V}
theorem Inv.AA{its':List af}{f:Array af->Array af}(I:Inv X pins σ H s)(hH:H l=some (.lst xs))(e:s.heap.get? l=some {cls:=.type "list",data:=.seq its.toArray n})(hf:f its.toArray=its'.toArray)(hv:bD ys its')(hz:ys.length<=sizeLine):Inv X pins σ (upd H l (.lst ys)) {s with heap:=s.heap.update l (zP f),toks:=t'}:=by
 have q:=PySem.IsL.update e f;rw[hf]at q;refine I.write (x:=l) (e:=l) (by rw[hH];exact trivial) (.inl rfl) (λb' u hb hu=>(mq s.heap (zP f) (eW hb)).trans hu) ⟨_,q⟩ ?_
 exact⟨hz,its',_,hv,q⟩
theorem Inv.PL(I:Inv X pins σ H s)(hv:bD ys its)(hz:ys.length<=sizeLine):Inv X pins σ (upd H s.heap.objs.size (.lst ys)) {s with heap:=s.heap.push {cls:=.type "list",data:=.seq its.toArray},toks:=t'}:=I.laid (λz z q=>dB _ q) (bK _) ⟨hz,its,0,hv,dW _ rfl⟩
theorem Inv.fresh(I:Inv X pins σ H s):H s.heap.objs.size=none:=I.aW.fresh (bK _)
theorem Inv.rq(I:Inv X pins σ H s)(hH:H l=some (.lst xs)):xs.length<=sizeLine/\∃(its:List af)(n:Nat),bD xs its/\xs.length=its.length/\s.heap.get? l=some {cls:=.type "list",data:=.seq its.toArray n}:=by
 obtain⟨z,its,n,r,e⟩:=I.aW l _ hH;exact⟨z,its,n,r,r.length,e⟩
theorem Rv(h:n<=sizeLine):Nk n=false:=by
 unfold Nk;exact cU (by omega)
end
def HX:V->List V->Hp->VK->Prop:=λx vs H Q=>∃l xs y,x=.ref l/\vs=[y]/\H l=some (.lst xs)/\xs.length<sizeLine/\Q .bI (upd H l (.lst (xs++[y])))
theorem DS:A2 X "list.append" HX:=by
 intro pins s σ H x vs v us Q I rx rv h;obtain⟨l,xs,y,rfl,rfl,hH,hz,q⟩:=h;cases rx;obtain⟨u,rfl,ru⟩:=rv.one;obtain⟨z,its,n,r,hl,e⟩:=I.rq hH;refine tR F.slot_list_append ⟨_,e,rfl⟩ F.entry_list_append (F.args_list_append_2 _ _) (PySem.list_append l its.toArray n u (by rw[fj];omega)) ⟨e,?_⟩
 refine⟨.bI,_,I.AA (its':=its++[u]) hH e (by simp) (r.append (.cons ru .nil)) ?_,rfl,q⟩
 rw[bV,Yu];omega
def Vt:V->List V->Hp->VK->Prop:=λx vs H Q=>∃l b xs zs,x=.ref l/\vs=[.ref b]/\H l=some (.lst xs)/\H b=some (.lst zs)/\xs.length+zs.length<=sizeLine/\Q .bI (upd H l (.lst (xs++zs)))
theorem jY:A2 X "list.extend" Vt:=by
 intro pins s σ H x vs v us Q I rx rv h;obtain⟨l,b,xs,zs,rfl,rfl,hH,hB,hz,q⟩:=h;cases rx;obtain⟨u,rfl,ru⟩:=rv.one;cases ru;obtain⟨z,its,n,r,hl,e⟩:=I.rq hH;obtain⟨z2,its2,n2,r2,hl2,e2⟩:=I.rq hB;have hsz:its.toArray.size+its2.toArray.size<=sizeLine:=by rw[fj,fj];omega
 have hlong:¬(!its.toArray.isEmpty&&Nk (its.toArray.size+its2.toArray.size))=true:=by
  rw[Rv hsz,Zj];exact dH
 refine tR F.slot_list_extend ⟨_,e,rfl⟩ F.entry_list_extend (F.args_list_extend_2 _ _)
  (AutoSeq1.list_extend_list_list_0 l its.toArray n b its2.toArray n2 hlong (by rw[fj];omega) (by omega)) ⟨e,e2,?_⟩
 refine⟨.bI,_,I.AA (its':=its++its2) hH e (by simp) (r.append r2) ?_,rfl,q⟩
 rw[bV];omega
def Us:V->List V->Hp->VK->Prop:=λx vs H Q=>∃l xs y,x=.ref l/\vs=[]/\H l=some (.lst xs)/\xs[xs.length - 1]? =some y/\Q y (upd H l (.lst xs.dropLast))
theorem PQ:A2 X "list.pop" Us:=by
 intro pins s σ H x vs v us Q I rx rv h;obtain⟨l,xs,y,rfl,rfl,hH,hy,q⟩:=h;cases rx;have hus:=rv.zero;subst hus;obtain⟨z,its,n,r,hl,e⟩:=I.rq hH;obtain⟨u,hu,ru⟩:=r.get hy;have hy':its.toArray[its.toArray.size - 1]? =some u:=by
  show its.toArray[its.length - 1]? =some u;rw[<-Zk,<-hl];exact hu
 refine tR F.slot_list_pop ⟨_,e,rfl⟩ F.entry_list_pop (F.args_list_pop_1 _) (MeetsSeq.list_pop_last l its.toArray n u hy' (by rw[fj];omega)) ⟨e,?_⟩
 refine⟨y,_,I.AA (its':=its.dropLast) hH e ?_ r.dropLast ?_,ru,q⟩
 .show its.toArray.eraseIdxIfInBounds (its.toArray.size - 1)=its.dropLast.toArray
  rw[fj,List.eraseIdxIfInBounds_toArray,UT]
 .rw[List.length_dropLast]
  omega
def Jz:R2:=λx y H Q=>∃l b xs zs,x=.ref l/\y=.ref b/\H l=some (.lst xs)/\H b=some (.lst zs)/\xs.length+zs.length<=sizeLine/\∀p,H p=none->Q (.ref p) (upd H p (.lst (xs++zs)))
theorem j3:gn X (zL .Add) Jz:=by
 intro pins s σ H x y v u Q I rx ry h;obtain⟨l,b,xs,zs,rfl,rfl,hH,hB,hz,q⟩:=h;cases rx;cases ry;obtain⟨z,its,n,r,hl,e⟩:=I.rq hH;obtain⟨z2,its2,n2,r2,hl2,e2⟩:=I.rq hB;refine PySem.P.add_list e e2 ?_ (by rw[fj,fj];omega)
 have ea:its.toArray++its2.toArray=(its++its2).toArray:=by simp
 rw[ea];exact⟨.ref _,_,I.PL (t':=s.toks) (r.append r2) (by rw[bV];omega),rfl,q _ I.fresh⟩
theorem bD.ints:∀{ns:List Int}{us:List af},bD (ns.map V.int) us->we us ns
 |[],us,h=>by
  rw[i7]at h;cases h;exact IntsAre.nil
 |n::ns,us,h=>by
  rw[bS]at h;cases h with
  |cons r t=>
   obtain⟨k,rfl⟩:=r;exact IntsAre.cons n k (bD.ints t)
theorem bD.Ak:∀{bs:List Bool}{us:List af},bD (bs.map V.bl) us->us=bs.map qL
 |[],us,h=>by
  rw[i7]at h;cases h;rfl
 |b::bs,us,h=>by
  rw[bS]at h;cases h with
  |cons r t=>
   cases r;rw[bD.Ak t,bS]
theorem bD.uc(r:bD [V.ref a] us):us=[cV a]:=by
 cases r with
 |cons r t=>
  cases t;cases r;rfl
section
variable{l:aa}{ns:List Int}
theorem Sw(hh:A.handled=none)(hl:s.heap.IsList l its.toArray)(hi:we its ns)(h:∀h' tk t',(∀b o,s.heap.get? b=some o->h'.get? b=some o)->Q (.int ns.sum t') {s with heap:=h',toks:=tk}):aJ (ba prog w) A (fO (.builtin "sum") [.ref l]) Q E s:=by
 obtain⟨xs,e⟩:=hi.allInts.items;have hn:zR (ja xs).toList=ns:=by rw[<-e];exact hi.numsOf
 rw[zS]at hn;rw[e]at hl;refine PySem.sum_intListG hh hl λh' tk t' hk=>?_;have:=h h' tk t' hk;rw[preSum_eq,zT (by simp),hn];exact this
theorem OA(hh:A.handled=none)(hl:s.heap.IsList l its.toArray)(hi:we its ns)(hne:0<ns.length)(h:∀h' tk M t',(∀b o,s.heap.get? b=some o->h'.get? b=some o)->M∈ns->(∀a,a∈ns->a<=M)->Q (.int M t') {s with heap:=h',toks:=tk}):aJ (ba prog w) A (fO (.builtin "max") [.ref l]) Q E s:=by
 obtain⟨xs,e⟩:=hi.allInts.items;have hn:zR (ja xs).toList=ns:=by rw[<-e];exact hi.numsOf
 rw[zS]at hn;subst hn;rw[e]at hl;have hsz:0<xs.size:=by simpa using hne
 refine PySem.max_intList hh hl hsz λv h' tk hv hk=>?_;obtain⟨t,rfl⟩:=vT hv;obtain⟨h1,h2⟩:=argBest_gt (n9 xs) (xs.size - 1);refine h h' tk _ t hk ?_ λa ha=>?_
 .rw[qX];exact Fj (by rw[aA,mr];omega)
 .obtain⟨j,hj,rfl⟩:=Fk ha
  rw[aA,mr]at hj;rw[<-qX];exact h2 j (by omega)
theorem W2(hh:A.handled=none)(hl:s.heap.IsList l its.toArray)(hi:we its ns)(hne:0<ns.length)(h:∀h' tk M t',(∀b o,s.heap.get? b=some o->h'.get? b=some o)->M∈ns->(∀a,a∈ns->M<=a)->Q (.int M t') {s with heap:=h',toks:=tk}):aJ (ba prog w) A (fO (.builtin "min") [.ref l]) Q E s:=by
 obtain⟨xs,e⟩:=hi.allInts.items;have hn:zR (ja xs).toList=ns:=by rw[<-e];exact hi.numsOf
 rw[zS]at hn;subst hn;rw[e]at hl;have hsz:0<xs.size:=by simpa using hne
 refine PySem.min_intList hh hl hsz λv h' tk hv hk=>?_;obtain⟨t,rfl⟩:=vT hv;obtain⟨h1,h2⟩:=argBest_lt (n9 xs) (xs.size - 1);refine h h' tk _ t hk ?_ λa ha=>?_
 .rw[qX];exact Fj (by rw[aA,mr];omega)
 .obtain⟨j,hj,rfl⟩:=Fk ha
  rw[aA,mr]at hj;rw[<-qX];exact h2 j (by omega)
end
def TX(K:aU):List V->Hp->VK->Prop:=λvs H Q=>∃(a:aa)(ns:List Int),vs=[V.ref a]/\aj K H a (ns.map V.int)/\Q (.int ns.sum) H
def Tz(K:aU):List V->Hp->VK->Prop:=λvs H Q=>∃(a:aa)(ns:List Int),vs=[V.ref a]/\aj K H a (ns.map V.int)/\0<ns.length/\∀m,m∈ns->(∀y,y∈ns->y<=m)->Q (.int m) H
def Ji(K:aU):List V->Hp->VK->Prop:=λvs H Q=>∃(a:aa)(ns:List Int),vs=[V.ref a]/\aj K H a (ns.map V.int)/\0<ns.length/\∀m,m∈ns->(∀y,y∈ns->m<=y)->Q (.int m) H
theorem Lp(hc:X.calm=true):iB X (.builtin "sum") (TX X.K):=by
 intro pins s σ H vs us Q I r h;obtain⟨a,ns,rfl,hs,q⟩:=h;obtain⟨its,rv,hl,z⟩:=I.list hs;rw[bD.uc r];exact Sw (I.ok.hd hc) hl.isList rv.ints λh' tk t' hk=>⟨.int _,H,I.kept hk,⟨_,rfl⟩,q⟩
theorem Ub(hc:X.calm=true):iB X (.builtin "max") (Tz X.K):=by
 intro pins s σ H vs us Q I r h;obtain⟨a,ns,rfl,hs,hne,q⟩:=h;obtain⟨its,rv,hl,z⟩:=I.list hs;rw[bD.uc r];exact OA (I.ok.hd hc) hl.isList rv.ints hne λh' tk m t' hk h1 h2=>⟨.int _,H,I.kept hk,⟨_,rfl⟩,q m h1 h2⟩
theorem VA(hc:X.calm=true):iB X (.builtin "min") (Ji X.K):=by
 intro pins s σ H vs us Q I r h;obtain⟨a,ns,rfl,hs,hne,q⟩:=h;obtain⟨its,rv,hl,z⟩:=I.list hs;rw[bD.uc r];exact W2 (I.ok.hd hc) hl.isList rv.ints hne λh' tk m t' hk h1 h2=>⟨.int _,H,I.kept hk,⟨_,rfl⟩,q m h1 h2⟩
def VE(K:aU):V->List V->Hp->VK->Prop:=λx xs H Q=>∃(a:aa)(ys:List V)(y:V)(j:Nat)(z:V),x=V.ref a/\xs=[y]/\aj K H a ys/\kc y=true/\ys.all kc=true/\ys[j]? =some z/\kd z y=true/\
 (∀(m:Nat)(z':V),m<j->ys[m]? =some z'->kd z' y=false)/\Q (.int (j:Nat)) H
theorem HI{ys:List V}(f:ys.all kc=true){j:Nat}{z:V}(h:ys[j]? =some z):kc z=true:=fE.mp f z (cZ h)
theorem D9:qe X "list.index" (VE X.K):=by
 intro pins s σ H x xs v us Q I rx rxs h;obtain⟨a,ys,y,j,z,rfl,rfl,hs,fy,fys,hz,hzj,hno,q⟩:=h;cases rx;cases rxs with
 |cons ry rt=>
  rename_i uy ut
  cases rt;obtain⟨its,rv,⟨⟨cls,dd,data,sl⟩,n,ho,hc,hdn,hd⟩,hlen⟩:=I.list hs;simp only at hc hd;subst hc hd;obtain⟨u,hu,ru⟩:=rv.get hz;obtain⟨hjl,hje⟩:=cN.mp hu;have hvl:=rv.length;have hj:j<its.toArray.size:=by simpa using hjl
  have hsl:=zM;refine tR Fm ⟨_,ho,rfl⟩ PySem.F.entry_list_index (PySem.F.args_list_index_2 _ _)
   (SeqAt.list_indexAt a its.toArray n dd sl uy (i4 y) j hj (by omega) ?_ ?_) ⟨ho,λu' hu'=>rD ry fy rv fys u' (by simpa using hu'),?_⟩
  .have e1:its.toArray[j]=u:=by simpa using hje
   rw[e1,zp ru (HI fys hz)];exact hzj
  .intro m hm hmj
   have hml:m<its.length:=by simpa using hm
   have hmy:m<ys.length:=by omega
   have hy':ys[m]? =some ys[m]:=bH hmy;obtain⟨u2,rC,ru2⟩:=rv.get hy';obtain⟨_,hme⟩:=cN.mp rC;have e1:its.toArray[m]=u2:=by simpa using hme
   rw[e1,zp ru2 (HI fys hy')];exact hno m _ hmj hy'
  .exact⟨.int (j:Nat),H,I.tok _,⟨_,rfl⟩,q⟩
theorem HC{l:aa}{items:Array af}(hl:s.heap.IsList l items)(h:∀s₂:aC,s₂={s with heap:=s.heap.push {cls:=.type "list_iterator",data:=.fields #[.ref l,.int 0 0]}}->(s₂.heap.IsListIter s.heap.objs.size l 0/\s₂.heap.IsList l items)->l≠s.heap.objs.size->Q (.ref s.heap.objs.size) s₂):aJ (ba prog w) A (qO (.ref l)) Q E s:=by
 have hlt:l<s.heap.objs.size:=by obtain⟨z,e,z⟩:=hl;exact cO e
 exact zC hl (h _ rfl ⟨⟨_,dW _ rfl,rfl,rfl⟩,hl.push _⟩ (dM hlt))
theorem IG{bs:List Bool}(e:its=bs.map qL):TruthOf prog w A (λi v=>its.toArray[i]? =some v) (λi=>bs.getD i false):=λi v s Q E hv hq=>by
 have hv':its[i]? =some v:=by simpa using hv
 rw[e,bz]at hv';obtain⟨b,hb,rfl⟩:=di.mp hv';have hg:bs.getD i false=b:=by rw[eA,hb]<;>rfl
 have hq':Q (bs.getD i false) s:=hq;rw[hg]at hq';exact n8 hq'
theorem any_range:∀bs:List Bool,(cR bs.length).any (λi=>bs.getD i false)=bs.any id
 |[]=>rfl
 |b::bs=>by
  rw[cY,Fn,qW,Fo,qW,<-any_range bs]
  all_goals rfl
theorem all_range:∀bs:List Bool,(cR bs.length).all (λi=>bs.getD i false)=bs.all id
 |[]=>rfl
 |b::bs=>by
  rw[cY,Fn,tj,pF,tj,<-all_range bs]
  all_goals rfl
def QR(K:aU):List V->Hp->VK->Prop:=λvs H Q=>∃(a:aa)(bs:List Bool),vs=[V.ref a]/\aj K H a (bs.map V.bl)/\Q (.bl (bs.any id)) H
def Ov(K:aU):List V->Hp->VK->Prop:=λvs H Q=>∃(a:aa)(bs:List Bool),vs=[V.ref a]/\aj K H a (bs.map V.bl)/\Q (.bl (bs.all id)) H
theorem GR(hc:X.calm=true):iB X (.builtin "any") (QR X.K):=by
 intro pins s σ H vs us Q I r h;obtain⟨a,bs,rfl,hs,q⟩:=h;obtain⟨its,rv,hl,z⟩:=I.list hs;rw[bD.uc r];have hb:=rv.Ak;refine call_any_walk (HC hl.isList λs₂ e2 st hne=>?_);subst e2;refine⟨_,_,_,_,_,_,_,rfl,ET (A:=X.A.in1) (I.ok.hd hc) _ a hne its.toArray,st,IG hb,λh' tk hk=>?_⟩;refine⟨.bl _,H,I.kept λb o eo=>hk b o (λhmem=>?_) (dB _ eo),?_,q⟩
 .rcases bM.mp hmem with e1|hmem
  .exact absurd (e1▸cO eo) (kx _)
  .cases hmem
 .show qL _=qL _
  rw[<-any_range,hb,fj,aA]
theorem u9(hc:X.calm=true):iB X (.builtin "all") (Ov X.K):=by
 intro pins s σ H vs us Q I r h;obtain⟨a,bs,rfl,hs,q⟩:=h;obtain⟨its,rv,hl,z⟩:=I.list hs;rw[bD.uc r];have hb:=rv.Ak;refine call_all_walk (HC hl.isList λs₂ e2 st hne=>?_);subst e2;refine⟨_,_,_,_,_,_,_,rfl,ET (A:=X.A.in1) (I.ok.hd hc) _ a hne its.toArray,st,IG hb,λh' tk hk=>?_⟩;refine⟨.bl _,H,I.kept λb o eo=>hk b o (λhmem=>?_) (dB _ eo),?_,q⟩
 .rcases bM.mp hmem with e1|hmem
  .exact absurd (e1▸cO eo) (kx _)
  .cases hmem
 .show qL _=qL _
  rw[<-all_range,hb,fj,aA]
abbrev Jn(h:a9)(c:aa)(v:Option af):Prop:=h.IsCell c v
def mL(scope sc:eV):eV:={scope with names:=scope.names.map λ(n,k)=>if(k==.free&&sc.kind==.function&&sc.names.lookup n==some .cell)then(n,.cell)else(n,k)}
def gB(cells:List (ae×aa)):List (ae×ju)->List (ae×aa)->List (ae×aa)
 |[],acc=>acc
 |(n,k)::r,acc=>if k==.free then gB cells r ((n,(cells.lookup n).getD 0)::acc)else gB cells r acc
theorem HZ(env:ei)(f:ae×ju->List (ae×aa)->jc (ForInStep (List (ae×aa))))
 (hf:∀n k c,f (n,k) c=if k==.free then(do let a<-cellOf env n;pure (.yield ((n,a)::c)))else pure (.yield c)):
 ∀(names:List (ae×ju))(acc:List (ae×aa)),(∀y∈names,y.2=.free->∃c,env.cells.lookup y.1=some c)->forIn names acc f=pure (gB env.cells names acc)
 |[],acc,_=>by rw[Zl];rfl
 |(n,k)::r,acc,h=>by
  rw[List.forIn_cons,hf];have ih:=λacc=>HZ env f hf r acc λy hy=>h y (b8 _ hy);unfold gB;by_cases hk:(k==wg)=true
  .rw[ay hk,ay hk]
   obtain⟨c,hc⟩:=h (n,k) gF (by simpa using hk)
   have e:cellOf env n=pure c:=by unfold cellOf;rw[hc]
   rw[e];have e2:(env.cells.lookup n).getD 0=c:=by rw[hc];rfl
   rw[e2];exact ih _
  .rw[aq hk,aq hk]
   exact ih _
theorem QW{env:ei}(h:∀y∈scope.names,y.2=.free->∃c,env.cells.lookup y.1=some c):closureFor scope env=pure (gB env.cells scope.names []):=by
 simp only[closureFor];rw[HZ env _ (λn k c=>rfl) scope.names [] h];rfl
theorem mem_lookup{α:Type}:∀{l:List (ae×α)}{n:ae}{c:α},(n,c)∈l->∃c',l.lookup n=some c'
 |(k,v)::r,n,c,h=>by
  rw[tS];cases hb:n==k with
  |true=>exact⟨_,rfl⟩
  |false=>
   rcases bM.mp h with e|h
   .cases e;simp at hb
   .exact mem_lookup h
theorem xB{cells:List (ae×aa)}:∀{names:List (ae×ju)}{acc:List (ae×aa)}{n:ae}{c:aa},(n,c)∈gB cells names acc->(n,c)∈acc\/((n,.free)∈names/\c=(cells.lookup n).getD 0)
 |[],_,_,_,h=>.inl h
 |(m,k)::r,acc,n,c,h=>by
  unfold gB at h;split at h
  .rename_i hk
   have hk:k=.free:=by simpa using hk
   rcases xB h with h|⟨h1,h2⟩
   .rcases bM.mp h with e|h
    .cases e;exact .inr ⟨hk▸gF,rfl⟩
    .exact .inl h
   .exact .inr ⟨b8 _ h1,h2⟩
  .rcases xB h with h|⟨h1,h2⟩
   .exact .inl h
   .exact .inr ⟨b8 _ h1,h2⟩
theorem BR{cells:List (ae×aa)}:∀{names:List (ae×ju)}{acc:List (ae×aa)}{p:ae×aa},p∈acc->p∈gB cells names acc
 |[],_,_,h=>h
 |(m,k)::r,acc,p,h=>by
  unfold gB;split
  .exact BR (b8 _ h)
  .exact BR h
theorem C7{cells:List (ae×aa)}:∀{names:List (ae×ju)}{acc:List (ae×aa)}{n:ae},(n,.free)∈names->(n,(cells.lookup n).getD 0)∈gB cells names acc
 |(m,k)::r,acc,n,h=>by
  unfold gB;rcases bM.mp h with e|h
  .cases e
   exact BR gF
  .split
   .exact C7 h
   .exact C7 h
theorem vB:∀{names:List (ae×ju)}{h:a9}{acc:List (ae×aa)}{x:ae}{c:aa},(x,c)∈gT h.objs.size names acc->(x,c)∈acc\/((x,.cell)∈names/\h.objs.size<=c/\Jn (qY h names) c none)
 |[],_,_,_,_,h=>.inl h
 |(n,k)::r,h,acc,x,c,hm=>by
  unfold gT at hm;unfold qY;split at hm
  .rename_i hk
   rw[ay hk];have hk:k=.cell:=by simpa using hk
   rw[<-lA h {cls:=.type "cell",data:=.cell none}]at hm;rcases vB hm with hm|⟨h1,h2,h3⟩
   .rcases bM.mp hm with e|hm
    .cases e
     exact .inr ⟨hk▸gF,bK _,_,Fp r _ _ _ (dW _ rfl),rfl⟩
    .exact .inl hm
   .rw[lA]at h2
    exact .inr ⟨b8 _ h1,Fq h2,h3⟩
  .rename_i hk
   rw[aq hk];rcases vB hm with hm|⟨h1,h2,h3⟩
   .exact .inl hm
   .exact .inr ⟨b8 _ h1,h2,h3⟩
theorem zi:∀{names:List (ae×ju)}{n:Nat}{acc:List (ae×aa)}{p:ae×aa},p∈acc->p∈gT n names acc
 |[],_,_,_,h=>h
 |(m,k)::r,n,acc,p,h=>by
  unfold gT;split
  .exact zi (b8 _ h)
  .exact zi h
theorem CZ:∀{names:List (ae×ju)}{n:Nat}{acc:List (ae×aa)}{x:ae},(x,.cell)∈names->∃c,(x,c)∈gT n names acc
 |(m,k)::r,n,acc,x,h=>by
  unfold gT;rcases bM.mp h with e|h
  .cases e
   exact⟨n,zi gF⟩
  .split
   .exact CZ h
   .exact CZ h
theorem Cv:∀{names:List (ae×ju)}{h:a9}{acc:List (ae×aa)}{x y:ae}{c:aa},(∀p∈acc,p.2<h.objs.size)->(∀x y c,(x,c)∈acc->(y,c)∈acc->x=y)->(x,c)∈gT h.objs.size names acc->(y,c)∈gT h.objs.size names acc->x=y
 |[],_,_,_,_,_,_,hi,h1,h2=>hi _ _ _ h1 h2
 |(n,k)::r,h,acc,x,y,c,hl,hi,h1,h2=>by
  unfold gT at h1 h2;split at h1
  .rename_i hk
   rw[ay hk]at h2;rw[<-lA h {cls:=.type "cell",data:=.cell none}]at h1 h2;refine Cv (h:=h.push _) (λp hp=>?_) (λx y c a b=>?_) h1 h2
   .rw[lA]
    rcases bM.mp hp with rfl|hp
    .exact M9 _
    .exact Nl (hl p hp)
   .rcases bM.mp a with e|a<;>rcases bM.mp b with e'|b
    .cases e;cases e';rfl
    .cases e;exact absurd (hl _ b) (kx _)
    .cases e';exact absurd (hl _ a) (kx _)
    .exact hi _ _ _ a b
  .rename_i hk
   rw[aq hk]at h2;exact Cv hl hi h1 h2
theorem Uw{M:tH}{globals:aa}{closure:List (ae×aa)}{func:Option aa}{code:af}{around:ei}{builtins:aa}{Q:ei->aC->Prop}(h:Q (newEnv scope s.heap.objs.size globals (gT (s.heap.objs.size+1) scope.names closure) qual func code (some around) builtins) {s with heap:=qY (s.heap.push {cls:=.type "dict",data:=.dict #[]}) scope.names}):aJ M A (Zm scope globals closure [] qual func code (some around) builtins) Q E s:=by
 simp only[Zm,MK,iF];refine az (wpAny_alloc ?_);refine az (wpAny_layCells _ (λn k c=>rfl) scope.names closure _ _ ?_);rw[show({s with heap:=s.heap.push {cls:=.type "dict",data:=.dict #[]}}:aC).heap.objs.size=s.heap.objs.size+1 from lA ..]
 rw[Zl];exact az (br (br h))
theorem Cj{sc:eV}:∀{names:List (ae×ju)}{x:ae}{k:ju},(names.map λ(n,k)=>if(k==wg&&sc.kind==.function&&sc.names.lookup n==some .cell)then(n,Nm)else(n,k)).lookup x=some k->∃k',names.lookup x=some k'/\(k=k'\/(k'=.free/\k=.cell))
 |[],_,_,h=>by simp at h
 |(n,k₀)::r,x,k,h=>by
  have ih:=@Cj sc r x k;have h':qP x ((if(k₀==wg&&sc.kind==.function&&sc.names.lookup n==some .cell)=true then(n,Nm)else(n,k₀))::(r.map _))=some k:=h;cases hx:x==n with
  |true=>
   simp only[tS,hx];by_cases hc:(k₀==wg&&sc.kind==.function&&sc.names.lookup n==some .cell)=true
   .rw[ay hc]at h'
    simp only[tS,hx]at h';cases h';simp only[ib,pC]at hc;exact⟨k₀,rfl,.inr ⟨hc.1.1,rfl⟩⟩
   .rw[aq hc]at h'
    simp only[tS,hx]at h';cases h';exact⟨_,rfl,.inl rfl⟩
  |false=>
   simp only[tS,hx];by_cases hc:(k₀==wg&&sc.kind==.function&&sc.names.lookup n==some .cell)=true
   .rw[ay hc]at h'
    simp only[tS,hx]at h';exact ih h'
   .rw[aq hc]at h'
    simp only[tS,hx]at h';exact ih h'
structure uj(N:List ae)(sc scope:eV)(own:List (ae×Nat)):Prop where
 kind:scope.kind=.function
 uniq:∀y∈scope.names,scope.names.lookup y.1=some y.2
 ix:∀p∈own,N[p.2]? =some p.1
 free:∀y∈scope.names,y.2=.free->sc.names.lookup y.1=some .cell\/sc.names.lookup y.1=some .free
 own:∀y∈scope.names,y.2=.local\/y.2=.cell->y.1∈own.map (·.1)\/y.1∉N
def wipe(σ:St):List Nat->St
 |[]=>σ
 |v::vs=>(wipe σ vs).set v none
theorem Cn(σ:St):∀vs:List Nat,(wipe σ vs).length=σ.length
 |[]=>rfl
 |v::vs=>by unfold wipe;rw[Zf,Cn σ vs]
theorem A4{σ:St}{i:Nat}{x:V}:∀{vs:List Nat},(wipe σ vs)[i]? =some (some x)->σ[i]? =some (some x)/\i∉vs
 |[],h=>⟨h,by simp⟩
 |v::vs,h=>by
  unfold wipe at h;by_cases hi:v=i
  .subst hi
   by_cases hv:v<(wipe σ vs).length
   .rw[MY hv]at h;cases h
   .rw[nX (by simpa using hv)]at h;cases h
  .rw[MZ hi]at h
   obtain⟨h1,h2⟩:=A4 h;exact⟨h1,by simp only[bM,i8];exact⟨λe=>hi e.symm,h2⟩⟩
abbrev Cx.gZ(X:Cx)(s:aC)(H:Hp)(scope:eV)(cenv:ei)(fp:List aa):Cx:={X with gg:=s,ph:=H,env:=cenv,outer:=X.stack,ex:=fp,fn:=λx=>scope.names.lookup x==some .cell,pn:=[],xe:=λz z=>False}
section
variable{σ:St}
theorem QB{own:List (ae×Nat)}{fp:List aa}(I:Inv X pins σ H s)(ok:uj X.N X.env.scope scope own)(hN:X.N.Nodup)(hfp:∀b∈fp,kH X pins H b/\b<s.heap.objs.size):Inv (X.gZ s H scope (lE scope (gT (s.heap.objs.size+1) scope.names (gB X.env.cells scope.names [])) s.heap.objs.size X.env) fp) [] (wipe σ (own.map (·.2))) H {s with heap:=qY (s.heap.push {cls:=.type "dict",data:=.dict #[]}) scope.names}:=by
 have hfree:∀y∈scope.names,y.2=.free->∃c,X.env.cells.lookup y.1=some c:=λy hy e=>by
  rcases ok.free y hy e with k|k
  .exact I.ok.has _ (.inl k)
  .exact I.ok.has _ (.inr k)
 generalize hcenv:lE scope (gT (s.heap.objs.size+1) scope.names (gB X.env.cells scope.names [])) s.heap.objs.size X.env=cenv;have kp:∀b o,s.heap.get? b=some o->(qY (s.heap.push {cls:=.type "dict",data:=.dict #[]}) scope.names).get? b=some o:=λb o e=>Fp _ _ _ _ (dB _ e);have hL:cenv.locals=s.heap.objs.size:=by rw[<-hcenv];rfl
 have hcl:cenv.cells=gT (s.heap.objs.size+1) scope.names (gB X.env.cells scope.names []):=by rw[<-hcenv];rfl
 have hsc:cenv.scope=mL scope X.env.scope:=by rw[<-hcenv];rfl
 rw[<-lA s.heap {cls:=.type "dict",data:=.dict #[]}]at hcl;have cm:∀{y c},(y,c)∈gB X.env.cells scope.names []->X.env.cells.lookup y=some c/\c<s.heap.objs.size:=λ{y c} hm=>by
  rcases xB hm with hm|⟨h1,rfl⟩
  .cases hm
  .obtain⟨c,hc⟩:=hfree _ h1 rfl
   rw[hc];obtain⟨w,z⟩:=I.cell _ _ hc;exact⟨rfl,z.lt⟩
 have mem:∀{y c},cenv.cells.lookup y=some c->(X.env.cells.lookup y=some c/\c<s.heap.objs.size)\/(s.heap.objs.size+1<=c/\Jn (qY (s.heap.push {cls:=.type "dict",data:=.dict #[]}) scope.names) c none):=λ{y c} e=>by
  rw[hcl]at e;rcases vB (jU e)with hm|⟨_,h2,h3⟩
  .exact .inl (cm hm)
  .rw[lA]at h2;exact .inr ⟨h2,h3⟩
 have look:∀{y},scope.names.lookup y=some .free->∃c,cenv.cells.lookup y=some c/\X.env.cells.lookup y=some c:=λ{y} hl=>by
  have hy:(y,wg)∈scope.names:=jU hl;obtain⟨c',e'⟩:=mem_lookup (zi (names:=scope.names) (n:=(s.heap.push {cls:=.type "dict",data:=.dict #[]}).objs.size) (C7 (cells:=X.env.cells) (acc:=[]) hy));rw[<-hcl]at e';refine⟨c',e',?_⟩;rw[hcl]at e';rcases vB (jU e')with hm|⟨h1,_,_⟩
  .exact(cm hm).1
  .have:=ok.uniq _ h1
   rw[hl]at this;cases this
 have okB:(X.gZ s H scope cenv fp).Ok:=by
  refine⟨I.ok.mod,by show cenv.scope.kind=_;rw[hsc];exact ok.kind,by show cenv.globals=_;rw[<-hcenv];exact I.ok.glob,by show cenv.builtins=_;rw[<-hcenv];exact I.ok.blt,by show s.heap.objs.size<=cenv.locals;rw[hL];exact bK _,
   λy z c e1 e2=>?_,λy hy=>?_,λy c z e=>?_,I.ok.hd,I.ok.frames,.inl rfl,λb hb=>⟨?_,λy c e z=>?_⟩,I.bs,fi I.ok.lX I.sz,λb o e hb=>?_,λb hb z=>?_,I.stack,I.CJ⟩
  .have e1:cenv.cells.lookup y=some c:=e1
   have e2:cenv.cells.lookup z=some c:=e2;rw[hcl]at e1 e2;refine Cv (λp hp=>?_) (λy z c a b=>I.ok.inj y z c (cm a).1 (cm b).1) (jU e1) (jU e2);rw[lA];exact Nl (cm (y:=p.1) (c:=p.2) hp).2
  .show∃c,cenv.cells.lookup y=some c
   have key:∀k,cenv.kindOf y=some k->(k=.cell\/k=.free)->∃c,cenv.cells.lookup y=some c:=λk hk hk'=>by
    unfold Env.kindOf at hk;rw[hsc]at hk;obtain⟨k',e,r⟩:=Cj hk;have:k'=.cell\/k'=.free:=by
     rcases r with rfl|⟨rfl,_⟩
     .exact hk'
     .exact .inr rfl
    rcases this with rfl|rfl
    .obtain⟨c,hm⟩:=CZ (n:=(s.heap.push {cls:=.type "dict",data:=.dict #[]}).objs.size) (acc:=gB X.env.cells scope.names []) (jU e)
     obtain⟨c',e'⟩:=mem_lookup hm;exact⟨c',by rw[hcl];exact e'⟩
    .obtain⟨c,h1,x⟩:=look e
     exact⟨c,h1⟩
   rcases hy with hy|hy
   .exact key _ hy (.inl rfl)
   .exact key _ hy (.inr rfl)
  .have z:(scope.names.lookup y==some Nm)=true:=z
   have z:scope.names.lookup y=some .cell:=by simpa using z
   have e:cenv.cells.lookup y=some c:=e;rw[hcl]at e;rcases vB (jU e)with hm|⟨_,h2,_⟩
   .rcases xB hm with hm|⟨h1,_⟩
    .cases hm
    .have q:=ok.uniq _ h1
     rw[z]at q;cases q
   .rw[lA]at h2
    exact Fq h2
  .show b≠cenv.locals
   rw[hL];exact dM (hfp b hb).2
  .have e:cenv.cells.lookup y=some c:=e
   rcases mem e with⟨h1,_⟩|⟨h1,_⟩
   .exact(hfp b hb).1.2.2.2.2.1 y c h1 z
   .have h2:s.heap.objs.size+1<=b:=by rw[<-z];exact h1
    exact absurd (ie (hfp b hb).2 (Fq h2)) (kx _)
  .rcases(hfp b hb).1.2.2.2.1 with z|z
   .exact I.ok.qj b o e z
   .exact absurd (ie (cO e) (fi I.ok.lX z)) (kx _)
  .rcases bM.mp (I.yb b z)with z|z
   .exact(hfp b hb).1.2.1 z
   .exact(hfp b hb).1.2.2.1 z
 refine⟨okB,rfl,I.bare,Un.kept kp,⟨λx=>none,?_,λi y av e1 e2 e3=>?_⟩,λy c e=>?_,?_,λy c e=>?_,λp hp=>?_,I.aW.kept kp,by rw[Cn];exact I.len⟩
 .show Heap.Ns _ cenv.locals _
  rw[hL];exact Heap.Ns.keeps (Heap.Ns.new ..) λb o e=>Fp _ _ _ _ e
 .obtain⟨e2,hne⟩:=A4 e2
  have hfr:scope.names.lookup y=some .free/\(cenv.kindOf y=some .cell\/cenv.kindOf y=some .free):=by
   have key:∀k,cenv.scope.names.lookup y=some k->k=.local\/k=.cell\/k=.free->scope.names.lookup y=some .free/\(cenv.kindOf y=some .cell\/cenv.kindOf y=some .free):=λk hk hk'=>by
    have hk0:=hk;rw[hsc]at hk;obtain⟨k',e,r⟩:=Cj hk;have no:¬(k'=.local\/k'=.cell):=λhh=>by
     rcases ok.own _ (jU e) hh with e'|e'
     .obtain⟨p,hp,hpy⟩:=bw.mp e'
      have e3:=ok.ix p hp;have:p.1=y:=hpy;rw[this]at e3;exact hne (bw.mpr ⟨p,hp,Ay hN e3 e1⟩)
     .exact e' (cZ e1)
    rcases r with rfl|⟨rfl,rfl⟩
    .rcases hk' with rfl|rfl|rfl
     .exact absurd (.inl rfl) no
     .exact absurd (.inr rfl) no
     .exact⟨e,.inr hk0⟩
    .exact⟨e,.inl hk0⟩
   have e3:uJ cenv.scope y:=e3;rcases e3 with e3|e3|e3
   .exact key _ e3 (.inl rfl)
   .exact key _ e3 (.inr (.inl rfl))
   .exact key _ e3 (.inr (.inr rfl))
  obtain⟨m,hn,hl⟩:=I.loc;have hvis:uJ X.env.scope y:=(ok.free _ (jU hfr.1) rfl).elim (λk=>.inr (.inl k)) (λk=>.inr (.inr k));obtain⟨w,r,q⟩:=hl i y av e1 e2 hvis;refine⟨w,r,.inr ⟨hfr.2,?_⟩⟩;obtain⟨c,h1,h2⟩:=look hfr.1;rcases q with⟨k,_⟩|⟨_,c',e',z⟩
  .have k:X.env.scope.names.lookup y=some .local:=k
   rcases ok.free _ (jU hfr.1) rfl with k'|k'<;>rw[show X.env.scope.names.lookup y=_ from k']at k<;>cases k
  .rw[h2]at e';cases e'
   exact⟨c,h1,z.keeps kp⟩
 .have e:cenv.cells.lookup y=some c:=e
  rcases mem e with⟨h1,_⟩|⟨_,z⟩
  .obtain⟨w,z⟩:=I.cell y c h1
   exact⟨w,z.keeps kp⟩
  .exact⟨_,z⟩
 .show H cenv.locals=none
  rw[hL];exact I.aW.fresh (bK _)
 .have e:cenv.cells.lookup y=some c:=e
  rcases mem e with⟨h1,_⟩|⟨h1,_⟩
  .exact I.iL y c h1
  .exact I.aW.fresh (Fq h1)
 .exact absurd (show p∈([]:List (aa×bc))++[] from hp) (by simp)
theorem PZ{D:aa}{y:V}{v:af}(I:Inv X pins σ H s)(hD:H D=some (.lst xs))(hz:xs.length<sizeLine)(r:RelV y v)(h:∀s',Inv X pins σ (upd H D (.lst (xs++[y]))) s'->Q .none s'):aJ (ba X.prog X.w) X.A (fO (.builtin "list.append") [.ref D,v]) Q E s:=by
 obtain⟨hz',its,n,ri,e⟩:=I.aW D _ hD;have hl:=ri.length;refine append_at (hsz:=by rw[fj];omega) e λh' sb ho'=>?_
 refine h {s with heap:=h'} (I.write (t':=s.toks) (by rw[hD];trivial) (.inl rfl) (λb u hb q=>(sb.2 b hb).trans q) ⟨_,ho'⟩ ⟨by rw[bV];exact hz,its++[v],n+1,ri.append (.cons r .nil),?_⟩)
 rw[ho'];simp
def ui(X:Cx)(ifs:List bE)(t:TT):Prop:=∀(pins:List (aa×bc))(s:aC)(σ:St)(H:Hp)(Q:Bool->Hp->Prop),Inv X pins σ H s->t σ H Q->
 aJ (ba X.prog X.w) X.A (forIn ifs true λc r=>if r=true then do let ok<-zF c X.env (bP c X.env);pure (Ft ok)else pure (Ft r)) (TP X pins σ Q) X.xe s
def Ly:TT:=λz H Q=>Q true H
theorem fU:ui X [] Ly:=λz z z H z I h=>wpAny_tests_nil ⟨H,I,h⟩
theorem sf{c:bE}{t:TT}(h:PT X c t):ui X [c] t:=λpins s σ H Q I hw=>wpAny_tests_one (h pins s σ H Q I hw)
end
theorem sS{α:Type}{t:jc α}{Q Q':α->aC->Prop}{M:tH}(h:aJ M A t Q (λy y=>False) s)(hQ:∀a s,Q a s->Q' a s):aJ M A t Q' E s:=jb h hQ λy y z=>jd z
theorem UM{R:vO->aC->Prop}{elt target iter:bE}{ifs:List bE}{it acc:af}{env:ei}(I:Nat->aC->Prop)(turn:∀n s,I n s->aJ (ba prog w) A (iS it) (λr s₁=>match r with
 |none=>R (.ok .next) s₁
 |some v=>aJ (ba prog w) A (EY target it v) (λ_ s₁'=>aJ (ba prog w) A (zJ target env v) (λ_ s₂=>aJ (ba prog w) A (forIn ifs true λc r=>if r=true then do let ok<-zF c env (bP c env);pure (Ft ok)else pure (Ft r)) (λok s₃=>if ok=true then aJ (ba prog w) A (bP elt env) (λx s₄=>aJ (ba prog w) A (fO (.builtin "list.append") [acc,x]) (λ_ s₅=>∃m,m<n/\I m s₅) (wj (ba prog w) A env λe s'=>R (.error e) s') s₄) (wj (ba prog w) A env λe s'=>R (.error e) s') s₃ else∃m,m<n/\I m s₃) (wj (ba prog w) A env λe s'=>R (.error e) s') s₂) (wj (ba prog w) A env λe s'=>R (.error e) s') s₁') (wj (ba prog w) A env λe s'=>R (.error e) s') s₁) (wj (ba prog w) A env λe s'=>R (.error e) s') s)(n:Nat)(h:I n s):
 mo (ba prog w) A (.compLoop (.ListComp elt [⟨target,iter,ifs,0⟩] scope pos) 0 it acc env) R s:=by
 refine codeAny_loop rfl I (λn s hI=>?_) n h;show aJ _ A ((compTurn (.ListComp elt [⟨target,iter,ifs,0⟩] scope pos) 0 it acc env).onRaise (λx=>do noteFrame x env;theTreesLotGoes x)) _ _ s
 refine wpAny_noted ?_;rw[compTurn_list];refine az (MT (az (jb (turn n s hI) (λr s₁ h₁=>?_) λ_ _ h'=>h')));cases r with
 |none=>exact br h₁
 |some v=>
  refine az (jb h₁ (λ_ s₁' h₁'=>?_) λ_ _ h'=>h');refine az (jb h₁' (λ_ s₂ h₂=>az (jb h₂ (λok s₃ h₃=>?_) λ_ _ h'=>h')) λ_ _ h'=>h');cases ok with
  |false=>exact br ⟨rfl,h₃⟩
  |true=>exact az (az (jb h₃ (λx s₄ h₄=>az (jb h₄ (λ_ s₅ h₅=>br (br ⟨rfl,h₅⟩)) λ_ _ h'=>h')) λ_ _ h'=>h'))
def xE(wi:TI)(g:TG)(tt:TT)(te:TE)(vs:List Nat):TE:=λσ H Q=>wi σ H λJ H1=>∀D,H1 D=none->∃W:Nat->Nat->Hp->Prop,(∃m,W 0 m (upd H1 D (.lst [])))/\∀i m H,W i m H->
 (J.stop i H/\Q (.ref D) H)\/(J.go i H/\∃Nx:Hp->Prop,(∀H',Nx H'->∃m',m'<m/\W (i+1) m' H')/\∀x H',J.m7 i H x H'->g x (wipe σ vs) H' λσ2 H2=>wipe σ2 vs=wipe σ vs/\tt σ2 H2 λb H3=>if b=true then te σ2 H3 λy H4=>∃acc,H4 D=some (.lst acc)/\acc.length<sizeLine/\Nx (upd H4 D (.lst (acc++[y])))else Nx H3)
theorem Li{σ:St}{Q:VK}{elt iter:bE}{ifs:List bE}{own:List (ae×Nat)}{pos':cI}{wi:TI}{g:TG}{tt:TT}{use:Option (af->jc Unit)}{Qf:af->aC->Prop}(hc:X.calm=true)(hN:X.N.Nodup)(I:Inv X pins σ H s)(hi:PI X tg iter wi)(ok:uj X.N X.env.scope scope own)(hg:∀(s:aC)(H:Hp)(C:aa)(cl:List (ae×aa))(fp:List aa),PG (X.gZ s H scope (lE scope cl C X.env) fp) tg g)(ht:∀(s:aC)(H:Hp)(C:aa)(cl:List (ae×aa))(fp:List aa),ui (X.gZ s H scope (lE scope cl C X.env) fp) ifs tt)(he:∀(s:aC)(H:Hp)(C:aa)(cl:List (ae×aa))(fp:List aa),PE (X.gZ s H scope (lE scope cl C X.env) fp) elt te)(hs:∀x,E7 iter X.env x=pure x)(h:xE wi g tt te (own.map (·.2)) σ H Q)(hRR:∀D C s' m H',Inv X pins σ H' s'->Q (.ref D) H'->s'.heap.Ns C m->kH X pins H' C->Nn (ba X.prog X.w) X.A X.xe use Qf (.ref D) C (.ok .next) s'):aJ (ba X.prog X.w) X.A (Zn (.ListComp elt [⟨tg,iter,ifs,0⟩] scope pos) scope X.env pos' (newList []) false (bP iter X.env) use) Qf X.xe s:=by
 have hfree:∀y∈scope.names,y.2=.free->∃c,X.env.cells.lookup y.1=some c:=λy hy e=>by
  rcases ok.free y hy e with k|k
  .exact I.ok.has _ (.inl k)
  .exact I.ok.has _ (.inr k)
 refine wpAny_comprehension_free (use:=use) rfl hs (QW hfree) ok.kind (λy hy e=>by rw[ok.uniq y hy,e])
  (bf (hi pins s σ H _ I h) λxv s1 hx=>bf hx λitv s2 h2=>?_)
 obtain⟨it,fp,tn,J,H2,e,I2,T,st2,f2,q⟩:=h2;subst e;refine oe (Uw ?_) (by show 0<=sizeLine;decide)
 generalize hD:s2.heap.objs.size=D;have hDn:H2 D=none:=I2.aW.fresh (Fb hD);obtain⟨W,⟨m0,w0⟩,turn⟩:=q D hDn;generalize hs3:({s2 with heap:=s2.heap.push {cls:=.type "list",data:=.seq ([]:List af).toArray}}:aC)=s3
 have I3:Inv X pins σ (upd H2 D (.lst [])) s3:=by
  rw[<-hs3];refine I2.laid (t':=s2.toks) (λb o e=>dB _ e) (Fb hD) ⟨gp _,[],0,.nil,?_⟩;rw[<-hD];exact dW _ rfl
 have h3:s3.heap=s2.heap.push {cls:=.type "list",data:=.seq ([]:List af).toArray}:=by rw[<-hs3]
 have sz:∀b∈fp,b<s2.heap.objs.size:=λb hb=>by
  obtain⟨o,e,_⟩:=T.obj _ _ st2 b hb;exact cO e
 have f3:∀b∈fp,kH X pins (upd H2 D (.lst [])) b/\b<s3.heap.objs.size:=λb hb=>by
  have hlt:=sz b hb;refine⟨⟨?_,(f2 b hb).2⟩,by rw[h3,lA];exact Nl hlt⟩
  rw[aI (by rw[<-hD];exact dM hlt)]
  exact(f2 b hb).1
 have st3:tn 0 s3.heap:=T.keep _ _ _ st2 λb _ o e=>by rw[h3];exact dB _ e
 have I4:=QB I3 ok hN f3;have pg:=hg s3 (upd H2 D (.lst [])) s3.heap.objs.size (gT (s3.heap.objs.size+1) scope.names (gB X.env.cells scope.names [])) fp;have pt:=ht s3 (upd H2 D (.lst [])) s3.heap.objs.size (gT (s3.heap.objs.size+1) scope.names (gB X.env.cells scope.names [])) fp;have pe:=he s3 (upd H2 D (.lst [])) s3.heap.objs.size (gT (s3.heap.objs.size+1) scope.names (gB X.env.cells scope.names [])) fp;show mo _ _ (.compStart (.ListComp elt [⟨tg,iter,ifs,0⟩] scope pos) 0 (.ref it) (.ref D) (lE scope (gT (s3.heap.objs.size+1) scope.names (gB X.env.cells scope.names [])) s3.heap.objs.size X.env)) (Nn (ba X.prog X.w) X.A X.xe use Qf (.ref D) s3.heap.objs.size) {s3 with heap:=qY (s3.heap.push {cls:=.type "dict",data:=.dict #[]}) scope.names}
 have nfp:∀b∈fp,(upd H2 D (.lst [])) b=none:=λb hb=>(f3 b hb).1.1;generalize hce:lE scope (gT (s3.heap.objs.size+1) scope.names (gB X.env.cells scope.names [])) s3.heap.objs.size X.env=ce at I4 pg pt pe⊢;have cL:ce.locals=s3.heap.objs.size:=by subst hce;rfl
 generalize hH3:upd H2 D (.lst [])=H3 at I3 I4 pg pt pe w0 nfp f3;generalize hs4:({s3 with heap:=qY (s3.heap.push {cls:=.type "dict",data:=.dict #[]}) scope.names}:aC)=s4 at I4⊢
 have st4:tn 0 s4.heap:=T.keep _ _ _ st3 λb _ o e=>by rw[<-hs4];exact Fp _ _ _ _ (dB _ e)
 have stat:∀{σ':St}{H':Hp}{s':aC},Inv (X.gZ s3 H3 scope ce fp) [] σ' H' s'->(∀b∈fp,H' b=none)->∀b∈fp,kH (X.gZ s3 H3 scope ce fp) [] H' b:=λ{σ' H' s'} I' hn b hb=>⟨hn b hb,(I'.ok.sr b hb).1,I'.ok.pW b hb,.inl hb,λx c e=>(I'.ok.sr b hb).2 x c e,λp hp=>absurd (show p∈([]:List (aa×bc))++[] from hp) (by simp)⟩
 have loop:mo (ba X.prog X.w) X.A (.compLoop (.ListComp elt [⟨tg,iter,ifs,0⟩] scope pos) 0 (.ref it) (.ref D) ce) (Nn (ba X.prog X.w) X.A X.xe use Qf (.ref D) s3.heap.objs.size) s4:=by
  refine UM (λn s'=>∃i H',Inv (X.gZ s3 H3 scope ce fp) [] (wipe σ (own.map (·.2))) H' s'/\tn i s'.heap/\(∀b∈fp,H' b=none)/\W i n H') ?_ m0 ⟨0,H3,I4,st4,nfp,w0⟩;rintro n s5 ⟨i,H5,I5,st5,n5,w5⟩;rcases turn i n H5 w5 with⟨stop,qq⟩|⟨go,Nx,hNx,step⟩
  .have td:=T.done (X.gZ s3 H3 scope ce fp) rfl rfl rfl hc i [] s5 _ H5 (λ_ _=>False) I5 (stat I5 n5) st5 stop
   refine sS td λr s6 ⟨hr,I6⟩=>?_;subst hr;have I7:Inv X pins σ H5 s6:=I3.Ez (ch:=fp) I6.os I6.base I6.aW I6.bare λb hb=>⟨(f3 b hb).1.2.2.2.1,(f3 b hb).1.2.1,(f3 b hb).1.2.2.2.2.1,(f3 b hb).1.2.2.2.2.2⟩;have nC:H5 s3.heap.objs.size=none:=by
    have z:H5 ce.locals=none:=I6.free;rw[cL]at z;exact z
   obtain⟨m,hn,_⟩:=I6.loc;have hn:s6.heap.Ns ce.locals m:=hn;rw[cL]at hn;exact hRR D s3.heap.objs.size s6 m H5 I7 qq hn (I3.oy (bK _) nC)
  .have ti:=T.item (X.gZ s3 H3 scope ce fp) rfl rfl rfl hc i [] s5 _ H5 (λ_ _=>False) I5 (stat I5 n5) st5 go
   refine sS ti λr s6 ⟨u,hr,h6⟩=>?_;subst hr;refine sS h6 λ_ s7 ⟨x,H7,I7,r7,y7,st7,n7⟩=>?_;have I7':=I7.pinned (stat I7 n7) (T.obj _ _ st7);refine sS (pg _ s7 _ H7 x u _ I7' r7 (step x H7 y7)) λ_ s8 ⟨σ8,H8,I8,hw8,q8⟩=>?_;refine sS (pt _ s8 σ8 H8 _ I8 q8) λb s9 ⟨H9,I9,q9⟩=>?_;have fin:∀{s':aC}{H':Hp},Inv (X.gZ s3 H3 scope ce fp) ([]++vy fp s7.heap) σ8 H' s'->Nx H'->∃m,m<n/\∃i H',Inv (X.gZ s3 H3 scope ce fp) [] (wipe σ (own.map (·.2))) H' s'/\tn i s'.heap/\(∀b∈fp,H' b=none)/\W i m H':=λ{s' H'} I' nx=>by
    obtain⟨m',hm,w'⟩:=hNx H' nx;have pin':∀b∈fp,∀o,s7.heap.get? b=some o->s'.heap.get? b=some o/\H' b=none:=λb hb o e=>
     let z:=I'.pin (b,o) (cP _ (cP _ (DW hb e)))
     ⟨z.1,z.2.1⟩
    have hl:(wipe σ (own.map (·.2))).length=σ8.length:=by rw[<-hw8,Cn]
    refine⟨m',hm,i+1,H',(I'.xG (pins:=[])).weak hl (λj v e=>?_),T.keep _ _ _ st7 λb hb o e=>(pin' b hb o e).1,λb hb=>?_,w'⟩
    .rw[<-hw8]at e
     exact(A4 e).1
    .obtain⟨o,e,_⟩:=T.obj _ _ st7 b hb
     exact(pin' b hb o e).2
   cases b with
   |false=>
    simp only[ko,ic]at q9⊢;exact fin I9 q9
   |true=>
    simp only[iF]at q9⊢;refine sS (pe _ s9 σ8 H9 _ I9 q9) λz s10 ⟨yv,H10,I10,r10,acc,hD10,hz10,nx⟩=>?_;exact PZ (X:=X.gZ s3 H3 scope ce fp) I10 hD10 hz10 r10 λs11 I11=>fin I11 nx
 exact codeAny_compStart_list loop (T.self X.A 0 _ _ _ st4 loop)
theorem fw{elt iter:bE}{ifs:List bE}{own:List (ae×Nat)}{wi:TI}{g:TG}{tt:TT}(hc:X.calm=true)(hN:X.N.Nodup)(hi:PI X tg iter wi)(ok:uj X.N X.env.scope scope own)(hg:∀(s:aC)(H:Hp)(C:aa)(cl:List (ae×aa))(fp:List aa),PG (X.gZ s H scope (lE scope cl C X.env) fp) tg g)(ht:∀(s:aC)(H:Hp)(C:aa)(cl:List (ae×aa))(fp:List aa),ui (X.gZ s H scope (lE scope cl C X.env) fp) ifs tt)(he:∀(s:aC)(H:Hp)(C:aa)(cl:List (ae×aa))(fp:List aa),PE (X.gZ s H scope (lE scope cl C X.env) fp) elt te)(hs:∀x,E7 iter X.env x=pure x:=by intro z;rfl):PE X (.ListComp elt [⟨tg,iter,ifs,0⟩] scope pos) (xE wi g tt te (own.map (·.2))):=by
 intro pins s σ H Q I h;rw[eval_ListComp];refine Li hc hN I hi ok hg ht he hs h λD C s' m H' I' q hn f=>⟨m,hn,λh'' sb=>?_⟩;obtain⟨f0,f1,f2,f3,f4,f5⟩:=f;exact⟨.ref D,H',I'.turned (t':=s'.toks) (λb o hb e=>(sb.2 b hb).trans e) f0 f1 f3 f4 f5,rfl,q⟩
theorem wL{i:Nat}{y:ae}{py:cI}{elt iter:bE}{ifs:List bE}{own:List (ae×Nat)}{spos:cI}{wi:TI}{g:TG}{tt:TT}(hc:X.calm=true)(hN:X.N.Nodup)(hy:X.N[i]? =some y)(hyl:X.env.scope.names.lookup y=some .local)(hsw:zI (.ListComp elt [⟨tg,iter,ifs,0⟩] scope pos) (some (.Name y py)) spos.line X.env=pure true)(hi:PI X tg iter wi)(ok:uj X.N X.env.scope scope own)(hg:∀(s:aC)(H:Hp)(C:aa)(cl:List (ae×aa))(fp:List aa),PG (X.gZ s H scope (lE scope cl C X.env) fp) tg g)(ht:∀(s:aC)(H:Hp)(C:aa)(cl:List (ae×aa))(fp:List aa),ui (X.gZ s H scope (lE scope cl C X.env) fp) ifs tt)(he:∀(s:aC)(H:Hp)(C:aa)(cl:List (ae×aa))(fp:List aa),PE (X.gZ s H scope (lE scope cl C X.env) fp) elt te)(hs:∀x,E7 iter X.env x=pure x:=by intro _;rfl):PS X (.Assign [.Name y py] (.ListComp elt [⟨tg,iter,ifs,0⟩] scope pos) spos) (GX (xE wi g tt te (own.map (·.2))) (yq i)):=by
 intro pins s σ H D I h;rw[exec_Assign_Name_used _ _ _ _ hsw];refine az (MT (az ?_));show aJ _ X.A (do let _<-Zn (.ListComp elt [⟨tg,iter,ifs,0⟩] scope pos) scope X.env (firstIterPos [⟨tg,iter,ifs,0⟩] pos) (newList []) false (bP iter X.env) (some (zJ (.Name y py) X.env))) _ _ s
 have h:xE wi g tt te (own.map (·.2)) σ H (λx H1=>yq i x σ H1 D.nx):=h;refine az (bf (Li (Qf:=λ_ s'=>SP X pins D .next s') hc hN I hi ok hg ht he hs h λL C s' m H' I' q hn f=>?_) λ_ s' hq=>br (br hq))
 show aJ _ _ (zJ (.Name y py) X.env (.ref L)) _ _ _;refine YZ (Hh (v:=V.ref L) I' hN hy (.inl hyl) rfl (λs2 I2 ⟨a,sb,ha⟩=>?_) (.inr hyl));obtain⟨f0,f1,f2,f3,f4,f5⟩:=f;have haC:C≠a:=by
  rcases ha with z|z
  .rw[z];exact f1
  .exact λe=>f4 y a z e.symm
 refine⟨m,hn.sameBut sb haC,λh3 sb3=>?_⟩;exact⟨_,H',I2.turned (t':=s2.toks) (λb o hb e=>(sb3.2 b hb).trans e) f0 f1 f3 f4 f5,q⟩
def GG(N:List ae)(sc scope:eV)(own:List (ae×Nat)):Bool:=(match scope.kind with| .function=>true|_=>false)&&(scope.names.all λy=>decide (scope.names.lookup y.1=some y.2))&&(own.all λp=>decide (N[p.2]? =some p.1))&&
 (scope.names.all λy=>match y.2 with
   | .free=>(match sc.names.lookup y.1 with|some .cell=>true|some .free=>true|_=>false)
   | .local=>decide (y.1∈own.map (·.1))||decide (y.1∉N)
   | .cell=>decide (y.1∈own.map (·.1))||decide (y.1∉N)
   |_=>true)
theorem eI{N:List ae}{sc:eV}{own:List (ae×Nat)}(h:GG N sc scope own=true):uj N sc scope own:=by
 unfold GG at h;simp only[ib,fE,kr]at h;obtain⟨⟨⟨h1,h2⟩,h3⟩,h4⟩:=h;refine⟨?_,h2,h3,λy hy e=>?_,λy hy e=>?_⟩
 .split at h1
  .assumption
  .cases h1
 .have q:=h4 y hy
  simp only[e]at q;split at q<;>first|exact .inl (by assumption)|exact .inr (by assumption)|cases q
 .have q:=h4 y hy
  rcases e with e|e<;>(simp only[e,EH,kr]at q;exact q)
section
variable{κ:Type}[DecidableEq κ]
def dC(kvs:List (κ×V))(k:κ):Option V:=(kvs.find? λkv=>decide (kv.1=k)).map (·.2)
def putK(kvs:List (κ×V))(k:κ)(v:V):List (κ×V):=if(kvs.any λkv=>decide (kv.1=k))=true then kvs.map (λkv=>if kv.1=k then(kv.1,v)else kv)else kvs++[(k,v)]
def j4(kvs:List (κ×V))(k:κ):List (κ×V):=kvs.filter λkv=>decide (kv.1≠k)
theorem Az{p:κ×V}{r:List (κ×V)}{k:κ}(e:p.1=k):dC (p::r) k=some p.2:=by simp[dC,lr,e]
theorem AX{p:κ×V}{r:List (κ×V)}{k:κ}(e:¬p.1=k):dC (p::r) k=dC r k:=by simp[dC,lr,e]
theorem yG(k:κ):∀kvs:List (κ×V),(kvs.any λkv=>decide (kv.1=k))=(dC kvs k).isSome
 |[]=>rfl
 |p::r=>by
  rw[qW];by_cases e:p.1=k
  .simp only[Az e,dw e,Bool.true_or,MK]
  .rw[AX e,cU e,Np];exact yG k r
theorem J4(kvs:List (κ×V))(k:κ)(v:V):(putK kvs k v).length<=kvs.length+1:=by
 unfold putK;split
 .rw[aA];omega
 .rw[bV,cY,ma];omega
theorem uI{kvs:List (κ×V)}{k:κ}(v:V)(h:dC kvs k=none):putK kvs k v=kvs++[(k,v)]:=by
 unfold putK;rw[yG,h];exact aq (by decide)
theorem gG.uZ{o:Option V}{u:Option af}(r:gG o u):o.isSome=u.isSome:=by
 cases o with
 |none=>cases u with
  |none=>rfl
  |some _=>exact(show False from r).elim
 |some _=>cases u with
  |none=>exact(show False from r).elim
  |some _=>rfl
theorem gG.getD{o:Option V}{u:Option af}{d:V}{d':af}(r:gG o u)(rd:RelV d d'):RelV (o.getD d) (u.getD d'):=by
 cases o with
 |none=>cases u with
  |none=>exact rd
  |some _=>exact(show False from r).elim
 |some _=>cases u with
  |none=>exact(show False from r).elim
  |some _=>exact r
theorem KV.val{kvs:List (κ×V)}{vs:List (κ×af)}(r:KV kvs vs)(k:κ):gG (dC kvs k) (qZ vs k):=by
 unfold KV at r;induction r with
 |nil=>exact dy
 |@cons p q ps qs h t ih=>
  obtain⟨h1,h2⟩:=h;by_cases e:p.1=k
  .have e':q.1=k:=h1.symm.trans e
   have b:qZ (q::qs) k=some q.2:=by simp[qZ,lr,e']
   rw[Az e,b];exact h2
  .have e':¬q.1=k:=λz=>e (h1.trans z)
   have b:qZ (q::qs) k=qZ qs k:=by simp[qZ,lr,e']
   rw[AX e,b];exact ih
theorem KV.any{kvs:List (κ×V)}{vs:List (κ×af)}(r:KV kvs vs)(k:κ):(kvs.any λkv=>decide (kv.1=k))=vs.any λkv=>decide (kv.1=k):=by
 unfold KV at r;induction r with
 |nil=>rfl
 |cons h t ih=>rw[qW,qW,ih,h.1]
theorem KV.BO{kvs:List (κ×V)}{vs:List (κ×af)}(r:KV kvs vs)(k:κ){y:V}(ry:RelV y u):KV (kvs.map λkv=>if kv.1=k then(kv.1,y)else kv) (vs.map λkv=>if kv.1=k then(kv.1,u)else kv):=by
 unfold KV at r⊢;induction r with
 |nil=>exact .nil
 |@cons p q ps qs h t ih=>
  rw[bS,bS];refine .cons ?_ ih;obtain⟨h1,h2⟩:=h;by_cases e:p.1=k
  .rw[ay e,ay (h1.symm.trans e)];exact⟨h1,ry⟩
  .rw[aq e,aq (λz=>e (h1.trans z))];exact⟨h1,h2⟩
theorem KV.put{kvs:List (κ×V)}{vs:List (κ×af)}(r:KV kvs vs)(k:κ){y:V}(ry:RelV y u):KV (putK kvs k y) (stored vs k u):=by
 unfold putK stored;rw[r.any k];by_cases e:(vs.any λkv=>decide (kv.1=k))=true
 .rw[ay e,ay e];exact r.BO k ry
 .rw[aq e,aq e];exact Paired.snoc r ⟨rfl,ry⟩
theorem KV.drop{kvs:List (κ×V)}{vs:List (κ×af)}(r:KV kvs vs)(k:κ):KV (j4 kvs k) (without vs k):=by
 unfold KV at r⊢;unfold j4 without;induction r with
 |nil=>exact .nil
 |@cons p q ps qs h t ih=>
  obtain⟨h1,h2⟩:=h;rw[fZ,fZ];by_cases e:p.1=k
  .have a:¬decide (p.1≠k)=true:=by simp[e]
   have b:¬decide (q.1≠k)=true:=by simp[h1.symm.trans e]
   rw[aq a,aq b];exact ih
  .have e':¬q.1=k:=λz=>e (h1.trans z)
   have a:decide (p.1≠k)=true:=by simp[e]
   have b:decide (q.1≠k)=true:=by simp[e']
   rw[ay a,ay b];exact .cons ⟨h1,h2⟩ ih
theorem KV.length{kvs:List (κ×V)}{vs:List (κ×af)}(r:KV kvs vs):kvs.length=vs.length:=Paired.length r
theorem Iq(kvs:List (κ×V))(k:κ):(j4 kvs k).length<=kvs.length:=tp _ _
end
theorem pN{k:Key}(r:RelV (kV k) u):(fX P w).is k u=true:=by
 cases k with
 |inl i=>obtain⟨t,e⟩:=(show∃t,u=tI i t from r);subst e;exact WA P w i t
 |inr x=>obtain⟨t,e⟩:=(show∃t,u=zE x t from r);subst e;exact Ti P w x t
theorem HH{P:bA}{w:bB}:∀{ks:List Key}{us:List af},bD (ks.map kV) us->ItemsAre (fX P w) ks us
 |[],_,r=>by rw[i7]at r;cases r;exact .nil
 |k::ks,_,r=>by
  rw[bS]at r;cases r with
  |cons h t=>exact .cons (pN h) (HH t)
abbrev KT(H:Hp):List (List Key×V)->List (List Key×aa×af)->Prop:=Paired λp q=>p.1=q.1/\H q.2.1=some (.tup (p.1.map kV))/\RelV p.2 q.2.2
theorem KT.val{xs:List (List Key×aa×af)}(r:KT H kvs xs)(k:List Key):gG (dC kvs k) ((mw xs k).map (·.2)):=by
 induction r with
 |nil=>exact dy
 |@cons p q ps qs h t ih=>
  obtain⟨h1,y,h2⟩:=h;by_cases e:p.1=k
  .have e':q.1=k:=h1.symm.trans e
   have b:mw (q::qs) k=some q.2:=by simp[mw,lr,e']
   rw[Az e,b];exact h2
  .have e':¬q.1=k:=λz=>e (h1.trans z)
   have b:mw (q::qs) k=mw qs k:=by simp[mw,lr,e']
   rw[AX e,b];exact ih
theorem KT.BO{xs:List (List Key×aa×af)}(r:KT H kvs xs)(k:List Key){y:V}(ry:RelV y u):KT H (kvs.map λkv=>if kv.1=k then(kv.1,y)else kv) (xs.map (putAt k u)):=by
 induction r with
 |nil=>exact .nil
 |@cons p q ps qs h t ih=>
  rw[bS,bS];refine .cons ?_ ih;obtain⟨h1,h2,h3⟩:=h;unfold putAt;by_cases e:p.1=k
  .rw[ay e,ay (h1.symm.trans e)];exact⟨h1,h2,ry⟩
  .rw[aq e,aq (λz=>e (h1.trans z))];exact⟨h1,h2,h3⟩
theorem KT.put{xs:List (List Key×aa×af)}(r:KT H kvs xs)(k:List Key){y:V}(hb:H b=some (.tup (k.map kV)))(ry:RelV y u):KT H (putK kvs k y) (storedH xs k b u):=by
 have e:(kvs.any λkv=>decide (kv.1=k))=(mw xs k).isSome:=by rw[yG,(r.val k).uZ,pK]
 unfold putK storedH;rw[e];by_cases q:(mw xs k).isSome=true
 .rw[ay q,ay q];exact r.BO k ry
 .rw[aq q,aq q];exact Paired.snoc r ⟨rfl,hb,ry⟩
theorem KT.keeps{xs:List (List Key×aa×af)}(r:KT H kvs xs)(ht:∀b ys,H b=some (.tup ys)->H' b=some (.tup ys)):KT H' kvs xs:=Paired.Bh r λy y z=>⟨z.1,ht _ _ z.2.1,z.2.2⟩
theorem J0{u:HO}(ok:c8 P w H h)(e:Rd H a u):dF P w H h a u:=e.ok ok
theorem nN{kvs:List (Key×V)}(ok:c8 P w H h)(e:Rd H a (.dK kvs)):kvs.length<=sizeLine/\(a==jS)=false/\∃vs,KV kvs vs/\h.DictOf (fX P w) a vs:=show dF P w H h a (.dK kvs) from J0 ok e
theorem Kq{kvs:List (Key×V)}(ok:c8 P w H h)(e:H a=some (.dK kvs)):kvs.length<=sizeLine/\(a==jS)=false/\∃vs,KV kvs vs/\h.DictOf (fX P w) a vs:=nN ok (.inl e)
theorem p4{ks:List Key}(ok:c8 P w H h)(e:H a=some (.tup (ks.map kV))):(tK (fX P w)).is h ks a:=by
 obtain⟨z,its,r,o,h1,h2,n,h3⟩:=(show dF P w H h a (.tup (ks.map kV)) from ok a _ e);exact⟨o,its.toArray,n,h1,h2,h3,by simpa using HH r⟩
theorem pM(ok:c8 P w H h)(e:Rd H a (.dT kvs)):kvs.length<=sizeLine/\(a==jS)=false/\∃xs,KT H kvs xs/\h.DictOfH (tK (fX P w)) a xs:=by
 obtain⟨z,y,xs,r,o,es,ep,h1,h2,h3,h4,h5⟩:=(show dF P w H h a (.dT kvs) from J0 ok e);refine⟨z,y,xs,r,o,es,ep,h1,h2,h3,h4,λx hx=>?_,h5⟩;have all:∀{l:List (List Key×V)}{m:List (List Key×aa×af)},KT H l m->∀x∈m,(tK (fX P w)).is h x.1 x.2.1:=by
  intro l m q;induction q with
  |nil=>intro x hx;exact nomatch hx
  |@cons p q ps qs hq t ih=>
   intro x hx;rcases bM.mp hx with e|hx
   .subst e
    exact p4 ok (by rw[<-hq.1];exact hq.2.1)
   .exact ih x hx
 exact all r x hx
theorem Lv(ok:c8 P w H h)(e:H a=some (.dT kvs)):kvs.length<=sizeLine/\(a==jS)=false/\∃xs,KT H kvs xs/\h.DictOfH (tK (fX P w)) a xs:=pM ok (.inl e)
def gX(H:Hp)(a:aa)(y:V)(r:Option V):Prop:=(∃kvs k,Rd H a (.dK kvs)/\y=kV k/\r=dC kvs k)\/∃kvs k b,Rd H a (.dT kvs)/\y=.ref b/\H b=some (.tup (k.map kV))/\r=dC kvs k
def k6(H:Hp)(a:aa)(y v:V)(H':Hp):Prop:=(∃kvs k,H a=some (.dK kvs)/\y=kV k/\kvs.length<sizeLine/\H'=upd H a (.dK (putK kvs k v)))\/
 ∃kvs k b,H a=some (.dT kvs)/\y=.ref b/\H b=some (.tup (k.map kV))/\kvs.length<sizeLine/\H'=upd H a (.dT (putK kvs k v))
theorem gX.k{kvs:List (Key×V)}{k:Key}(e:H a=some (.dK kvs)):gX H a (kV k) (dC kvs k):=.inl ⟨kvs,k,.inl e,rfl,rfl⟩
theorem k6.k{kvs:List (Key×V)}{k:Key}{v:V}(e:H a=some (.dK kvs))(hl:kvs.length<sizeLine):k6 H a (kV k) v (upd H a (.dK (putK kvs k v))):=.inl ⟨kvs,k,e,rfl,hl,rfl⟩
theorem k6.t{k:List Key}{v:V}(e:H a=some (.dT kvs))(eb:H b=some (.tup (k.map kV)))(hl:kvs.length<sizeLine):k6 H a (.ref b) v (upd H a (.dT (putK kvs k v))):=.inr ⟨kvs,k,b,e,rfl,eb,hl,rfl⟩
section
variable{σ:St}{y v:V}{r:af}{o:Option V}
theorem Inv.LW(I:Inv X pins σ H s):jS<s.heap.objs.size:=by
 have h:iD<s.heap.objs.size:=(I.mod.glob.keeps I.bk).lt;exact Mu (by decide) h
theorem WD(hu:A.units+1<jt)(I:Inv X pins σ H s)(g:gX H a y (some v))(ry:RelV y u)(h:∀w' s',Inv X pins σ H s'->RelV v w'->Q w' s'):aJ (ba X.prog X.w) A (tO (.ref a) u) Q E s:=by
 rcases g with⟨kvs,k,e,ey,l⟩|⟨kvs,k,b,e,ey,eb,l⟩
 .subst ey
  obtain⟨z,hd,vs,rel,dd⟩:=nN I.aW e;obtain⟨w',hw,rw'⟩:=gG.some_of (v:=v) (o:=qZ vs k) (by rw[l];exact rel.val k)
  exact wpAny_getItem_of (pN ry) dd.mapOf hw (h w' _ (I.tok _) rw')
 .subst ey
  cases(show u=cV b from ry);obtain⟨z,hd,xs,rel,dd⟩:=pM I.aW e;obtain⟨w',hw,rw'⟩:=gG.some_of (v:=v) (o:=(mw xs k).map (·.2)) (by rw[l];exact rel.val k)
  obtain⟨p,hp,hp2⟩:=di.mp hw;refine wpAny_getItem_heap (wm hu) (p4 I.aW eb) dd hp ?_;rw[hp2];exact h w' _ (I.tok _) rw'
theorem Pn(hu:A.units+1<jt)(I:Inv X pins σ H s)(g:gX H a y o)(ry:RelV y u)(h:∀s',Inv X pins σ H s'->Q (.bool o.isSome) s'):aJ (ba X.prog X.w) A (iT .In u (.ref a)) Q E s:=by
 rcases g with⟨kvs,k,e,ey,l⟩|⟨kvs,k,b,e,ey,eb,l⟩
 .subst ey
  obtain⟨z,hd,vs,rel,dd⟩:=nN I.aW e;refine wpAny_in_of (pN ry) hd dd.mapOf ?_;rw[<-(rel.val k).uZ,<-l];exact h _ (I.tok _)
 .subst ey
  cases(show u=cV b from ry);obtain⟨z,hd,xs,rel,dd⟩:=pM I.aW e;refine wpAny_in_heap (wm hu) (p4 I.aW eb) hd dd ?_;have q:=(rel.val k).uZ;rw[pK]at q;rw[<-q,<-l];exact h _ (I.tok _)
theorem Wz(hu:A.units+1<jt)(I:Inv X pins σ H s)(g:gX H a y o)(ry:RelV y u)(h:∀s',Inv X pins σ H s'->Q (.bool (!o.isSome)) s'):aJ (ba X.prog X.w) A (iT .NotIn u (.ref a)) Q E s:=by
 rcases g with⟨kvs,k,e,ey,l⟩|⟨kvs,k,b,e,ey,eb,l⟩
 .subst ey
  obtain⟨z,hd,vs,rel,dd⟩:=nN I.aW e;refine wpAny_notIn_of (pN ry) hd dd.mapOf ?_;rw[<-(rel.val k).uZ,<-l];exact h _ (I.tok _)
 .subst ey
  cases(show u=cV b from ry);obtain⟨z,hd,xs,rel,dd⟩:=pM I.aW e;refine wpAny_notIn_heap (wm hu) (p4 I.aW eb) hd dd ?_;have q:=(rel.val k).uZ;rw[pK]at q;rw[<-q,<-l];exact h _ (I.tok _)
theorem xU{h':a9}{ob:HO}(I:Inv X pins σ H s)(mu:lL (H a))(hs:tL a s.heap h')(he:∃q,h'.get? a=some q)(new:dF X.prog X.w (upd H a ob) h' a ob):Inv X pins σ (upd H a ob) {s with heap:=h',toks:=t'}:=I.write (x:=a) (e:=a) mu (.inl rfl) (λb q hb z=>(hs.2 b hb).trans z) he new
theorem Ih{h':a9}{kvs:List (Key×V)}{vs:List (Key×af)}(z:kvs.length<=sizeLine)(hd:(a==jS)=false)(rel:KV kvs vs)(dd:h'.DictOf (fX P w) a vs):dF P w H' h' a (.dK kvs):=⟨z,hd,vs,rel,dd⟩
theorem X2{Q:Unit->aC->Prop}(hu:A.units+1<jt)(I:Inv X pins σ H s)(g:k6 H a y v H')(ry:RelV y u)(rv:RelV v r)(h:∀s',Inv X pins σ H' s'->Q () s'):aJ (ba X.prog X.w) A (M3 (.ref a) u r) Q E s:=by
 rcases g with⟨kvs,k,e,ey,l,eH⟩|⟨kvs,k,b,e,ey,eb,l,eH⟩
 .subst ey eH
  obtain⟨z,hd,vs,rel,dd⟩:=Kq I.aW e;have hz:vs.length<=sizeLine:=by rw[<-rel.length];exact z
  have hl:(putK kvs k v).length<=sizeLine:=by have:=J4 kvs k v;omega
  refine wpAny_setItem_pairs (hsz:=hz) (pN ry) dd λh' dd' hs=>h _ ?_;have he:∃q,h'.get? a=some q:=let⟨q,_,_,hq,_⟩:=dd';⟨q,hq⟩;exact xU I (by rw[e];exact dy) hs he (Ih hl hd (rel.put k rv) dd')
 .subst ey eH
  cases(show u=cV b from ry);obtain⟨z,hd,xs,rel,dd⟩:=Lv I.aW e;have hz:xs.length<=sizeLine:=by rw[<-Paired.length rel];exact z
  have hl:(putK kvs k v).length<=sizeLine:=by have:=J4 kvs k v;omega
  refine wpAny_setItem_heap (hsz:=hz) (wm hu) (p4 I.aW eb) dd λh' dd' hs=>h _ ?_;obtain⟨q,es,ep,hq,h2,h3,h4,x,h5⟩:=dd';refine xU I (by rw[e];exact dy) hs ⟨q,hq⟩ ⟨hl,hd,_,(rel.put k eb rv).keeps λc ys ec=>?_,q,es,ep,hq,h2,h3,h4,h5⟩
  rw[aI (gL ec e (λz=>nomatch z))];exact ec
end
section
variable{σ:St}{kvs:List (Key×V)}{k:Key}
theorem Qw{v:V}{more:List af}(I:Inv X pins σ H s)(e:H a=some (.dK kvs))(ry:RelV (kV k) u)(l:dC kvs k=some v)(hm:more=[]\/∃x,more=[x])(h:∀w' s',Inv X pins σ (upd H a (.dK (j4 kvs k))) s'->RelV v w'->Q w' s'):aJ (ba X.prog X.w) A (fO (.builtin "dict.pop") (.ref a::u::more)) Q E s:=by
 obtain⟨z,hd,vs,rel,dd⟩:=Kq I.aW e;obtain⟨w',hw,rw'⟩:=gG.some_of (v:=v) (o:=qZ vs k) (by rw[<-l];exact rel.val k)
 have hp:(keyPart u).isSome=true:=by
  cases k with
  |inl i=>obtain⟨t,q⟩:=(show∃t,u=tI i t from ry);subst q;rfl
  |inr x=>obtain⟨t,q⟩:=(show∃t,u=zE x t from ry);subst q;rfl
 have ha:n0 "dict.pop" ⟨.ref a::u::more,[]⟩:=by
  rcases hm with q|⟨x,q⟩
  .subst q;exact Zo _ _
  .subst q;exact PySem.F.args_dict_pop_3 _ _ _
 refine Nq Fu dd.typeIs Zp ha (meets_dict_pop_there (fX X.prog X.w) a (pN ry) more hm hp)
  ⟨vs,w',dd,by rw[<-rel.length];exact z,hw,λh' dd' hs=>h w' _ ?_ rw'⟩
 have he:∃q,h'.get? a=some q:=let⟨q,_,_,hq,_⟩:=dd';⟨q,hq⟩;exact xU I (by rw[e];exact dy) hs he (Ih (fi (Iq kvs k) z) hd (rel.drop k) dd')
theorem VT(I:Inv X pins σ H s)(e:Rd H a (.dK kvs))(h:∀t s',Inv X pins σ H s'->Q (.int kvs.length t) s'):aJ (ba X.prog X.w) A (fO (.builtin "len") [.ref a]) Q E s:=by
 obtain⟨z,hd,vs,rel,dd⟩:=nN I.aW e;refine call_len_dict hd dd (by rw[<-rel.length];rw[zM]at z;omega) ?_
 rw[<-rel.length];exact h _ _ (I.tok _)
end
def Ie(i:bE):Prop:=∀ov iv,Fe i false ov iv=Nj [ov,iv] (tO ov iv)
theorem U8{env:ei}{value slice:bE}{T id:String}(hl:MR (.type T) "__getitem__"=pure (some (.builtin id)))(hs:Ie slice)(h:aJ (ba prog w) A (bP value env) (λo s₁=>aJ (ba prog w) A (bP slice env) (λi s₂=>s₂.TypeIs o T/\aJ (ba prog w) A (tO o i) Q E s₂) E s₁) E s):aJ (ba prog w) A (bP (.Subscript value slice pos) env) Q E s:=by
 refine Nf (jb h (λo s₁ h₁=>jb h₁ (λi s₂ h₂=>?_) λz z x=>x) λz z x=>x);obtain⟨hT,h₂⟩:=h₂;unfold Ng;refine az ?_;rw[getitemInPython_of_ne hT.not_modules];refine az (wpAny_specialOf hT hl ?_);have fin:aJ (ba prog w) A (Fe slice false o i) (λr s₃=>aJ (ba prog w) A (letTemporaryGo value o r>>= λz=>pure r) Q E s₃) E s₂:=by
  rw[hs o i];exact wpAny_operating (jb h₂ (λr s₃ h₃=>az (wpAny_letTemporaryGo (br h₃))) λz z x=>x)
 first
  |exact br (az fin)
  |exact az (br (az fin))
  |exact az fin
theorem VN{σ:St}{y:V}{o:Option V}(I:Inv X pins σ H s)(g:gX H a y o):s.TypeIs (.ref a) "dict":=by
 rcases g with⟨kvs,k,e,_,_⟩|⟨kvs,k,b,e,_,_,_⟩
 .obtain⟨z,z,vs,z,dd⟩:=nN I.aW e
  exact dd.typeIs
 .obtain⟨z,z,xs,z,dd⟩:=pM I.aW e
  exact dd.typeIs
def Uz(td ty:TE):TE:=λσ H Q=>td σ H λx H1=>ty σ H1 λy H2=>∃a v,x=.ref a/\gX H2 a y (some v)/\Q v H2
def SX(ty td:TE):TE:=λσ H Q=>ty σ H λy H1=>td σ H1 λx H2=>∃a o,x=.ref a/\gX H2 a y o/\Q (.bl o.isSome) H2
def Qp(ty td:TE):TE:=λσ H Q=>ty σ H λy H1=>td σ H1 λx H2=>∃a o,x=.ref a/\gX H2 a y o/\Q (.bl (!o.isSome)) H2
def QF(td ty tv:TE):TS:=λD σ H=>tv σ H λv H1=>td σ H1 λx H2=>ty σ H2 λy H3=>∃a H4,x=.ref a/\k6 H3 a y v H4/\D.nx σ H4
section
variable{o i value:bE}{pos':cI}{td ty tv:TE}
theorem iU(hu:X.A.units+1<jt)(ho:PE X o td)(hi:PE X i ty)(hs:Ie i):PE X (.Subscript o i pos) (Uz td ty):=by
 intro pins s σ H Q I h;refine U8 PySem.F.slot_dict_getitem.lookup hs (bf (ho pins s σ H _ I h) λu s1 ⟨x,H1,I1,rx,q1⟩=>bf (hi pins s1 σ H1 _ I1 q1) λiv s2 ⟨y,H2,I2,ry,a,v,ex,g,q2⟩=>?_);subst ex;obtain rfl:u=cV a:=rx;exact⟨VN I2 g,WD hu I2 g ry λw' s3 I3 rw'=>⟨v,H2,I3,rw',q2⟩⟩
theorem L0(hu:X.A.units+1<jt)(hi:PE X i ty)(ho:PE X o td):PC X .In i o (SX ty td):=by
 intro pins s σ H Q I h;refine bf (hi pins s σ H _ I h) λiv s1 ⟨y,H1,I1,ry,q1⟩=>bf (ho pins s1 σ H1 _ I1 q1) λu s2 ⟨x,H2,I2,rx,a,ov,ex,g,q2⟩=>?_;subst ex;obtain rfl:u=cV a:=rx;exact Pn hu I2 g ry λs3 I3=>⟨.bl ov.isSome,H2,I3,rfl,q2⟩
theorem rp(hu:X.A.units+1<jt)(hi:PE X i ty)(ho:PE X o td):PC X .NotIn i o (Qp ty td):=by
 intro pins s σ H Q I h;refine bf (hi pins s σ H _ I h) λiv s1 ⟨y,H1,I1,ry,q1⟩=>bf (ho pins s1 σ H1 _ I1 q1) λu s2 ⟨x,H2,I2,rx,a,ov,ex,g,q2⟩=>?_;subst ex;obtain rfl:u=cV a:=rx;exact Wz hu I2 g ry λs3 I3=>⟨.bl (!ov.isSome),H2,I3,rfl,q2⟩
theorem rR(hu:X.A.units+1<jt)(ho:PE X o td)(hi:PE X i ty)(hv:PE X value tv)(hs:zI value (some (.Subscript o i pos')) pos.line X.env=pure false):PS X (.Assign [.Subscript o i pos'] value pos) (QF td ty tv):=by
 intro pins s σ H D I h;refine wpAny_Assign_Subscript (bf (hv pins s σ H _ I h) λr s1 ⟨v,H1,I1,rv,q1⟩=>bf (ho pins s1 σ H1 _ I1 q1) λu s2 ⟨x,H2,I2,rx,q2⟩=>bf (hi pins s2 σ H2 _ I2 q2) λiv s3 ⟨y,H3,I3,ry,a,H4,ex,g,q3⟩=>?_) hs;subst ex;obtain rfl:u=cV a:=rx;exact X2 hu I3 g ry rv λs4 I4=>⟨σ,H4,I4,q3⟩
end
theorem U4(h:a9)(hb:jS<h.objs.size):dF P w H (h.push {cls:=.type "dict",data:=.dict #[]}) h.objs.size (.dK []):=⟨gp _,vV.mpr (eW (dM hb)),[],.nil,aaZ h⟩
theorem Rf(h:a9)(hb:jS<h.objs.size):dF P w H (h.push {cls:=.type "dict",data:=.dict #[]}) h.objs.size (.dT []):=⟨gp _,vV.mpr (eW (dM hb)),[],.nil,_,#[],0,dW _ rfl,⟨rfl,rfl,rfl⟩,rfl,rfl,Fv⟩
def VS:TE:=λz H Q=>∀p,H p=none->Q (.ref p) (upd H p (.dK []))
def QJ:TE:=λz H Q=>∀p,H p=none->Q (.ref p) (upd H p (.dT []))
theorem yB:PE X (.Dict [] [] pos) VS:=λpins s σ H Q I h=>Zq ⟨.ref s.heap.objs.size,_,I.laid (a:=s.heap.objs.size) (o:=.dK []) (t':=s.toks) (λz z q=>dB _ q) (bK _) (U4 s.heap I.LW),rfl,h _ (I.aW.fresh (bK _))⟩
theorem VV:PE X (.Dict [] [] pos) QJ:=λpins s σ H Q I h=>Zq ⟨.ref s.heap.objs.size,_,I.laid (a:=s.heap.objs.size) (o:=.dT []) (t':=s.toks) (λz z q=>dB _ q) (bK _) (Rf s.heap I.LW),rfl,h _ (I.aW.fresh (bK _))⟩
structure M1(X:Cx)(o:bE)(m:ae)(apos:cI)(e:bE)(cpos:cI):Prop where
 base:mv o m X.env (bP o X.env)=bP o X.env
 c5:((f7 cpos (cn [e] X.env)).all (λx=> !x.1)&&(lB cpos (lC [] X.env)).all (λx=>x.1.isSome)&&decide (([e]:List bE).length+([]:List zD).length+(if([]:List zD).isEmpty then 0 else 1)<30))=true
 line:(apos.endLine==cpos.line)=true
 trees:f7 cpos (cn [e] X.env)=[(false,bP e X.env)]
def rN(H:Hp)(a:aa):Prop:=(∃kvs,Rd H a (.dK kvs))\/∃kvs,Rd H a (.dT kvs)
theorem BA{σ:St}(I:Inv X pins σ H s)(d:rN H a):s.TypeIs (.ref a) "dict"/\(∀b,cV a=.ref b->∃ob,s.heap.get? b=some ob/\ob.dict=none)/\(a==jS)=false:=by
 rcases d with⟨kvs,e⟩|⟨kvs,e⟩
 .obtain⟨z,hd,vs,z,dd⟩:=nN I.aW e
  refine⟨dd.typeIs,λb q=>?_,hd⟩;cases q;obtain⟨ob,z,z,h1,h2,z⟩:=dd;exact⟨ob,h1,h2.2.1⟩
 .obtain⟨z,hd,xs,z,dd⟩:=pM I.aW e
  refine⟨dd.typeIs,λb q=>?_,hd⟩;cases q;obtain⟨ob,z,z,h1,h2,z⟩:=dd;exact⟨ob,h1,h2.2.1⟩
section
variable{σ:St}{y d:V}{r:af}{o:Option V}
theorem Uj(hu:A.units+1<jt)(I:Inv X pins σ H s)(g:gX H a y o)(ry:RelV y u)(h:∀w' s',Inv X pins σ H s'->RelV (o.getD .bI) w'->Q w' s'):aJ (ba X.prog X.w) A (fO (.builtin "dict.get") [.ref a,u]) Q E s:=by
 rcases g with⟨kvs,k,e,ey,l⟩|⟨kvs,k,b,e,ey,eb,l⟩
 .subst ey
  obtain⟨z,hd,vs,rel,dd⟩:=nN I.aW e;refine Nq Nr dd.typeIs Zr (Zs _ _) (meets_dict_get (fX X.prog X.w) a (pN ry) hd) ⟨_,dd.mapOf,h _ _ (I.tok _) ?_⟩;rw[l];exact(rel.val k).getD rfl
 .subst ey
  cases(show u=cV b from ry);obtain⟨z,hd,xs,rel,dd⟩:=pM I.aW e;refine Nq Nr dd.typeIs Zr (Zs _ _) (meetsH_dict_get (tK (fX X.prog X.w)) a b hd) ⟨wm hu,k,xs,p4 I.aW eb,dd,h _ _ (I.tok _) ?_⟩;rw[l];exact(rel.val k).getD rfl
end
def TN(td ty:TE):TE:=λσ H Q=>td σ H λx H1=>∃a,x=.ref a/\rN H1 a/\ty σ H1 λy H2=>∃o,gX H2 a y o/\Q (o.getD .bI) H2
def VC(td ty:TE):TE:=λσ H Q=>td σ H λx H1=>∃a,x=.ref a/\rN H1 a/\ty σ H1 λy H2=>∃kvs k v,H2 a=some (.dK kvs)/\y=kV k/\dC kvs k=some v/\Q v (upd H2 a (.dK (j4 kvs k)))
section
variable{o f:bE}{apos cpos:cI}{td ty tx:TE}
theorem xc(hu:X.A.units+1<jt)(ho:PE X o td)(he:PE X e ty)(m:M1 X o "get" apos e cpos):PE X (.Call (.Attribute o "get" apos) [e] [] cpos) (TN td ty):=by
 intro pins s σ H Q I h;refine wo m.base m.c5 m.line Nt Nr PySem.F.type_dict_get (bf (ho pins s σ H _ I h) λu s1 ⟨x,H1,I1,rx,a,ex,d,q1⟩=>?_);subst ex;obtain rfl:u=cV a:=rx;obtain⟨t1,t2,z⟩:=BA I1 d;refine⟨t1,t2,?_⟩;rw[m.trees];refine wd rfl (zQ (qS (bf (he pins s1 σ H1 _ I1 q1) λiv s2 ⟨y,H2,I2,ry,ov,g,q2⟩=>qR ?_)));exact Uj hu I2 g ry λw' s3 I3 rw'=>⟨_,H2,I3,rw',q2⟩
theorem HR(ho:PE X o td)(he:PE X e ty)(m:M1 X o "pop" apos e cpos):PE X (.Call (.Attribute o "pop" apos) [e] [] cpos) (VC td ty):=by
 intro pins s σ H Q I h;refine wo m.base m.c5 m.line Nt Fu Zt (bf (ho pins s σ H _ I h) λu s1 ⟨x,H1,I1,rx,a,ex,d,q1⟩=>?_);subst ex;obtain rfl:u=cV a:=rx;obtain⟨t1,t2,z⟩:=BA I1 d;refine⟨t1,t2,?_⟩;rw[m.trees];refine wd rfl (zQ (qS (bf (he pins s1 σ H1 _ I1 q1) λiv s2 ⟨y,H2,I2,ry,kvs,k,v,ea,ey,l,q2⟩=>qR ?_)));subst ey;exact Qw I2 ea ry l (.inl rfl) λw' s3 I3 rw'=>⟨v,_,I3,rw',q2⟩
end
section
variable{σ:St}{h':a9}
theorem Inv.TQ{ch:List aa}(I:Inv X pins σ H s)(k:∀b o,b∉ch->s.heap.get? b=some o->h'.get? b=some o)(hf:∀b∈ch,kH X pins H b):Inv X pins σ H {s with heap:=h',toks:=t'}:=by
 have nit:∀b u,H b=some u->b∉ch:=λb u e z=>by
  have q:=(hf b z).1;rw[q]at e;cases e
 refine I.step (g':=s.gens) (d':=s.drawn) (ch:=ch) (λb hb=>⟨(hf b hb).2.2.2.1,(hf b hb).2.1,(hf b hb).2.2.2.2.1,(hf b hb).2.2.2.2.2⟩) (λb o y y hc e y=>k b o hc e) (λb o y y hc e y=>⟨o.slots,k b o hc e⟩)
  (λy y y y n=>n) (λb o hc e=>⟨o,k b o hc e⟩) (λy y e=>e) (λy y y e=>e) (λb ps e=>⟨#[],by rw[e];simp⟩) (λm hm=>?_) (λb u e=>?_) I.bare
 .obtain⟨o,es,ep,ho,r⟩:=hm
  exact⟨o,es,ep,k _ o (λz=>(hf _ z).2.1 rfl) ho,r⟩
 .refine(I.aW b u e).lK (λc v hc q=>k c v ?_ q) (λy q=>q) λy y q=>q
  rcases hc with z|z
  .rw[z];exact nit b u e
  .exact nit c _ z
theorem Inv.uG{ch:List aa}{T:aa}{ob:HO}(I:Inv X pins σ H s)(k:∀b o,b∉ch->s.heap.get? b=some o->h'.get? b=some o)(hf:∀b∈ch,kH X pins H b)(hT:s.heap.objs.size<=T)(new:dF X.prog X.w (upd H T ob) h' T ob):Inv X pins σ (upd H T ob) {s with heap:=h',toks:=t'}:=by
 have hn:H T=none:=I.aW.fresh hT;have nit:∀b u,H b=some u->b∉ch:=λb u e z=>by
  have q:=(hf b z).1;rw[q]at e;cases e
 refine I.step (g':=s.gens) (d':=s.drawn) (ch:=ch) (λb hb=>⟨(hf b hb).2.2.2.1,(hf b hb).2.1,(hf b hb).2.2.2.2.1,(hf b hb).2.2.2.2.2⟩) (λb o y y hc e y=>k b o hc e) (λb o y y hc e y=>⟨o.slots,k b o hc e⟩)
  (λb o y e n=>?_) (λb o hc e=>⟨o,k b o hc e⟩) (λb xs e=>?_) (λb o u e=>?_) (λb ps e=>⟨#[],?_⟩) (λm hm=>?_) (λb u e=>?_) I.bare
 .rw[aI (dM (ie (cO e) hT))];exact n
 .rw[aI (cQ e hn)];exact e
 .rw[aI (cQ e hn)];exact e
 .rw[aI (cQ e hn),e];simp
 .obtain⟨o,es,ep,ho,r⟩:=hm
  exact⟨o,es,ep,k _ o (λz=>(hf _ z).2.1 rfl) ho,r⟩
 .by_cases hb:b=T
  .subst hb
   rw[aR]at e;cases e;exact new
  .rw[aI hb]at e
   refine(I.aW b u e).lK (λc v hc q=>k c v ?_ q) (λc q=>by rw[aI (cQ q hn)];exact q) λc xs q=>by rw[aI (cQ q hn)];exact q
   rcases hc with z|z
   .rw[z];exact nit b u e
   .exact nit c _ z
theorem Inv.lock{u:HO}(I:Inv X pins σ H s)(h:H d=some u)(mu:lL (some u)):∃od,Inv X pins σ (upd H d (.bu od u)) s:=by
 have x:=I.aW d u h;have ex:∃od,s.heap.get? d=some od:=by
  cases u with
  |lst xs=>obtain⟨y,y,y,y,e⟩:=x;exact⟨_,e⟩
  |dK kvs=>obtain⟨y,y,y,y,o,y,y,e,y⟩:=x;exact⟨o,e⟩
  |dT kvs=>obtain⟨y,y,y,y,o,y,y,e,y⟩:=x;exact⟨o,e⟩
  |set S n=>obtain⟨o,y,y,y,e,y⟩:=x;exact⟨o,e⟩
  |ins C dx fs=>obtain⟨y,y,y,e,y⟩:=x;exact⟨_,e⟩
  |ext φ=>obtain⟨y,⟨y,e⟩,y⟩:=x;exact⟨_,e⟩
  |_=>exact jd mu
 obtain⟨od,e⟩:=ex;have new:dF X.prog X.w (upd H d (.bu od u)) s.heap d (.bu od u):=by
  refine⟨e,x.lK (λb v y q=>q) (λb q=>?_) λb xs q=>?_⟩
  .rw[aI (λz=>by rw[z,h]at q;cases q;exact mu)];exact q
  .rw[aI (λz=>by rw[z,h]at q;cases q;exact mu)];exact q
 exact⟨od,I.write (x:=d) (e:=d) (t':=s.toks) (h':=s.heap) (by rw[h];exact mu) (.inl rfl) (λb v y q=>q) ⟨od,e⟩ new⟩
theorem Inv.vh{u:HO}(I:Inv X pins σ H s)(h:H d=some u)(mu:lL (some u)):∀o' u',X.ph d≠some (.bu o' u'):=λo' u' e=>by
 have q:=I.base.kg d o' u' e;rw[h]at q;cases q;exact mu
theorem Inv.unlock{od:bc}{u:HO}(I:Inv X pins σ H s)(h:H d=some (.bu od u))(hn:∀o' u',X.ph d≠some (.bu o' u')):Inv X pins σ (upd H d u) s:=by
 have neH:∀b o,H b=some o->(∀o' u',o≠.bu o' u')->b≠d:=λb o e hne z=>by
  rw[z,h]at e;cases e;exact hne _ _ rfl
 have neN:∀b,H b=none->b≠d:=λb e z=>by rw[z,h]at e;cases e
 refine⟨I.ok,I.os,I.bare,⟨I.base.keep,I.base.slot,λb o e n hx=>?_,I.base.there,λb xs e=>?_,λb o x e=>?_,λb ps e=>?_⟩,I.loc,I.cell,?_,λx c e=>?_,λp hp=>?_,λb o e=>?_,I.len⟩
 .rw[aI (neN b (I.base.free b o e n hx))];exact I.base.free b o e n hx
 .have q:=I.base.gA b xs e
  rw[aI (neH b _ q (λy y z=>nomatch z))];exact q
 .have q:=I.base.kg b o x e
  rw[aI (λz=>by rw[z]at e;exact hn _ _ e)];exact q
 .obtain⟨m,q⟩:=I.base.l7 b ps e
  exact⟨m,by rw[aI (neH b _ q (λy y z=>nomatch z))];exact q⟩
 .rw[aI (neN _ I.free)];exact I.free
 .rw[aI (neN c (I.iL x c e))];exact I.iL x c e
 .obtain⟨e,n,r⟩:=I.pin p hp
  exact⟨e,by rw[aI (neN _ n)];exact n,r⟩
 .by_cases hb:b=d
  .rw[hb,aR]at e
   cases e;rw[hb];obtain⟨y,x⟩:=I.aW d _ h;exact x.lK (λc v y q=>q) (λc q=>by rw[aI (neH c _ q (λy y z=>nomatch z))];exact q) λc xs q=>by rw[aI (neH c _ q (λy y z=>nomatch z))];exact q
  .rw[aI hb]at e
   exact(I.aW b o e).lK (λc v y q=>q) (λc q=>by rw[aI (neH c _ q (λy y z=>nomatch z))];exact q) λc xs q=>by rw[aI (neH c _ q (λy y z=>nomatch z))];exact q
end
def SO(t:TS):TS:=λD σ H=>∃d u,H d=some u/\lL (some u)/\∀od,t ⟨λσ' H'=>H' d=some (.bu od u)/\D.nx σ' (upd H' d u),λv H'=>H' d=some (.bu od u)/\D.rt v (upd H' d u),λσ' H'=>H' d=some (.bu od u)/\D.bk σ' (upd H' d u),λσ' H'=>H' d=some (.bu od u)/\D.ct σ' (upd H' d u)⟩ σ (upd H d (.bu od u))
def Ru(t:TE):TE:=λσ H Q=>∃d u,H d=some u/\lL (some u)/\∀od,t σ (upd H d (.bu od u)) λv H'=>H' d=some (.bu od u)/\Q v (upd H' d u)
theorem vm{st:bq}{t:TS}(h:PS X st t):PS X st (SO t):=by
 intro pins s σ H D I hw;obtain⟨d,u,hd,mu,hw⟩:=hw;obtain⟨od,I1⟩:=I.lock hd mu;refine bf (h pins s σ _ _ I1 (hw od)) λf s1 q=>?_;cases f with
 |next=>obtain⟨σ',H',I2,e,q⟩:=q;exact⟨σ',_,I2.unlock e (I.vh hd mu),q⟩
 |brk=>obtain⟨σ',H',I2,e,q⟩:=q;exact⟨σ',_,I2.unlock e (I.vh hd mu),q⟩
 |cont=>obtain⟨σ',H',I2,e,q⟩:=q;exact⟨σ',_,I2.unlock e (I.vh hd mu),q⟩
 |ret v=>obtain⟨x,σ',H',I2,r,e,q⟩:=q;exact⟨x,σ',_,I2.unlock e (I.vh hd mu),r,q⟩
theorem uk{t:TE}(h:PE X e t):PE X e (Ru t):=by
 intro pins s σ H Q I hw;obtain⟨d,u,hd,mu,hw⟩:=hw;obtain⟨od,I1⟩:=I.lock hd mu;refine bf (h pins s σ _ _ I1 (hw od)) λv s1 ⟨x,H1,I2,r,e2,q⟩=>?_;exact⟨x,_,I2.unlock e2 (I.vh hd mu),r,q⟩
theorem pQ{σ:St}{R:It->Hp->Prop}{J:It}{tn:Nat->a9->Prop}{tk:Nat}(I:Inv X pins σ H s)(o:bc)(T:Turn X.prog X.w X.K tg J [s.heap.objs.size] s.heap.objs.size tn)(st:tn 0 (s.heap.push o))(q:R J H):sA X pins σ tg R (.ref s.heap.objs.size) {s with heap:=s.heap.push o,toks:=tk}:=by
 refine⟨s.heap.objs.size,[s.heap.objs.size],tn,J,H,rfl,I.kept λb ob e=>dB _ e,T,st,λb hb=>?_,q⟩;have e:b=s.heap.objs.size:=by simpa using hb
 subst e;exact I.oy (bK _) (I.aW.fresh (bK _))
def De(x:ae):It:=⟨λi z=>i<x.cps.size,λi H v H'=>H'=H/\∃c,x.cps[i]? =some c/\v=.str ⟨#[c]⟩,λi z=>x.cps.size<=i⟩
theorem Gk(it:aa)(x:ae)(t:jR)(ty:String)(hty:ty="str_ascii_iterator"\/ty="str_iterator"):Turn P w K tg (De x) [it] it (λi h=>h.IsStrIter it ty x t i) where
 mem:=by simp
 obj:=λi h st b hb=>by
  have e:b=it:=by simpa using hb
  subst e;obtain⟨o,e,c,d⟩:=st;exact⟨o,e,λv z=>by rw[d]at z;cases z⟩
 keep:=λi h h' st k=>let⟨o,ho,r⟩:=st;⟨o,k it (by simp) o ho,r⟩
 item:=by
  intro X hP hw hK hc i pins s σ H E I hf st hg;subst hP hw hK;obtain⟨f0,f1,f2,f3,f4,f5⟩:=hf it (by simp)
  have W:zA X.prog X.w X.A it [it] [it] x.cps.size (SignAt x) (λi h=>h.IsStrIter it ty x t i):=by
   rcases hty with e|e
   .rw[e];exact Walks.strAscii (I.ok.hd hc) it x t
   .rw[e];exact Walks.strWide (I.ok.hd hc) it x t
  have hno:["enumerate","zip","dict_itemiterator","dict_reverseitemiterator","odict_iterator","itertools.zip_longest","itertools.pairwise"].contains ty=false:=by
   rcases hty with e|e
   .rw[e];decide
   .rw[e];decide
  refine W.item i s _ _ hg st λv h' tk hv st' kk=>?_;obtain⟨c,u,hcx,rfl⟩:=hv;have I1:Inv X pins σ H {s with heap:=h',toks:=tk}:=I.turned (λb o hb e=>kk b o (by simpa using hb) e) f0 f1 f3 f4 f5
  obtain⟨oi,e,cc,dd⟩:=id st';exact⟨_,rfl,pT (s:={s with heap:=h',toks:=tk}) e cc dd hno ⟨.str ⟨#[c]⟩,H,I1,⟨u,rfl⟩,⟨rfl,c,hcx,rfl⟩,st',λb hb=>(hf b hb).1⟩⟩
 done:=by
  intro X hP hw hK hc i pins s σ H E I hf st hg;subst hP hw hK;obtain⟨f0,f1,f2,f3,f4,f5⟩:=hf it (by simp)
  have hx:x.cps[i]? =none:=Nu hg;rcases hty with e|e
  .rw[e]at st
   exact wpAny_pyNext_ascii_end (I.ok.hd hc) st hx λh' eb=>⟨rfl,I.turned (t':=s.toks) (λb o hb e=>eb b o hb e) f0 f1 f3 f4 f5⟩
  .rw[e]at st
   exact wpAny_pyNext_wide_end (I.ok.hd hc) st hx λh' eb=>⟨rfl,I.turned (t':=s.toks) (λb o hb e=>eb b o hb e) f0 f1 f3 f4 f5⟩
 self:=λA i s Q E st h=>by
  rcases hty with e|e
  .rw[e]at st;exact wpAny_pyIter_striter_ascii st h
  .rw[e]at st;exact wpAny_pyIter_striter_wide st h
def VJ(te:TE):TI:=λσ H R=>te σ H λv H1=>∃x,v=.str x/\R (De x) H1
theorem Al(he:PE X e te):PI X tg e (VJ te):=by
 intro pins s σ H R I h;refine bf (he pins s σ H _ I h) λv s1 ⟨y,H1,I1,r1,x,ex,q⟩=>?_;subst ex;obtain⟨t,rfl⟩:=r1;cases ha:x.cps.all (·<128)
 .exact wpAny_pyIter_wide ha (pQ (tk:=s1.toks) I1 _ (Gk _ x t "str_iterator" (.inr rfl)) ⟨_,dW _ rfl,rfl,rfl⟩ q)
 .exact wpAny_pyIter_ascii ha (pQ (tk:=s1.toks) I1 _ (Gk _ x t "str_ascii_iterator" (.inl rfl)) ⟨_,dW _ rfl,rfl,rfl⟩ q)
theorem Mm{es:Array iO}{ep:Nat}(hd:(d==jS)=false)(ho:s.heap.get? d=some o)(hc:o.ExactDict)(hdat:o.data=.dict es ep)(hQ:Q (.ref s.heap.objs.size) {s with heap:=s.heap.push {cls:=.type "dict_keyiterator",data:=.fields #[.ref d,.int 0 0,.int es.size 0,.int ep 0]}}):aJ (ba prog w) A (qO (.ref d)) Q E s:=by
 have hT:s.TypeIs (.ref d) "dict":=⟨o,ho,hc.1⟩;refine Nv hT F.slot_dict_iter (pL F.slot_dict_iter hT F.entry_dict_iter ?_ (F.args_dict_iter_1 _));unfold Builtin.«dict.__iter__»;refine az ?_;unfold aa0;refine az (Nw hT ?_);show aJ _ _ (pure (cV d)) _ _ s;refine br ?_;show aJ _ _ (Fw d>>= _) _ _ s;unfold Fw;rw[aq (by rw[hd];exact dH)]
 refine az (br ?_);refine az (rb ho hdat ?_);refine az (wq ho hdat ?_);refine az (oe (br ⟨_,rfl,"dict_keyiterator",_,⟨_,dW _ rfl,rfl⟩,F.slot_dict_keyiterator_next.lookup,?_⟩));simpa[ny]using hQ
theorem Yk{it:aa}{i ep:Nat}{od:bc}{es:Array iO}{en:iO}{Q:Option af->aC->Prop}(hit:s.heap.IsKeyIter it d i n ep)(hod:s.heap.get? d=some od)(hdd:od.data=.dict es ep)(hsz:es.size=n)(hx:es[i]? =some en)(hQ:∀h',h'.IsKeyIter it d (i+1) n ep->tL it s.heap h'->Q (some en.key) {s with heap:=h'}):aJ (ba prog w) A (iS (.ref it)) Q E s:=by
 obtain⟨o,ho,hc,hd⟩:=id hit;unfold iS;refine az (zU (zV (name:=rf "__next__") hit.typeIs F.slot_dict_keyiterator_next (pL F.slot_dict_keyiterator_next hit.typeIs F.entry_dict_keyiterator_next ?_ (F.args_dict_keyiterator_next_1 _))));refine az (br ?_);refine az ?_;refine az ?_
 first|refine az (Fx hit.typeIs (br ?_))|refine az (Fy hit.typeIs (br ?_))
 refine az (Fz ho hd ?_);have hown:zW "dict_keyiterator"=false:=by decide
 simp only[hown,ko,ic];show aJ _ _ (if(cV d==kz)=true then _ else _) _ _ s;rw[aq (show¬((cV d==kz)=true) from dH)];refine az (br ?_);refine az (rb hod hdd ?_);rw[aq (by rw[hsz];simp)]
 refine az (br ?_);refine az (wq hod hdd ?_);rw[aq (by simp)]
 refine br ?_;obtain⟨hlt',hen⟩:=Zu.mp hx;simp only[show¬((i:Int)<0) from by omega,ic,ij,Array.getElem?_eq_getElem hlt']
 refine az ?_
 first|refine az (Fx hit.typeIs (br ?_))|refine az (Fy hit.typeIs (br ?_))
 refine az (Zv hit.typeIs ?_);show aJ _ _ (FA (.ref it) 1 (ny ((i:Int)+1))>>= _) _ _ s;refine az (Ny ho hd (by simp) ?_)
 have hit':(s.heap.update it (Zw (·.setIfInBounds 1 (ny ((i:Int)+1))))).IsKeyIter it d (i+1) n ep:=⟨_,tG _ ho (Obj.isFreed_of_fields (Zx hd _)),(Obj.cls_mapFields ..).trans hc,by rw[Zx hd];simp[ny]⟩
 refine az (wpAny_holding ?_);refine az (Zv (s:={s with heap:=s.heap.update it (Zw (·.setIfInBounds 1 (ny ((i:Int)+1))))}) hit'.typeIs ?_)
 show aJ _ _ (pure es[i].key) _ _ _;rw[hen];exact br (br ⟨_,rfl,br (hQ _ hit' (zX ..))⟩)
theorem Lk{it:aa}{i ep:Nat}{od:bc}{es:Array iO}{Q:Option af->aC->Prop}(hh:A.handled=none)(hit:s.heap.IsKeyIter it d i n ep)(hod:s.heap.get? d=some od)(hdd:od.data=.dict es ep)(hsz:es.size=n)(hge:n<=i)(hQ:∀h',Zy it s.heap h'->Q none {s with heap:=h'}):aJ (ba prog w) A (iS (.ref it)) Q E s:=by
 obtain⟨o,ho,hc,hd⟩:=id hit;unfold iS;refine az (zU (zV (name:=rf "__next__") hit.typeIs F.slot_dict_keyiterator_next (pL F.slot_dict_keyiterator_next hit.typeIs F.entry_dict_keyiterator_next ?_ (F.args_dict_keyiterator_next_1 _))));refine az (br ?_);refine az ?_;refine az ?_
 first|refine az (Fx hit.typeIs (br ?_))|refine az (Fy hit.typeIs (br ?_))
 refine az (Fz ho hd ?_);have hown:zW "dict_keyiterator"=false:=by decide
 simp only[hown,ko,ic];show aJ _ _ (if(cV d==kz)=true then _ else _) _ _ s;rw[aq (show¬((cV d==kz)=true) from dH)];refine az (br ?_);refine az (rb hod hdd ?_);rw[aq (by rw[hsz];simp)]
 refine az (br ?_);refine az (wq hod hdd ?_);rw[aq (by simp)]
 refine br ?_;have hge':es.size<=i:=by rw[hsz];exact hge
 simp only[show¬((i:Int)<0) from by omega,ic,ij,Nu hge']
 refine az ?_
 first|refine az (Fx hit.typeIs (br ?_))|refine az (Fy hit.typeIs (br ?_))
 show aJ _ _ (FA (.ref it) 0 .none>>= _) _ _ s;refine az (Ny ho hd (by simp) ?_)
 show aJ _ _ (FC (.type "StopIteration") []>>= _) _ _ _;refine az ?_;simp only[FC,newTuple];refine az (oe ?_ (by size_fits))
 refine az (m:=FD _ _) (zB (a:=kz) (by first|rfl|(simp only[FD];rfl)) ?_)
 refine oe ?_ (by size_fits)
 simp only[raiseNew];refine az (Zz ?_);rw[show A.in1.handled=none from hh];refine az (br (wpAny_throw ?_));refine az (Nz (T:="StopIteration") (b:=true) ⟨_,dW _ rfl,rfl⟩ NA ?_);exact br (hQ _ (((zX ..).extBut.push _).push _))
theorem As{κ:Type}{kvs:List (κ×V)}{vs:List (κ×af)}(h:KV kvs vs):∀{i:Nat}{k:κ}{v:V},kvs[i]? =some (k,v)->∃u,vs[i]? =some (k,u)/\RelV v u:=by
 unfold KV at h;induction h with
 |nil=>intro i k v e;simp at e
 |@cons a b l₁ l₂ r t ih=>
  intro i k v e;cases i with
  |zero=>
   simp only[wt,EI]at e;subst e;refine⟨b.2,?_,r.2⟩;simp only[wt];exact cq some (Ms r.1.symm rfl)
  |succ j=>
   simp only[NB]at e⊢;exact ih e
theorem A8{α β:Type}{G:α->β->Prop}{l₁:List α}{l₂:List β}(h:Paired G l₁ l₂):∀{i:Nat}{a:α},l₁[i]? =some a->∃b,l₂[i]? =some b/\G a b:=by
 induction h with
 |nil=>intro i a e;simp at e
 |@cons a b l₁ l₂ r t ih=>
  intro i a' e;cases i with
  |zero=>
   simp only[wt,EI]at e;subst e;exact⟨b,rfl,r⟩
  |succ j=>
   simp only[NB]at e⊢;exact ih e
theorem Iz{k:Key}(h:mJ k u=true):RelV (kV k) u:=by
 rcases lJ h with⟨i,t,rfl,rfl⟩|⟨x,t,rfl,rfl⟩
 .exact⟨t,rfl⟩
 .exact⟨t,rfl⟩
section
variable{σ:St}
theorem Inv.nI{kvs:List (Key×V)}(I:Inv X pins σ H s)(h:H d=some (.bu o (.dK kvs))):(d==jS)=false/\s.heap.get? d=some o/\o.ExactDict/\∃(es:Array iO)(ep:Nat)(vs:List (Key×af)),o.data=.dict es ep/\es.size=kvs.length/\KV kvs vs/\s.heap.DictAt (fX X.prog X.w) d vs ep:=by
 obtain⟨hd,z,hs,vs,kv,o',es,ep,ho,hx,hdt,r⟩:=I.aW d _ h;rw[hd]at ho;cases ho;refine⟨hs,hd,hx,es,ep,vs,hdt,?_,kv,o,es,hd,hx,hdt,r⟩;have l1:=r.2.1.length;have l2:kvs.length=vs.length:=Paired.length kv;rw[mr]at l1;omega
theorem Inv.AU(I:Inv X pins σ H s)(h:H d=some (.bu o (.dT kvs))):(d==jS)=false/\s.heap.get? d=some o/\o.ExactDict/\∃(es:Array iO)(ep:Nat),o.data=.dict es ep/\es.size=kvs.length/\∀(i:Nat)(k:List Key)(v:V),kvs[i]? =some (k,v)->∃(en:iO)(q:aa),es[i]? =some en/\en.key=.ref q/\H q=some (.tup (k.map kV)):=by
 obtain⟨hd,z,hs,xs,pr,o',es,ep,ho,hx,hdt,he,y⟩:=I.aW d _ h;rw[hd]at ho;cases ho;refine⟨hs,hd,hx,es,ep,hdt,?_,λi k v e=>?_⟩
 .have l1:es.size=xs.length:=FE he
  have l2:kvs.length=xs.length:=Paired.length pr;omega
 .obtain⟨b,hb,e1,e2,y⟩:=A8 pr e
  have q:=NC he i;rw[hb]at q;exact⟨_,b.2.1,q,rfl,e2⟩
end
def C0(d:aa)(o:bc)(kvs:List (Key×V)):It:=⟨λi H=>H d=some (.bu o (.dK kvs))/\i<kvs.length,λi H x H'=>H'=H/\∃k v,kvs[i]? =some (k,v)/\x=kV k,λi H=>H d=some (.bu o (.dK kvs))/\kvs.length<=i⟩
def LP(d:aa)(o:bc)(kvs:List (List Key×V)):It:=⟨λi H=>H d=some (.bu o (.dT kvs))/\i<kvs.length,λi H x H'=>H'=H/\∃(k:List Key)(v:V)(q:aa),kvs[i]? =some (k,v)/\x=.ref q/\H q=some (.tup (k.map kV)),λi H=>H d=some (.bu o (.dT kvs))/\kvs.length<=i⟩
def Ce(d:aa)(o:bc)(kvs:List (Key×V)):It:=⟨λi H=>H d=some (.bu o (.dK kvs))/\i<kvs.length,λi H x H'=>H'=H/\∃k,kvs[i]? =some (k,x),λi H=>H d=some (.bu o (.dK kvs))/\kvs.length<=i⟩
def BD(d:aa)(o:bc)(kvs:List (Key×V)):It:=⟨λi H=>H d=some (.bu o (.dK kvs))/\i<kvs.length,λi H x H'=>∃T k v,kvs[i]? =some (k,v)/\x=.ref T/\H T=none/\H'=upd H T (.tup [kV k,v]),λi H=>H d=some (.bu o (.dK kvs))/\kvs.length<=i⟩
theorem mU{es es':Array iO}{ep ep':Nat}(h:o.data=.dict es ep)(h':o.data=.dict es' ep'):es'=es/\ep'=ep:=by
 rw[h]at h';cases h';exact⟨rfl,rfl⟩
section
variable{es:Array iO}{ep:Nat}
theorem OY{kvs:List (Key×V)}(it:aa)(hod:o.data=.dict es ep):Turn P w K tg (C0 d o kvs) [it] it (λi h=>h.IsKeyIter it d i kvs.length ep) where
 mem:=by simp
 obj:=λi h st b hb=>by
  have e:b=it:=by simpa using hb
  subst e;obtain⟨oi,e,c,dd⟩:=st;exact⟨oi,e,λv z=>by rw[dd]at z;cases z⟩
 keep:=λi h h' st k=>st.at λoi e=>k it (by simp) oi e
 item:=by
  intro X hP hw hK hc i pins s σ H E I hf st hg;subst hP hw hK;obtain⟨hd,hi⟩:=hg;obtain⟨f0,f1,f2,f3,f4,f5⟩:=hf it (by simp)
  obtain⟨hs,hgd,hx,es',ep',vs,hdt,hsz,kv,hm⟩:=I.nI hd;obtain⟨rfl,rfl⟩:=mU hod hdt;obtain⟨⟨k,v⟩,hkv⟩:∃p,kvs[i]? =some p:=⟨kvs[i],bH hi⟩;obtain⟨u,hu,ru⟩:=As kv hkv;have hl:kvs.length=vs.length:=Paired.length kv;rw[hl]at st;refine wpAny_pyNext_dict_item st hm hu λkey h' hkey st' sb=>?_;have I1:Inv X pins σ H {s with heap:=h'}:=I.turned (t':=s.toks) (λb ob hb e=>(sb.2 b hb).trans e) f0 f1 f3 f4 f5
  obtain⟨oi,e,c,dd⟩:=id st';refine⟨key,rfl,pT (s:={s with heap:=h'}) e c dd (by decide) ⟨kV k,H,I1,Iz (show mJ k key=true from hkey),⟨rfl,k,v,hkv,rfl⟩,?_,λb hb=>(hf b hb).1⟩⟩
  show h'.IsKeyIter it d (i+1) kvs.length _;rw[hl];exact st'
 done:=by
  intro X hP hw hK hc i pins s σ H E I hf st hg;subst hP hw hK;obtain⟨hd,hi⟩:=hg;obtain⟨f0,f1,f2,f3,f4,f5⟩:=hf it (by simp)
  obtain⟨hs,hgd,hx,es',ep',vs,hdt,hsz,kv,hm⟩:=I.nI hd;obtain⟨rfl,rfl⟩:=mU hod hdt;exact Lk (I.ok.hd hc) st hgd hdt hsz hi λh' eb=>⟨rfl,I.turned (t':=s.toks) (λb ob hb e=>eb b ob hb e) f0 f1 f3 f4 f5⟩
 self:=λA i s Q E st h=>wpAny_pyIter_keyiter st h
theorem U9(it:aa)(hod:o.data=.dict es ep):Turn P w K tg (LP d o kvs) [it] it (λi h=>h.IsKeyIter it d i kvs.length ep) where
 mem:=by simp
 obj:=λi h st b hb=>by
  have e:b=it:=by simpa using hb
  subst e;obtain⟨oi,e,c,dd⟩:=st;exact⟨oi,e,λv z=>by rw[dd]at z;cases z⟩
 keep:=λi h h' st k=>st.at λoi e=>k it (by simp) oi e
 item:=by
  intro X hP hw hK hc i pins s σ H E I hf st hg;subst hP hw hK;obtain⟨hd,hi⟩:=hg;obtain⟨f0,f1,f2,f3,f4,f5⟩:=hf it (by simp)
  obtain⟨hs,hgd,hx,es',ep',hdt,hsz,ent⟩:=I.AU hd;obtain⟨rfl,rfl⟩:=mU hod hdt;obtain⟨⟨k,v⟩,hkv⟩:∃p,kvs[i]? =some p:=⟨kvs[i],bH hi⟩;obtain⟨en,q,hen,hkey,hq⟩:=ent i k v hkv;refine Yk st hgd hdt hsz hen λh' st' sb=>?_;have I1:Inv X pins σ H {s with heap:=h'}:=I.turned (t':=s.toks) (λb ob hb e=>(sb.2 b hb).trans e) f0 f1 f3 f4 f5
  obtain⟨oi,e,c,dd⟩:=id st';exact⟨en.key,rfl,pT (s:={s with heap:=h'}) e c dd (by decide) ⟨.ref q,H,I1,hkey,⟨rfl,k,v,q,hkv,rfl,hq⟩,st',λb hb=>(hf b hb).1⟩⟩
 done:=by
  intro X hP hw hK hc i pins s σ H E I hf st hg;subst hP hw hK;obtain⟨hd,hi⟩:=hg;obtain⟨f0,f1,f2,f3,f4,f5⟩:=hf it (by simp)
  obtain⟨hs,hgd,hx,es',ep',hdt,hsz,ent⟩:=I.AU hd;obtain⟨rfl,rfl⟩:=mU hod hdt;exact Lk (I.ok.hd hc) st hgd hdt hsz hi λh' eb=>⟨rfl,I.turned (t':=s.toks) (λb ob hb e=>eb b ob hb e) f0 f1 f3 f4 f5⟩
 self:=λA i s Q E st h=>by
  refine Nv st.typeIs F.slot_dict_keyiterator_iter (pL F.slot_dict_keyiterator_iter st.typeIs F.entry_dict_keyiterator_iter ?_ (F.args_dict_keyiterator_iter_1 _));show aJ _ _ (ret (.ref it)) _ _ s;exact br ⟨_,rfl,"dict_keyiterator",_,st.typeIs,F.slot_dict_keyiterator_next.lookup,h⟩
theorem VL{kvs:List (Key×V)}(it:aa)(hod:o.data=.dict es ep):Turn P w K tg (Ce d o kvs) [it] it (λi h=>h.IsValIter it d i kvs.length ep) where
 mem:=by simp
 obj:=λi h st b hb=>by
  have e:b=it:=by simpa using hb
  subst e;obtain⟨oi,e,c,dd⟩:=st;exact⟨oi,e,λv z=>by rw[dd]at z;cases z⟩
 keep:=λi h h' st k=>st.at λoi e=>k it (by simp) oi e
 item:=by
  intro X hP hw hK hc i pins s σ H E I hf st hg;subst hP hw hK;obtain⟨hd,hi⟩:=hg;obtain⟨f0,f1,f2,f3,f4,f5⟩:=hf it (by simp)
  obtain⟨hs,hgd,hx,es',ep',vs,hdt,hsz,kv,hm⟩:=I.nI hd;obtain⟨rfl,rfl⟩:=mU hod hdt;obtain⟨⟨k,v⟩,hkv⟩:∃p,kvs[i]? =some p:=⟨kvs[i],bH hi⟩;obtain⟨u,hu,ru⟩:=As kv hkv;have hl:kvs.length=vs.length:=Paired.length kv;rw[hl]at st;refine wpAny_pyNext_values_item st hm hu λh' st' sb=>?_;have I1:Inv X pins σ H {s with heap:=h'}:=I.turned (t':=s.toks) (λb ob hb e=>(sb.2 b hb).trans e) f0 f1 f3 f4 f5
  obtain⟨oi,e,c,dd⟩:=id st';refine⟨u,rfl,pT (s:={s with heap:=h'}) e c dd (by decide) ⟨v,H,I1,ru,⟨rfl,k,hkv⟩,?_,λb hb=>(hf b hb).1⟩⟩
  show h'.IsValIter it d (i+1) kvs.length _;rw[hl];exact st'
 done:=by
  intro X hP hw hK hc i pins s σ H E I hf st hg;subst hP hw hK;obtain⟨hd,hi⟩:=hg;obtain⟨f0,f1,f2,f3,f4,f5⟩:=hf it (by simp)
  obtain⟨hs,hgd,hx,es',ep',vs,hdt,hsz,kv,hm⟩:=I.nI hd;obtain⟨rfl,rfl⟩:=mU hod hdt;have hl:kvs.length=vs.length:=Paired.length kv;rw[hl]at st;exact wpAny_pyNext_values_end (I.ok.hd hc) st hm (nX (by omega)) λh' eb=>⟨rfl,I.turned (t':=s.toks) (λb ob hb e=>eb b ob hb e) f0 f1 f3 f4 f5⟩
 self:=λA i s Q E st h=>wpAny_pyIter_valiter st h
theorem RF{kvs:List (Key×V)}{kk:Nat}(it:aa)(hod:o.data=.dict es ep):Turn P w K (.Tuple elts kk tpos) (BD d o kvs) [it] it (λi h=>∃ok ov,ot h it d i kvs.length ep ok ov) where
 mem:=by simp
 obj:=λi h st b hb=>by
  have e:b=it:=by simpa using hb
  subst e;obtain⟨ok,ov,e⟩:=st;exact⟨_,e,λv z=>nomatch z⟩
 keep:=λi h h' st k=>let⟨ok,ov,e⟩:=st;⟨ok,ov,k it (by simp) _ e⟩
 item:=by
  intro X hP hw hK hc i pins s σ H E I hf st hg;subst hP hw hK;obtain⟨hd,hi⟩:=hg;obtain⟨hs,hgd,hx,es',ep',vs,hdt,hsz,kv,hm⟩:=I.nI hd;obtain⟨rfl,rfl⟩:=mU hod hdt;obtain⟨⟨k,v⟩,hkv⟩:∃p,kvs[i]? =some p:=⟨kvs[i],bH hi⟩;obtain⟨u,hu,ru⟩:=As kv hkv;have hl:kvs.length=vs.length:=Paired.length kv;obtain⟨ok,ov,he⟩:=st;rw[hl]at he;have hlt:it<s.heap.objs.size:=cO he;refine wpAny_pyNext_items_item he hm hu λkey h' hkey ho hT hz hk=>?_;refine⟨_,rfl,ZA (s:={s with heap:=h'}) ho λh'' he' sb=>?_⟩
  have hT2:h''.get? s.heap.objs.size=some {cls:=.type "tuple",data:=.seq #[key,u]}:=(sb.2 _ (vY hlt)).trans hT;have new:dF X.prog X.w (upd H s.heap.objs.size (.tup [kV k,v])) h'' s.heap.objs.size (.tup [kV k,v]):=⟨by show 2<=sizeLine;decide,[key,u],.cons (Iz (show mJ k key=true from hkey)) (.cons ru .nil),⟨_,hT2,rfl,_,rfl⟩⟩
  have I1:Inv X pins σ (upd H s.heap.objs.size (.tup [kV k,v])) {s with heap:=h''}:=I.uG (t':=s.toks) (ch:=[it]) (λb ob hb e=>(sb.2 b (by simpa using hb)).trans (hk b ob (by simpa using hb) e)) hf (bK _) new
  refine⟨.ref s.heap.objs.size,_,I1,rfl,⟨_,k,v,hkv,rfl,I.aW.fresh (bK _),rfl⟩,⟨key,u,?_⟩,λb hb=>?_⟩
  .rw[hl];exact he'
  .have e:b=it:=by simpa using hb
   rw[e,aI (dM hlt)];exact(hf it (by simp)).1
 done:=by
  intro X hP hw hK hc i pins s σ H E I hf st hg;subst hP hw hK;obtain⟨hd,hi⟩:=hg;obtain⟨f0,f1,f2,f3,f4,f5⟩:=hf it (by simp)
  obtain⟨hs,hgd,hx,es',ep',vs,hdt,hsz,kv,hm⟩:=I.nI hd;obtain⟨rfl,rfl⟩:=mU hod hdt;have hl:kvs.length=vs.length:=Paired.length kv;obtain⟨ok,ov,he⟩:=st;rw[hl]at he;exact wpAny_pyNext_items_end (I.ok.hd hc) he hm (nX (by omega)) λh' eb=>⟨rfl,I.turned (t':=s.toks) (λb ob hb e=>eb b ob hb e) f0 f1 f3 f4 f5⟩
 self:=λA i s Q E st h=>let⟨_,_,e⟩:=st;ZC e h
end
def RA(td:TE):TI:=λσ H R=>td σ H λx H1=>∃d o,x=.ref d/\((∃kvs,H1 d=some (.bu o (.dK kvs))/\R (C0 d o kvs) H1)\/∃kvs,H1 d=some (.bu o (.dT kvs))/\R (LP d o kvs) H1)
def SU(td:TE):TI:=λσ H R=>td σ H λx H1=>∃d o kvs,x=.ref d/\H1 d=some (.bu o (.dK kvs))/\R (Ce d o kvs) H1
def Rz(td:TE):TI:=λσ H R=>td σ H λx H1=>∃d o kvs,x=.ref d/\H1 d=some (.bu o (.dK kvs))/\R (BD d o kvs) H1
section
variable{td:TE}{apos cpos:cI}
theorem u7(he:PE X e td):PI X tg e (RA td):=by
 intro pins s σ H R I h;refine bf (he pins s σ H _ I h) λu s1 ⟨x,H1,I1,rx,d,o,ex,q⟩=>?_;subst ex;obtain rfl:u=cV d:=rx;rcases q with⟨kvs,hd,q⟩|⟨kvs,hd,q⟩
 .obtain⟨hs,hgd,hx,es,ep,vs,hdt,hsz,kv,hm⟩:=I1.nI hd
  refine Mm hs hgd hx hdt (pQ (tk:=s1.toks) I1 _ (OY _ hdt) ⟨_,dW _ rfl,rfl,?_⟩ q);rw[hsz]<;>rfl
 .obtain⟨hs,hgd,hx,es,ep,hdt,hsz,ent⟩:=I1.AU hd
  refine Mm hs hgd hx hdt (pQ (tk:=s1.toks) I1 _ (U9 _ hdt) ⟨_,dW _ rfl,rfl,?_⟩ q);rw[hsz]<;>rfl
theorem BB(he:PE X e td)(hbase:mv e "values" X.env (bP e X.env)=bP e X.env:=by rfl)(hline:(apos.endLine==cpos.line)=true:=by rfl):PI X tg (.Call (.Attribute e "values" apos) [] [] cpos) (SU td):=by
 intro pins s σ H R I h;refine wo (T:="dict") (id:="dict.values") hbase rfl hline F.plainAttrs_dict F.slot_dict_values F.type_dict_values (bf (he pins s σ H _ I h) λu s1 ⟨x,H1,I1,rx,d,o,kvs,ex,hd,q⟩=>?_);subst ex;obtain rfl:u=cV d:=rx;obtain⟨hs,hgd,hx,es,ep,vs,hdt,hsz,kv,hm⟩:=I1.nI hd;have hl:kvs.length=vs.length:=Paired.length kv;refine⟨hm.dictOf.typeIs,hm.dictOf.mapOf.noDict,?_⟩;have I2:Inv X pins σ H1 {s1 with heap:=s1.heap.push {cls:=.type "dict_values",data:=.fields #[.ref d]}}:=I1.kept (t':=s1.toks) λb ob q=>dB _ q
 have fin:aJ (ba X.prog X.w) X.A (qO (.ref s1.heap.objs.size)) (sA X pins σ tg R) X.xe {s1 with heap:=s1.heap.push {cls:=.type "dict_values",data:=.fields #[.ref d]}}:=by
  refine wpAny_pyIter_values (d:=d) (knd:=fX X.prog X.w) ⟨_,dW _ rfl,rfl,rfl⟩ (hm.push _) (pQ (tk:=s1.toks) I2 _ (VL _ hdt) ⟨_,dW _ rfl,rfl,?_⟩ q);rw[hl]<;>rfl
 show aJ _ _ (nz cpos (.builtin "dict.values") [.ref d] [] []) _ X.xe s1;exact ND F.slot_dict_values F.entry_dict_values rfl (Fi ⟨rfl,hm.dictOf.typeIs,F.args_dict_values_1 _,_,meets_dict_values (fX X.prog X.w) d hs,⟨vs,hm.dictOf⟩,fin⟩)
theorem HL{kk:Nat}(he:PE X e td)(hbase:mv e "items" X.env (bP e X.env)=bP e X.env:=by rfl)(hline:(apos.endLine==cpos.line)=true:=by rfl):PI X (.Tuple elts kk tpos) (.Call (.Attribute e "items" apos) [] [] cpos) (Rz td):=by
 intro pins s σ H R I h;refine wo (T:="dict") (id:="dict.items") hbase rfl hline F.plainAttrs_dict F.slot_dict_items F.type_dict_items (bf (he pins s σ H _ I h) λu s1 ⟨x,H1,I1,rx,d,o,kvs,ex,hd,q⟩=>?_);subst ex;obtain rfl:u=cV d:=rx;obtain⟨hs,hgd,hx,es,ep,vs,hdt,hsz,kv,hm⟩:=I1.nI hd;have hl:kvs.length=vs.length:=Paired.length kv;refine⟨hm.dictOf.typeIs,hm.dictOf.mapOf.noDict,?_⟩;have I2:Inv X pins σ H1 {s1 with heap:=s1.heap.push {cls:=.type "dict_items",data:=.fields #[.ref d]}}:=I1.kept (t':=s1.toks) λb ob q=>dB _ q
 have fin:aJ (ba X.prog X.w) X.A (qO (.ref s1.heap.objs.size)) (sA X pins σ (.Tuple elts kk tpos) R) X.xe {s1 with heap:=s1.heap.push {cls:=.type "dict_items",data:=.fields #[.ref d]}}:=by
  refine wpAny_pyIter_items (d:=d) (knd:=fX X.prog X.w) ⟨_,dW _ rfl,rfl,rfl⟩ (hm.push _) (pQ (tk:=s1.toks) I2 _ (RF _ hdt) ⟨.none,.none,?_⟩ q);rw[hl];exact dW _ rfl
 show aJ _ _ (nz cpos (.builtin "dict.items") [.ref d] [] []) _ X.xe s1;exact ND F.slot_dict_items F.entry_dict_items rfl (Fi ⟨rfl,hm.dictOf.typeIs,F.args_dict_items_1 _,_,meets_dict_items (fX X.prog X.w) d hs,⟨vs,hm.dictOf⟩,fin⟩)
end
def Ec(K:aU)(a:aa):It:=⟨λi H=>∃(xs:List V)(x:V),aj K H a xs/\xs[i]? =some x,λi H v H'=>∃T x,v=.ref T/\H T=none/\H'=upd H T (.tup [.int (i:Nat),x])/\∀xs,aj K H a xs->xs[i]? =some x,λi H=>∃xs:List V,aj K H a xs/\xs.length<=i⟩
theorem Wo{kk:Nat}(a e it:aa):Turn P w K (.Tuple elts kk tpos) (Ec K a) [e,it] e (λi h=>(∃old,IsEnum h e it ((i:Nat):Int) old)/\h.IsListIter it a i/\e≠it) where
 mem:=by simp
 obj:=λi h st b hb=>by
  obtain⟨⟨old,he⟩,⟨o,ho,hc,hd⟩,y⟩:=st;have e':b=e\/b=it:=by simpa using hb
  rcases e' with z|z
  .rw[z];exact⟨_,he,λv q=>nomatch q⟩
  .rw[z];exact⟨o,ho,λv q=>by rw[hd]at q;cases q⟩
 keep:=λi h h' st k=>let⟨⟨old,he⟩,hi,hne⟩:=st;⟨⟨old,k e (by simp) _ he⟩,hi.at λo q=>k it (by simp) o q,hne⟩
 item:=by
  intro X hP hw hK hc i pins s σ H E I hf st hg;subst hP hw hK;obtain⟨⟨old,he⟩,hit,hne⟩:=st;obtain⟨xs,x,hq,hx⟩:=hg;obtain⟨its,rv,p,hz⟩:=I.list hq;obtain⟨u,hu,ru⟩:=rv.get hx;have hel:e<s.heap.objs.size:=cO he;have hil:it<s.heap.objs.size:=by obtain⟨y,q,y⟩:=hit;exact cO q
  refine wpAny_pyNext_enum_item he hit p.isList (x:=u) (by simpa using hu) hne λh' ho hit' hT hsz hk=>?_
  refine⟨_,rfl,ZD (s:={s with heap:=h',toks:=s.toks+1}) ho λh'' he' sb=>?_⟩
  have hT2:h''.get? s.heap.objs.size=some {cls:=.type "tuple",data:=.seq #[.int i s.toks,u]}:=(sb.2 _ (vY hel)).trans hT;have new:dF X.prog X.w (upd H s.heap.objs.size (.tup [.int (i:Nat),x])) h'' s.heap.objs.size (.tup [.int (i:Nat),x]):=⟨by show 2<=sizeLine;decide,[.int i s.toks,u],.cons ⟨_,rfl⟩ (.cons ru .nil),⟨_,hT2,rfl,_,rfl⟩⟩
  have I1:Inv X pins σ (upd H s.heap.objs.size (.tup [.int (i:Nat),x])) {s with heap:=h'',toks:=s.toks+1}:=I.uG (ch:=[e,it]) (λb ob hb q=>(sb.2 b (λz=>hb (by simp[z]))).trans (hk b ob (λz=>hb (by simp[z])) (λz=>hb (by simp[z])) q)) hf (bK _) new
  refine⟨.ref s.heap.objs.size,_,I1,rfl,⟨_,x,rfl,I.aW.fresh (bK _),rfl,λys hy=>by rw[I.vf hy hq];exact hx⟩,⟨⟨u,?_⟩,hit'.at λo q=>(sb.2 it (eW hne)).trans q,hne⟩,λb hb=>?_⟩
  .have e1:((i+1:Nat):Int)=(i:Int)+1:=by omega
   rw[e1];exact he'
  .have hb':b<s.heap.objs.size:=by
    have e':b=e\/b=it:=by simpa using hb
    rcases e' with z|z
    .rw[z];exact hel
    .rw[z];exact hil
   rw[aI (dM hb')];exact(hf b hb).1
 done:=by
  intro X hP hw hK hc i pins s σ H E I hf st hg;subst hP hw hK;obtain⟨⟨old,he⟩,hit,hne⟩:=st;obtain⟨xs,hq,hx⟩:=hg;obtain⟨its,rv,p,hz⟩:=I.list hq;obtain⟨f0,f1,f2,f3,f4,f5⟩:=hf it (by simp)
  have hl:=rv.length;exact wpAny_pyNext_enum_end (I.ok.hd hc) he hit p.isList (by simp;omega) λh' eb=>⟨rfl,I.turned (t':=s.toks) (λb o hb q=>eb b o hb q) f0 f1 f3 f4 f5⟩
 self:=λA i s Q E st h=>let⟨⟨_,he⟩,_⟩:=st;FF he h
def QQ(K:aU)(ta:TA):TI:=λσ H R=>ta σ H λvs H1=>∃a xs,vs=[.ref a]/\aj K H1 a xs/\R (Ec K a) H1
theorem KC{ta:TA}{p:cI}{kk:Nat}(hg:Gl X "enumerate")(hm:X.mg "enumerate"=none)(ha:PA X [e] ta)(hs:cn [e] X.env=[(false,bP e X.env)]:=by rfl):PI X (.Tuple elts kk tpos) (.Call (.Name "enumerate" p) [e] [] pos) (QQ X.K ta):=by
 intro pins s σ H R I h;refine Call_ (o3 I hg hm ZE (EZ (bf (ha pos pins s σ H _ I h) λus s1 ⟨vs,H1,I1,r1,q1⟩=>?_) hs rfl));obtain⟨a,xs,ex,hq,q⟩:=q1;subst ex;cases r1 with
 |cons r rr=>
  cases rr;cases r;obtain⟨its,rv,p',hz⟩:=I1.list hq;refine call_enumerate_list p'.isList λh' he hit hsz hk=>FF he ?_;have I2:Inv X pins σ H1 {s1 with heap:=h'}:=I1.kept (t':=s1.toks) hk
  refine⟨s1.heap.objs.size+1,[s1.heap.objs.size+1,s1.heap.objs.size],_,_,H1,rfl,I2,Wo a (s1.heap.objs.size+1) s1.heap.objs.size,⟨⟨.none,he⟩,hit,ZF _⟩,λb hb=>?_,q⟩;have e':b=s1.heap.objs.size+1\/b=s1.heap.objs.size:=by simpa using hb
  have hle:s1.heap.objs.size<=b:=by
   rcases e' with z|z
   .rw[z];exact wu _ _
   .rw[z];exact bK _
  exact I1.oy hle (I1.aW.fresh hle)
theorem QN:vW "zip"=some (.type "zip"):=by decide+kernel
def Bt(K:aU)(a b:aa):It:=⟨λi H=>∃(xs ys:List V)(x y:V),aj K H a xs/\aj K H b ys/\xs[i]? =some x/\ys[i]? =some y,λi H v H'=>∃T x y,v=.ref T/\H T=none/\H'=upd H T (.tup [x,y])/\(∀xs,aj K H a xs->xs[i]? =some x)/\∀ys,aj K H b ys->ys[i]? =some y,λi H=>∃xs ys:List V,aj K H a xs/\aj K H b ys/\(xs.length<=i\/ys.length<=i)⟩
theorem Uc{kk:Nat}{z TI TO i1 i2:aa}(D:ZipApart z TI TO i1 i2 a b):Turn P w K (.Tuple elts kk tpos) (Bt K a b) [z,TI,TO,i1,i2] z (λi h=>IsZip h z TI TO .none/\IsPair h TI (.ref i1) (.ref i2)/\(∃x y,IsPair h TO x y)/\h.IsListIter i1 a i/\h.IsListIter i2 b i) where
 mem:=by simp
 obj:=λi h st c hc=>by
  obtain⟨hz,hTI,⟨x,y,hTO⟩,⟨o1,e1,t,d1⟩,⟨o2,e2,t,d2⟩⟩:=st;have e':c=z\/c=TI\/c=TO\/c=i1\/c=i2:=by simpa using hc
  rcases e' with q|q|q|q|q
  .rw[q];exact⟨_,hz,λv q=>nomatch q⟩
  .rw[q];exact⟨_,hTI,λv q=>nomatch q⟩
  .rw[q];exact⟨_,hTO,λv q=>nomatch q⟩
  .rw[q];exact⟨o1,e1,λv q=>by rw[d1]at q;cases q⟩
  .rw[q];exact⟨o2,e2,λv q=>by rw[d2]at q;cases q⟩
 keep:=λi h h' st k=>by
  obtain⟨hz,hTI,⟨x,y,hTO⟩,h1,h2⟩:=st;exact⟨k z (by simp) _ hz,k TI (by simp) _ hTI,⟨x,y,k TO (by simp) _ hTO⟩,h1.at λo q=>k i1 (by simp) o q,h2.at λo q=>k i2 (by simp) o q⟩
 item:=by
  intro X hP hw hK hc i pins s σ H E I hf st hg;subst hP hw hK;obtain⟨hz,hTI,⟨x0,y0,hTO⟩,h1,h2⟩:=st;obtain⟨xs,ys,x,y,hqx,hqy,hx,hy⟩:=hg;obtain⟨its,rv,p,t⟩:=I.list hqx;obtain⟨its2,rv2,p2,t⟩:=I.list hqy;obtain⟨u,hu,ru⟩:=rv.get hx;obtain⟨u2,rC,ru2⟩:=rv2.get hy;have hzl:z<s.heap.objs.size:=cO hz;refine wpAny_pyNext_zip_item D hz hTI hTO h1 h2 p.isList p2.isList (x:=u) (y:=u2) (by simpa using hu) (by simpa using rC) λh' z' TO' h1' h2' hT hsz hk=>?_
  refine⟨_,rfl,wpAny_letOwnedTupleGo_zip (s:={s with heap:=h'}) z' λh'' z'' sb=>?_⟩
  have hT2:h''.get? s.heap.objs.size=some {cls:=.type "tuple",data:=.seq #[u,u2]}:=(sb.2 _ (vY hzl)).trans hT;have new:dF X.prog X.w (upd H s.heap.objs.size (.tup [x,y])) h'' s.heap.objs.size (.tup [x,y]):=⟨by show 2<=sizeLine;decide,[u,u2],.cons ru (.cons ru2 .nil),⟨_,hT2,rfl,_,rfl⟩⟩
  have I1:Inv X pins σ (upd H s.heap.objs.size (.tup [x,y])) {s with heap:=h''}:=I.uG (t':=s.toks) (ch:=[z,TI,TO,i1,i2]) (λc o hb q=>(sb.2 c (λq'=>hb (by simp[q']))).trans (hk c o (λq'=>hb (by simp[q'])) (λq'=>hb (by simp[q'])) (λq'=>hb (by simp[q'])) (λq'=>hb (by simp[q'])) q)) hf (bK _) new
  refine⟨.ref s.heap.objs.size,_,I1,rfl,⟨_,x,y,rfl,I.aW.fresh (bK _),rfl,λl hl=>by rw[I.vf hl hqx];exact hx,λl hl=>by rw[I.vf hl hqy];exact hy⟩,⟨z'',?_,⟨u,u2,?_⟩,?_,?_⟩,λc hcm=>?_⟩
  .exact(sb.2 _ D.TIz).trans (hk _ _ D.TIz D.TITO D.TIi1 D.TIi2 hTI)
  .exact(sb.2 _ D.TOz).trans TO'
  .exact h1'.at λo q=>(sb.2 _ D.i1z).trans q
  .exact h2'.at λo q=>(sb.2 _ D.i2z).trans q
  .have hlt:c<s.heap.objs.size:=by
    have e':c=z\/c=TI\/c=TO\/c=i1\/c=i2:=by simpa using hcm
    rcases e' with q|q|q|q|q
    .rw[q];exact hzl
    .rw[q];exact cO hTI
    .rw[q];exact cO hTO
    .rw[q];obtain⟨t,e1,t⟩:=h1;exact cO e1
    .rw[q];obtain⟨t,e2,t⟩:=h2;exact cO e2
   rw[aI (dM hlt)];exact(hf c hcm).1
 done:=by
  intro X hP hw hK hc i pins s σ H E I hf st hg;subst hP hw hK;obtain⟨hz,hTI,⟨x0,y0,hTO⟩,h1,h2⟩:=st;obtain⟨xs,ys,hqx,hqy,hend⟩:=hg;obtain⟨its,rv,p,t⟩:=I.list hqx;obtain⟨its2,rv2,p2,t⟩:=I.list hqy;have l1:=rv.length;have l2:=rv2.length;have he:its.toArray[i]? =none\/its2.toArray[i]? =none:=by
   rcases hend with q|q
   .exact .inl (by simp;omega)
   .exact .inr (by simp;omega)
  exact wpAny_pyNext_zip_end (I.ok.hd hc) D hz hTI hTO h1 h2 p.isList p2.isList he λh' hk=>⟨rfl,I.TQ (t':=s.toks) (ch:=[z,TI,TO,i1,i2]) (λc o hb q=>hk c o (λq'=>hb (by simp[q'])) (λq'=>hb (by simp[q'])) (λq'=>hb (by simp[q'])) (λq'=>hb (by simp[q'])) q) hf⟩
 self:=λA i s Q E st h=>ZG st.1 h
def Vh(K:aU)(ta:TA):TI:=λσ H R=>ta σ H λvs H1=>∃a b xs ys,vs=[.ref a,.ref b]/\aj K H1 a xs/\aj K H1 b ys/\R (Bt K a b) H1
theorem A0{e2:bE}{ta:TA}{p:cI}{kk:Nat}(hg:Gl X "zip")(hm:X.mg "zip"=none)(ha:PA X [e,e2] ta)(hs:cn [e,e2] X.env=(false,bP e X.env)::cn [e2] X.env:=by rfl)(hpl:(f7 pos (cn [e2] X.env)).any (·.1)=false:=by rfl):PI X (.Tuple elts kk tpos) (.Call (.Name "zip" p) [e,e2] [] pos) (Vh X.K ta):=by
 intro pins s σ H R I h;refine Call_ (o3 I hg hm QN (EZ (bf (ha pos pins s σ H _ I h) λus s1 ⟨vs,H1,I1,r1,q1⟩=>?_) hs hpl));obtain⟨a,b,xs,ys,ex,hqx,hqy,q⟩:=q1;subst ex;cases r1 with
 |cons r rr=>
  cases rr with
  |cons r' rr=>
   cases rr;cases r;cases r';obtain⟨its,rv,p1,y⟩:=I1.list hqx;obtain⟨its2,rv2,p2,y⟩:=I1.list hqy;have la:a<s1.heap.objs.size:=p1.lt;have lb:b<s1.heap.objs.size:=p2.lt;refine call_zip_2 p1.isList p2.isList λh' hz hTI hTO h1 h2 hsz hk=>ZG hz ?_;have I2:Inv X pins σ H1 {s1 with heap:=h'}:=I1.kept (t':=s1.toks) hk
   refine⟨s1.heap.objs.size+4,[s1.heap.objs.size+4,s1.heap.objs.size+2,s1.heap.objs.size+3,s1.heap.objs.size,s1.heap.objs.size+1],_,_,H1,rfl,I2,Uc (PySem.W.ktu_apart s1.heap.objs.size a b la lb),⟨hz,hTI,⟨_,_,hTO⟩,h1,h2⟩,λc hcm=>?_,q⟩;have e':c=s1.heap.objs.size+4\/c=s1.heap.objs.size+2\/c=s1.heap.objs.size+3\/c=s1.heap.objs.size\/c=s1.heap.objs.size+1:=by simpa using hcm
   have hle:s1.heap.objs.size<=c:=by
    rcases e' with z|z|z|z|z
    .rw[z];exact wu _ _
    .rw[z];exact wu _ _
    .rw[z];exact wu _ _
    .rw[z];exact bK _
    .rw[z];exact wu _ _
   exact I1.oy hle (I1.aW.fresh hle)
namespace TL
open PySem PySem.Builtin PySem.Builtin.Str PySem.StrLaws
abbrev tl(x:ae):List Nat:=x.cps.toList
theorem p9(x:ae):x.length=(tl x).length:=by simp[tl,zO]
theorem sE{y:ae}(h:tl x=tl y):x=y:=Str.ext' (Array.toList_inj.mp h)
theorem AM(x y:ae):tl (x++y)=tl x++tl y:=by
 show(x++y).cps.toList=_;rw[Str.cps_append,Array.toList_append]
theorem Gr:∀{l m:List ae},l.map tl=m.map tl->l=m
 |[],[],_=>rfl
 |[],_::_,h=>by simp at h
 |_::_,[],h=>by simp at h
 |x::l,y::m,h=>by
  rw[bS,bS]at h;injection h with h1 h2
  rw[sE h1,Gr h2]
def pre(S l:List Nat):Bool:=l.take S.length==S
def fv(S:List Nat):Nat->List Nat->List Nat->List (List Nat)
 |_,acc,[]=>[acc]
 |0,acc,c::r=>if pre S (c::r)=true then acc::fv S (S.length - 1) [] r else fv S 0 (acc++[c]) r
 |k+1,acc,_::r=>fv S k acc r
def par(S:List Nat):List Nat->List Nat->Option (List Nat×List Nat)
 |_,[]=>none
 |acc,c::r=>if pre S (c::r)=true then some (acc,(c::r).drop S.length)else par S (acc++[c]) r
theorem y9(S:List Nat)(k:Nat)(acc:List Nat):fv S k acc []=[acc]:=by cases k<;>rfl
theorem JK{S acc r:List Nat}{c:Nat}(h:pre S (c::r)=true):fv S 0 acc (c::r)=acc::fv S (S.length - 1) [] r:=by
 show(if pre S (c::r)=true then acc::fv S (S.length - 1) [] r else fv S 0 (acc++[c]) r)=_;rw[ay h]
theorem Iu{S acc r:List Nat}{c:Nat}(h:pre S (c::r)=false):fv S 0 acc (c::r)=fv S 0 (acc++[c]) r:=by
 show(if pre S (c::r)=true then acc::fv S (S.length - 1) [] r else fv S 0 (acc++[c]) r)=_;rw[aq (by rw[h];exact dH)]
theorem Hw(S:List Nat):∀(k:Nat)(acc l:List Nat),fv S k acc l=fv S 0 acc (l.drop k)
 |0,_,_=>by rw[ZH]
 |k+1,acc,[]=>by rw[List.drop_nil,y9,y9]
 |k+1,acc,c::r=>by
  show fv S k acc r=fv S 0 acc (r.drop k);exact Hw S k acc r
theorem N4{S:List Nat}(hS:S≠[]):pre S []=false:=by
 cases S with
 |nil=>exact absurd rfl hS
 |cons s S=>rfl
theorem Tn{L:List Nat}{a:Nat}(h:a<L.length):∃c,L.drop a=c::L.drop (a+1):=⟨L[a],List.drop_eq_getElem_cons h⟩
theorem BI(S L:List Nat):∀(m a:Nat)(acc:List Nat),a+m<=L.length->(∀k,a<=k->k<a+m->pre S (L.drop k)=false)->fv S 0 acc (L.drop a)=fv S 0 (acc++(L.drop a).take m) (L.drop (a+m))
 |0,a,acc,_,_=>by rw[tT,oo,Nat.add_zero]
 |m+1,a,acc,h,hn=>by
  have hlt:a<L.length:=by omega
  obtain⟨c,e⟩:=Tn hlt;have h0:=hn a (bK _) (by omega)
  have ih:=BI S L m (a+1) (acc++[c]) (by omega) (λk h1 h2=>hn k (by omega) (by omega))
  have e2:a+1+m=a+(m+1):=by omega
  rw[e2]at ih;rw[e]at h0;rw[e,Iu h0,ih,FG,nT]<;>rfl
theorem Oh(L:List Nat)(a b:Nat):(L.drop a).drop b=L.drop (a+b):=by
 first
  |rw[ZI]
  |rw[ZI,Nat.add_comm]
theorem Yn{S L:List Nat}(hS:S≠[]){c:Nat}{acc:List Nat}(h:pre S (L.drop c)=true):fv S 0 acc (L.drop c)=acc::fv S 0 [] (L.drop (c+S.length)):=by
 rw[<-Oh];cases e:L.drop c with
 |nil=>rw[e,N4 hS]at h;cases h
 |cons d r=>
  rw[e]at h;rw[JK h,Hw];cases S with
  |nil=>exact absurd rfl hS
  |cons s S=>rfl
theorem Io{y:ae}(hy:tl y≠[])(i:Nat):At x y x.length i↔pre (tl y) ((tl x).drop i)=true:=by
 have hx:=p9 x;have hl:=p9 y;constructor
 .intro h
  have h2:=h.2;rw[subAt_eq,hl]at h2;exact h2
 .intro h
  have e:((tl x).drop i).take (tl y).length=tl y:=eq_of_beq h;have e1:=cq wb e;rw[jT,Fd]at e1;have e2:0<(tl y).length:=ZJ.mpr hy;refine⟨by omega,?_⟩
  rw[subAt_eq,hl];exact h
theorem Im{y:ae}(hy:tl y≠[]){i:Nat}(h:¬At x y x.length i):pre (tl y) ((tl x).drop i)=false:=by
 cases hp:pre (tl y) ((tl x).drop i)with
 |false=>rfl
 |true=>exact absurd ((Io hy i).mpr hp) h
theorem jf{y:ae}(hy:tl y≠[]):1<=y.length:=by
 have e2:0<(tl y).length:=ZJ.mpr hy;rw[p9 y];exact e2
theorem KA(x:ae)(i j:Nat):tl (strSub x i j)=((tl x).drop i).take (j - i):=strSub_toList x i j
theorem Qc(x:ae)(i:Nat):tl (strSub x i x.length)=(tl x).drop i:=by
 rw[KA,p9 x];exact zT (by rw[Fd]<;>omega)
theorem Lr{x y:ae}(hy:tl y≠[]):∀(cuts:List Nat)(a f:Nat),a<=(tl x).length->ChainG x y x.length a cuts f->(∀k,f<=k->¬At x y x.length k)->(partsFrom x y.length a cuts).map tl=fv (tl y) 0 [] ((tl x).drop a)
 |[],a,f,ha,h,hn=>by
  have e:f=a:=h;subst e;show[tl (strSub x f x.length)]=_;have run:=BI (tl y) (tl x) ((tl x).length - f) f [] (by omega) (λk h1 z=>Im hy (hn k h1))
  have e2:f+((tl x).length - f)=(tl x).length:=by omega
  rw[e2,List.drop_length,y9,wy,zT (by rw[Fd]<;>omega)]at run
  rw[run,Qc]
 |c::r,a,f,ha,h,hn=>by
  obtain⟨h1,h2,h3,h4⟩:=h;have hc:c+y.length<=x.length:=h2.1;have hx:=p9 x;have hl:=p9 y;have ih:=Lr hy r (c+y.length) f (by omega) h4 hn
  show tl (strSub x a c)::(partsFrom x y.length (c+y.length) r).map tl=_;have run:=BI (tl y) (tl x) (c - a) a [] (by omega) (λk k1 k2=>Im hy (h3 k k1 (by omega)))
  have e2:a+(c - a)=c:=by omega
  rw[e2,wy,Yn hy ((Io hy c).mp h2)]at run;rw[run,ih,KA,hl]
theorem WW(x y:ae)(hy:tl y≠[])(hk:¬nA x<nA y):(lF x y).map tl=fv (tl y) 0 [] (tl x):=by
 obtain⟨f,g,hn⟩:=occ_tight x y (jf hy);have key:=Lr hy _ 0 f (gp _) g hn;rw[ZH]at key;have none_case:occurrences x y 0 x.length (x.length+1)=[]->[x].map tl=fv (tl y) 0 [] (tl x):=λho=>by
  rw[ho]at key;rw[<-key];show[tl x]=[tl (strSub x 0 x.length)];rw[sub_whole]
 unfold lF;by_cases h1:(decide (x.length<y.length)||decide (nA x<nA y))=true
 .rw[ay h1]
  have hlt:x.length<y.length:=by
   simp only[EH,kr]at h1;rcases h1 with h|h
   .exact h
   .exact absurd h hk
  refine none_case ?_;cases ho:occurrences x y 0 x.length (x.length+1)with
  |nil=>rfl
  |cons c r=>
   rw[ho]at g;have hc:c+y.length<=x.length:=g.2.1.1;omega
 .rw[aq h1]
  by_cases h2:(occurrences x y 0 x.length (x.length+1)).isEmpty=true
  .rw[ay h2]
   exact none_case (List.isEmpty_iff.mp h2)
  .rw[aq h2,partsBetween_eq]
   exact key
theorem SJ{y:ae}(h:y.cps.all (·<256)=true):¬nA x<nA y:=by
 have e:nA y=1:=by unfold nA;rw[ay h]
 rw[e];unfold nA;split
 .omega
 .split<;>omega
def lZ(S:List Nat):List (List Nat)->List Nat
 |[]=>[]
 |[p]=>p
 |p::q::r=>p++(S++lZ S (q::r))
theorem xh(y:ae):∀parts:List ae,tl (NF y parts)=lZ (tl y) (parts.map tl)
 |[]=>rfl
 |[_]=>rfl
 |x::z::r=>by
  show tl (x++y++NF y (z::r))=tl x++(tl y++lZ (tl y) ((z::r).map tl));rw[AM,AM,xh y (z::r),nT]
theorem join_eq(y:ae)(parts:List ae):rg y parts=NF y parts:=glued_eq_join y parts
def Km(n:Nat):List Nat:=(Nat.toDigits 10 n).map Char.toNat
theorem GV(n:Nat):tl (rf (toString ((n:Nat):Int)))=Km n:=aa1 n
theorem Sb{k:Nat}(hk:0<k)(h:n<10^k):(Km n).length<=k:=by
 have z:=aa2 (v:=(n:Int)) (by omega) hk (by
  have e:((10:Int)^k)=((10^k:Nat):Int):=by
   first
    |exact(Int.natCast_pow 10 k).symm
    |simp
  rw[e]
  first|exact Int.ofNat_lt.mpr h|omega)
 rw[p9,GV]at z;exact z
end TL
theorem Lx:∀l:List (ae×jR),bD ((l.map (·.1)).map V.str) (NG l)
 |[]=>.nil
 |p::r=>.cons ⟨p.2,rfl⟩ (Lx r)
theorem Dp:∀{ys:List ae}{us:List af},bD (ys.map V.str) us->StrsAre us ys
 |[],_,.nil=>.nil
 |y::ys,_,.cons r t=>by
  obtain⟨k,rfl⟩:=r;exact .cons y k (Dp t)
def Bl(ys:List ae):Hp->VK->Prop:=λH Q=>∀p,H p=none->Q (.ref p) (upd H p (.lst (ys.map V.str)))
section
variable{σ:St}{Q:VK}
theorem CL{l:List (ae×jR)}{ys:List ae}{k:Nat}(I:Inv X pins σ H s)(e:l.map (·.1)=ys)(hz:ys.length<=sizeLine)(h:Bl ys H Q):EP X pins σ Q (.ref s.heap.objs.size) {s with toks:=k,heap:=s.heap.push {cls:=.type "list",data:=.seq (NG l).toArray}}:=by
 have hp:=I.aW.fresh (bK _);refine⟨.ref s.heap.objs.size,upd H s.heap.objs.size (.lst (ys.map V.str)),I.laid (λb u q=>dB _ q) (bK _) ⟨by rw[aA];exact hz,NG l,_,?_,dW _ rfl⟩,rfl,h _ hp⟩
 rw[<-e];exact Lx l
end
theorem RY:qe X "str.split" (λx xs H Q=>∃a b,x=.str a/\xs=[.str b]/\(b.length==0)=false/\a.length+2<=sizeLine/\Bl (lF a b) H Q):=by
 intro pins s σ H x xs v us Q I rx rs h;obtain⟨a,b,rfl,rfl,hb,hz,h⟩:=h;obtain⟨t,rfl⟩:=rx;cases rs with
 |cons r1 rs=>
  cases rs;obtain⟨u,rfl⟩:=r1;have hl:(lF a b).length<=sizeLine:=fi (aa3 a b) hz;have hn:(ZK a (NH a b 0 a.length (a.length+1)) b.length).length<=sizeLine:=by
   have e1:=StrLaws.occ_length_le a b 0 a.length (a.length+1);rw[length_partsBetween];omega
  cases h1:(decide (a.length<b.length)||decide (nA a<nA b))
  .cases hf:(NH a b 0 a.length (a.length+1)).isEmpty
   .refine tR F.slot_str_split (wc _ _ _) F.entry_str_split (F.args_str_split_2 _ _) (meets_str_split_sep a b t u h1 hb hf (by omega) hn) ?_
    show EP X pins σ Q (.ref s.heap.objs.size) {s with toks:=_,heap:=s.heap.push {cls:=.type "list",data:=.seq (strsFrom s.toks (ZK a (NH a b 0 a.length (a.length+1)) b.length)).toArray}}
    rw[strsFrom_eq];exact CL (ys:=lF a b) I ((numbered_texts _ _).trans ((aq (NI h1)).trans (aq (NI hf))).symm) hl h
   .refine tR F.slot_str_split (wc _ _ _) F.entry_str_split (F.args_str_split_2 _ _) (meets_str_split_not_found a b t u h1 hb hf) ?_
    exact CL (l:=[(a,t)]) (ys:=lF a b) (k:=s.toks) I ((aq (NI h1)).trans (ay hf)).symm hl h
  .refine tR F.slot_str_split (wc _ _ _) F.entry_str_split (F.args_str_split_2 _ _) (meets_str_split_cannot_occur a b t u h1) ?_
   exact CL (l:=[(a,t)]) (ys:=lF a b) (k:=s.toks) I (ay h1).symm hl h
theorem By(x:ae):(Txt.words x).length<=x.length+1:=by
 have e1:=StrLaws.words_weight x;omega
theorem OI:qe X "str.join" (λx xs H Q=>∃a p,∃ys:List ae,x=.str a/\xs=[.ref p]/\(aj X.K H p (ys.map V.str)\/cv X.K H p (ys.map V.str))/\(ys.map (·.length)).sum+ys.length*a.length<=16777216/\Q (.str (rg a ys)) H):=by
 intro pins s σ H x xs v us Q I rx rs h;obtain⟨a,p,ys,rfl,rfl,hp,hz,h⟩:=h;obtain⟨t,rfl⟩:=rx;cases rs with
 |cons r1 rs=>
  cases rs;cases r1;rcases hp with hp|hp
  .obtain⟨its,r,⟨o,n,ho,hc,z,hd⟩,z⟩:=I.list hp
   exact aa4 (items:=its.toArray) ⟨o,ho,hc,n,hd⟩ (by rw[ZL];exact Dp r) hz λt' k=>⟨.str _,H,I.tok k,⟨t',rfl⟩,h⟩
  .obtain⟨its,r,ht,z⟩:=I.tuple hp
   exact aa5 (items:=its.toArray) ht (by rw[ZL];exact Dp r) hz λt' k=>⟨.str _,H,I.tok k,⟨t',rfl⟩,h⟩
theorem Pj:iB X (.type "int") (λxs H Q=>∃a n,xs=[.str a]/\ZM a=some n/\a.length<=640/\Q (.int n) H):=by
 intro pins s σ H xs us Q I rs h;obtain⟨a,n,rfl,hn,hl,h⟩:=h;cases rs with
 |cons r1 rs=>
  cases rs;obtain⟨t,rfl⟩:=r1;exact aa6 hn hl ⟨.int n,H,I.tok _,⟨_,rfl⟩,h⟩
section
variable{o:bE}{to:TE}
def AZ(r:V->List V->Hp->VK->Prop)(to te:TE):TE:=λσ H Q=>to σ H λx H1=>(∃a,x=.str a)/\te σ H1 λy H2=>r x [y] H2 Q
theorem Lb{id:String}{name:ae}{apos:cI}{r:V->List V->Hp->VK->Prop}(slot:Slot "str" name id)(ty:Fg (.builtin id)=pure (.type "method_descriptor"))(rule:qe X id r)(ho:PE X o to)(he:PE X e te)(hs:cn [e] X.env=[(false,bP e X.env)]:=by rfl)(hbase:mv o name X.env (bP o X.env)=bP o X.env:=by rfl)(hline:(apos.endLine==pos.line)=true:=by rfl):PE X (.Call (.Attribute o name apos) [e] [] pos) (AZ r to te):=by
 intro pins s σ H Q I h;refine PySem.Call_method1 hbase hs hline (bf (ho pins s σ H _ I h) λv s1 ⟨x,H1,I1,r1,q1⟩=>?_);obtain⟨⟨a,rfl⟩,q1⟩:=q1;obtain⟨t,rfl⟩:=_root_.id r1;refine⟨"str",_,F.plainAttrs_str,slot,ty,wc _ _ _,(λz e=>nomatch e),wd rfl (zQ (qS ?_))⟩;exact bf (he pins s1 σ H1 _ I1 q1) λu s2 ⟨y,H2,I2,r2,q2⟩=>qR (rule pins s2 σ H2 _ [y] _ [u] Q I2 r1 (.cons r2 .nil) q2)
theorem Ks{apos:cI}(ho:PE X o to)(he:PE X e te)(hs:cn [e] X.env=[(false,bP e X.env)]:=by rfl)(hbase:mv o "split" X.env (bP o X.env)=bP o X.env:=by rfl)(hline:(apos.endLine==pos.line)=true:=by rfl):PE X (.Call (.Attribute o "split" apos) [e] [] pos) (AZ (λx xs H Q=>∃a b,x=.str a/\xs=[.str b]/\(b.length==0)=false/\a.length+2<=sizeLine/\Bl (lF a b) H Q) to te):=Lb F.slot_str_split F.type_str_split RY ho he hs hbase hline
theorem Ab{apos:cI}(ho:PE X o to)(he:PE X e te)(hs:cn [e] X.env=[(false,bP e X.env)]:=by rfl)(hbase:mv o "join" X.env (bP o X.env)=bP o X.env:=by rfl)(hline:(apos.endLine==pos.line)=true:=by rfl):PE X (.Call (.Attribute o "join" apos) [e] [] pos) (AZ (λx xs H Q=>∃a p,∃ys:List ae,x=.str a/\xs=[.ref p]/\(aj X.K H p (ys.map V.str)\/cv X.K H p (ys.map V.str))/\(ys.map (·.length)).sum+ys.length*a.length<=16777216/\Q (.str (rg a ys)) H) to te):=Lb F.slot_str_join F.type_str_join OI ho he hs hbase hline
end
theorem Kz:gn X (iT .In) (λx y H Q=>∃(c:Nat)(z:ae),x=.str ⟨#[c]⟩/\y=.str z/\Q (.bl (decide (c∈z.cps.toList))) H):=by
 intro pins s σ H x y v u Q I rx ry h;obtain⟨c,z,rfl,rfl,q⟩:=h;obtain⟨t,rfl⟩:=rx;obtain⟨t',rfl⟩:=ry;exact aa7 (dX I q (aa8 z c).symm)
abbrev be:e8:=λz z z z z z=>False
abbrev E0:XK:=λz z z=>False
theorem b0:ik be X E0:=λz z z z z z z h=>h.elim
structure jL(K:aU)(x qual:ae)(st:bq)(f:aa)(fd:fP):Prop where
 ex:∃(oc:af)(od:Option aa)(kV doc pm:af)(an:Option aa)(cdv ct:af)(osl:Array (Option af)),
  fd=kG x qual (jB st) (i0 st) (bb st) .none kV doc pm an cdv ct/\K.lookup f=some ⟨oc,od,.func fd,osl⟩/\Nd K cdv qual=true
 kp:qQ K (.ref f)=true
theorem jL.binds{st:bq}{f:aa}(F:jL K x qual st f fd)(h:∀(kV doc pm:af)(an:Option aa)(cdv ct:af)(us:List af),us.length=ps.length->om (kG x qual (jB st) (i0 st) (bb st) .none kV doc pm an cdv ct) ⟨us,[]⟩=pure (ps.zip us)):Binds K fd ps []:=by
 obtain⟨oc,od,kV,doc,pm,an,cdv,ct,osl,rfl,lk,hcd⟩:=F.ex;exact .all (h kV doc pm an cdv ct)
theorem XU{st:bq}{f:aa}{oc:af}{od an:Option aa}{osl:Array (Option af)}{kV doc pm cdv ct:af}(l:K.lookup f=some ⟨oc,od,.func (kG x qual (jB st) (i0 st) (bb st) .none kV doc pm an cdv ct),osl⟩)(c:Nd K cdv qual=true)(k:qQ K (.ref f)=true):jL K x qual st f (kG x qual (jB st) (i0 st) (bb st) .none kV doc pm an cdv ct):=⟨⟨oc,od,kV,doc,pm,an,cdv,ct,osl,rfl,l,c⟩,k⟩
theorem ir{k:Nat}(hr:c6 k A):A.units+1<jt:=ou (ZN (by decide:1<=64) _) hr.units
theorem pv(i:Nat)(hN:X.N[i]? =some x:=by rfl)(hv:uJ X.env.scope x:=by first|exact aV rfl|exact tU (aV rfl)|exact tU (tU rfl))(hd:(x==("__debug__":ae))=false:=by decide)(hcd:(x==("__classdict__":ae))=false:=by decide):PE X (.Name x pos) (sd i):=WM hN hv hd hcd
theorem xV:iB X (.builtin "len") (λxs H Q=>∃a kvs,xs=[V.ref a]/\H a=some (.dK kvs)/\Q (.int kvs.length) H):=by
 intro pins s σ H xs us Q I r h;obtain⟨a,kvs,rfl,ha,q⟩:=h;obtain⟨u,rfl,ru⟩:=vals1 r;cases ru;exact VT I (.inl ha) λt s' I'=>⟨.int kvs.length,H,I',⟨t,rfl⟩,q⟩
theorem fV{A B:Prop}(h:B):if false=true then A else B:=by
 rw[aq dH];exact h
theorem fm{A B:Prop}(h:A):if true=true then A else B:=by
 rw[ay rfl];exact h
theorem LH{c A B:Prop}[Decidable c](h1:c->A)(h2:¬c->B):if c then A else B:=by
 by_cases h:c
 .rw[ay h]
  exact h1 h
 .rw[aq h]
  exact h2 h
def ak(H H':Hp):Prop:=∀b o,H b=some o->H' b=some o
theorem ak.refl(H:Hp):ak H H:=λz z h=>h
theorem ak.trans{H1 H2:Hp}(a:ak H H1)(b:ak H1 H2):ak H H2:=λc o h=>b c o (a c o h)
theorem ak.free(e:ak H H'){l:aa}(h:H' l=zY):H l=zY:=by
 cases q:H l with
 |none=>rfl
 |some o=>
  rw[e l o q]at h;cases h
theorem ak.seq(e:ak H H')(h:aj K H a xs):aj K H' a xs:=by
 rcases h with(h|⟨o,h⟩)|h
 .exact .inl (.inl (e _ _ h))
 .exact .inl (.inr ⟨o,e _ _ h⟩)
 .exact .inr h
theorem CV{α:Type}{l:List α}(hN:l.Nodup){i j:Nat}{x:α}(a:l[i]? =some x)(b:l[j]? =some x):i=j:=by
 obtain⟨h1,e1⟩:=cN.mp a;obtain⟨h2,e2⟩:=cN.mp b;exact(YS hN).mp (e1.trans e2.symm)
theorem ak.made{H1:Hp}{x dx:aa}(nx:H x=zY)(nd:H dx=zY)(k:∀b o,(upd (upd H dx (.own x)) x (.ins C dx [])) b=some o->b≠x->H1 b=some o):ak H H1:=λb o e=>k b o (by rw[aI (cQ e nx),aI (cQ e nd)];exact e) (cQ e nx)
def IY(P:bA)(w:bB)(outer:List ei)(H:Hp)(s:aC)(E:XK)(e:af)(s':aC):Prop:=∃(ea C:aa)(a0:af)(H':Hp)(B:a9),e=.ref ea/\s'.os=s.os/\pH s'.gens/\Un (e9 outer) [] H H' s.heap s'.heap/\c8 P w H' s'.heap/\
 ZO B outer ea (.ref C) a0 s'.heap/\(∀b o,s.heap.get? b=some o->b∉e9 outer->∃u,B.get? b=some u)/\(∀b o,H' b=some o->∃u,B.get? b=some u)/\E (.ref C) none H'
abbrev bR(P:bA)(w:bB):e8:=IY P w
theorem dF.here{o:HO}(x:dF P w H h a o):∃u,h.get? a=some u:=by
 cases o with
 |lst xs=>obtain⟨z,z,z,z,e⟩:=x;exact⟨_,e⟩
 |tup xs=>obtain⟨z,z,z,o,e,z⟩:=x;exact⟨_,e⟩
 |dK kvs=>obtain⟨z,z,z,z,o,z,z,e,z⟩:=x;exact⟨_,e⟩
 |dT kvs=>obtain⟨z,z,z,z,o,z,z,e,z⟩:=x;exact⟨_,e⟩
 |set S n=>obtain⟨o,z,z,z,e,z⟩:=x;exact⟨_,e⟩
 |ins C dx fs=>obtain⟨z,z,z,e,z⟩:=x;exact⟨_,e⟩
 |own y=>exact x
 |xd fs=>obtain⟨z,⟨z,z,z,e,z⟩,z⟩:=x;exact⟨_,e⟩
 |yA lo hi=>obtain⟨z,z,z,e⟩:=x;exact⟨_,e⟩
 |bu ob u=>obtain⟨e,z⟩:=x;exact⟨_,e⟩
 |oB ps=>exact⟨_,show h.get? a=some _ from x⟩
 |met f y=>exact⟨_,show h.get? a=some _ from x⟩
 |ext φ=>obtain⟨z,e,z⟩:=x;exact e
theorem DX{l:List ei}{B h0 h1 h2:a9}{H0:Hp}(u:Un (e9 l) [] H0 H' h0 h1)(st1:B.StaysIn h1)(st2:B.StaysIn h2)(b1:∀b o,h0.get? b=some o->b∉e9 l->∃u,B.get? b=some u)(sm:h1.UpToSlots h2)(ff:h1.FunFrames B l):Un (e9 l) [] H0 H' h0 h2 where
 keep b o q n hb hx:=by
  have e1:=u.keep b o q n hb hx;obtain⟨v,hv⟩:=b1 b o q hb;have z:=st1 b v hv;rw[e1]at z;cases z;exact st2 b o hv
 slot b o q n hb hx:=by
  obtain⟨sl,e1⟩:=u.slot b o q n hb hx;obtain⟨y,o',ho',hd⟩:=ff.mem hb;rw[e1]at ho';cases ho';obtain⟨sl',e2⟩:=sm b _ e1 hd;exact⟨sl',e2⟩
 free:=u.free
 there b o q hx:=by
  by_cases hb:b∈e9 l
  .obtain⟨y,o',ho',hd⟩:=ff.mem hb
   obtain⟨sl,e2⟩:=sm b o' ho' hd;exact⟨_,e2⟩
  .obtain⟨v,hv⟩:=b1 b o q hb
   exact⟨v,st2 b v hv⟩
 gA:=u.gA
 kg:=u.kg
 l7:=u.l7
theorem Ax{B h1 h2:a9}(ok:c8 P w H' h1)(st1:B.StaysIn h1)(st2:B.StaysIn h2)(b2:∀b o,H' b=some o->∃u,B.get? b=some u):c8 P w H' h2:=λa o e=>
 (ok a o e).lK (λb u hb q=>by
   have z:∃v,B.get? b=some v:=by
    rcases hb with rfl|hb
    .exact b2 _ _ e
    .exact b2 _ _ hb
   obtain⟨v,hv⟩:=z;have z:=st1 b v hv;rw[q]at z;cases z
   exact st2 b u hv) (λy q=>q) (λy y q=>q)
structure pf(X:Cx):Prop where
 stack:X.stack=X.env::X.outer
 frame:X.env.frame=some X.env.locals
 ex:X.ex=[]
theorem G4{N:List ae}{f:aa}{cd:af}{outer:List ei}{E:XK}:pf (gw CX P w K mg base N qual scope f cd A outer s H E):=⟨rfl,rfl,rfl⟩
section
variable{σ:St}
theorem pf.old(T:pf X)(I:Inv X pins σ H s)(hb:X.gg.heap.get? b=some o)(hn:b∉X.fs):(∃o',s.heap.get? b=some o')/\b∉e9 X.stack:=by
 refine⟨I.base.there b o hb (by rw[T.ex];simp),λz=>?_⟩
 rcases bM.mp (I.yb b z)with q|q
 .have h1:=cO hb
  have h2:=I.ok.above;rw[q]at h1;exact absurd (ie h1 h2) (kx _)
 .exact hn q
theorem pf.un(T:pf X)(I:Inv X pins σ H s):Un (e9 X.outer) [] X.ph H X.gg.heap s.heap:=by
 have u:=I.base;rw[T.ex]at u;exact u
theorem Inv.Jh{s':aC}{B:a9}(I:Inv X pins σ H s)(os:s'.os=s.os)(bare:pH s'.gens)(un:Un (e9 X.stack) [] H H' s.heap s'.heap)(aW:c8 X.prog X.w H' s'.heap)(st1:B.StaysIn s'.heap)(st2:B.StaysIn h)(b1:∀b o,s.heap.get? b=some o->b∉e9 X.stack->∃u,B.get? b=some u)(b2:∀b o,H' b=some o->∃u,B.get? b=some u)(sm:s'.heap.UpToSlots h)(ff:s'.heap.FunFrames B X.stack):Inv X pins σ H' {s' with heap:=h}:=I.Ez (s':={s' with heap:=h}) (ch:=[]) os (DX un st1 st2 b1 sm ff) (Ax aW st1 st2 b2) bare (λb z=>absurd z (by simp))
end
theorem eJ{N:List ae}{f:aa}{cd:af}{outer:List ei}{E:XK}:ik (bR P w) (gw (bR P w) P w K mg base N qual scope f cd A outer s H E) E:=by
 intro pins σ H1 s1 e s' I hq;obtain⟨ea,C,a0,H',B,e1,os,bare,un,aW,fl,b1,b2,q⟩:=hq;subst e1;have T:pf (gw (bR P w) P w K mg base N qual scope f cd A outer s H E):=G4;have I':Inv (gw (bR P w) P w K mg base N qual scope f cd A outer s H E) pins σ H' s':=I.Ez (ch:=[]) os un aW bare (λb z=>absurd z (by simp))
 refine wpAny_leaves_onW (s:=s') I.ok.frames rfl fl λh2 fl2 sm=>?_;have b1':∀b o,s.heap.get? b=some o->b∉e9 outer->∃u,B.get? b=some u:=λb o hb hn=>by
  obtain⟨⟨o',ho'⟩,hn'⟩:=T.old I (b:=b) (o:=o) hb hn;exact b1 b o' ho' hn'
 exact⟨ea,C,a0,H',B,rfl,I'.os,bare,DX (l:=outer) (T.un I') fl.1 fl2.1 b1' sm fl.2.2.1.2.2,Ax aW fl.1 fl2.1 b2,fl2,b1',b2,q⟩
theorem OJ{bmB:List af}{newId:String}(X:K.In h)(q:NJ K C bmB newId=true):∃bm N nm q bs hdct sn sub ab col dd k0 k1 k2 k3 k5 mN,h.get? C=some (excClassObj nm q C N bs bm hdct sn sub ab col dd k0 k1 k2 k3 k5 newId)/\h.Ns N mN/\mN "__init__"=none/\OwnTail h bmB bm:=by
 unfold NJ at q;split at q
 .rename_i dd cd sl ho
  split at q
  .rename_i C' bm k0 k1 k2 k3 n k5 hm hs
   simp only[ib,pC,EB]at q;obtain⟨⟨⟨⟨⟨rfl,rfl⟩,hdel⟩,ht⟩,aW⟩,hni⟩:=q;obtain⟨nm,bs,mro,ns,qn,hd,sn,sub,ab,col,del⟩:=cd;dsimp only at hm hdel aW hni;subst hm hdel;have hsl:sl=#[k0,k1,k2,k3,some (.builtin n),k5]:=by
    obtain⟨l⟩:=sl;simp only at hs;rw[hs]
   subst hsl;exact⟨bm,ns,nm,qn,bs,hd,sn,sub,ab,col,dd,k0,k1,k2,k3,k5,_,X _ _ ho,.of_isNs (PySem.W.isNs_of_in X aW),PySem.W.nsMap_none_of_in X aW hni,PySem.W.tail_of_in X ht⟩
  .cases q
 .cases q
abbrev Pw:List af:=[.type "Exception",.type "BaseException",.type "object"]
abbrev sF(K:aU)(C:aa):Prop:=NJ K C Pw "Exception.__new__"=true
def GU(C:aa)(E:XK):TS:=λz z H=>E (.ref C) none H
theorem je{N:List ae}{f:aa}{cd:af}{outer:List ei}{E:XK}{np cpos:cI}(hg:Gl (gw (bR P w) P w K mg base N qual scope f cd A outer s H E) x)(hm:mg x=some (.ref C))(q:sF K C)(hdb:(x==("__debug__":ae))=false:=by decide):PS (gw (bR P w) P w K mg base N qual scope f cd A outer s H E) (.Raise (some (.Call (.Name x np) [] [] cpos)) none pos) (GU C E):=by
 intro pins s1 σ H1 D I h;have T:pf (gw (bR P w) P w K mg base N qual scope f cd A outer s H E):=G4;obtain⟨tl,N',nm,q',bs,hdct,sn,sub,ab,col,dd,k0,k1,k2,k3,k5,mN,hC,hN,hni,Tl⟩:=OJ I.mod.pR q;refine wpAny_Raise_call_subT (C:=C) (nm:=nm) (q:=q') (N:=N') (bs:=bs) (bm:=tl) (hdct:=hdct) (sn:=sn) (sub:=sub) (ab:=ab) (col:=col) (dd:=dd) (k0:=k0) (k1:=k1) (k2:=k2) (k3:=k3) (k5:=k5)
  ZP (mN:=mN) (Tl.hasType ZP.hasBase) (I.ok.hd rfl) rfl hni (qA I hg hm ⟨rfl,?_⟩ hdb)
 refine evalArgs_empty ⟨rfl,gp _,I.bk _ _ hC,hN.keeps I.bk,Tl.keeps I.bk,λh' e hx=>?_⟩;have hin:∀env∈(gw (bR P w) P w K mg base N qual scope f cd A outer s H E).stack,∀a,env.frame=some a->a∈e9 (gw (bR P w) P w K mg base N qual scope f cd A outer s H E).stack:=λenv he a ha=>E6.mpr ⟨env,he,ha⟩;have ff:=PySem.W.funFrames_hide I.stack hin;have st1:(EW s1.heap (e9 (gw (bR P w) P w K mg base N qual scope f cd A outer s H E).stack)).StaysIn s1.heap:=λb o z=>YR _ z;refine wpAny_leaves_madeW (s:={s1 with heap:=h'}) I.ok.frames rfl st1 ff hx λh2 t fl y y sm=>?_
 have b1:∀b o,s.heap.get? b=some o->b∉e9 outer->∃u,(EW s1.heap (e9 (gw (bR P w) P w K mg base N qual scope f cd A outer s H E).stack)).get? b=some u:=λb o hb hn=>by
  obtain⟨⟨o',ho'⟩,hn'⟩:=T.old I (b:=b) (o:=o) hb hn;exact⟨o',MW _ ho' hn'⟩
 have b2:∀b o,H1 b=some o->∃u,(EW s1.heap (e9 (gw (bR P w) P w K mg base N qual scope f cd A outer s H E).stack)).get? b=some u:=λb o hb=>by
  obtain⟨u,hu⟩:=(I.aW b o hb).here;exact⟨u,MW _ hu λz=>by rw[I.CJ b z]at hb;cases hb⟩
 exact⟨e,C,.ref t,H1,_,rfl,I.os,I.bare,DX (l:=outer) (T.un I) st1 fl.1 b1 ((aa9 hx.keeps).trans sm) ff.2.2,Ax I.aW st1 fl.1 b2,fl,b1,b2,h⟩
abbrev Cx.jZ(X:Cx)(ea:aa):Cx:={X with A:=X.A.mark (some (.ref ea)),calm:=false,xe:=λz z=>False}
abbrev Cx.tr(X:Cx)(pn:List (aa×bc))(E:af->aC->Prop):Cx:={X with pn:=pn,xe:=E}
theorem Cx.Ok.jZ(ok:X.Ok)(ea:aa):(X.jZ ea).Ok:=⟨ok.mod,ok.kind,ok.glob,ok.blt,ok.above,ok.inj,ok.has,ok.qx,λz=>(by cases z),ok.frames,ok.rG,ok.sr,ok.bs,ok.lX,ok.qj,ok.pW,ok.jH,ok.nB⟩
theorem Cx.Ok.tr(ok:X.Ok)(pn:List (aa×bc))(E:af->aC->Prop):(X.tr pn E).Ok:=⟨ok.mod,ok.kind,ok.glob,ok.blt,ok.above,ok.inj,ok.has,ok.qx,ok.hd,ok.frames,ok.rG,ok.sr,ok.bs,ok.lX,ok.qj,ok.pW,ok.jH,ok.nB⟩
section
variable{σ:St}
theorem Inv.jZ(I:Inv X pins σ H s)(ea:aa):Inv (X.jZ ea) pins σ H s:=⟨I.ok.jZ ea,I.os,I.bare,I.base,I.loc,I.cell,I.free,I.iL,I.pin,I.aW,I.len⟩
theorem Inv.sR{ea:aa}(ok:X.Ok)(I:Inv (X.jZ ea) pins σ H s):Inv X pins σ H s:=⟨ok,I.os,I.bare,I.base,I.loc,I.cell,I.free,I.iL,I.pin,I.aW,I.len⟩
theorem Inv.tr(I:Inv X pins σ H s)(E:af->aC->Prop):Inv (X.tr (X.pn++pins) E) [] σ H s:=⟨I.ok.tr _ E,I.os,I.bare,I.base,I.loc,I.cell,I.free,I.iL,λp hp=>I.pin p (by simpa using hp),I.aW,I.len⟩
theorem Inv.pO{pn:List (aa×bc)}{more:List (aa×bc)}(ok:X.Ok)(I:Inv (X.tr (X.pn++pins) E) more σ H s):Inv X pins σ H s:=⟨ok,I.os,I.bare,I.base,I.loc,I.cell,I.free,I.iL,λp hp=>I.pin p (fq _ hp),I.aW,I.len⟩
theorem SP.pO{D:Ends}{f:Flow}{s':aC}(ok:X.Ok)(h:SP (X.tr (X.pn++pins) E) [] D f s'):SP X pins D f s':=by
 cases f with
 |next=>obtain⟨σ',H',I,q⟩:=h;exact⟨σ',H',I.pO (pn:=[]) ok,q⟩
 |brk=>obtain⟨σ',H',I,q⟩:=h;exact⟨σ',H',I.pO (pn:=[]) ok,q⟩
 |cont=>obtain⟨σ',H',I,q⟩:=h;exact⟨σ',H',I.pO (pn:=[]) ok,q⟩
 |ret u=>obtain⟨v,σ',H',I,r,q⟩:=h;exact⟨v,σ',H',I.pO (pn:=[]) ok,r,q⟩
theorem SP.sR{D:Ends}{f:Flow}{s':aC}{ea:aa}(ok:X.Ok)(h:SP (X.jZ ea) pins D f s'):SP X pins D f s':=by
 cases f with
 |next=>obtain⟨σ',H',I,q⟩:=h;exact⟨σ',H',I.sR ok,q⟩
 |brk=>obtain⟨σ',H',I,q⟩:=h;exact⟨σ',H',I.sR ok,q⟩
 |cont=>obtain⟨σ',H',I,q⟩:=h;exact⟨σ',H',I.sR ok,q⟩
 |ret u=>obtain⟨v,σ',H',I,r,q⟩:=h;exact⟨v,σ',H',I.sR ok,r,q⟩
end
def HY(X:Cx)(pins:List (aa×bc))(Et:XK)(e:af)(s':aC):Prop:=∃(σ:St)(H:Hp)(s:aC),Inv X pins σ H s/\IY X.prog X.w X.stack H s Et e s'
theorem Py{Et:XK}(ok:X.Ok):ik (bR X.prog X.w) (X.tr (X.pn++pins) (HY X pins Et)) Et:=λmore σ H s e s' I h=>⟨σ,H,s,I.pO (pn:=[]) ok,h⟩
inductive pV (X:Cx) (C:aa):List wz->TS->Prop
 |skip {x:ae} {C':aa} {np pos:cI} {b:bq} {suite:List bq} {rest:List wz} {t:TS} (hg:Gl X x) (hm:X.mg x=some (.ref C')) (he:fu X.K (.ref C) (.ref C')=some false) (hdb:(x==("__debug__":ae))=false)
  (h:pV X C rest t):pV X C (.ExceptHandler (some (.Name x np)) none (b::suite) pos::rest) t
 |hit {x:ae} {C':aa} {np pos:cI} {b:bq} {suite:List bq} {rest:List wz} {t:TS} (hg:Gl X x) (hm:X.mg x=some (.ref C')) (he:fu X.K (.ref C) (.ref C')=some true) (hdb:(x==("__debug__":ae))=false)
  (h:∀ea,hR (X.jZ ea) (b::suite) t):pV X C (.ExceptHandler (some (.Name x np)) none (b::suite) pos::rest) t
theorem pV.run{hs:List wz}{t:TS}(Hs:pV X C hs t){σ:St}{s5:aC}{ea:aa}{a0:af}{B:a9}{D:Ends}(I5:Inv X pins σ H' s5)(fl5:ZO B X.stack ea (.ref C) a0 s5.heap)(later:∀h,B.StaysIn h->s5.heap.UpToSlots h->Inv X pins σ H' {s5 with heap:=h})(q:t D σ H'):aJ (ba X.prog X.w) X.A (handleBy (.ref ea) X.env hs) (SP X pins D) X.xe s5:=by
 have ty:PySem.W.Looks (ba X.prog X.w) s5.heap (Fg (.ref ea)) (.ref C):=by
  obtain⟨ob,hob,hc⟩:=fl5.there;rw[<-hc];exact(aba hob).andThen .now
 induction Hs with
 |skip hg hm he hdb h ih=>
  refine ZQ (ZR (qA (X:=X.jZ ea) (I5.jZ ea) hg hm ?_ hdb)) (by intro z;cases z)
  exact(ZS I5.iC ty he).here (ih q)
 |hit hg hm he hdb h=>
  refine ZQ (ZR (qA (X:=X.jZ ea) (I5.jZ ea) hg hm ?_ hdb)) (by intro z;cases z)
  refine(ZS I5.iC ty he).here (codeAny_handlers_suite ?_);refine lands_againW fl5 λh6 fl6 sm6=>?_;have I6:=later h6 fl6.1 sm6;refine jb (h ea pins _ σ H' D (I6.jZ ea) q) (λf s7 h7=>?_) λy y z=>z.elim;exact h7.sR I5.ok
def Vr(t:TS)(Et:XK)(hs:aa->TS->Prop):TS:=λD σ H=>t D σ H/\∀(C:af)(d:Option aa)(H':Hp),Et C d H'->∃(c:aa)(u:TS),C=.ref c/\hs c u/\∀σ',u D σ' H'
theorem O6{body:List bq}{h0:wz}{hs:List wz}{t:TS}{Et:XK}(T:pf X)(hb:∀(pn:List (aa×bc))(Exc:af->aC->Prop),ik (bR X.prog X.w) (X.tr pn Exc) Et->hR (X.tr pn Exc) body t):PS X (.Try body (h0::hs) [] [] pos) (Vr t Et (λC u=>pV X C (h0::hs) u)):=by
 intro pins s σ H D I ⟨h,hh⟩;refine wpAny_Try_except (jb (hb (X.pn++pins) (HY X pins Et) (Py I.ok) [] s σ H D (I.tr _) h) (λf s1 h1=>?_) λe s1 h1=>?_)
 .have h2:=SP.pO I.ok h1
  cases f with
  |next=>exact zH h2
  |brk=>exact h2
  |cont=>exact h2
  |ret u=>exact h2
 .obtain⟨σ1,H1,s0,I0,ea,C,a0,H',B,e1,os,bare,un,aW,fl,b1,b2,q⟩:=h1
  subst e1;obtain⟨c,u,ec,Hs,hu⟩:=hh _ _ _ q;cases ec;rw[T.stack]at fl;refine wpAny_looks_onW (by rw[<-T.stack];exact I.ok.frames) T.frame fl λh4 hd4 sm4=>?_
  refine wpAny_landsW hd4 λh5 fl5 sm5=>?_;rw[<-T.stack]at fl fl5;have I5:=I0.Jh (h:=h5) os bare un aW fl.1 fl5.1 b1 b2 (sm4.trans sm5) fl.2.2.1;refine pV.run Hs (s5:={s1 with heap:=h5}) (B:=B) I5 fl5 (λh st sm=>?_) (hu σ1)
  exact I0.Jh (s':=s1) (h:=h) os bare un aW fl.1 st b1 b2 ((sm4.trans sm5).trans sm) fl.2.2.1
section
variable{K:Type}[DecidableEq K]{knd:HeapKind prog w K}
def o9(xs:List (K×aa×af))(k:K):List (K×aa×af):=xs.filter λx=>decide (x.1≠k)
theorem Jk:∀{xs:List (K×aa×af)}{j:Nat}{p:aa×af}{k:K},(xs.map (·.1)).Nodup->xs[j]? =some (k,p)->xs.eraseIdx j=o9 xs k
 |[],j,p,k,_,e=>by simp at e
 |x::r,0,p,k,hn,e=>by
  simp only[wt,EI]at e;subst e;rw[bS,gC]at hn;show r=o9 ((k,p)::r) k;unfold o9;rw[fZ,aq (by simp)]
  exact(qF.mpr λy hy=>by
   have:y.1≠k:=λq=>hn.1 (q▸bw.mpr ⟨y,hy,rfl⟩)
   simpa using this).symm
 |x::r,j+1,p,k,hn,e=>by
  rw[bS,gC]at hn;simp only[NB]at e;have hx:x.1≠k:=λq=>hn.1 (q▸bw.mpr ⟨(k,p),cZ e,rfl⟩);show x::r.eraseIdx j=o9 (x::r) k;rw[Jk hn.2 e];unfold o9;rw[fZ,ay (by simpa using hx)]
theorem Kj{α β:Type}(f:α->β):∀(l:List α)(j:Nat),(l.map f).eraseIdx j=(l.eraseIdx j).map f
 |[],_=>rfl
 |_::_,0=>rfl
 |x::r,j+1=>by
  show f x::(r.map f).eraseIdx j=f x::(r.eraseIdx j).map f;rw[Kj f r j]
theorem T3{xs:List (K×aa×af)}{k:K}{p:aa×af}{Q:Option iO->aC->Prop}(hu:knd.room A)(hkey:knd.is s.heap k a)(hm:s.heap.DictOfH knd d xs)(hp:mw xs k=some p)(hsz:xs.length<=sizeLine)(hQ:∀e h',e.val=p.2->h'.DictOfH knd d (o9 xs k)->tL d s.heap h'->Q (some e) {s with heap:=h',toks:=s.toks+knd.draws k}):aJ (ba prog w) A (ZT d (.ref a)) Q E s:=by
 obtain⟨o,es,ep,ho,hc,hd,he,his,hn⟩:=hm;have hes:=FE he;unfold ZT
 try with_reducible refine wpAny_holding ?_
 refine az (knd.pyHash hu hkey (az (wpAny_dictFind_heap (s:={s with toks:=s.toks+knd.draws k}) hu hkey ho hd he his hn ?_ ?_)))
 .intro hno
  rw[atKey_none_of_get hno]at hp;cases hp
 .intro j q hj
  have hq:=atKey_of_get hn hj;rw[hp]at hq;cases hq;refine az (rb (s:={s with toks:=s.toks+knd.draws k}) ho hd ?_)
  rw[NC he j,hj];refine az (wpAny_updateDictKeys (hz:=by omega) (s:={s with toks:=s.toks+knd.draws k}) ho hd (br (hQ _ _ rfl ⟨_,_,ep+1,tG _ ho (Obj.isFreed_of_dict (ZU hd _)),hc.mapDictKeys _,ZU hd _,?_,?_,?_⟩ (zX ..))))
  .rw[<-Jk hn hj]
   obtain⟨l⟩:=es;have he':l=xs.map (entryOfKey knd):=he;subst he';simp;exact Kj _ _ _
  .intro x hx
   exact knd.keeps (his x (dG.mp hx).1) ho hd (zX ..)
  .exact hn.sublist (lq.map _)
end
section
variable{σ:St}{k:List Key}
theorem KT.drop{xs:List (List Key×aa×af)}(r:KT H kvs xs)(k:List Key):KT H (j4 kvs k) (o9 xs k):=by
 induction r with
 |nil=>exact .nil
 |@cons p q ps qs h t ih=>
  unfold j4 o9;rw[fZ,fZ];by_cases e:p.1=k
  .rw[aq (by simpa using e),aq (by simpa using h.1.symm.trans e)];exact ih
  .rw[ay (by simpa using e),ay (by simpa using λz=>e (h.1.trans z))];exact .cons h ih
theorem Pa{v:V}(hu:A.units+2<jt)(I:Inv X pins σ H s)(e:H a=some (.dT kvs))(eb:H b=some (.tup (k.map kV)))(l:dC kvs k=some v)(h:∀w' s',Inv X pins σ (upd H a (.dT (j4 kvs k))) s'->RelV v w'->Q w' s'):aJ (ba X.prog X.w) A (fO (.builtin "dict.pop") [.ref a,.ref b]) Q E s:=by
 obtain⟨z,hd,xs,rel,dd⟩:=Lv I.aW e;obtain⟨w',hw,rw'⟩:=gG.some_of (v:=v) (o:=(mw xs k).map (·.2)) (by rw[<-l];exact rel.val k)
 obtain⟨p,hp,hp2⟩:=di.mp hw;have hz:xs.length<=sizeLine:=by rw[<-Paired.length rel];exact z
 obtain⟨o,es,ep,ho,hc,hdt,he,his,hn⟩:=id dd;have hes:es.isEmpty=false:=by
  have q:=FE he;cases xs with
  |nil=>simp[mw]at hp
  |cons x r=>
   rw[cY]at q;simp[Array.isEmpty,q]
 refine pL Fu dd.typeIs Zp ?_ (Zo _ _);unfold Builtin.«dict.pop»;refine az ?_;unfold abb;refine az (Nw dd.typeIs ?_);show aJ _ _ (pure (a,cV b,none)) _ _ s;refine br ?_;have hkp:(keyPart (cV b)).isSome=false:=rfl;simp only[hkp,ko,ic];refine az (rb ho hdt (az (br ?_)));rw[hes];simp only[ko,ic];refine az (T3 (knd:=tK (fX X.prog X.w)) (wm (by omega)) (p4 I.aW eb) dd hp hz λen h' hv dd' hs=>?_)
 simp only[Option.isNone_some,ko,ic];refine az (n6 (br ⟨en.val,rfl,?_⟩));rw[hv,hp2];obtain⟨q,es',ep',hq,h2,h3,h4,y,h5⟩:=dd';refine h w' _ (xU I (by rw[e];exact dy) hs ⟨q,hq⟩ ⟨fi (Iq kvs k) z,hd,_,(rel.drop k).keeps λc ys ec=>?_,q,es',ep',hq,h2,h3,h4,h5⟩) rw'
 rw[aI (gL ec e (λz=>nomatch z))];exact ec
end
def Qh(td ty:TE):TE:=λσ H Q=>td σ H λx H1=>∃a,x=.ref a/\rN H1 a/\ty σ H1 λy H2=>∃kvs k b v,H2 a=some (.dT kvs)/\y=.ref b/\H2 b=some (.tup (k.map kV))/\dC kvs k=some v/\Q v (upd H2 a (.dT (j4 kvs k)))
section
variable{o:bE}{td ty:TE}{apos cpos:cI}
theorem Hu(hu:X.A.units+2<jt)(ho:PE X o td)(he:PE X e ty)(m:M1 X o "pop" apos e cpos):PE X (.Call (.Attribute o "pop" apos) [e] [] cpos) (Qh td ty):=by
 intro pins s σ H Q I h;refine wo m.base m.c5 m.line Nt Fu Zt (bf (ho pins s σ H _ I h) λu s1 ⟨x,H1,I1,rx,a,ex,d,q1⟩=>?_);subst ex;obtain rfl:u=cV a:=rx;obtain⟨t1,t2,z⟩:=BA I1 d;refine⟨t1,t2,?_⟩;rw[m.trees];refine wd rfl (zQ (qS (bf (he pins s1 σ H1 _ I1 q1) λiv s2 ⟨y,H2,I2,ry,kvs,k,b,v,ea,ey,eb,l,q2⟩=>qR ?_)));subst ey;obtain rfl:iv=cV b:=ry;exact Pa hu I2 ea eb l λw' s3 I3 rw'=>⟨v,_,I3,rw',q2⟩
end
def uH(X:Cx)(CX:e8)(E:XK)(tf:TE)(t:TA):TE:=λσ H Q=>tf σ H λx H1=>∃(k:Nat)(f:aa)(fd:fP)(ps:List ae)(sp:Sp),x=.ref f/\eO X.prog X.w X.K X.mg X.base CX k f fd ps sp/\c6 k X.A/\
 qQ X.K (.ref f)=true/\Binds X.K fd ps []/\t σ H1 λvs H2=>sp vs H2 Q E
theorem XS{E:XK}{fe:bE}{tf:TE}{t:TA}(hf:PE X fe tf)(ha:PA X (e::es) t)(hx:ik CX X E)(ht:bP (.Call fe (e::es) [] pos) X.env=(do nz pos (<-bP fe X.env) [] (f7 pos (cn (e::es) X.env)) (lB pos (lC [] X.env))):=by rfl)(he:cn (e::es) X.env=(false,bP e X.env)::cn es X.env:=by rfl)(hpl:(f7 pos (cn es X.env)).any (·.1)=false:=by rfl):
 PE X (.Call fe (e::es) [] pos) (uH X CX E tf t):=by
 intro pins s σ H Q I h;rw[ht];refine az (bf (hf pins s σ H _ I h) λu s1 ⟨x,H1,I1,rx,k,f,fd,ps,sp,ex,F,hr,hk,hb,q⟩=>?_);subst ex;obtain rfl:u=cV f:=rx;refine Fc (h₀:=X.base) I.ok.mod.pR hk (bf (ha pos pins s1 σ H1 _ I1 q) λus s2 ⟨vs,H2,I2,r,q2⟩=>⟨I2.iC,?_⟩) he hpl;exact zj (ds:=[]) (dvs:=[]) F hr hb .nil hx I2 r (by rw[oo];exact q2)
theorem V1{it:aa}{i ep:Nat}{ok ov:af}{od:bc}{es:Array iO}{en:iO}{Q:Option af->aC->Prop}(hit:ot s.heap it d i n ep ok ov)(hod:s.heap.get? d=some od)(hdd:od.data=.dict es ep)(hsz:es.size=n)(hx:es[i]? =some en)(hQ:∀h',NK h' it d (i+1) n ep en.key en.val s.heap.objs.size->h'.get? s.heap.objs.size=some {cls:=.type "tuple",data:=.seq #[en.key,en.val]}->(∀b o,b≠it->s.heap.get? b=some o->h'.get? b=some o)->Q (some (.ref s.heap.objs.size)) {s with heap:=h'}):aJ (ba prog w) A (iS (.ref it)) Q E s:=by
 obtain⟨hp,g,dr,tk,os⟩:=s;have hT:ZV ⟨hp,g,dr,tk,os⟩ (.ref it) "dict_itemiterator":=⟨_,hit,rfl⟩;obtain⟨hlt,hen⟩:=Zu.mp hx;unfold iS;refine az (zU (zV (name:=rf "__next__") hT F.slot_dict_itemiterator_next (pL F.slot_dict_itemiterator_next hT F.entry_dict_itemiterator_next ?_ (F.args_dict_itemiterator_next_1 _))));refine az (br ?_);refine az (az ?_)
 first|refine az (FH hT (br ?_))|refine az (FI hT (br ?_))
 refine az (Fz hit rfl ?_);simp only[show zW "dict_itemiterator"=true from by decide,iF]
 show aJ _ _ (if(cV d==kz)=true then _ else _) _ _ _;rw[aq (show¬((cV d==kz)=true) from dH)];refine az (br (az (rb hod hdd ?_)));rw[aq (by rw[hsz];simp)]
 refine az (br (az (wq hod hdd ?_)));rw[aq (by simp)]
 refine br ?_;simp only[show¬((i:Int)<0) from by omega,ic,ij,hx]
 refine az ?_
 first|refine az (FH hT (br ?_))|refine az (FI hT (br ?_))
 refine az (NL hT ?_);show aJ _ _ (FA (.ref it) 3 (ny ((i:Int)+1))>>= _) _ _ ⟨hp,g,dr,tk,os⟩;refine az (zZ hit (by simp) λh1 e1 s1=>?_)
 replace s1:tL it hp h1:=s1;replace e1:ot h1 it d (i+1) n ep ok ov:=by
  have e:((i+1:Nat):Int)=(i:Int)+1:=by omega
  unfold ot;rw[e];simpa[ny]using e1
 have hT1:ZV ⟨h1,g,dr,tk,os⟩ (.ref it) "dict_itemiterator":=⟨_,e1,rfl⟩;refine az (wpAny_holding (az (NL hT1 (az (NL hT1 ?_)))));show aJ _ _ (ZW (.ref it) 6 en.key en.val) _ _ ⟨h1,g,dr,tk,os⟩;unfold ZW;refine az (wpAny_newTuple ?_);have e2:ot (h1.push {cls:=.type "tuple",data:=.seq #[en.key,en.val]}) it d (i+1) n ep ok ov:=dB _ e1;generalize hh2:h1.push {cls:=.type "tuple",data:=.seq #[en.key,en.val]}=h2 at e2;have hz1:h1.objs.size=hp.objs.size:=s1.1;have hil:it≠hp.objs.size:=dM (cO hit);have ht2:h2.get? hp.objs.size=some {cls:=.type "tuple",data:=.seq #[en.key,en.val]}:=by rw[<-hh2,<-hz1];exact dW _ rfl
 have hk2:∀b o,b≠it->hp.get? b=some o->h2.get? b=some o:=λb o hb e=>by rw[<-hh2];exact dB _ (s1.extBut b o hb e)
 show aJ _ _ (ZX (.ref it)>>= _) _ _ ⟨h2,g,dr,tk,os⟩;rw[hz1];clear hh2 e1 s1 hT1 hz1 h1;refine az ?_;unfold ZX;refine az (z0 e2 rfl (x:=.none) rfl (br ?_));simp only[iF];refine az (z0 e2 rfl (x:=ok) rfl (az (z0 e2 rfl (x:=ov) rfl ?_)));refine az (zZ e2 (by simp) λh3 e3 s3=>?_)
 replace e3:ot h3 it d (i+1) n ep en.key ov:=e3;refine az (zZ e3 (by simp) λh4 e4 s4=>?_)
 replace e4:ot h4 it d (i+1) n ep en.key en.val:=e4;refine az (zZ e4 (by simp) λh5 e5 s5=>?_)
 replace e5:NK h5 it d (i+1) n ep en.key en.val hp.objs.size:=e5;refine az (zZ e5 (by simp) λh6 e6 s6=>?_)
 replace e6:NK h6 it d (i+1) n ep en.key en.val hp.objs.size:=e6;have all:∀b o,b≠it->h2.get? b=some o->h6.get? b=some o:=λb o hb e=>FJ s6 b o hb (FJ s5 b o hb (FJ s4 b o hb (FJ s3 b o hb e)));exact az (n6 (br (br ⟨_,rfl,br (hQ h6 e6 (all _ _ hil.symm ht2) λb o hb e=>all b o hb (hk2 b o hb e))⟩)))
theorem W4{it:aa}{i ep:Nat}{ok ov:af}{od:bc}{es:Array iO}{Q:Option af->aC->Prop}(hh:A.handled=none)(hit:ot s.heap it d i n ep ok ov)(hod:s.heap.get? d=some od)(hdd:od.data=.dict es ep)(hsz:es.size=n)(hx:n<=i)(hQ:∀h',Zy it s.heap h'->Q none {s with heap:=h'}):aJ (ba prog w) A (iS (.ref it)) Q E s:=by
 have hT:s.TypeIs (.ref it) "dict_itemiterator":=⟨_,hit,rfl⟩;unfold iS;refine az (zU (zV (name:=rf "__next__") hT F.slot_dict_itemiterator_next (pL F.slot_dict_itemiterator_next hT F.entry_dict_itemiterator_next ?_ (F.args_dict_itemiterator_next_1 _))));refine az (br ?_);refine az (az ?_)
 first|refine az (FH hT (br ?_))|refine az (FI hT (br ?_))
 refine az (Fz hit rfl ?_);simp only[show zW "dict_itemiterator"=true from by decide,iF]
 show aJ _ _ (if(cV d==kz)=true then _ else _) _ _ s;rw[aq (show¬((cV d==kz)=true) from dH)];refine az (br (az (rb hod hdd ?_)));rw[aq (by rw[hsz];simp)]
 refine az (br (az (wq hod hdd ?_)));rw[aq (by simp)]
 refine br ?_;simp only[show¬((i:Int)<0) from by omega,ic,ij,Nu (show es.size<=i by omega)]
 refine az ?_
 first|refine az (FH hT (br ?_))|refine az (FI hT (br ?_))
 show aJ _ _ (FA (.ref it) 2 .none>>= _) _ _ s;refine az (Ny hit rfl (by simp) ?_)
 show aJ _ _ (FC (.type "StopIteration") []>>= _) _ _ _;refine az ?_;simp only[FC,newTuple];refine az (oe ?_ (by size_fits))
 refine az (m:=FD _ _) (zB (a:=kz) (by first|rfl|(simp only[FD];rfl)) ?_)
 refine oe ?_ (by size_fits)
 simp only[raiseNew];refine az (Zz ?_);rw[show A.in1.handled=none from hh];refine az (br (wpAny_throw ?_));refine az (Nz (T:="StopIteration") (b:=true) ⟨_,dW _ rfl,rfl⟩ NA ?_);exact br (hQ _ (((zX ..).extBut.push _).push _))
def CW(d:aa)(o:bc)(kvs:List (List Key×V)):It:=⟨λi H=>H d=some (.bu o (.dT kvs))/\i<kvs.length,λi H x H'=>∃T q k v,kvs[i]? =some (k,v)/\H q=some (.tup (k.map kV))/\x=.ref T/\H T=none/\H'=upd H T (.tup [.ref q,v]),λi H=>H d=some (.bu o (.dT kvs))/\kvs.length<=i⟩
section
variable{σ:St}
theorem Inv.BP(I:Inv X pins σ H s)(h:H d=some (.bu o (.dT kvs))):(d==jS)=false/\s.heap.get? d=some o/\o.ExactDict/\∃(es:Array iO)(ep:Nat),o.data=.dict es ep/\es.size=kvs.length/\∀(i:Nat)(k:List Key)(v:V),kvs[i]? =some (k,v)->∃(en:iO)(q:aa),es[i]? =some en/\en.key=.ref q/\H q=some (.tup (k.map kV))/\RelV v en.val:=by
 obtain⟨hd,z,hs,xs,pr,o',es,ep,ho,hx,hdt,he,y⟩:=I.aW d _ h;rw[hd]at ho;cases ho;refine⟨hs,hd,hx,es,ep,hdt,(FE he).trans (Paired.length pr).symm,λi k v e=>?_⟩;obtain⟨b,hb,e1,e2,e3⟩:=A8 pr e;have q:=NC he i;rw[hb]at q;exact⟨_,b.2.1,q,rfl,e2,e3⟩
end
section
variable{es:Array iO}{ep:Nat}
theorem OQ{kk:Nat}(it:aa)(hod:o.data=.dict es ep):Turn P w K (.Tuple elts kk tpos) (CW d o kvs) [it] it (λi h=>∃ok ov,ot h it d i kvs.length ep ok ov) where
 mem:=by simp
 obj:=λi h st b hb=>by
  have e:b=it:=by simpa using hb
  subst e;obtain⟨ok,ov,e⟩:=st;exact⟨_,e,λv z=>nomatch z⟩
 keep:=λi h h' st k=>let⟨ok,ov,e⟩:=st;⟨ok,ov,k it (by simp) _ e⟩
 item:=by
  intro X hP hw hK hc i pins s σ H E I hf st hg;subst hP hw hK;obtain⟨hd,hi⟩:=hg;obtain⟨hs,hgd,hx,es',ep',hdt,hsz,ent⟩:=I.BP hd;obtain⟨rfl,rfl⟩:=mU hod hdt;obtain⟨⟨k,v⟩,hkv⟩:∃p,kvs[i]? =some p:=⟨kvs[i],bH hi⟩;obtain⟨en,q,he1,he2,he3,ru⟩:=ent i k v hkv;obtain⟨ok,ov,he⟩:=st;have hlt:it<s.heap.objs.size:=cO he;refine V1 he hgd hdt hsz he1 λh' ho hT hk=>?_;refine⟨_,rfl,ZA (s:={s with heap:=h'}) ho λh'' he' sb=>?_⟩
  have hT2:h''.get? s.heap.objs.size=some {cls:=.type "tuple",data:=.seq #[en.key,en.val]}:=(sb.2 _ (vY hlt)).trans hT;have new:dF X.prog X.w (upd H s.heap.objs.size (.tup [.ref q,v])) h'' s.heap.objs.size (.tup [.ref q,v]):=⟨by show 2<=sizeLine;decide,[en.key,en.val],.cons he2 (.cons ru .nil),⟨_,hT2,rfl,_,rfl⟩⟩
  have I1:Inv X pins σ (upd H s.heap.objs.size (.tup [.ref q,v])) {s with heap:=h''}:=I.uG (t':=s.toks) (ch:=[it]) (λb ob hb e=>(sb.2 b (by simpa using hb)).trans (hk b ob (by simpa using hb) e)) hf (bK _) new
  refine⟨.ref s.heap.objs.size,_,I1,rfl,⟨_,q,k,v,hkv,he3,rfl,I.aW.fresh (bK _),rfl⟩,⟨en.key,en.val,he'⟩,λb hb=>?_⟩;have e:b=it:=by simpa using hb
  rw[e,aI (dM hlt)];exact(hf it (by simp)).1
 done:=by
  intro X hP hw hK hc i pins s σ H E I hf st hg;subst hP hw hK;obtain⟨hd,hi⟩:=hg;obtain⟨f0,f1,f2,f3,f4,f5⟩:=hf it (by simp)
  obtain⟨hs,hgd,hx,es',ep',hdt,hsz,ent⟩:=I.BP hd;obtain⟨rfl,rfl⟩:=mU hod hdt;obtain⟨ok,ov,he⟩:=st;exact W4 (I.ok.hd hc) he hgd hdt hsz hi λh' eb=>⟨rfl,I.turned (t':=s.toks) (λb ob hb e=>eb b ob hb e) f0 f1 f3 f4 f5⟩
 self:=λA i s Q E st h=>let⟨_,_,e⟩:=st;ZC e h
end
def QY(td:TE):TI:=λσ H R=>td σ H λx H1=>∃d o kvs,x=.ref d/\H1 d=some (.bu o (.dT kvs))/\R (CW d o kvs) H1
section
variable{td:TE}{apos cpos:cI}
theorem HG{kk:Nat}(he:PE X e td)(hbase:mv e "items" X.env (bP e X.env)=bP e X.env:=by rfl)(hline:(apos.endLine==cpos.line)=true:=by rfl):PI X (.Tuple elts kk tpos) (.Call (.Attribute e "items" apos) [] [] cpos) (QY td):=by
 intro pins s σ H R I h;refine wo (T:="dict") (id:="dict.items") hbase rfl hline F.plainAttrs_dict F.slot_dict_items F.type_dict_items (bf (he pins s σ H _ I h) λu s1 ⟨x,H1,I1,rx,d,o,kvs,ex,hd,q⟩=>?_);subst ex;obtain rfl:u=cV d:=rx;obtain⟨hs,hgd,hx,es,ep,hdt,hsz,ent⟩:=I1.BP hd;have hT:s1.TypeIs (.ref d) "dict":=⟨o,hgd,hx.1⟩;refine⟨hT,λb z=>(by cases z;exact⟨o,hgd,hx.2.1⟩),?_⟩
 have I2:Inv X pins σ H1 {s1 with heap:=s1.heap.push {cls:=.type "dict_items",data:=.fields #[.ref d]}}:=I1.kept (t':=s1.toks) λb ob q=>dB _ q
 have hgd2:(s1.heap.push {cls:=.type "dict_items",data:=.fields #[.ref d]}).get? d=some o:=dB _ hgd;have fin:aJ (ba X.prog X.w) X.A (qO (.ref s1.heap.objs.size)) (sA X pins σ (.Tuple elts kk tpos) R) X.xe {s1 with heap:=s1.heap.push {cls:=.type "dict_items",data:=.fields #[.ref d]}}:=by
  have hv:(s1.heap.push {cls:=.type "dict_items",data:=.fields #[.ref d]}).IsItemsView s1.heap.objs.size d:=⟨_,dW _ rfl,rfl,rfl⟩;obtain⟨ow,how,hcw,hdw⟩:=id hv;refine Nv (s:={s1 with heap:=s1.heap.push {cls:=.type "dict_items",data:=.fields #[.ref d]}}) hv.typeIs F.slot_dict_items_iter (pL F.slot_dict_items_iter hv.typeIs F.entry_dict_items_iter ?_ (F.args_dict_items_iter_1 _))
  unfold Builtin.«dict_items.__iter__»;refine az (br (az ?_));unfold abc;refine az (z0 how hdw (x:=.ref d) rfl (br (az ?_)));unfold abd;refine az (rb hgd2 hdt (az (wq hgd2 hdt ?_)));simp only[show zW "dict_itemiterator"=true from by decide,iF]
  refine oe (br ⟨_,rfl,"dict_itemiterator",_,⟨_,dW _ rfl,rfl⟩,F.slot_dict_itemiterator_next.lookup,?_⟩)
   (by simp only[sizeOk,ZY,fj,bV,cY,ma,zM];omega)
  refine pQ (tk:=s1.toks) I2 _ (OQ _ hdt) ⟨.none,.none,?_⟩ q;unfold ot;dsimp only;rw[dW _ rfl];simp[ny,hsz,ZY]
 show aJ _ _ (nz cpos (.builtin "dict.items") [.ref d] [] []) _ X.xe s1;refine ND F.slot_dict_items F.entry_dict_items rfl (Fi ⟨rfl,hT,F.args_dict_items_1 _,(λy R s=>s.TypeIs (.ref d) "dict"/\R (.ok (.ret (.ref s.heap.objs.size))) {s with heap:=s.heap.push {cls:=.type "dict_items",data:=.fields #[.ref d]}}),.of_wp λA R s ⟨hT,h⟩=>?_,hT,fin⟩)
 unfold Builtin.«dict.items»;refine az ?_;unfold abe;refine az (Nw hT ?_);show aJ _ _ (pure d) _ _ s;refine br ?_;show aJ _ _ (Fw d>>= _) _ _ s;unfold Fw;rw[aq (by rw[hs];exact dH)]
 exact az (br (az (oe (br ⟨_,rfl,h⟩))))
end
section
variable{l:aa}{ns:List Int}
theorem UC(hh:A.handled=none)(hl:s.heap.IsList l its.toArray)(hi:we its ns)(h0:ns=[]->∀h' tk,(∀b o,s.heap.get? b=some o->h'.get? b=some o)->Q .none {s with heap:=h',toks:=tk})(h:∀h' tk M t',(∀b o,s.heap.get? b=some o->h'.get? b=some o)->M∈ns->(∀a,a∈ns->a<=M)->Q (.int M t') {s with heap:=h',toks:=tk}):aJ (ba prog w) A (fO (.builtin "max") [.ref l] [("default",.none)]) Q E s:=by
 obtain⟨xs,e⟩:=hi.allInts.items;have en:zR (ja xs).toList=ns:=by rw[<-e];exact hi.numsOf
 rw[zS]at en;subst en;rw[e]at hl;refine PySem.R5 hh hl (λhz h' tk kp=>h0 (by simpa using hz) h' tk kp) λhz v h' tk hv kp=>?_
 obtain⟨t,rfl⟩:=vT hv;obtain⟨z,hb⟩:=argBest_gt (n9 xs) (xs.size - 1);refine h h' tk _ t kp (by rw[qX];exact Fj (by rw[aA,mr];omega)) λa ha=>?_
 obtain⟨j,hj,rfl⟩:=Fk ha;rw[aA,mr]at hj;rw[<-qX];exact hb j (by omega)
end
def UR(K:aU)(te:TE):TE:=λσ H Q=>te σ H λv H1=>∃(a:aa)(ns:List Int),v=.ref a/\aj K H1 a (ns.map V.int)/\(ns=[]->Q .bI H1)/\∀M,M∈ns->(∀a,a∈ns->a<=M)->Q (.int M) H1
theorem Ya{p kp cp:cI}{j:Nat}(hc:X.calm=true)(hg:Gl X "max")(hm:X.mg "max"=none)(he:PE X e te)(hs:cn [e] X.env=[(false,bP e X.env)]:=by rfl):PE X (.Call (.Name "max" p) [e] [⟨some "default",.Constant .none j cp,kp⟩] pos) (UR X.K te):=by
 intro pins s σ H Q I h;refine qT (o3 I hg hm NM ?_);refine callWith_kw (env:=X.env) ?_ (by rw[hs];rfl) (by rw[hs];rfl)
 rw[hs];refine qS (bf (he pins s σ H _ I h) λu s1 ⟨v,H1,I1,r1,a,ns,ev,hq,q0,q1⟩=>qR ?_);subst ev;obtain rfl:u=cV a:=r1;refine NN (env:=X.env) (EX (NO (env:=X.env) ?_));obtain⟨its,rv,hl,z⟩:=I1.list hq;exact UC (I.ok.hd hc) hl.isList rv.ints (λe0 h' tk k=>⟨.bI,H1,I1.kept k,rfl,q0 e0⟩) λh' tk M t' k m1 m2=>⟨.int M,H1,I1.kept k,⟨_,rfl⟩,q1 M m1 m2⟩
section
variable{l:aa}{ns:List Int}
theorem Yi(hh:A.handled=none)(hl:s.heap.IsList l its.toArray)(hi:we its ns)(h0:ns=[]->∀h' tk,(∀b o,s.heap.get? b=some o->h'.get? b=some o)->Q .none {s with heap:=h',toks:=tk})(h:∀h' tk M t',(∀b o,s.heap.get? b=some o->h'.get? b=some o)->M∈ns->(∀a,a∈ns->M<=a)->Q (.int M t') {s with heap:=h',toks:=tk}):aJ (ba prog w) A (fO (.builtin "min") [.ref l] [("default",.none)]) Q E s:=by
 obtain⟨xs,e⟩:=hi.allInts.items;have en:zR (ja xs).toList=ns:=by rw[<-e];exact hi.numsOf
 rw[zS]at en;subst en;rw[e]at hl;refine PySem.Oq hh hl (λhz h' tk kp=>h0 (by simpa using hz) h' tk kp) λhz v h' tk hv kp=>?_
 obtain⟨t,rfl⟩:=vT hv;obtain⟨z,hb⟩:=argBest_lt (n9 xs) (xs.size - 1);refine h h' tk _ t kp (by rw[qX];exact Fj (by rw[aA,mr];omega)) λa ha=>?_
 obtain⟨j,hj,rfl⟩:=Fk ha;rw[aA,mr]at hj;rw[<-qX];exact hb j (by omega)
end
def T6(K:aU)(te:TE):TE:=λσ H Q=>te σ H λv H1=>∃(a:aa)(ns:List Int),v=.ref a/\aj K H1 a (ns.map V.int)/\(ns=[]->Q .bI H1)/\∀M,M∈ns->(∀a,a∈ns->M<=a)->Q (.int M) H1
theorem SW{p kp cp:cI}{j:Nat}(hc:X.calm=true)(hg:Gl X "min")(hm:X.mg "min"=none)(he:PE X e te)(hs:cn [e] X.env=[(false,bP e X.env)]:=by rfl):PE X (.Call (.Name "min" p) [e] [⟨some "default",.Constant .none j cp,kp⟩] pos) (T6 X.K te):=by
 intro pins s σ H Q I h;refine qT (o3 I hg hm ZZ ?_);refine callWith_kw (env:=X.env) ?_ (by rw[hs];rfl) (by rw[hs];rfl)
 rw[hs];refine qS (bf (he pins s σ H _ I h) λu s1 ⟨v,H1,I1,r1,a,ns,ev,hq,q0,q1⟩=>qR ?_);subst ev;obtain rfl:u=cV a:=r1;refine NN (env:=X.env) (EX (NO (env:=X.env) ?_));obtain⟨its,rv,hl,z⟩:=I1.list hq;exact Yi (I.ok.hd hc) hl.isList rv.ints (λe0 h' tk k=>⟨.bI,H1,I1.kept k,rfl,q0 e0⟩) λh' tk M t' k m1 m2=>⟨.int M,H1,I1.kept k,⟨_,rfl⟩,q1 M m1 m2⟩
theorem Wu{it:aa}{fp:List aa}{P:Nat->af->Prop}{St:Nat->a9->Prop}(D:Draws prog w A it fp n P St):Draws prog w A it fp (n+1) (λi=>P (i - 1)) (λi h=>1<=i/\St (i - 1) h) where
 live:=λi h st=>D.live _ h st.2
 frame:=λi h h' st k=>⟨st.1,D.frame _ h h' st.2 k⟩
 item:=λi s Q E hi st hQ=>D.item (i - 1) s Q E (by have:=st.1;omega) st.2 λx h' tk hp hs sb=>by
  have e:i - 1+1=i+1 - 1:=by(have:=st.1;omega)
  rw[e]at hs;exact hQ x h' tk hp ⟨by omega,hs⟩ sb
 done:=λs Q E st hE=>D.done s Q E (by have:=st.2;simpa using this) hE
def BL(K:aU)(a:aa):It:=⟨λi H=>∃(xs:List V)(x:V),aj K H a xs/\xs[i]? =some x,λi H v H'=>∃T x,v=.ref T/\H T=none/\H'=upd H T (.tup [.int ((i:Nat)+1),x])/\∀xs,aj K H a xs->xs[i]? =some x,λi H=>∃xs:List V,aj K H a xs/\xs.length<=i⟩
theorem UY{kk:Nat}(a e it:aa):Turn P w K (.Tuple elts kk tpos) (BL K a) [e,it] e (λi h=>(∃old,IsEnum h e it ((i:Nat)+1:Int) old)/\h.IsListIter it a i/\e≠it) where
 mem:=by simp
 obj:=λi h st b hb=>by
  obtain⟨⟨old,he⟩,⟨o,ho,hc,hd⟩,y⟩:=st;have e':b=e\/b=it:=by simpa using hb
  rcases e' with z|z
  .rw[z];exact⟨_,he,λv q=>nomatch q⟩
  .rw[z];exact⟨o,ho,λv q=>by rw[hd]at q;cases q⟩
 keep:=λi h h' st k=>let⟨⟨old,he⟩,hi,hne⟩:=st;⟨⟨old,k e (by simp) _ he⟩,hi.at λo q=>k it (by simp) o q,hne⟩
 item:=by
  intro X hP hw hK hc i pins s σ H E I hf st hg;subst hP hw hK;obtain⟨⟨old,he⟩,hit,hne⟩:=st;obtain⟨xs,x,hq,hx⟩:=hg;obtain⟨its,rv,p,hz⟩:=I.list hq;obtain⟨u,hu,ru⟩:=rv.get hx;have hel:e<s.heap.objs.size:=cO he;have hil:it<s.heap.objs.size:=by obtain⟨y,q,y⟩:=hit;exact cO q
  have nai:a≠it:=λz=>by
   obtain⟨o1,g1,c1,y⟩:=p.isList;obtain⟨o2,g2,c2,y⟩:=hit;rw[z,g2]at g1;cases g1;rw[c2]at c1;exact absurd c1 (by decide)
  have nae:a≠e:=λz=>by
   obtain⟨o1,g1,c1,y⟩:=p.isList;rw[z,show s.heap.get? e=some _ from he]at g1;cases g1;exact absurd (show oh "enumerate"=oh "list" from c1) (by decide)
  have hel1:e∉[it,a]:=by simp[hne,eW nae]
  refine wpAny_pyNext_enum_itemD (i:=i+1) (Wu (Draws.list (A:=X.A.in1) (I.ok.hd hc) it a nai its.toArray)) he ⟨by omega,hit,p.isList⟩ (by have:=cN.mp hu;simp;exact this.1) hne hel1 λx' h' tk hp ho hst hT hsz hk=>?_
  obtain rfl:u=x':=by
   have z:its.toArray[i]? =some x':=hp;have z':its[i]? =some x':=by simpa using z
   rw[hu]at z';exact dQ z'
  have hit':h'.IsListIter it a (i+1):=hst.2.1;refine⟨_,rfl,ZD (s:={s with heap:=h',toks:=tk+1}) ho λh'' he' sb=>?_⟩
  have hT2:h''.get? s.heap.objs.size=some {cls:=.type "tuple",data:=.seq #[.int ((i:Nat)+1:Int) tk,u]}:=(sb.2 _ (vY hel)).trans hT;have new:dF X.prog X.w (upd H s.heap.objs.size (.tup [.int ((i:Nat)+1),x])) h'' s.heap.objs.size (.tup [.int ((i:Nat)+1),x]):=⟨by show 2<=sizeLine;decide,[.int ((i:Nat)+1:Int) tk,u],.cons ⟨_,rfl⟩ (.cons ru .nil),⟨_,hT2,rfl,_,rfl⟩⟩
  have I1:Inv X pins σ (upd H s.heap.objs.size (.tup [.int ((i:Nat)+1),x])) {s with heap:=h'',toks:=tk+1}:=I.uG (ch:=[e,it]) (λb ob hb q=>(sb.2 b (λz=>hb (by simp[z]))).trans (hk b ob (λz=>hb (by simp[z])) (λz=>hb (by simp[z])) q)) hf (bK _) new
  refine⟨.ref s.heap.objs.size,_,I1,rfl,⟨_,x,rfl,I.aW.fresh (bK _),rfl,λys hy=>by rw[I.vf hy hq];exact hx⟩,⟨⟨u,?_⟩,hit'.at λo q=>(sb.2 it (eW hne)).trans q,hne⟩,λb hb=>?_⟩
  .have e1:(((i+1:Nat):Int)+1)=((i:Nat)+1:Int)+1:=by omega
   rw[e1];exact he'
  .have hb':b<s.heap.objs.size:=by
    have e':b=e\/b=it:=by simpa using hb
    rcases e' with z|z
    .rw[z];exact hel
    .rw[z];exact hil
   rw[aI (dM hb')];exact(hf b hb).1
 done:=by
  intro X hP hw hK hc i pins s σ H E I hf st hg;subst hP hw hK;obtain⟨⟨old,he⟩,hit,hne⟩:=st;obtain⟨xs,hq,hx⟩:=hg;obtain⟨its,rv,p,hz⟩:=I.list hq;obtain⟨f0,f1,f2,f3,f4,f5⟩:=hf it (by simp)
  have hl:=rv.length;have nai:a≠it:=λz=>by
   obtain⟨o1,g1,c1,y⟩:=p.isList;obtain⟨o2,g2,c2,y⟩:=hit;rw[z,g2]at g1;cases g1;rw[c2]at c1;exact absurd c1 (by decide)
  obtain⟨o2,g2,c2,d2⟩:=id hit;have hT:s.TypeIs (.ref e) "enumerate":=⟨_,he,rfl⟩;unfold iS;refine az (zU (zV (name:=rf "__next__") hT F.slot_enumerate_next (pL F.slot_enumerate_next hT F.entry_enumerate_next ?_ (F.args_enumerate_next_1 _))));show aJ _ _ (field (.ref e) 2>>= _) _ _ _;refine az (z0 he rfl (x:=.ref it) rfl (az ?_));refine wpAny_nextOf_list_end (A:=X.A.in1) (I.ok.hd hc) hit p.isList (by simp;omega) λh' x eb hx'=>?_
  obtain⟨o,ho,hc'⟩:=hx';refine az (Nz (T:="StopIteration") (b:=true) ⟨o,ho,hc'⟩ NA ?_);exact br ⟨rfl,I.turned (t':=s.toks) (λb o hb q=>eb b o hb q) f0 f1 f3 f4 f5⟩
 self:=λA i s Q E st h=>let⟨⟨_,he⟩,_⟩:=st;FF he h
def Ri(K:aU)(te:TE):TI:=λσ H R=>te σ H λv H1=>∃a xs,v=.ref a/\aj K H1 a xs/\R (BL K a) H1
theorem VO{p kp cp:cI}{kk j:Nat}(hg:Gl X "enumerate")(hm:X.mg "enumerate"=none)(he:PE X e te)(hs:cn [e] X.env=[(false,bP e X.env)]:=by rfl):PI X (.Tuple elts kk tpos) (.Call (.Name "enumerate" p) [e] [⟨some "start",.Constant (.int 1) j cp,kp⟩] pos) (Ri X.K te):=by
 intro pins s σ H R I h;refine qT (o3 I hg hm ZE ?_);rw[hs];refine Xr (env:=X.env) (qS (bf (he pins s σ H _ I h) λu s1 ⟨v,H1,I1,r1,a,xs,ev,hq,q⟩=>qR ?_));subst ev;obtain rfl:u=cV a:=r1;refine NN (env:=X.env) (YT (NO (env:=X.env) ?_));obtain⟨its,rv,p',hz⟩:=I1.list hq;have I1':=I1.tok (s1.toks+1);refine VZ (s:={s1 with toks:=s1.toks+1}) p'.isList λh' he hit hk=>FF he ?_
 have I2:Inv X pins σ H1 {s1 with heap:=h',toks:=s1.toks+1}:=I1.kept hk
 refine⟨s1.heap.objs.size+1,[s1.heap.objs.size+1,s1.heap.objs.size],_,_,H1,rfl,I2,UY a (s1.heap.objs.size+1) s1.heap.objs.size,⟨⟨.none,he⟩,hit,ZF _⟩,λb hb=>?_,q⟩;have e':b=s1.heap.objs.size+1\/b=s1.heap.objs.size:=by simpa using hb
 have hle:s1.heap.objs.size<=b:=by
  rcases e' with z|z
  .rw[z];exact wu _ _
  .rw[z];exact bK _
 exact I1.oy hle (I1.aW.fresh hle)
def UA(K:aU):V->List V->Hp->VK->Prop:=λx vs H Q=>∃(a:aa)(ns:List Int)(k:Int),x=V.ref a/\vs=[.int k]/\aj K H a (ns.map V.int)/\Q (.int (ns.count k:Nat)) H
theorem Pp:qe X "list.count" (UA X.K):=by
 intro pins s σ H x vs u us Q I rx rv h;obtain⟨a,ns,k,rfl,rfl,hs,q⟩:=h;obtain⟨its,r,hl,z⟩:=I.list hs;obtain rfl:u=cV a:=rx;obtain⟨u1,rfl,t,rfl⟩:=bD.one rv;exact count_list_ints hl.isList r.ints ⟨.int _,H,I.tok _,⟨_,rfl⟩,q⟩
theorem GL{f:Nat->V}:∀(its:List af)(i:Nat),(∀j v,its[j]? =some v->RelV (f (i+j)) v)->bD ((Z0 i its.length).map f) its
 |[],_,_=>.nil
 |u::r,i,h=>.cons (by have:=h 0 u rfl;simpa using this) (GL r (i+1) λj v e=>by
  have:=h (j+1) v (by simpa using e)
  rwa [show i+(j+1)=i+1+j by omega]at this)
theorem Q1(hc:X.calm=true):iB X (.type "list") (λxs H Q=>∃(d:aa)(kvs:List (Key×V)),xs=[.ref d]/\Rd H d (.dK kvs)/\∀l,H l=none->Q (.ref l) (upd H l (.lst (kvs.map λp=>kV p.1)))):=by
 intro pins s σ H xs us Q I r h;obtain⟨d,kvs,rfl,hd,q⟩:=h;obtain⟨u,rfl,rx⟩:=vals1 r;cases rx;obtain⟨z,lo,vs,rel,dd⟩:=nN I.aW hd;obtain⟨ep,hat⟩:=dd.dictAt;have ln:kvs.length=vs.length:=Paired.length rel;refine PySem.W.kdl_call (PySem.W.kdl_dict (knd:=fX X.prog X.w) (kvs:=vs) (ep:=ep) lo) (I.ok.hd hc) hat (by rw[<-ln];exact z) λh' tk acc c kp hD hacc=>?_
 have hv:bD (kvs.map λp=>kV p.1) acc.toList:=by
  have e1:kvs.map (λp=>kV p.1)=(Z0 0 acc.toList.length).map (λj=>((kvs[j]?).map λp=>kV p.1).getD .bI):=by
   have ea:acc.toList.length=kvs.length:=by rw[mr,hacc.1,ln]
   rw[ea];refine EK λj=>?_;rw[bz,bz];by_cases hj:j<kvs.length
   .rw[bH hj,bH (by rw[Z1];exact hj)]
    simp[hj]
   .rw[nX (by omega),nX (by rw[Z1];omega)]
    rfl
  rw[e1];refine GL _ 0 λj v e=>?_;rw[Nat.zero_add];obtain⟨k,x,hx,hk⟩:=hacc.2 j v (by rw[<-Zk];exact e)
  have hj:j<kvs.length:=by rw[ln];exact(cN.mp hx).1
  obtain⟨b,hb,e1,e2⟩:=A8 rel (bH hj);rw[hx]at hb;cases hb;rw[bH hj];show RelV (kV kvs[j].1) v;rw[e1];rcases lJ (show mJ k v=true from hk)with⟨i,t,rfl,rfl⟩|⟨y,t,rfl,rfl⟩
  .exact⟨_,rfl⟩
  .exact⟨_,rfl⟩
 refine⟨.ref s.heap.objs.size,_,I.laid (t':=tk) kp (bK _) (show dF X.prog X.w _ h' _ (.lst (kvs.map λp=>kV p.1)) from⟨by rw[aA];exact z,acc.toList,c,hv,hD⟩),rfl,q _ (I.aW.fresh (bK _))⟩
open PySem.W (WData Codec OpenSpec Well WellAll ReadsW ReadsAllW)
mutual
inductive Dw (K:aU) (H:Hp):V->WData->Prop
 |bI:Dw K H .bI .none
 |bl (b:Bool):Dw K H (.bl b) (.bool b)
 |int (i:Int):Dw K H (.int i) (.int i)
 |str (x:ae):Dw K H (.str x) (.str x)
 |iI (b:Array UInt8):Dw K H (.iI b) (.bytes b.toList)
 |lst {a:aa} {xs:List V} {ds:List WData}:aj K H a xs->lh K H xs ds->Dw K H (.ref a) (.list ds)
 |tup {a:aa} {xs:List V} {ds:List WData}:cv K H a xs->lh K H xs ds->Dw K H (.ref a) (.tuple ds)
inductive lh (K:aU) (H:Hp):List V->List WData->Prop
 |nil:lh K H [] []
 |cons {v:V} {vs:List V} {d:WData} {ds:List WData}:Dw K H v d->lh K H vs ds->lh K H (v::vs) (d::ds)
end
theorem Kn{K:aU}{H:Hp}:∀ns:List Int,lh K H (ns.map V.int) (ns.map WData.int)
 |[]=>.nil
 |n::r=>.cons (.int n) (Kn r)
theorem KI{K:aU}{H:Hp}:∀(ns:List Int)(xs:List V),lh K H xs (ns.map WData.int)->xs=ns.map V.int
 |[],xs,h=>by
  cases h;rfl
 |n::r,xs,h=>by
  cases h with
  |cons h1 h2=>
   cases h1;rw[KI r _ h2]<;>rfl
section
variable{R:Z2}{cl:ae->Option aa}
theorem O5(aW:c8 P w H h)(KX:K.In h)(q:aj K H a xs):∃(its:List af)(o:bc)(n:Nat),bD xs its/\h.get? a=some o/\o.cls=.type "list"/\o.data=.seq its.toArray n:=by
 rcases q with q|⟨o,its,n,e,hc,_,hd,_,hv⟩
 .obtain⟨z,its,n,hv,e⟩:=(show dF P w H h a (.lst xs) from q.ok aW)
  exact⟨its,_,n,hv,e,rfl,rfl⟩
 .exact⟨its.toList,o,n,hv,KX _ _ e,hc,by simp[hd]⟩
theorem XM(aW:c8 P w H h)(KX:K.In h)(q:cv K H a xs):∃(its:List af)(o:bc)(n:Nat),bD xs its/\h.get? a=some o/\o.cls=.type "tuple"/\o.data=.seq its.toArray n:=by
 rcases q with q|⟨o,its,n,e,hc,hd,_,hv⟩
 .obtain⟨z,its,hv,o,e,hc,n,hd⟩:=(show dF P w H h a (.tup xs) from q.ok aW)
  exact⟨its,o,n,hv,e,hc,hd⟩
 .exact⟨its.toList,o,n,hv,KX _ _ e,hc,by simp[hd]⟩
mutual
theorem Dw.reads(aW:c8 P w H h)(KX:K.In h):∀(d:WData)(v:V)(u:af),Dw K H v d->RelV v u->∃as,ReadsW R cl h u d as
 | .none,_,_,x,r=>by
  cases x;cases r;exact⟨_,ReadsW.none⟩
 | .bool b,_,_,x,r=>by
  cases x;cases r;exact⟨_,ReadsW.bool b⟩
 | .int i,_,_,x,r=>by
  cases x;obtain⟨t,rfl⟩:=r;exact⟨_,ReadsW.int i t⟩
 | .str s,_,_,x,r=>by
  cases x;obtain⟨t,rfl⟩:=r;exact⟨_,ReadsW.str s t⟩
 | .bytes b,_,_,x,r=>by
  cases x;obtain⟨t,rfl⟩:=r;exact⟨_,ReadsW.bytes _ t⟩
 | .list ds,_,_,x,r=>by
  cases x with
  |lst hs ha=>
   cases r;obtain⟨its,o,n,rv,ho,hc,hd⟩:=O5 aW KX hs;obtain⟨as,hr⟩:=Dw.readsAll aW KX ds _ its ha rv;exact⟨_,ReadsW.list ho hc hd hr⟩
 | .tuple ds,_,_,x,r=>by
  cases x with
  |tup hs ha=>
   cases r;obtain⟨its,o,n,rv,ho,hc,hd⟩:=XM aW KX hs;obtain⟨as,hr⟩:=Dw.readsAll aW KX ds _ its ha rv;exact⟨_,ReadsW.tuple ho hc hd hr⟩
 | .float _,_,_,x,_=>by cases x
 | .dict _,_,_,x,_=>by cases x
 | .bytearray _,_,_,x,_=>by cases x
 | .set _,_,_,x,_=>by cases x
 | .frozenset _,_,_,x,_=>by cases x
 | .obj _ _,_,_,x,_=>by cases x
theorem Dw.readsAll(aW:c8 P w H h)(KX:K.In h):∀(ds:List WData)(vs:List V)(us:List af),lh K H vs ds->bD vs us->∃as,ReadsAllW R cl h us ds as
 |[],_,_,x,r=>by
  cases x;cases r;exact⟨_,ReadsAllW.nil⟩
 |d::ds,_,_,x,r=>by
  cases x with
  |cons h1 h2=>
   cases r with
   |cons r1 r2=>
    obtain⟨as,q1⟩:=Dw.reads aW KX d _ _ h1 r1;obtain⟨bs,q2⟩:=Dw.readsAll aW KX ds _ _ h2 r2;exact⟨_,ReadsAllW.cons q1 q2⟩
end
end
mutual
def jI:WData->Bool
 | .none=>true
 | .bool _=>true
 | .int _=>true
 | .str _=>true
 | .bytes _=>true
 | .list xs=>k9 xs
 | .tuple xs=>k9 xs
 |_=>false
def k9:List WData->Bool
 |[]=>true
 |x::r=>jI x&&k9 r
end
theorem F5{α:Type}{f:α->WData}(h:∀a,jI (f a)=true):∀l:List α,k9 (l.map f)=true
 |[]=>rfl
 |x::r=>by
  show(jI (f x)&&k9 (r.map f))=true;rw[h x,F5 h r]<;>rfl
theorem oH:∀(c:Codec)(a:c.denote),jI (c.enc a)=true
 | .unit,_=>rfl
 | .bool,_=>rfl
 | .int _ _,_=>rfl
 | .nat _ _,_=>rfl
 | .u8,_=>rfl
 | .bytes _ _,_=>rfl
 | .text _ _ _ _,_=>rfl
 | .list _ _ c,a=>F5 (λx=>oH c x) a
 | .pair c d,a=>by
  show(jI (c.enc a.1)&&(jI (d.enc a.2)&&true))=true;rw[oH c a.1,oH d a.2]<;>rfl
 | .triple c d e,a=>by
  show(jI (c.enc a.1)&&(jI (d.enc a.2.1)&&(jI (e.enc a.2.2)&&true)))=true;rw[oH c a.1,oH d a.2.1,oH e a.2.2]<;>rfl
 | .option c,none=>rfl
 | .option c,some x=>oH c x
theorem Hd:∀(cs:List Codec)(a:Codec.denoteAll cs),k9 (Codec.encAll cs a)=true
 |[],_=>rfl
 |c::cs,a=>by
  show(jI (c.enc a.1)&&k9 (Codec.encAll cs a.2))=true;rw[oH c a.1,Hd cs a.2]<;>rfl
theorem Eh:∀{xs:List WData}{d:WData},d∈xs->d.weight<=WData.weightAll xs
 |[],d,h=>absurd h (by simp)
 |x::r,d,h=>by
  show d.weight<=x.weight+1+WData.weightAll r;rcases bM.mp h with e|m
  .rw[e]
   omega
  .have z:=Eh m
   omega
def toV:af->V
 | .none=>.bI
 | .bool b=>.bl b
 | .int i _=>.int i
 | .str x _=>.str x
 | .bytes b _=>.iI b
 | .ref a=>.ref a
 |_=>.bI
def kf(A:List aa):af->Prop
 | .none=>True
 | .bool _=>True
 | .int _ _=>True
 | .str _ _=>True
 | .bytes _ _=>True
 | .ref a=>a∈A
 |_=>False
theorem kf.mono{A B:List aa}(h:∀a∈A,a∈B):∀{u:af},kf A u->kf B u:=λ{u} x=>by
 cases u with
 |ref a=>exact h a x
 |none=>trivial
 |bool b=>trivial
 |int i t=>trivial
 |str s t=>trivial
 |bytes b t=>trivial
 |_=>exact jd x
theorem Ot{A:List aa}(x:kf A u):RelV (toV u) u:=by
 cases u with
 |ref a=>rfl
 |none=>rfl
 |bool b=>rfl
 |int i t=>exact⟨t,rfl⟩
 |str s t=>exact⟨t,rfl⟩
 |bytes b t=>exact⟨t,rfl⟩
 |_=>exact jd x
theorem su{A:List aa}:∀{vs:List af},(∀u∈vs,kf A u)->bD (vs.map toV) vs
 |[],_=>.nil
 |u::r,h=>.cons (Ot (h u (gF ..))) (su λx hx=>h x (b8 _ hx))
def kR(h:a9)(A:List aa)(a:aa):Prop:=∃vs:List af,vs.length<=sizeLine/\(∀u∈vs,kf A u)/\
 (h.get? a=some {cls:=.type "list",data:=.seq vs.toArray}\/h.get? a=some {cls:=.type "tuple",data:=.seq vs.toArray})
theorem kR.mono{A B:List aa}(k:∀a∈A,a∈B)(x:kR h A a):kR h B a:=by
 obtain⟨vs,h1,h2,h3⟩:=x;exact⟨vs,h1,λu hu=>(h2 u hu).mono k,h3⟩
theorem y6{P:gO}{h:a9}:∀{vs:List af}{ds:List WData},WellAll P h vs ds->vs.length=ds.length
 |_,_,.nil=>rfl
 |_,_,.cons _ b=>by
  show _+1=_+1;rw[y6 b]
theorem Me{P:gO}{v:af}{ds:List WData}(x:Well P h v (.list ds)):∃(a:aa)(vs:List af),v=.ref a/\h.get? a=some {cls:=.type "list",data:=.seq vs.toArray}/\WellAll P h vs ds:=by
 cases x with
 |list ho hall=>exact⟨_,_,rfl,ho,hall⟩
theorem Hl{P:gO}{v:af}{ds:List WData}(x:Well P h v (.tuple ds)):∃(a:aa)(vs:List af),v=.ref a/\h.get? a=some {cls:=.type "tuple",data:=.seq vs.toArray}/\WellAll P h vs ds:=by
 cases x with
 |tuple ho hall=>exact⟨_,_,rfl,ho,hall⟩
theorem G3{P:gO}{d:WData}{ds:List WData}(x:WellAll P h us (d::ds)):∃(v:af)(vs:List af),us=v::vs/\Well P h v d/\WellAll P h vs ds:=by
 cases x with
 |cons a b=>exact⟨_,_,rfl,a,b⟩
theorem HK(h:n<=1048576):n<=sizeLine:=fi h (by decide)
section
variable{P:gO}
mutual
theorem XA:∀(d:WData)(v:af),Well P h v d->jI d=true->d.weight<=1048576->∃A:List aa,kf A v/\∀a∈A,kR h A a
 | .none,_,x,_,_=>by
  cases x;exact⟨[],trivial,λa m=>absurd m (by simp)⟩
 | .bool b,_,x,_,_=>by
  cases x;exact⟨[],trivial,λa m=>absurd m (by simp)⟩
 | .int i,_,x,_,_=>by
  cases x;exact⟨[],trivial,λa m=>absurd m (by simp)⟩
 | .str s,_,x,_,_=>by
  cases x;exact⟨[],trivial,λa m=>absurd m (by simp)⟩
 | .bytes b,_,x,_,_=>by
  cases x;exact⟨[],trivial,λa m=>absurd m (by simp)⟩
 | .list ds,_,x,p,z=>by
  obtain⟨a,vs,rfl,ho,hall⟩:=Me x;have z2:WData.weightAll ds<=1048576:=z;obtain⟨A,h1,h2⟩:=zd ds _ hall p λd hd=>fi (Eh hd) z2;have k:∀b∈A,b∈a::A:=λb hb=>b8 _ hb;refine⟨a::A,gF ..,λb hb=>?_⟩;rcases bM.mp hb with e|m
  .rw[e]
   exact⟨vs,HK (by rw[y6 hall];exact fi (Z3 ds) z2),λu hu=>(h1 u hu).mono k,.inl ho⟩
  .exact(h2 b m).mono k
 | .tuple ds,_,x,p,z=>by
  obtain⟨a,vs,rfl,ho,hall⟩:=Hl x;have z2:WData.weightAll ds<=1048576:=z;obtain⟨A,h1,h2⟩:=zd ds _ hall p λd hd=>fi (Eh hd) z2;have k:∀b∈A,b∈a::A:=λb hb=>b8 _ hb;refine⟨a::A,gF ..,λb hb=>?_⟩;rcases bM.mp hb with e|m
  .rw[e]
   exact⟨vs,HK (by rw[y6 hall];exact fi (Z3 ds) z2),λu hu=>(h1 u hu).mono k,.inr ho⟩
  .exact(h2 b m).mono k
 | .float _,_,_,p,_=>lG (show false=true from p)
 | .dict _,_,_,p,_=>lG (show false=true from p)
 | .bytearray _,_,_,p,_=>lG (show false=true from p)
 | .set _,_,_,p,_=>lG (show false=true from p)
 | .frozenset _,_,_,p,_=>lG (show false=true from p)
 | .obj _ _,_,_,p,_=>lG (show false=true from p)
theorem zd:∀(ds:List WData)(vs:List af),WellAll P h vs ds->k9 ds=true->(∀d∈ds,d.weight<=1048576)->∃A:List aa,(∀u∈vs,kf A u)/\∀a∈A,kR h A a
 |[],_,x,_,_=>by
  cases x;exact⟨[],λu m=>absurd m (by simp),λa m=>absurd m (by simp)⟩
 |d::ds,_,x,p,z=>by
  obtain⟨v,vs,rfl,x1,x2⟩:=G3 x;have q:jI d=true/\k9 ds=true:=z4.mp p;obtain⟨A,a1,a2⟩:=XA d v x1 q.1 (z d (gF ..));obtain⟨B,b1,b2⟩:=zd ds vs x2 q.2 λe he=>z e (b8 _ he);have kA:∀b∈A,b∈A++B:=λb hb=>b6.mpr (.inl hb);have kB:∀b∈B,b∈A++B:=λb hb=>b6.mpr (.inr hb);refine⟨A++B,λu hu=>?_,λb hb=>?_⟩
  .rcases bM.mp hu with e|m
   .rw[e]
    exact a1.mono kA
   .exact(b1 u m).mono kB
  .rcases b6.mp hb with m|m
   .exact(a2 b m).mono kA
   .exact(b2 b m).mono kB
end
end
def yp(o:bc):Option HO:=match o.data with
 | .seq vs _=>if(o.cls==oh "list")=true then some (.bu o (.lst (vs.toList.map toV)))else some (.bu o (.tup (vs.toList.map toV)))
 |_=>none
def gV(K:aU)(h:a9)(A:List aa):Hp:=λb=>if b∈A then(if(K.lookup b).isNone=true then(h.get? b).bind yp else none)else none
def vp(H:Hp):Prop:=∀b,H b=none\/∃o u,H b=some (.bu o u)
theorem Hi(vs:List af):yp {cls:=.type "list",data:=.seq vs.toArray}=some (.bu {cls:=.type "list",data:=.seq vs.toArray} (.lst (vs.map toV))):=by
 show(if(oh "list"==oh "list")=true then some (HO.bu {cls:=.type "list",data:=.seq vs.toArray} (.lst (vs.toArray.toList.map toV)))else some (HO.bu {cls:=.type "list",data:=.seq vs.toArray} (.tup (vs.toArray.toList.map toV))))=_;rw[ay (beq_self_eq_true _)]
theorem Ko(vs:List af):yp {cls:=.type "tuple",data:=.seq vs.toArray}=some (.bu {cls:=.type "tuple",data:=.seq vs.toArray} (.tup (vs.map toV))):=by
 show(if(oh "tuple"==oh "list")=true then some (HO.bu {cls:=.type "tuple",data:=.seq vs.toArray} (.lst (vs.toArray.toList.map toV)))else some (HO.bu {cls:=.type "tuple",data:=.seq vs.toArray} (.tup (vs.toArray.toList.map toV))))=_;rw[aq (by decide)]
section
variable{A:List aa}
theorem ya(hb:b∈A)(hk:K.lookup b=none)(e:h.get? b=some o):gV K h A b=yp o:=by
 unfold gV;rw[ay hb,hk,ay (show(none:Option bc).isNone=true from rfl),e]<;>rfl
theorem PV{u:HO}(q:gV K h A b=some u):b∈A/\K.lookup b=none:=by
 unfold gV at q;by_cases hb:b∈A
 .rw[ay hb]at q
  cases hk:K.lookup b with
  |none=>exact⟨hb,rfl⟩
  |some o=>
   rw[hk,aq (by simp)]at q
   cases q
 .rw[aq hb]at q
  cases q
theorem ze(ar:∀a∈A,kR h A a){u:HO}(q:gV K h A b=some u):K.lookup b=none/\∃vs:List af,vs.length<=sizeLine/\(∀u∈vs,kf A u)/\((h.get? b=some {cls:=.type "list",data:=.seq vs.toArray}/\u=.bu {cls:=.type "list",data:=.seq vs.toArray} (.lst (vs.map toV)))\/(h.get? b=some {cls:=.type "tuple",data:=.seq vs.toArray}/\u=.bu {cls:=.type "tuple",data:=.seq vs.toArray} (.tup (vs.map toV)))):=by
 obtain⟨hb,hk⟩:=PV q;obtain⟨vs,h1,h2,h3⟩:=ar b hb;refine⟨hk,vs,h1,h2,?_⟩;rcases h3 with e|e
 .rw[ya hb hk e,Hi]at q
  exact .inl ⟨e,(dQ q).symm⟩
 .rw[ya hb hk e,Ko]at q
  exact .inr ⟨e,(dQ q).symm⟩
theorem Wm(ar:∀a∈A,kR h A a):vp (gV K h A):=λb=>by
 cases q:gV K h A b with
 |none=>exact .inl rfl
 |some u=>
  obtain⟨z,vs,z,z,⟨z,e⟩|⟨z,e⟩⟩:=ze ar q
  .exact .inr ⟨_,_,by rw[e]⟩
  .exact .inr ⟨_,_,by rw[e]⟩
theorem Q6(ar:∀a∈A,kR h A a):c8 P w (gV K h A) h:=λb u q=>by
 obtain⟨z,vs,h1,h2,⟨e,rfl⟩|⟨e,rfl⟩⟩:=ze ar q
 .exact⟨e,by rw[aA];exact h1,vs,_,su h2,e⟩
 .exact⟨e,by rw[aA];exact h1,vs,su h2,_,e,rfl,_,rfl⟩
theorem xF{c c':af}{vs:List af}(e:(some {cls:=c,data:=.seq vs.toArray}:Option bc)=some {cls:=c',data:=.seq us.toArray}):c=c'/\vs=us:=by
 have e1:=dQ e;have e2:c=c':=cq Obj.cls e1;have e3:FK vs.toArray=FK us.toArray:=cq Obj.data e1;injection e3 with e4
 refine⟨e2,?_⟩;have e5:=cq M2 e4;simpa using e5
theorem O8(KX:K.In h)(ar:∀a∈A,kR h A a){vs:List af}(ha:a∈A)(e:h.get? a=some {cls:=.type "list",data:=.seq vs.toArray}):(∀u∈vs,kf A u)/\aj K (gV K h A) a (vs.map toV):=by
 obtain⟨us,h1,h2,h3⟩:=ar a ha;have hu:us=vs:=by
  rcases h3 with q|q
  .rw[e]at q
   exact(xF q).2.symm
  .rw[e]at q
   exact absurd (Z4 (xF q).1) (by decide)
 subst hu;refine⟨h2,?_⟩;cases hk:K.lookup a with
 |none=>exact .inl (.inr ⟨_,by rw[ya ha hk e,Hi]⟩)
 |some o=>
  have e2:=KX a o hk;rw[e]at e2;obtain rfl:=dQ e2;exact .inr ⟨_,us.toArray,_,hk,rfl,rfl,rfl,by rw[fj];exact h1,by simpa using su h2⟩
theorem XJ(KX:K.In h)(ar:∀a∈A,kR h A a){vs:List af}(ha:a∈A)(e:h.get? a=some {cls:=.type "tuple",data:=.seq vs.toArray}):(∀u∈vs,kf A u)/\cv K (gV K h A) a (vs.map toV):=by
 obtain⟨us,h1,h2,h3⟩:=ar a ha;have hu:us=vs:=by
  rcases h3 with q|q
  .rw[e]at q
   exact absurd (Z4 (xF q).1) (by decide)
  .rw[e]at q
   exact(xF q).2.symm
 subst hu;refine⟨h2,?_⟩;cases hk:K.lookup a with
 |none=>exact .inl (.inr ⟨_,by rw[ya ha hk e,Ko]⟩)
 |some o=>
  have e2:=KX a o hk;rw[e]at e2;obtain rfl:=dQ e2;exact .inr ⟨_,us.toArray,_,hk,rfl,rfl,by rw[fj];exact h1,by simpa using su h2⟩
mutual
theorem WQ{Pm:gO}(KX:K.In h)(ar:∀a∈A,kR h A a):∀(d:WData)(v:af),Well Pm h v d->jI d=true->kf A v->Dw K (gV K h A) (toV v) d
 | .none,_,x,_,_=>by
  cases x;exact .bI
 | .bool b,_,x,_,_=>by
  cases x;exact .bl b
 | .int i,_,x,_,_=>by
  cases x;exact .int i
 | .str s,_,x,_,_=>by
  cases x;exact .str s
 | .bytes b,_,x,_,_=>by
  cases x;have z:=Dw.iI (K:=K) (H:=gV K h A) b.toArray;exact z
 | .list ds,_,x,p,hu=>by
  obtain⟨a,vs,rfl,ho,hall⟩:=Me x;obtain⟨h2,hs⟩:=O8 KX ar hu ho;exact .lst hs (wX KX ar ds _ hall p h2)
 | .tuple ds,_,x,p,hu=>by
  obtain⟨a,vs,rfl,ho,hall⟩:=Hl x;obtain⟨h2,hs⟩:=XJ KX ar hu ho;exact .tup hs (wX KX ar ds _ hall p h2)
 | .float _,_,_,p,_=>lG (show false=true from p)
 | .dict _,_,_,p,_=>lG (show false=true from p)
 | .bytearray _,_,_,p,_=>lG (show false=true from p)
 | .set _,_,_,p,_=>lG (show false=true from p)
 | .frozenset _,_,_,p,_=>lG (show false=true from p)
 | .obj _ _,_,_,p,_=>lG (show false=true from p)
theorem wX{Pm:gO}(KX:K.In h)(ar:∀a∈A,kR h A a):∀(ds:List WData)(vs:List af),WellAll Pm h vs ds->k9 ds=true->(∀u∈vs,kf A u)->lh K (gV K h A) (vs.map toV) ds
 |[],_,x,_,_=>by
  cases x;exact .nil
 |d::ds,_,x,p,hu=>by
  obtain⟨v,vs,rfl,x1,x2⟩:=G3 x;have q:jI d=true/\k9 ds=true:=z4.mp p;exact .cons (WQ KX ar d v x1 q.1 (hu _ (gF ..))) (wX KX ar ds vs x2 q.2 λu m=>hu u (b8 _ m))
end
end
theorem Vb{mb:ae->Option af}{k:Nat}{fa:aa}{sp:Sp}{s₁:aC}{vals:List af}{ds:List WData}{R:Z2}{cl:ae->Option aa}{d0:WData}(KX:K.In s₁.heap)(hns:s₁.heap.Ns iD mg)(hb:s₁.heap.Ns MX mb)(hbb:∀x:ae,x≠"__name__"->mb x=vW x)(hlim:s₁.heap.NoLimit)(hg:s₁.gens=#[])(hwl:WellAll w.params s₁.heap vals ds)(hpl:k9 ds=true)(hwt:∀d∈ds,d.weight<=1048576)(hr:c6 k wA)(F:∀base:a9,K.In base->base.Ns iD mg->eO P w K mg base CX k fa fd ps sp)(hbind:∀(s:aC)(us:List af),us.length=ps.length->wa s fd ⟨us,[]⟩ (ps.zip us))(hlen:ds.length=ps.length)(hsp:∀(H:Hp)(xs:List V),vp H->lh K H xs ds->sp xs H (λv H'=>Dw K H' v d0) λ_ _ _=>False)(hCX:∀H e s',CX [] H s₁ (λ_ _ _=>False) e s'->False):mo (ba P w) wA (.call (.ref fa) ⟨vals,[]⟩) (λr s'=>∃u as,r=.ok (.ret u)/\ReadsW R cl s'.heap u d0 as/\OldK s₁.heap s'.heap/\s'.os=s₁.os/\pH s'.gens) s₁:=by
 obtain⟨A,ho,ar⟩:=zd ds vals hwl hpl hwt;have hO:vp (gV K s₁.heap A):=Wm ar;have aW:c8 P w (gV K s₁.heap A) s₁.heap:=Q6 ar;have hS:=wX KX ar ds vals hwl hpl ho;have hV:=su ho;have hK:∀b u,gV K s₁.heap A b=some u->K.lookup b=none:=λb u q=>(ze ar q).1;have noA:∀{b:aa}{o:bc}{es:Array iO}{ep:Nat},s₁.heap.get? b=some o->o.data=.dict es ep->gV K s₁.heap A b=none:=λ{b o es ep} e d=>by
  cases q:gV K s₁.heap A b with
  |none=>rfl
  |some u=>
   obtain⟨_,vs,_,_,⟨e2,_⟩|⟨e2,_⟩⟩:=ze ar q
   .rw[e2]at e
    cases e;have d':FK vs.toArray _=Z5 es ep:=d;cases d'
   .rw[e2]at e
    cases e;have d':FK vs.toArray _=Z5 es ep:=d;cases d'
 generalize gV K s₁.heap A=H at hO aW hS hK noA;have base_of:∀{b:aa}{o:bc},s₁.heap.get? b=some o->H b=none->(nG s₁.heap H).get? b=some o:=λe n=>Pd e n;have nsK:∀{b:aa}{m:ae->Option af},s₁.heap.Ns b m->(nG s₁.heap H).Ns b m:=λ{b m} ⟨o,es,ep,e,d,r⟩=>⟨o,es,ep,base_of e (noA e d),d,r⟩;have nK:∀b o,K.lookup b=some o->H b=none:=λb o e=>by
  cases q:H b with
  |none=>rfl
  |some u=>
   rw[hK b u q]at e;cases e
 have hKb:K.In (nG s₁.heap H):=λb o e=>base_of (KX b o e) (nK b o e);have hM:Mod K mg (nG s₁.heap H):=⟨hKb,nsK hns,⟨mb,nsK hb,hbb⟩,let⟨mc,h1,h2⟩:=hlim;⟨mc,nsK h1,h2⟩⟩;have e0:qg P w K mg (nG s₁.heap H) wA [] s₁ H:=⟨rfl,hM,λb o e=>PD e,Fb (Xp _ _),trivial,λb hb=>absurd (show b∈([]:List aa) from hb) (by simp),aW,.of_eq hg⟩
 have hl:vals.length=ps.length:=by rw[y6 hwl];exact hlen
 refine vU ((F _ hKb (nsK hns)).run wA [] s₁ H ⟨vals,[]⟩ vals (vals.map toV) _ _ hr e0 (hbind s₁ vals hl) hV (hsp H _ hO hS)) λr s' x=>?_;cases r with
 |error e=>exact(hCX H e s' x).elim
 |ok fl=>
  cases fl with
  |next=>exact jd x
  |brk=>exact jd x
  |cont=>exact jd x
  |ret u=>
   obtain⟨v,H',os,bare,un,hok',r',q⟩:=x;have kept:∀b o,s₁.heap.get? b=some o->s'.heap.get? b=some o:=λb o e=>by
    cases q2:H b with
    |none=>exact un.keep b o e q2 (by intro z;exact absurd (show b∈([]:List aa) from z) (by simp)) (by simp)
    |some u2=>
     rcases hO b with z|⟨ob,u3,z⟩
     .rw[q2]at z
      cases z
     .have z2:=un.kg b ob _ z
      obtain⟨e1,_⟩:=aW b _ z;obtain⟨e2,_⟩:=hok' b _ z2;rw[e]at e1;cases e1;exact e2
   have KX':K.In s'.heap:=λb o e=>kept b o (KX b o e);obtain⟨as,hrd⟩:=Dw.reads (R:=R) (cl:=cl) hok' KX' d0 v u q r';exact⟨u,as,rfl,hrd,OldK.of_keep kept,os,bare⟩
theorem Ym{ds:List WData}(h:WData.layableAll ds=true):∀d∈ds,d.weight<=1048576:=λd hd=>(PySem.W.layableW_iff.mp (fE.mp h d hd)).2.2
theorem JX:∀(cs:List Codec)(a:Codec.denoteAll cs),(Codec.encAll cs a).length=cs.length
 |[],_=>rfl
 |c::cs,a=>by
  show(Codec.encAll cs a.2).length+1=cs.length+1;rw[JX cs a.2]
theorem UZ{r:OpenSpec}{k:Nat}{q:bA}{loose:List ae}{XP:(ae->Option af)->a9->Prop}{YP:bB->a9->Prop}{d:DefRec}{K:gO->aU}{CX:bB->e8}{sp:bB->Sp}(hwell:r.wellSaid=true)(hdf:d.params.defaults=[])(hlen:r.args.length=ps.length)(hr:c6 k wA)(hY:∀(w:bB)(h:a9),YP w h->(K w.params).In h)(F:∀(w:bB)(mg:ae->Option af)(fa:aa)(h:a9),YP w h->(K w.params).In h->h.Ns iD mg->mg d.name=some (.ref fa)->∃fd:fP,(∀(s:aC)(us:List af),us.length=ps.length->wa s fd ⟨us,[]⟩ (ps.zip us))/\∀base:a9,(K w.params).In base->base.Ns iD mg->eO r.prog w (K w.params) mg base (CX w) k fa fd ps (sp w))(hsp:∀(w:bB)(H:Hp)(xs:List V)(a:Codec.denoteAll r.args),vp H->Codec.withinAll r.args a=true->Codec.app r.args r.asked a=true->lh (K w.params) H xs (Codec.encAll r.args a)->sp w xs H (λv H'=>Dw (K w.params) H' v (r.ret.enc (Codec.app r.args r.f a))) λy y y=>False)(hCX:∀(w:bB)(H:Hp)(s:aC)(e:af)(s':aC),CX w [] H s (λy y y=>False) e s'->False):Z6 q loose XP YP r d [] (λf vs=>fO f vs):=by
 intro w gg s₁ mg mb G Y fa o pm cd doc dV kV ho hd hcd hD hmg hg args vals as hpre hlay hrd hwl hlo;obtain⟨a,e1,e2⟩:=PySem.W.os_pre_some hpre;obtain⟨e3,hwi⟩:=Codec.encAll_of_decAll r.args args a e1;subst e3;have KX:=hY w _ Y;obtain⟨fd,hb,hF⟩:=F w mg fa _ Y KX G.T.g hmg;refine PySem.W.enter_call (vU (Vb (R:=[]) (cl:=classAt gg.heap) (d0:=r.ret.enc (Codec.app r.args r.f a)) KX G.T.g G.T.b G.T.builtins G.T.nolimit hg hwl (Hd _ _) (Ym hlay) hr hF hb (by rw[JX];exact hlen) (λH xs hO hS=>hsp w H xs a hO hwi e2 hS) λH e s'=>hCX w H s₁ e s') λr' s' hq=>?_)
 obtain⟨u,as',rfl,h1,h2,h3,h4⟩:=hq;exact⟨.inl ⟨u,_,as',rfl,λy=>rfl,h1,(OpenSpec.post_iff hwell hwi _ _).mpr rfl,λz=>lG (show false=true from z)⟩,h2,h3,h4⟩
theorem Qr{r:OpenSpec}{k:Nat}{q:bA}{loose:List ae}{XP:(ae->Option af)->a9->Prop}{YP:bB->a9->Prop}{d:DefRec}{K:gO->aU}{sp:aU->Sp}(hwell:r.wellSaid=true)(hdf:d.params.defaults=[])(hlen:r.args.length=ps.length)(hr:c6 k wA)(hY:∀(w:bB)(h:a9),YP w h->(K w.params).In h)(F:∀(w:bB)(mg:ae->Option af)(fa:aa)(h:a9),YP w h->(K w.params).In h->h.Ns iD mg->mg d.name=some (.ref fa)->∃fd:fP,(∀(s:aC)(us:List af),us.length=ps.length->wa s fd ⟨us,[]⟩ (ps.zip us))/\∀base:a9,(K w.params).In base->base.Ns iD mg->eO r.prog w (K w.params) mg base CX k fa fd ps (sp (K w.params)))(hsp:∀(K:aU)(H:Hp)(xs:List V)(a:Codec.denoteAll r.args),vp H->Codec.withinAll r.args a=true->Codec.app r.args r.asked a=true->lh K H xs (Codec.encAll r.args a)->sp K xs H (λv H'=>Dw K H' v (r.ret.enc (Codec.app r.args r.f a))) λz z z=>False)(hCX:∀(H:Hp)(s:aC)(e:af)(s':aC),CX [] H s (λz z z=>False) e s'->False):Z6 q loose XP YP r d [] (λf vs=>fO f vs):=UZ (K:=K) (CX:=λz=>CX) (sp:=λw=>sp (K w.params)) hwell hdf hlen hr hY F (λw H xs a h1 h2 h3 h4=>hsp (K w.params) H xs a h1 h2 h3 h4) λz H s e s'=>hCX H s e s'
structure Over(J:It)(n:Nat)(C:Hp->Prop)(Y:Nat->Hp->V->Hp->Prop):Prop where
 go:∀i H,C H->i<n->J.go i H
 stop:∀i H,C H->n<=i->J.stop i H
 m7:∀i H x H',C H->i<n->J.m7 i H x H'->Y i H x H'
theorem fJ:Over (Ah K a) xs.length (λH=>aj K H a xs) (λi H x H'=>H'=H/\xs[i]? =some x):=⟨λi H c h=>⟨xs,xs[i],c,by simp[h]⟩,λi H c h=>⟨xs,c,h⟩,λi H x H' c h y=>⟨y.1,y.2 xs c⟩⟩
theorem Ul:Over (C2 K a) xs.length (λH=>cv K H a xs) (λi H x H'=>H'=H/\xs[i]? =some x):=⟨λi H c h=>⟨xs,xs[i],c,by simp[h]⟩,λi H c h=>⟨xs,c,h⟩,λi H x H' c h y=>⟨y.1,y.2 xs c⟩⟩
theorem J8{lo:Int}:Over (xY lo n) n (λz=>True) (λi H x H'=>H'=H/\x=.int (lo+i)):=⟨λi H c h=>h,λi H c h=>h,λi H x H' c h y=>y⟩
theorem BU:Over (De x) x.cps.size (λz=>True) (λi H v H'=>H'=H/\∃c,x.cps[i]? =some c/\v=.str ⟨#[c]⟩):=⟨λi H c h=>h,λi H c h=>h,λi H x H' c h y=>y⟩
theorem t7{kvs:List (Key×V)}:Over (C0 d o kvs) kvs.length (λH=>H d=some (.bu o (.dK kvs))) (λi H x H'=>H'=H/\∃k v,kvs[i]? =some (k,v)/\x=kV k):=⟨λi H c h=>⟨c,h⟩,λi H c h=>⟨c,h⟩,λi H x H' c h y=>y⟩
theorem Eo{kvs:List (Key×V)}:Over (Ce d o kvs) kvs.length (λH=>H d=some (.bu o (.dK kvs))) (λi H x H'=>H'=H/\∃k,kvs[i]? =some (k,x)):=⟨λi H c h=>⟨c,h⟩,λi H c h=>⟨c,h⟩,λi H x H' c h y=>y⟩
theorem FZ{kvs:List (Key×V)}:Over (BD d o kvs) kvs.length (λH=>H d=some (.bu o (.dK kvs))) (λi H x H'=>∃T k v,kvs[i]? =some (k,v)/\x=.ref T/\H T=none/\H'=upd H T (.tup [kV k,v])):=⟨λi H c h=>⟨c,h⟩,λi H c h=>⟨c,h⟩,λi H x H' c h y=>y⟩
theorem Jb:Over (CW d o kvs) kvs.length (λH=>H d=some (.bu o (.dT kvs))) (λi H x H'=>∃T q k v,kvs[i]? =some (k,v)/\H q=some (.tup (k.map kV))/\x=.ref T/\H T=none/\H'=upd H T (.tup [.ref q,v])):=⟨λi H c h=>⟨c,h⟩,λi H c h=>⟨c,h⟩,λi H x H' c h y=>y⟩
theorem LN:Over (Ec K a) xs.length (λH=>aj K H a xs) (λi H v H'=>∃T x,v=.ref T/\H T=none/\H'=upd H T (.tup [.int (i:Nat),x])/\xs[i]? =some x):=⟨λi H c h=>⟨xs,xs[i],c,by simp[h]⟩,λi H c h=>⟨xs,c,h⟩,λi H x H' c h ⟨T,y,e1,e2,e3,e4⟩=>⟨T,y,e1,e2,e3,e4 xs c⟩⟩
theorem Q2:Over (BL K a) xs.length (λH=>aj K H a xs) (λi H v H'=>∃T x,v=.ref T/\H T=none/\H'=upd H T (.tup [.int ((i:Nat)+1),x])/\xs[i]? =some x):=⟨λi H c h=>⟨xs,xs[i],c,by simp[h]⟩,λi H c h=>⟨xs,c,h⟩,λi H x H' c h ⟨T,y,e1,e2,e3,e4⟩=>⟨T,y,e1,e2,e3,e4 xs c⟩⟩
theorem Dk{ys:List V}(h1:xs.length=n)(h2:ys.length=n):Over (Bt K a b) n (λH=>aj K H a xs/\aj K H b ys) (λi H v H'=>∃T x y,v=.ref T/\H T=none/\H'=upd H T (.tup [x,y])/\xs[i]? =some x/\ys[i]? =some y):=⟨λi H c h=>⟨xs,ys,xs[i]'(by omega),ys[i]'(by omega),c.1,c.2,by simp[show i<xs.length by omega],by simp[show i<ys.length by omega]⟩,λi H c h=>⟨xs,ys,c.1,c.2,.inl (by omega)⟩,λi H x H' c h ⟨T,u,v,e1,e2,e3,e4,e5⟩=>⟨T,u,v,e1,e2,e3,e4 xs c.1,e5 ys c.2⟩⟩
theorem rY{J:It}{C:Hp->Prop}{Y:Nat->Hp->V->Hp->Prop}{g:TG}{tt:TT}{vs:List Nat}{σ:St}{H1:Hp}{D:aa}{Qd:Hp->Prop}(O:Over J n C Y)(Pv:Nat->Hp->Prop)(h0:Pv 0 (upd H1 D (.lst [])))(hc:∀i H,i<=n->Pv i H->C H)(hs:∀i H x H',i<n->Pv i H->Y i H x H'->g x (wipe σ vs) H' λσ2 H2=>wipe σ2 vs=wipe σ vs/\tt σ2 H2 λb H3=>if b=true then te σ2 H3 λy H4=>∃acc,H4 D=some (.lst acc)/\acc.length<sizeLine/\Pv (i+1) (upd H4 D (.lst (acc++[y])))else Pv (i+1) H3)(hd:∀H,Pv n H->Qd H):∃W:Nat->Nat->Hp->Prop,(∃m,W 0 m (upd H1 D (.lst [])))/\∀i m H,W i m H->(J.stop i H/\Qd H)\/(J.go i H/\∃Nx:Hp->Prop,(∀H',Nx H'->∃m',m'<m/\W (i+1) m' H')/\∀x H',J.m7 i H x H'->g x (wipe σ vs) H' λσ2 H2=>wipe σ2 vs=wipe σ vs/\tt σ2 H2 λb H3=>if b=true then te σ2 H3 λy H4=>∃acc,H4 D=some (.lst acc)/\acc.length<sizeLine/\Nx (upd H4 D (.lst (acc++[y])))else Nx H3):=by
 refine⟨λi m H=>m=n - i/\i<=n/\Pv i H,⟨n,by simp,gp _,h0⟩,?_⟩
 rintro i m H ⟨rfl,hi,p⟩;have q:=hc i H hi p;by_cases hlt:i<n
 .exact .inr ⟨O.go i H q hlt,Pv (i+1),λH' p'=>⟨n - (i+1),by omega,rfl,hlt,p'⟩,λx H' y=>hs i H x H' hlt p (O.m7 i H x H' q hlt y)⟩
 .have e:i=n:=by omega
  subst e;exact .inl ⟨O.stop _ H q (bK _),hd H p⟩
theorem g0{J:It}{C:Hp->Prop}{Y:Nat->Hp->V->Hp->Prop}{g:TG}{tb:TS}{D:Ends}{σ:St}(O:Over J n C Y)(Pv:Nat->St->Hp->Prop)(h0:Pv 0 σ H)(hc:∀i σ H,i<=n->Pv i σ H->C H)(hs:∀i σ H x H',i<n->Pv i σ H->Y i H x H'->g x σ H' λσ2 H2=>tb {D with nx:=Pv (i+1),ct:=Pv (i+1),bk:=D.nx} σ2 H2)(hd:∀σ H,Pv n σ H->D.nx σ H):∃W:Nat->Nat->St->Hp->Prop,(∃m,W 0 m σ H)/\∀i m σ H,W i m σ H->(J.stop i H/\D.nx σ H)\/(J.go i H/\∃N:St->Hp->Prop,(∀σ' H',N σ' H'->∃m',m'<m/\W (i+1) m' σ' H')/\∀x H',J.m7 i H x H'->g x σ H' λσ2 H2=>tb {D with nx:=N,ct:=N,bk:=D.nx} σ2 H2):=by
 refine⟨λi m σ H=>m=n - i/\i<=n/\Pv i σ H,⟨n,by simp,gp _,h0⟩,?_⟩
 rintro i m σ H ⟨rfl,hi,p⟩;have q:=hc i σ H hi p;by_cases hlt:i<n
 .exact .inr ⟨O.go i H q hlt,Pv (i+1),λσ' H' p'=>⟨n - (i+1),by omega,rfl,hlt,p'⟩,λx H' y=>hs i σ H x H' hlt p (O.m7 i H x H' q hlt y)⟩
 .have e:i=n:=by omega
  subst e;exact .inl ⟨O.stop _ H q (bK _),hd σ H p⟩
theorem ak.new{p:aa}{o:HO}(h:H p=zY):ak H (upd H p o):=λb u e=>by rw[aI (cQ e h)];exact e
theorem ak.unlock{od:bc}{u:HO}(hd:H d=some u)(s:ak (upd H d (.bu od u)) H'):ak H (upd H' d u):=λb o e=>by
 by_cases hb:b=d
 .subst hb;rw[hd]at e;cases e;exact aR
 .rw[aI hb];exact s b o (by rw[aI hb];exact e)
def qr:HO->Prop
 | .dK _=>True
 | .dT _=>True
 |_=>False
theorem lQ{u:HO}(h:qr u):lL (some u):=by cases u<;>first|exact h.elim|exact dy
def fT(H:Hp)(a:aa)(o:HO):Prop:=H a=some o\/(qr o/\∃ob,H a=some (.bu ob o))
theorem fT.same{o:HO}(h:fT H a o)(s:ak H H'):fT H' a o:=by
 rcases h with h|⟨h1,ob,h2⟩
 .exact .inl (s _ _ h)
 .exact .inr ⟨h1,ob,s _ _ h2⟩
theorem fT.lock{o u:HO}(h:fT H a o)(hd:H d=some u)(du:qr u)(od:bc):fT (upd H d (.bu od u)) a o:=by
 by_cases e:a=d
 .subst e
  rcases h with h|⟨h1,ob,h2⟩
  .rw[hd]at h;cases h;exact .inr ⟨du,od,aR⟩
  .rw[hd]at h2;cases h2;exact du.elim
 .rcases h with h|⟨h1,ob,h2⟩
  .exact .inl (by rw[aI e];exact h)
  .exact .inr ⟨h1,ob,by rw[aI e];exact h2⟩
theorem fT.rd{o:HO}(h:fT H a o):Rd H a o:=by
 rcases h with h|⟨h1,ob,h2⟩
 .exact .inl h
 .exact .inr ⟨ob,h2⟩
theorem fT.is{o:HO}(h:fT H a o)(n:qr o->False):H a=some o:=by
 rcases h with h|⟨h1,_⟩
 .exact h
 .exact(n h1).elim
theorem fT.HN{kvs:List (Key×V)}(h:fT H a (.dK kvs)):rN H a:=.inl ⟨kvs,h.rd⟩
theorem fT.rB(h:fT H a (.dT kvs)):rN H a:=.inr ⟨kvs,h.rd⟩
theorem fT.get{kvs:List (Key×V)}(h:fT H a (.dK kvs))(k:Key):gX H a (kV k) (dC kvs k):=.inl ⟨kvs,k,h.rd,rfl,rfl⟩
theorem fT.pX{k:List Key}(h:fT H a (.dT kvs))(hb:H b=some (.tup (k.map kV))):gX H a (.ref b) (dC kvs k):=.inr ⟨kvs,k,b,h.rd,rfl,hb,rfl⟩
def Hs(H:Hp)(L:List (aa×HO)):Prop:=(L.map bg).Nodup/\∀p∈L,H p.1=some p.2
def Rs(H:Hp)(L:List (aa×HO)):Prop:=∀p∈L,fT H p.1 p.2
theorem Hs.rs(h:Hs H L):Rs H L:=λp hp=>.inl (h.2 p hp)
theorem Rs.same(h:Rs H L)(s:ak H H'):Rs H' L:=λp hp=>(h p hp).same s
theorem Rs.lock{u:HO}(h:Rs H L)(hd:H d=some u)(du:qr u)(od:bc):Rs (upd H d (.bu od u)) L:=λp hp=>(h p hp).lock hd du od
theorem Hs.same(h:Hs H L)(s:ak H H'):Hs H' L:=⟨h.1,λp hp=>s _ _ (h.2 p hp)⟩
theorem Hs.put{L1 L2:List (aa×HO)}{o o':HO}(h:Hs H (L1++(a,o)::L2)):Hs (upd H a o') (L1++(a,o')::L2):=by
 refine⟨by have:=h.1;simpa using this,λp hp=>?_⟩
 have hn:=h.1;rw[bZ,bS,pz,gC]at hn;rcases b6.mp hp with hp|hp
 .rw[aI (λe=>hn.2.2 p.1 (bw.mpr ⟨p,hp,rfl⟩) p.1 (by rw[e];exact gF ..) rfl)]
  exact h.2 p (fq _ hp)
 .rcases bM.mp hp with rfl|hp
  .exact aR
  .rw[aI (λe=>hn.2.1.1 (by rw[<-e];exact bw.mpr ⟨p,hp,rfl⟩))]
   exact h.2 p (cP _ (b8 _ hp))
theorem Hs.new{o:HO}(h:Hs H L)(n:H a=none):Hs (upd H a o) ((a,o)::L):=by
 have hn:a∉L.map bg:=λm=>by
  obtain⟨p,hp,e⟩:=bw.mp m;have:=h.2 p hp;rw[e,n]at this;cases this
 refine⟨by rw[bS];exact gC.mpr ⟨hn,h.1⟩,λp hp=>?_⟩
 rcases bM.mp hp with rfl|hp
 .exact aR
 .rw[aI (λe=>hn (by rw[<-e];exact bw.mpr ⟨p,hp,rfl⟩))];exact h.2 p hp
theorem Hs.perm{L':List (aa×HO)}(h:Hs H L)(p:L.Perm L'):Hs H L':=⟨(p.map bg).nodup_iff.mp h.1,λq hq=>h.2 q (p.mem_iff.mpr hq)⟩
theorem Hs.sub{L':List (aa×HO)}(h:Hs H L)(p:L'.Sublist L):Hs H L':=⟨h.1.sublist (p.map _),λq hq=>h.2 q (p.subset hq)⟩
theorem Hs.out(h:Hs H L)(n:H a=none):a∉L.map bg:=λm=>by
 obtain⟨p,hp,e⟩:=bw.mp m;have:=h.2 p hp;rw[e,n]at this;cases this
structure Fr(H:Hp)(S:List aa)(H':Hp)(S':List aa):Prop where
 keep:∀b o,H b=some o->b∉S->H' b=some o
 gA:∀b xs,H b=some (.tup xs)->H' b=some (.tup xs)
 new:∀b∈S',b∈S\/H b=none
theorem Fr.refl{S:List aa}:Fr H S H S:=⟨λz z e z=>e,λz z e=>e,λz h=>.inl h⟩
theorem Fr.trans{H1 H2:Hp}{S S1 S2:List aa}(a:Fr H S H1 S1)(b:Fr H1 S1 H2 S2):Fr H S H2 S2 where
 keep c o e n:=b.keep c o (a.keep c o e n) λm=>by
  rcases a.new c m with z|z
  .exact n z
  .rw[z]at e;cases e
 gA c xs e:=b.gA c xs (a.gA c xs e)
 new c m:=by
  rcases b.new c m with z|z
  .exact a.new c z
  .by_cases hS:c∈S
   .exact .inl hS
   .right
    cases q:H c with
    |none=>rfl
    |some o=>rw[a.keep c o q hS]at z;cases z
theorem Fr.dE{S:List aa}(s:ak H H'):Fr H S H' S:=⟨λb o e z=>s b o e,λb xs e=>s _ _ e,λz h=>.inl h⟩
theorem Fr.out{S S':List aa}(f:Fr H S H' S'){o:HO}(h:H b=some o)(n:b∉S):b∉S':=λm=>by
 rcases f.new b m with z|z
 .exact n z
 .rw[z]at h;cases h
theorem Fr.gu{S:List aa}{o o':HO}(ha:H a=some o)(no:∀xs,o≠.tup xs)(m:a∈S):Fr H S (upd H a o') S where
 keep b u e n:=by rw[aI (show b≠a by intro z;subst z;exact n m)];exact e
 gA b xs e:=by rw[aI (gL e ha λz=>no xs z.symm)];exact e
 new b h:=.inl h
theorem fF{J:It}{C:Hp->Prop}{Y:Nat->Hp->V->Hp->Prop}{g:TG}{tt:TT}{vs:List Nat}{σ:St}{H1:Hp}{D:aa}{Qd:Hp->Prop}(O:Over J n C Y)(hC:∀H,ak H1 H->C H)(out:Nat->Option V)(hn:n<sizeLine)(hD:H1 D=none)(hs:∀i H x H' (KY:V->Hp->Prop) (KN:Hp->Prop),i<n->ak H1 H->Y i H x H'->(∀y H4,out i=some y->ak H H4->KY y H4)->(∀H3,out i=none->ak H H3->KN H3)->g x (wipe σ vs) H' λσ2 H2=>wipe σ2 vs=wipe σ vs/\tt σ2 H2 λb H3=>if b=true then te σ2 H3 KY else KN H3)(hd:∀H,ak H1 H->H D=some (.lst ((cR n).filterMap out))->Qd H):∃W:Nat->Nat->Hp->Prop,(∃m,W 0 m (upd H1 D (.lst [])))/\∀i m H,W i m H->(J.stop i H/\Qd H)\/(J.go i H/\∃Nx:Hp->Prop,(∀H',Nx H'->∃m',m'<m/\W (i+1) m' H')/\∀x H',J.m7 i H x H'->g x (wipe σ vs) H' λσ2 H2=>wipe σ2 vs=wipe σ vs/\tt σ2 H2 λb H3=>if b=true then te σ2 H3 λy H4=>∃acc,H4 D=some (.lst acc)/\acc.length<sizeLine/\Nx (upd H4 D (.lst (acc++[y])))else Nx H3):=by
 have fl:∀i,((cR i).filterMap out).length<=i:=λi=>fi (List.length_filterMap_le _ _) (by rw[sZ];exact bK _)
 refine rY O (λi H=>ak H1 H/\H D=some (.lst ((cR i).filterMap out))) ⟨ak.new hD,aR⟩ (λi H z p=>hC H p.1) (λi H x H' hi p y=>?_) (λH p=>hd H p.1 p.2);refine hs i H x H' _ _ hi p.1 y (λv H4 ho s4=>⟨_,s4 _ _ p.2,ou (fl i) (Mu hi hn),λb o e=>?_,?_⟩) (λH3 ho s3=>⟨p.1.trans s3,?_⟩)
 .rw[aI (cQ e hD)];exact s4 _ _ (p.1 _ _ e)
 .rw[aR,pq,NP,oj,ho];rfl
 .rw[s3 _ _ p.2,pq,NP,oj,ho];simp
theorem fY{σ:St}{KY:VK}{KN:Hp->Prop}(h:te σ H KY):Ly σ H λb H3=>if b=true then te σ H3 KY else KN H3:=by
 show if true=true then te σ H KY else KN H;rw[ay rfl];exact h
theorem bt{b:Bool}(h:¬b=false):b=true:=by cases b<;>first|rfl|exact absurd rfl h
def Xv(c:TT)(t u:TS):TS:=λD σ H=>c σ H λb H1=>if b=true then t {D with nx:=u D} σ H1 else u D σ H1
theorem eR{c:bE}{a rest:List bq}{tc:TT}{t u:TS}(hc:PT X c tc)(ha:hR X a t)(hr:hR X rest u):hR X (.If c a [] pos::rest) (Xv tc t u):=aK (kO hc ha mF) hr
theorem y4{i j k:Int}{ta tb tc:TE}{σ:St}{Q:Bool->Hp->Prop}(ha:∀R:VK,R (.int i) H->ta σ H R)(hb:∀R:VK,R (.int j) H->tb σ H R)(hc:∀R:VK,R (.int k) H->tc σ H R)(hq:Q (decide (i<=j/\j<=k)) H):sG (C9 (lY λi j=>.bl (decide (i<=j))) (lY λi j=>.bl (decide (i<=j))) ta tb tc) σ H Q:=by
 refine ha _ (hb _ ⟨_,_,rfl,rfl,_,rfl,?_⟩);by_cases h:i<=j
 .rw[dw h]
  refine fm (hc _ ⟨_,_,rfl,rfl,_,rfl,?_⟩);have e:decide (i<=j/\j<=k)=decide (j<=k):=by simp[h]
  rw[<-e];exact hq
 .rw[cU h]
  refine fV ⟨_,rfl,?_⟩;have e:decide (i<=j/\j<=k)=false:=by simp[h]
  rw[<-e];exact hq
theorem CT{x y:V}{ta tb:TE}{σ:St}{Q:Bool->Hp->Prop}(ha:∀R:VK,R x H->ta σ H R)(hb:∀R:VK,R y H->tb σ H R)(hs:yZ x y=true)(hq:Q (decide (x=y)) H):sG (nJ Cr ta tb) σ H Q:=ha _ (hb _ ⟨hs,_,rfl,hq⟩)
theorem cJ{b:Bool}{c A B:Prop}[Decidable c](e:b=decide c)(h1:c->A)(h2:¬c->B):if b=true then A else B:=by
 by_cases h:c
 .rw[e,dw h,ay rfl];exact h1 h
 .rw[e,cU h,aq dH];exact h2 h
theorem jX{α β:Type}(xs:List α)(f:α->β):(cR xs.length).filterMap (λi=>(xs[i]?).map f)=xs.map f:=by
 induction xs with
 |nil=>rfl
 |cons x r ih=>
  rw[cY,Fn,oj,Z7];simp only[wt,zr,bS];rw[<-ih];rfl
theorem Eu{α β:Type}(xs:List α)(f:α->Option β):(cR xs.length).filterMap (λi=>(xs[i]?).bind f)=xs.filterMap f:=by
 induction xs with
 |nil=>rfl
 |cons x r ih=>
  rw[cY,Fn,oj,Z7,oj];simp only[wt,sV];rw[<-ih];rfl
structure Df(P:bA)(w:bB)(K:aU)(mg:ae->Option af)(base:a9)(CX:e8)(k:Nat)(x:ae)(ps:List ae)(sp:Sp):Prop where
 ex:∃f fd,eO P w K mg base CX k f fd ps sp/\mg x=some (.ref f)/\qQ K (.ref f)=true/\Binds K fd ps []
structure Mt(P:bA)(w:bB)(K:aU)(mg:ae->Option af)(base:a9)(CX:e8)(k:Nat)(C:aa)(m:ae)(ps:List ae)(sp:Sp):Prop where
 ex:∃f fd,eO P w K mg base CX k f fd ps sp/\vj K C m f/\Binds K fd ps []
section
variable{k:Nat}{sp:Sp}{E:XK}{m:ae}{p apos:cI}{o:bE}{ta:TE}{t:TA}
theorem bQ(D:Df X.prog X.w X.K X.mg X.base CX k x ps sp)(hr:c6 k X.A)(hx:ik CX X E)(ha:PA X (e::es) t)(hg:Gl X x:=by rfl)(hdb:(x==("__debug__":ae))=false:=by decide)(he:cn (e::es) X.env=(false,bP e X.env)::cn es X.env:=by rfl)(hpl:(f7 pos (cn es X.env)).any (·.1)=false:=by rfl):PE X (.Call (.Name x p) (e::es) [] pos) (K4 sp [] E t):=by
 obtain⟨f,fd,F,hm,hk,hb⟩:=D.ex;exact VW F hr hg hm hk hb .nil hx ha hdb he hpl
theorem jz{pl:jc Bool}(ho:PE X o ta)(c:iW X.K C)(D:Mt X.prog X.w X.K X.mg X.base CX k C m ps sp)(hr:c6 k X.A)(hx:ik CX X E)(ha:PA X (e::es) t)(hst:cn (e::es) X.env=(false,bP e X.env)::cn es X.env:=by rfl)(hpl:(f7 pos (cn es X.env)).any (·.1)=false:=by rfl)(ht:bP (.Call (.Attribute o m apos) (e::es) [] pos) X.env=(do
 let ov<-bP o X.env
 zG apos.atName
 let(f,first)<-qJ [ov] (v9 ov m pl)
 nz pos f first (f7 pos (cn (e::es) X.env)) (lB pos (lC [] X.env))):=by rfl):PE X (.Call (.Attribute o m apos) (e::es) [] pos) (xH C m sp [] E ta t):=by
 obtain⟨f,fd,F,hm,hb⟩:=D.ex;exact Vk (pl:=pl) ho c hm F hr hb .nil hx ha hst hpl ht
theorem JB{pl:jc Bool}(ho:PE X o ta)(c:iW X.K C)(D:Mt X.prog X.w X.K X.mg X.base CX k C m ps sp)(hr:c6 k X.A)(hx:ik CX X E)(ht:bP (.Call (.Attribute o m apos) [] [] pos) X.env=(do
 let ov<-bP o X.env
 zG apos.atName
 let(f,first)<-qJ [ov] (v9 ov m pl)
 nz pos f first (f7 pos (cn [] X.env)) (lB pos (lC [] X.env))):=by rfl):PE X (.Call (.Attribute o m apos) [] [] pos) (xH C m sp [] E ta oS):=by
 obtain⟨f,fd,F,hm,hb⟩:=D.ex;exact V5 (pl:=pl) ho c hm F hr hb .nil hx ht
theorem vd(n:Nat){kk:Nat}{t:oM}(hK:X.K=K)(hc:X.calm=true)(h:uA X es t)(hn:(tN es X.env).length=n:=by rfl)(hst:(tN es X.env).findIdx? (·.1)=none:=by rfl):PG X (.Tuple es kk pos) (JQ K n t):=by
 subst hK;exact lS hc h hn hst
theorem fC{n:Int}(h:∃t,X.mg x=some (.int n t))(hg:Gl X x:=by rfl)(hd:(x==("__debug__":ae))=false:=by decide):PE X (.Name x p) (tC (.int n)):=by
 obtain⟨t,h⟩:=h;exact CA hg h ⟨t,rfl⟩ hd
theorem yL{z:ae}(h:∃t,X.mg x=some (.str z t))(hg:Gl X x:=by rfl)(hd:(x==("__debug__":ae))=false:=by decide):PE X (.Name x p) (tC (.str z)):=by
 obtain⟨t,h⟩:=h;exact CA hg h ⟨t,rfl⟩ hd
end
theorem jL.eP{st:bq}{f:aa}{N:List ae}{k:Nat}{sp:Sp}(F:jL K x qual st f fd)(S:bX N ps (bb st))(len:∀vs H Q E,sp vs H Q E->vs.length=ps.length)(hbody:∀(cdv:af)(A:d9)(outer:List ei)(s:aC)(H:Hp)(vs:List V)(Q:VK)(E:XK),c6 k (A.deeper (oq qual (bb st) s.heap.objs.size f cdv))->sp vs H Q E->let X:=gw (bR P w) P w K mg base N qual (bb st) f cdv A outer s H E;∃t,hR X (i0 st) t/\t {nx:=λz H'=>Q .bI H',rt:=Q} (start N vs) H):eO P w K mg base (bR P w) (k+1) f fd ps sp:=by
 obtain⟨oc,od,kV,doc,pm,an,cdv,ct,osl,rfl,lk,hcd⟩:=F.ex;exact J3 lk hcd S len λA outer s H vs Q E hr hsp=>hbody cdv A outer s H vs Q E hr hsp
theorem jL.dn{st:bq}{f:aa}{N:List ae}{k:Nat}{sp:Sp}(F:jL K x qual st f fd)(S:bX N ps (bb st))(len:∀vs H Q E,sp vs H Q E->vs.length=ps.length)(hbody:∀(cdv:af)(A:d9)(outer:List ei)(s:aC)(H:Hp)(vs:List V)(Q:VK)(E:XK),c6 k (A.deeper (oq qual (bb st) s.heap.objs.size f cdv))->sp vs H Q E->let X:=(gw be P w K mg base N qual (bb st) f cdv A outer s H E).rP;∃t,hR X (i0 st) t/\t {nx:=λz H'=>Q .bI H',rt:=Q} (start N vs) H):eO P w K mg base be (k+1) f fd ps sp:=by
 obtain⟨oc,od,kV,doc,pm,an,cdv,ct,osl,rfl,lk,hcd⟩:=F.ex;refine J3 lk hcd S len λA outer s H vs Q E hr hsp=>?_;obtain⟨t,h,q⟩:=hbody cdv A outer s H vs Q E hr hsp;exact⟨t,h.rP,q⟩
structure Gd(K:aU)(mg:ae->Option af)(x:ae)(st:bq):Prop where
 ex:∃f fd,jL K x x st f fd/\mg x=some (.ref f)
structure Gm(K:aU)(C:aa)(m q:ae)(st:bq):Prop where
 ex:∃f fd,jL K m q st f fd/\vj K C m f
abbrev IV:=Nat->St->Hp->Prop
theorem gK{p:Prop}(k:∀G:Prop,(p->G)->G):p:=k p id
theorem bp{dx:aa}{fs:List (ae×V)}{f:ae}{v:V}{P:V->Prop}(ea:H a=some (.ins C dx fs))(c:iW K C)(n:fR K C f)(l:fs.lookup f=some v)(q:P v):∃a' C dx fs v,V.ref a=.ref a'/\H a'=some (.ins C dx fs)/\iW K C/\fR K C f/\fs.lookup f=some v/\P v:=⟨a,C,dx,fs,v,rfl,ea,c,n,l,q⟩
theorem bL{p:aa}{i:Int}{v:V}{P:V->Prop}(h:aj K H p xs)(e:iN xs i=some v)(q:P v):∃p' xs i' v,V.ref p=.ref p'/\V.int i=.int i'/\aj K H p' xs/\iN xs i'=some v/\P v:=⟨p,xs,i,v,rfl,rfl,h,e,q⟩
theorem jj{p:aa}{j:Nat}{v:V}{P:V->Prop}(h:aj K H p xs)(e:xs[j]? =some v)(q:P v):∃(p':aa)(xs:List V)(j':Nat)(v:V),V.ref p=.ref p'/\V.int (j:Int)=.int (j':Int)/\aj K H p' xs/\xs[j']? =some v/\P v:=⟨p,xs,j,v,rfl,rfl,h,e,q⟩
theorem fQ{p:aa}{i:Int}{v:V}{P:V->Prop}(h:cv K H p xs)(e:iN xs i=some v)(q:P v):∃p' xs i' v,V.ref p=.ref p'/\V.int i=.int i'/\cv K H p' xs/\iN xs i'=some v/\P v:=⟨p,xs,i,v,rfl,rfl,h,e,q⟩
section
variable{A B C D E F G H I:Sort _}{T:Type _}{S:List T}{Z:List T->Prop}
theorem xR{L:A->List T}{P:A->Prop}(y:∃a,S=L a/\P a)(x:∀a,P a->Z (L a)):Z S:=let⟨a,o,y⟩:=y;o▸x a y
theorem fz{L:A->B->List T}{P:A->B->Prop}(y:∃a b,S=L a b/\P a b)(x:∀a b,P a b->Z (L a b)):Z S:=let⟨a,b,o,y⟩:=y;o▸x a b y
theorem kP{L:A->B->C->List T}{P:A->B->C->Prop}(y:∃a b c,S=L a b c/\P a b c)(x:∀a b c,P a b c->Z (L a b c)):Z S:=let⟨a,b,c,o,y⟩:=y;o▸x a b c y
theorem gM{L:A->B->C->D->List T}{P:A->B->C->D->Prop}(y:∃a b c d,S=L a b c d/\P a b c d)(x:∀a b c d,P a b c d->Z (L a b c d)):Z S:=let⟨a,b,c,d,o,y⟩:=y;o▸x a b c d y
theorem mz{L:A->B->C->D->E->List T}{P:A->B->C->D->E->Prop}(y:∃a b c d e,S=L a b c d e/\P a b c d e)(x:∀a b c d e,P a b c d e->Z (L a b c d e)):Z S:=let⟨a,b,c,d,e,o,y⟩:=y;o▸x a b c d e y
theorem eT{L:A->B->C->D->E->F->List T}{P:A->B->C->D->E->F->Prop}(y:∃a b c d e f,S=L a b c d e f/\P a b c d e f)(x:∀a b c d e f,P a b c d e f->Z (L a b c d e f)):Z S:=let⟨a,b,c,d,e,f,o,y⟩:=y;o▸x a b c d e f y
theorem mB{L:A->B->C->D->E->F->G->List T}{P:A->B->C->D->E->F->G->Prop}(y:∃a b c d e f g,S=L a b c d e f g/\P a b c d e f g)(x:∀a b c d e f g,P a b c d e f g->Z (L a b c d e f g)):Z S:=let⟨a,b,c,d,e,f,g,o,y⟩:=y;o▸x a b c d e f g y
theorem xw{L:A->B->C->D->E->F->G->H->List T}{P:A->B->C->D->E->F->G->H->Prop}(y:∃a b c d e f g h,S=L a b c d e f g h/\P a b c d e f g h)(x:∀a b c d e f g h,P a b c d e f g h->Z (L a b c d e f g h)):Z S:=let⟨a,b,c,d,e,f,g,h,o,y⟩:=y;o▸x a b c d e f g h y
theorem Jm{L:A->B->C->D->E->F->G->H->I->List T}{P:A->B->C->D->E->F->G->H->I->Prop}(y:∃a b c d e f g h i,S=L a b c d e f g h i/\P a b c d e f g h i)(x:∀a b c d e f g h i,P a b c d e f g h i->Z (L a b c d e f g h i)):Z S:=let⟨a,b,c,d,e,f,g,h,i,o,y⟩:=y;o▸x a b c d e f g h i y
end
theorem jx{a b z:Prop}(y:a/\b)(x:a->b->z):z:=let⟨a,b⟩:=y;x a b
theorem gy{a b c z:Prop}(y:a/\b/\c)(x:a->b->c->z):z:=let⟨a,b,c⟩:=y;x a b c
theorem lP{a b c d z:Prop}(y:a/\b/\c/\d)(x:a->b->c->d->z):z:=let⟨a,b,c,d⟩:=y;x a b c d
theorem mI{a b c d e z:Prop}(y:a/\b/\c/\d/\e)(x:a->b->c->d->e->z):z:=let⟨a,b,c,d,e⟩:=y;x a b c d e
theorem pk{a b c d e f z:Prop}(y:a/\b/\c/\d/\e/\f)(x:a->b->c->d->e->f->z):z:=let⟨a,b,c,d,e,f⟩:=y;x a b c d e f
theorem Bm{a b c d e f g z:Prop}(y:a/\b/\c/\d/\e/\f/\g)(x:a->b->c->d->e->f->g->z):z:=let⟨a,b,c,d,e,f,g⟩:=y;x a b c d e f g
theorem uU{a b c d e f g h z:Prop}(y:a/\b/\c/\d/\e/\f/\g/\h)(x:a->b->c->d->e->f->g->h->z):z:=let⟨a,b,c,d,e,f,g,h⟩:=y;x a b c d e f g h
theorem sH{a b c d e f g h i z:Prop}(y:a/\b/\c/\d/\e/\f/\g/\h/\i)(x:a->b->c->d->e->f->g->h->i->z):z:=let⟨a,b,c,d,e,f,g,h,i⟩:=y;x a b c d e f g h i
theorem bn1{st:bq}{a:ae}(h:(λ(kV doc pm:af) (an:Option aa) (cdv ct u:af)=>om (kG x qual (jB st) (i0 st) (bb st) .none kV doc pm an cdv ct) ⟨[u],[]⟩)=λz z z z z z u=>pure ([a].zip [u]))(kV doc pm:af)(an:Option aa)(cdv ct:af)(us:List af)(l:us.length=[a].length):om (kG x qual (jB st) (i0 st) (bb st) .none kV doc pm an cdv ct) ⟨us,[]⟩=pure ([a].zip us):=match us,l with|[u],_=>cq (λf=>f kV doc pm an cdv ct u) h
theorem bn2{st:bq}{a b:ae}(h:(λ(kV doc pm:af) (an:Option aa) (cdv ct u v:af)=>om (kG x qual (jB st) (i0 st) (bb st) .none kV doc pm an cdv ct) ⟨[u,v],[]⟩)=λz z z z z z u v=>pure ([a,b].zip [u,v]))(kV doc pm:af)(an:Option aa)(cdv ct:af)(us:List af)(l:us.length=[a,b].length):om (kG x qual (jB st) (i0 st) (bb st) .none kV doc pm an cdv ct) ⟨us,[]⟩=pure ([a,b].zip us):=match us,l with|[u,v],_=>cq (λf=>f kV doc pm an cdv ct u v) h
theorem bn3{st:bq}{a b c:ae}(h:(λ(kV doc pm:af) (an:Option aa) (cdv ct u v y:af)=>om (kG x qual (jB st) (i0 st) (bb st) .none kV doc pm an cdv ct) ⟨[u,v,y],[]⟩)=λz z z z z z u v y=>pure ([a,b,c].zip [u,v,y]))(kV doc pm:af)(an:Option aa)(cdv ct:af)(us:List af)(l:us.length=[a,b,c].length):om (kG x qual (jB st) (i0 st) (bb st) .none kV doc pm an cdv ct) ⟨us,[]⟩=pure ([a,b,c].zip us):=match us,l with|[u,v,y],_=>cq (λf=>f kV doc pm an cdv ct u v y) h
theorem bn4{st:bq}{a b c d:ae}(h:(λ(kV doc pm:af) (an:Option aa) (cdv ct u v y z:af)=>om (kG x qual (jB st) (i0 st) (bb st) .none kV doc pm an cdv ct) ⟨[u,v,y,z],[]⟩)=λw w w w w w u v y z=>pure ([a,b,c,d].zip [u,v,y,z]))(kV doc pm:af)(an:Option aa)(cdv ct:af)(us:List af)(l:us.length=[a,b,c,d].length):om (kG x qual (jB st) (i0 st) (bb st) .none kV doc pm an cdv ct) ⟨us,[]⟩=pure ([a,b,c,d].zip us):=match us,l with|[u,v,y,z],_=>cq (λf=>f kV doc pm an cdv ct u v y z) h
def Sg(K:aU):V->V->Hp->VK->Prop:=λx y H Q=>∃(p:aa)(xs:List V)(j:Nat)(v:V),x=.ref p/\y=.int (j:Int)/\aj K H p xs/\xs[j]? =some v/\Q v H
theorem jo:Gn X (Sg X.K):=by
 intro pins s σ H o i ov iv Q I ro ri h;obtain⟨p,xs,j,v,rfl,rfl,hq,he,q⟩:=h;cases ro;obtain⟨t,rfl⟩:=ri;obtain⟨its,r,pl,hz⟩:=I.list hq;obtain⟨w,ew,rw'⟩:=r.get he;have hl:=r.length;have hn:=qc;have hj:=(cN.mp he).1;exact wpAny_getItem_list pl.isList (by omega) (by omega) (by rw[ij];simpa using ew) ⟨v,H,I,rw',q⟩
theorem sM{j:Nat}(h:j<n):jn n (j:Int)=some j:=by
 unfold jn;rw[ay (by omega),ay (by omega),ij]
theorem oO{f:ae}{ta:TE}(K:aU)(hK:X.K=K)(he:PE X e ta)(hb:mv e f X.env (bP e X.env)=bP e X.env):PE X (.Attribute e f pos) (LU K ta f):=by
 subst hK;exact bx he hb
theorem Lj(K:aU)(hK:X.K=K):rI X (wZ K):=by
 subst hK;exact bO
theorem yV(K:aU)(hK:X.K=K):rI X (F7 K):=by
 subst hK;exact iy
theorem WC{l:bE}{tl:TE}(K:aU)(hK:X.K=K)(hl:PE X l tl):PI X tg l (Kh K tl):=by
 subst hK;exact fH hl
structure Gi(K:aU)(C:aa)(q:ae)(st:bq):Prop where
 ex:∃f fd,jL K "__init__" q st f fd/\L2.Mk K C f
structure r0(P:bA)(w:bB)(K:aU)(mg:ae->Option af)(base:a9)(CX:e8)(k:Nat)(C:aa)(ps:List ae)(sp:Sp):Prop where
 ex:∃f fd,eO P w K mg base CX k f fd ps sp/\L2.Mk K C f/\Binds K fd ps []
section
variable{k:Nat}{sp:Sp}{E:XK}{m:ae}{p apos:cI}{o:bE}{ta:TE}{t:TA}
theorem QH(D:r0 X.prog X.w X.K X.mg X.base CX k C ps sp)(hr:c6 (k+1) X.A)(hm:X.mg x=some (.ref C))(hx:ik CX X E)(ha:PA X (e::es) t)(hg:Gl X x:=by rfl)(hdb:(x==("__debug__":ae))=false:=by decide)(he:cn (e::es) X.env=(false,bP e X.env)::cn es X.env:=by rfl)(hpl:(f7 pos (cn es X.env)).any (·.1)=false:=by rfl):PE X (.Call (.Name x p) (e::es) [] pos) (xt C sp [] E t):=by
 obtain⟨f,fd,F,M,hb⟩:=D.ex;exact VQ M F hr hg hm hb .nil hx ha hdb he hpl
theorem Qe(D:r0 X.prog X.w X.K X.mg X.base CX k C ps sp)(hr:c6 (k+1) X.A)(hm:X.mg x=some (.ref C))(hx:ik CX X E)(hg:Gl X x:=by rfl)(hdb:(x==("__debug__":ae))=false:=by decide):PE X (.Call (.Name x p) [] [] pos) (xt C sp [] E oS):=by
 obtain⟨f,fd,F,M,hb⟩:=D.ex;exact Oa M F hr hg hm hb .nil hx hdb
end
theorem Hs.app{L1 L2:List (aa×HO)}(a:Hs H L1)(b:Hs H L2)(d:∀c∈L2.map bg,c∉L1.map bg):Hs H (L1++L2):=by
 refine⟨?_,λp hp=>?_⟩
 .rw[bZ]
  exact pz.mpr ⟨a.1,b.1,λx hx y hy z=>d y hy (by rw[<-z];exact hx)⟩
 .rcases b6.mp hp with hp|hp
  .exact a.2 p hp
  .exact b.2 p hp
theorem Hs.has(a:Hs H L)(h:b∈L.map bg):∃o,H b=some o:=by
 obtain⟨p,hp,rfl⟩:=bw.mp h;exact⟨_,a.2 p hp⟩
theorem PH(K:aU)(hK:X.K=K):iB X (.type "list") (λxs H Q=>∃p ys,xs=[.ref p]/\(aj K H p ys\/cv K H p ys)/\∀l,H l=none->Q (.ref l) (upd H l (.lst ys))):=by
 subst hK;exact Lw
theorem QP(K:aU)(hK:X.K=K)(hc:X.calm=true):iB X (.builtin "min") (Ji K):=by
 subst hK;exact VA hc
def RW(td:TE):TE:=λσ H Q=>td σ H λx H1=>∃d u,x=.ref d/\H1 d=some u/\lL (some u)/\∀od,Q x (upd H1 d (.bu od u))
theorem Vs{t:TE}(h:PE X e t):PE X e (RW t):=by
 intro pins s σ H Q I hw;refine bf (h pins s σ H _ I hw) λv s1 ⟨x,H1,I1,r,d,u,ex,hd,mu,q⟩=>?_;obtain⟨od,I2⟩:=I1.lock hd mu;exact⟨x,_,I2,r,q od⟩
theorem QG(Y:Cx){E:XK}{fe:bE}{tf:TE}{t:TA}(h1:X.prog=Y.prog)(h2:X.w=Y.w)(h3:X.K=Y.K)(h4:X.mg=Y.mg)(h5:X.base=Y.base)(h6:X.A=Y.A)(hf:PE X fe tf)(ha:PA X (e::es) t)(hx:ik CX X E)(ht:bP (.Call fe (e::es) [] pos) X.env=(do nz pos (<-bP fe X.env) [] (f7 pos (cn (e::es) X.env)) (lB pos (lC [] X.env))):=by rfl)(he:cn (e::es) X.env=(false,bP e X.env)::cn es X.env:=by rfl)(hpl:(f7 pos (cn es X.env)).any (·.1)=false:=by rfl):
 PE X (.Call fe (e::es) [] pos) (uH Y CX E tf t):=by
 have:=XS hf ha hx ht he hpl;have e:uH X CX E tf t=uH Y CX E tf t:=by unfold uH;rw[h1,h2,h3,h4,h5,h6]
 rw[<-e];exact this
theorem BG{p:cI}(h:X.mg x=some (.ref a))(hg:Gl X x:=by rfl)(hd:(x==("__debug__":ae))=false:=by decide):PE X (.Name x p) (tC (.ref a)):=CA hg h rfl hd
def kT(K:aU)(a:aa)(xs:List V):Prop:=∃(o:bc)(its:Array af)(n:Nat),K.lookup a=some o/\o.cls=.type "tuple"/\o.data=.seq its n/\its.size<=sizeLine/\bD xs its.toList
theorem kT.sq(h:kT K a xs):cv K H a xs:=.inr h
end L2
namespace Pg
open PySem PySem.Spec PyProof.Rows L2
open Vbwsaj (Leg Deal Part Market State gives amount changeAt put take_ News Call step newsRow settled)
open Rm (aS bo Ord xK xo mC dY j0 gj)
variable {P:List aS}{w:bB}{K:aU}{mg:ae->Option af}{base:a9}{CM CD E1 E2 E3 E4 E5 a:aa}{s:aT}{o:Nat}{H:Hp}{Pr:bA}{ex:Nat->aa}{G:List V->Prop}
structure Tx(K:aU)(mg:ae->Option af)(CM CD:aa):Prop where
 cM:iW K CM
 cD:iW K CD
 mM:mg "Market"=some (.ref CM)
 mD:mg "Deal"=some (.ref CD)
 u6:CM≠CD
 m8:fR K CM "owners"
 kJ:fR K CM "goods"
 jN:fR K CM "free"
 rH:fR K CM "held"
 yY:fR K CM "made"
 Eb:fR K CM "burned"
 rE:fR K CM "tick"
 AF:fR K CM "next_number"
 hU:fR K CM "deals"
 jw:fR K CM "parts"
 my:fR K CD "number"
 nQ:fR K CD "legs"
 A7:fR K CD "last_tick"
 iu:fR K CD "gives"
 Cw:∃t,mg "WAITS"=some (.int 0 t)
 pS:∃t,mg "HELD"=some (.int 1 t)
 QA:∃t,mg "DONE"=some (.int 1 t)
 PR:∃t,mg "CALLED_OFF_FOR_RING"=some (.int 2 t)
 Hr:∃t,mg "LETTERS"=some (.str "abcdefghijklmnopqrstuvwxyz" t)
 JE:∃t,mg "DIGITS"=some (.str "0123456789" t)
 XZ:∃t,mg "MOST_LETTERS"=some (.int 8 t)
 Ux:∃t,mg "MOST_DIGITS"=some (.int 9 t)
 Vz:∃t,mg "MOST_OWNERS"=some (.int 8 t)
 Xf:∃t,mg "MOST_GOODS"=some (.int 6 t)
 G2:∃t,mg "MOST_LEGS"=some (.int 12 t)
 F4:∃t,mg "MOST_MADE"=some (.int 1000000000 t)
 Yd:∃t,mg "MOST_DEALS"=some (.int 16 t)
 Qo:∃t,mg "MOST_TICKS_OF_DEAL"=some (.int 1000 t)
 SN:∃t,mg "MOST_TICKS_AT_ONCE"=some (.int 100 t)
 QU:∃t,mg "LAST_TICK"=some (.int 1000000000 t)
 WH:∃t,mg "TIME_WAS_OVER"=some (.int 3 t)
 fK:mg "len"=none
 BK:mg "max"=none
 La:mg "min"=none
 vb:mg "all"=none
 HF:mg "any"=none
 FX:mg "sum"=none
 IS:mg "ord"=none
 RH:mg "int"=none
 Tf:mg "str"=none
 AI:mg "list"=none
 Ai:mg "zip"=none
 C8:mg "enumerate"=none
 Ht:mg "range"=none
structure Ex(K:aU)(mg:ae->Option af)(E1 E2 E3 E4 E5:aa):Prop where
 m1:mg "OutOfRange"=some (.ref E1)
 x1:sF K E1
 m2:mg "WrongText"=some (.ref E2)
 x2:sF K E2
 m3:mg "NoSuchDeal"=some (.ref E3)
 x3:sF K E3
 m4:mg "NotSo"=some (.ref E4)
 x4:sF K E4
 m5:mg "NoPlace"=some (.ref E5)
 x5:sF K E5
 V0:fu K (.ref E1) (.ref E1)=some true
 e12:fu K (.ref E1) (.ref E2)=some false
 e13:fu K (.ref E1) (.ref E3)=some false
 e14:fu K (.ref E1) (.ref E4)=some false
 e15:fu K (.ref E1) (.ref E5)=some false
 Yh:fu K (.ref E2) (.ref E1)=some false
 O7:fu K (.ref E2) (.ref E2)=some true
 e23:fu K (.ref E2) (.ref E3)=some false
 e24:fu K (.ref E2) (.ref E4)=some false
 e25:fu K (.ref E2) (.ref E5)=some false
 Xi:fu K (.ref E3) (.ref E1)=some false
 Bp:fu K (.ref E3) (.ref E2)=some false
 N3:fu K (.ref E3) (.ref E3)=some true
 e34:fu K (.ref E3) (.ref E4)=some false
 e35:fu K (.ref E3) (.ref E5)=some false
 Pq:fu K (.ref E4) (.ref E1)=some false
 Sa:fu K (.ref E4) (.ref E2)=some false
 WI:fu K (.ref E4) (.ref E3)=some false
 Vg:fu K (.ref E4) (.ref E4)=some true
 e45:fu K (.ref E4) (.ref E5)=some false
 Qa:fu K (.ref E5) (.ref E1)=some false
 Sm:fu K (.ref E5) (.ref E2)=some false
 UI:fu K (.ref E5) (.ref E3)=some false
 Xw:fu K (.ref E5) (.ref E4)=some false
 PB:fu K (.ref E5) (.ref E5)=some true
def exc(E1 E2 E3 E4 E5:aa):Nat->aa
 |1=>E1
 |2=>E2
 |3=>E3
 |4=>E4
 |_=>E5
abbrev Text:=List Nat
def cb(t:Text):ae:=⟨t.toArray⟩
def tV(t:Text):V:=.str (cb t)
def nV(n:Nat):V:=.int (n:Int)
section
variable{P:bA}
theorem Eg:bX ["word","sign"] ["word"] (bb vk):=⟨rfl,rfl,rfl,by decide+kernel,rfl,by decide+kernel,by decide+kernel⟩
def GK:Sp:=λvs H Q z=>∃t:Text,vs=[tV t]/\t.length<=1000/\∀H',ak H H'->Q (.bl (dD t)) H'
theorem TJ(c:Nat):decide (c∈(("abcdefghijklmnopqrstuvwxyz":ae)).cps.toList)=mh c:=by
 have e:(("abcdefghijklmnopqrstuvwxyz":ae)).cps.toList=(cR 26).map (λi=>97+i):=by decide+kernel
 rw[e];unfold mh
 congr 1
 apply propext;rw[bw];constructor
 .rintro⟨i,hi,rfl⟩
  have:=kq.mp hi;omega
 .intro h
  exact⟨c - 97,kq.mpr (by omega),by omega⟩
theorem Yg(G:Gd K mg "is_name" vk)(T:Tx K mg CM CD):Df P w K mg base be 1 "is_name" ["word"] GK:=by
 obtain⟨f,fd,F,hm⟩:=G.ex;refine⟨f,fd,F.dn Eg (λvs H Q E h=>?_) (λcdv A outer s H vs Q E hr h=>?_),hm,F.kp,F.binds (bn1 rfl)⟩
 .obtain⟨t,rfl,z⟩:=h;rfl
 .intro X0;refine gK λG0 hG0=>?_;obtain⟨t,rfl,hl,k⟩:=h;refine hG0 ?_
  refine⟨_,aX (bT (Aa (U6 mT mT aQ (dh Ja rfl T.fK f9 (ai (pv 0) au)) (fC T.XZ)) (C5 (dh (u9 rfl) rfl T.vb z5 (ai (fw rfl Eg.nd (Al (pv 0)) (eI (N:=["word","sign"]) (sc:=bb vk) (own:=[("sign",1)]) (by decide+kernel)) (λz z z z z=>bY (i:=1) Eg.nd rfl (aV rfl)) (λz z z z z=>fU) (λz z z z z=>oU Kz (pv 1) (yL T.Hr) (by with_unfolding_all rfl))) au))))),?_⟩
  have sz:(cb t).length<=sizeLine:=fi (show t.length<=1000 from hl) (by decide)
  refine⟨_,rfl,cb t,rfl,sz,_,_,rfl,rfl,_,rfl,LH (λh1=>?_) (λh1=>?_)⟩
  .refine⟨_,_,rfl,rfl,_,rfl,LH (λh2=>?_) (λh2=>?_)⟩
   .refine⟨_,rfl,_,rfl,λD hD=>fF BU (λz z=>dy) (λi=>(t[i]?).map λc=>V.bl (mh c)) ?_ hD (λi H2 x H' KY KN hi s2 y ky kn=>?_) (λH2 s2 hd=>?_)⟩
    .show t.length<sizeLine
     exact ou hl (by decide)
    .obtain⟨rfl,c,hc,rfl⟩:=y
     refine⟨rfl,fY ⟨_,rfl,c,_,rfl,rfl,?_⟩⟩;rw[TJ];exact ky _ _ (by rw[show t[i]? =some c by simpa[cb]using hc];rfl) (ak.refl _)
    .refine⟨D,t.map mh,rfl,aj.of (by rw[hd,show(cb t).cps.size=t.length from rfl,jX,bU];rfl),?_⟩
     have e:(t.map mh).all id=dD t:=by
      unfold dD;rw[dw (show 1<=t.length/\t.length<=8 by simp[cb,zO]at h1 h2;omega),qI,pF]
      rfl
     rw[e];exact k _ s2
   .have e:dD t=false:=by
     unfold dD;rw[cU (show¬(1<=t.length/\t.length<=8) by simp[cb,zO]at h1 h2;omega),vZ]
    rw[<-e];exact k _ (ak.refl _)
  .have e:dD t=false:=by
    unfold dD;rw[cU (show¬(1<=t.length/\t.length<=8) by simp[cb,zO]at h1;omega),vZ]
   refine⟨_,rfl,fV ?_⟩;rw[<-e];exact k _ (ak.refl _)
end
theorem sl(n:Nat)(h:n<=100000):n<sizeLine:=ou h (by decide)
theorem sle(n:Nat)(h:n<=100000):n<=sizeLine:=vX (sl n h)
section
variable{P:bA}
theorem Rh:bX ["byte"] ["byte"] (bb ud):=⟨rfl,rfl,rfl,by decide+kernel,rfl,by decide+kernel,by decide+kernel⟩
def L5:Sp:=λvs H Q z=>∃c:Nat,vs=[nV c]/\Q (.str ⟨#[Rm.sg c]⟩) H
theorem OT{i:Int}{c:Nat}(h:i=((c - 97:Nat):Int))(h1:97<=c)(h2:c<=122):iN (("abcdefghijklmnopqrstuvwxyz":ae)).cps.toList i=some c:=by
 rw[h];refine bj ?_;have e:(("abcdefghijklmnopqrstuvwxyz":ae)).cps.toList=(cR 26).map (λi=>97+i):=by decide+kernel
 rw[e,bz,mn (by omega)]
 show some (97+(c - 97))=some c
 congr 1;omega
theorem UE{i:Int}{c:Nat}(h:i=((c - 48:Nat):Int))(h1:48<=c)(h2:c<=57):iN (("0123456789":ae)).cps.toList i=some c:=by
 rw[h];refine bj ?_;have e:(("0123456789":ae)).cps.toList=(cR 10).map (λi=>48+i):=by decide+kernel
 rw[e,bz,mn (by omega)]
 show some (48+(c - 48))=some c
 congr 1;omega
theorem T1(G:Gd K mg "sign_of" ud)(T:Tx K mg CM CD):Df P w K mg base be 1 "sign_of" ["byte"] L5:=by
 obtain⟨f,fd,F,hm⟩:=G.ex;refine⟨f,fd,F.dn Rh (λvs H Q E h=>?_) (λcdv A outer s H vs Q E hr h=>?_),hm,F.kp,F.binds (bn1 rfl)⟩
 .obtain⟨t,rfl,v⟩:=h;rfl
 .intro X0;refine gK λG0 hG0=>?_;obtain⟨c,rfl,k⟩:=h;refine hG0 ?_
  have e97:((("a":ae).cps.getD 0 0:Nat):Int)=97:=by decide+kernel
  have e122:((("z":ae).cps.getD 0 0:Nat):Int)=122:=by decide+kernel
  have e48:((("0":ae).cps.getD 0 0:Nat):Int)=48:=by decide+kernel
  have e57:((("9":ae).cps.getD 0 0:Nat):Int)=57:=by decide+kernel
  have Bp:(((" ":ae).cps.getD 0 0:Nat):Int)=32:=by decide+kernel
  have e10:((("\n":ae).cps.getD 0 0:Nat):Int)=10:=by decide+kernel
  have ord (z:ae) {p p1 p2:cI} {j:Nat}:PE (gw be P w K mg base ["byte"] "sign_of" (bb ud) f cdv A outer s H E).rP (.Call (.Name "ord" p) [.Constant (.str z) j p1] [] p2) (yN (λxs H Q=>∃x,xs=[.str x]/\x.length=1/\Q (.int (x.cps.getD 0 0:Nat)) H) (yh (tC (.str z)) oS)):=dh Ib rfl T.IS Z8 (ai gz au);refine⟨_,eR (yu mT mT (ord "a") (pv 0) (ord "z")) (aX (bT (bh BJ (yL T.Hr) (eG uC (pv 0) (ord "a")) (λv v=>rfl)))) (eR (yu mT mT (ord "0") (pv 0) (ord "9")) (aX (bT (bh BJ (yL T.JE) (eG uC (pv 0) (ord "0")) (λv v=>rfl)))) (eR (df iX (pv 0) (ord " ") (c7 _)) (aX (bT gz)) (eR (df iX (pv 0) (ord "\n") (c7 _)) (aX (bT gz)) (aX (bT gz))))),?_⟩;refine y4 (i:=97) (j:=c) (k:=122) (λR r=>⟨_,rfl,rfl,by rw[e97];exact r⟩) (λR r=>⟨_,rfl,r⟩) (λR r=>⟨_,rfl,rfl,by rw[e122];exact r⟩) (cJ rfl (λh=>?_) (λh=>?_))
  .refine⟨_,rfl,_,rfl,rfl,_,_,rfl,rfl,_,_,c,rfl,rfl,(by decide+kernel),OT (by rw[e97];omega) (by omega) (by omega),?_⟩
   have e:Rm.sg c=c:=by unfold Rm.sg;rw[ay (.inl (by unfold mh;exact dw (by omega)))]
   rw[e]at k;exact k
  refine y4 (i:=48) (j:=c) (k:=57) (λR r=>⟨_,rfl,rfl,by rw[e48];exact r⟩) (λR r=>⟨_,rfl,r⟩) (λR r=>⟨_,rfl,rfl,by rw[e57];exact r⟩) (cJ rfl (λh'=>?_) (λh'=>?_))
  .refine⟨_,rfl,_,rfl,rfl,_,_,rfl,rfl,_,_,c,rfl,rfl,(by decide+kernel),UE (by rw[e48];omega) (by omega) (by omega),?_⟩
   have e:Rm.sg c=c:=by unfold Rm.sg;rw[ay (.inr (.inl (by unfold dP;exact dw (by omega))))]
   rw[e]at k;exact k
  refine CT (x:=nV c) (y:=.int 32) (λR r=>⟨_,rfl,r⟩) (λR r=>⟨_,rfl,rfl,by rw[Bp];exact r⟩) rfl (cJ rfl (λq=>?_) (λq=>?_))
  .have:(c:Int)=32:=V.int.inj q
   have:c=32:=by omega
   subst this;exact k
  refine CT (x:=nV c) (y:=.int 10) (λR r=>⟨_,rfl,r⟩) (λR r=>⟨_,rfl,rfl,by rw[e10];exact r⟩) rfl (cJ rfl (λq'=>?_) (λq'=>?_))
  .have:(c:Int)=10:=V.int.inj q'
   have:c=10:=by omega
   subst this;exact k
  .have e:Rm.sg c=63:=by
    unfold Rm.sg;rw[aq];rintro(z|z|z|z)
    .unfold mh at z;exact h (by have:=lz z;omega)
    .unfold dP at z;exact h' (by have:=lz z;omega)
    .exact q (by subst z;rfl)
    .exact q' (by subst z;rfl)
   rw[e]at k;exact k
end
theorem CO{s t:Text}(h:cb s=cb t):s=t:=by
 have:s.toArray=t.toArray:=cq Str.cps h;simpa using this
theorem J1{s t:Text}(h:tV s=tV t):s=t:=CO (V.str.inj h)
theorem DV:cb []=("":ae):=by decide+kernel
theorem Hq(c d:Nat)(r:List Nat):TL.pre [c] (d::r)=decide (d=c):=by
 unfold TL.pre;show([d]==[c])=decide (d=c);by_cases h:d=c
 .subst h;simp
 .simp[h]
theorem C1(c:Nat):∀(l acc:Text),TL.fv [c] 0 acc l=d8 c acc l
 |[],acc=>by rw[TL.y9];rfl
 |d::r,acc=>by
  by_cases h:d=c
  .rw[TL.JK (by rw[Hq,dw h])]
   show acc::TL.fv [c] 0 [] r=_;rw[C1 c r []];unfold d8;rw[ay h];cases r<;>rfl
  .rw[TL.Iu (by rw[Hq,cU h]),C1 c r]
   conv=>rhs;unfold d8
   rw[aq h]
theorem JU{c:Nat}{y:ae}(hy:TL.tl y=[c])(hk:y.cps.all (·<256)=true)(t:Text):lF (cb t) y=(d8 c [] t).map cb:=by
 refine TL.Gr ?_;rw[TL.WW _ y (by rw[hy];simp) (TL.SJ hk),hy,C1,bU]
 show d8 c [] t=_
 conv=>lhs;rw[<-vL (d8 c [] t)]
 refine i5 λx z=>?_;rfl
theorem DN(t:Text):lF (cb t) " "=(d8 32 [] t).map cb:=JU (by decide+kernel) (by decide+kernel) t
theorem Wr(t:Text):lF (cb t) "\n"=(d8 10 [] t).map cb:=JU (by decide+kernel) (by decide+kernel) t
theorem rL(sep:Nat):∀(u acc:Text),∀x∈d8 sep acc u,x.length<=acc.length+u.length
 |[],acc,x,h=>by simp[d8]at h;subst h;simp
 |c::r,acc,x,h=>by
  unfold d8 at h;split at h
  .rcases bM.mp h with rfl|h
   .simp
   .have:=rL sep r [] x h;simp at this⊢;omega
  .have:=rL sep r _ x h;simp at this⊢;omega
theorem RQ:∀(cs:List Nat),TL.tl (rg "" (cs.map λc=>(⟨#[c]⟩:ae)))=cs:=by
 intro cs;rw[TL.join_eq,TL.xh,show TL.tl ("":ae)=[] by decide+kernel,bU]
 have e:(TL.tl∘λc=>(⟨#[c]⟩:ae))=λc=>[c]:=rfl;rw[e];induction cs with
 |nil=>rfl
 |cons c r ih=>
  cases r with
  |nil=>rfl
  |cons d q=>
   show[c]++([]++TL.lZ [] (iH (λc=>[c]) (d::q)))=c::d::q;rw[wy,ih];rfl
theorem SQ(t:Text):(gq t).map tV=((d8 32 [] t).filterMap λx=>if x=[]then none else some (tV x)):=by
 unfold gq;induction d8 32 [] t with
 |nil=>rfl
 |cons x r ih=>
  rw[fZ,oj];cases x with
  |nil=>simpa using ih
  |cons a b=>simp at ih⊢;exact ih
theorem By{t x:Text}(h:x∈gq t):x.length<=t.length:=by
 unfold gq at h;have:=rL 32 t [] x (dG.mp h).1;simpa using this
section
variable{P:bA}
theorem Ew:bX ["line","word"] ["line"] (bb um):=⟨rfl,rfl,rfl,by decide+kernel,rfl,by decide+kernel,by decide+kernel⟩
def xq:Sp:=λvs H Q z=>∃t:Text,vs=[tV t]/\t.length<=1000/\∀H' p,ak H H'->H p=none->H' p=some (.lst ((gq t).map tV))->Q (.ref p) H'
theorem Se(G:Gd K mg "words_of" um)(T:Tx K mg CM CD):Df P w K mg base be 1 "words_of" ["line"] xq:=by
 obtain⟨f,fd,F,hm⟩:=G.ex;refine⟨f,fd,F.dn Ew (λvs H Q E h=>?_) (λcdv A outer s H vs Q E hr h=>?_),hm,F.kp,F.binds (bn1 rfl)⟩
 .obtain⟨t,rfl,v⟩:=h;rfl
 .intro X0;refine gK λG0 hG0=>?_;obtain⟨t,rfl,hl,k⟩:=h;refine hG0 ?_
  refine⟨_,aX (bT (fw rfl Ew.nd (fH (Ks (pv 0) gz)) (eI (N:=["line","word"]) (sc:=bb um) (own:=[("word",1)]) (by decide+kernel)) (λv v v v v=>bY (i:=1) Ew.nd rfl (aV rfl)) (λv v v v v=>sf (df nH (pv 1) gz (c7 _))) (λv v v v v=>pv 1))),?_⟩
  refine⟨_,rfl,⟨_,rfl⟩,cb t," ",rfl,rfl,rfl,(by have e:(cb t).length=t.length:=rfl;rw[e];exact sle _ (by omega)),λp hp=>⟨p,rfl,⟨_,aj.of aR⟩,λD hD=>?_⟩⟩
  have ln:((lF (cb t) " ").map V.str).length<=t.length+1:=by rw[DN,aA,aA];exact Rm.ua 32 t []
  refine fF (fJ (xs:=(lF (cb t) " ").map V.str)) (λH2 s2=>aj.of (s2 _ _ aR)) (λi=>((d8 32 [] t)[i]?).bind λx=>if x=[]then none else some (tV x)) (sl _ (by omega)) hD (λi H2 x H' KY KN hi s2 y ky kn=>?_) (λH2 s2 hd=>?_)
  .obtain⟨rfl,hx⟩:=y
   rw[DN,bU,bz]at hx;obtain⟨z,hz,rfl⟩:=di.mp hx;refine⟨rfl,_,rfl,rfl,_,rfl,?_⟩;have e0:decide (V.str (cb z)=V.str "")=decide (z=[]):=by
    by_cases h:z=[]
    .subst h;rw[DV];simp
    .rw[cU h,cU]
     intro q;exact h (J1 (q.trans (by rw[<-DV];rfl)))
   refine cJ (c:=¬z=[]) (by show(!decide (V.str (cb z)=V.str ""))=_;rw[e0];simp) (λh=>?_) (λh=>?_)
   .exact⟨_,rfl,ky _ _ (by rw[hz];simp[h];rfl) (ak.refl _)⟩
   .exact kn _ (by rw[hz];simp[i9.mp h]) (ak.refl _)
  .refine k H2 D ((ak.new hp).trans s2) (ak.free (ak.new hp) hD) ?_
   rw[hd,DN,aA,aA,Eu,SQ]
theorem DG:bX ["row","byte"] ["row"] (bb vg):=⟨rfl,rfl,rfl,by decide+kernel,rfl,by decide+kernel,by decide+kernel⟩
def xk(K:aU):Sp:=λvs H Q z=>∃(a:aa)(t:Text),vs=[.ref a]/\aj K H a (t.map nV)/\t.length<=1000/\∀H' p,ak H H'->H p=none->H' p=some (.lst ((d8 10 [] (t.map Rm.sg)).map tV))->Q (.ref p) H'
theorem Rc(G:Gd K mg "pieces_of" vg)(T:Tx K mg CM CD)(d_sign_of:Df P w K mg base be 1 "sign_of" ["byte"] L5):Df P w K mg base be 2 "pieces_of" ["row"] (xk K):=by
 obtain⟨f,fd,F,hm⟩:=G.ex;refine⟨f,fd,F.dn DG (λvs H Q E h=>?_) (λcdv A outer s H vs Q E hr h=>?_),hm,F.kp,F.binds (bn1 rfl)⟩
 .obtain⟨a,t,rfl,z⟩:=h;rfl
 .intro X0;apply fz h;intro a t zz;refine gy zz λha hl k=>?_;clear zz
  refine⟨_,aX (bT (Ks (Ab gz (fw rfl DG.nd (fH (pv 0)) (eI (N:=["row","byte"]) (sc:=bb vg) (own:=[("byte",1)]) (by decide+kernel)) (λz z z z z=>bY (i:=1) DG.nd rfl (aV rfl)) (λz z z z z=>fU) (λz z z z z=>bQ d_sign_of hr b0 (ai (pv 1) au)))) gz)),?_⟩
  refine⟨⟨_,rfl⟩,_,rfl,a,rfl,⟨_,ha⟩,λD hD=>?_⟩;refine fF (fJ (xs:=t.map nV)) (λH2 s2=>s2.seq ha) (λi=>(t[i]?).map λc=>V.str ⟨#[Rm.sg c]⟩) (sl _ (by rw[aA];omega)) hD (λi H2 x H' KY KN hi s2 y ky kn=>?_) (λH2 s2 hd=>?_)
  .obtain⟨rfl,hx⟩:=y
   rw[bz]at hx;obtain⟨c,hc,rfl⟩:=di.mp hx;exact⟨rfl,fY ⟨_,rfl,c,rfl,ky _ _ (by rw[hc];rfl) (ak.refl _)⟩⟩
  .have e1:((cR (t.map nV).length).filterMap λi=>(t[i]?).map λc=>V.str ⟨#[Rm.sg c]⟩)=((t.map Rm.sg).map λc=>(⟨#[c]⟩:ae)).map V.str:=by rw[aA,jX,bU,bU];rfl
   rw[e1]at hd;have e2:rg "" ((t.map Rm.sg).map λc=>(⟨#[c]⟩:ae))=cb (t.map Rm.sg):=TL.sE (by rw[RQ];rfl)
   refine⟨"",D,(t.map Rm.sg).map λc=>(⟨#[c]⟩:ae),rfl,rfl,.inl (aj.of hd),?_,⟨_,rfl⟩,cb (t.map Rm.sg),"\n",by rw[e2],rfl,rfl,?_,λp hp=>?_⟩
   .have e3:((((t.map Rm.sg).map λc=>(⟨#[c]⟩:ae)).map λx=>x.length).sum)=t.length:=by
     rw[bU,bU];clear e2 hd e1 k ha hl;induction t with
     |nil=>rfl
     |cons c r ih=>rw[bS,FL,ih,cY];show 1+_=_;omega
    rw[e3,aA,aA,show("":ae).length=0 by decide+kernel]
    omega
   .have e:(cb (t.map Rm.sg)).length=t.length:=by show(t.map Rm.sg).length=_;rw[aA]
    rw[e];exact sle _ (by omega)
   .refine k _ p (s2.trans (ak.new hp)) (s2.free hp) ?_
    rw[aR,Wr,bU];rfl
def lT(t:Text):Bool:=decide (1<=t.length/\t.length<=9/\t.head?≠some 48/\t.all dP=true)
theorem AO:bX ["word","sign"] ["word"] (bb uM):=⟨rfl,rfl,rfl,by decide+kernel,rfl,by decide+kernel,by decide+kernel⟩
def IW:Sp:=λvs H Q z=>∃t:Text,vs=[tV t]/\t.length<=1000/\∀H',ak H H'->Q (.bl (lT t)) H'
theorem W5(c:Nat):decide (c∈(("0123456789":ae)).cps.toList)=dP c:=by
 have e:(("0123456789":ae)).cps.toList=(cR 10).map (λi=>48+i):=by decide+kernel
 rw[e];unfold dP
 congr 1
 apply propext;rw[bw];constructor
 .rintro⟨i,hi,rfl⟩
  have:=kq.mp hi;omega
 .intro h
  exact⟨c - 48,kq.mpr (by omega),by omega⟩
theorem OO(G:Gd K mg "is_amount" uM)(T:Tx K mg CM CD):Df P w K mg base be 1 "is_amount" ["word"] IW:=by
 obtain⟨f,fd,F,hm⟩:=G.ex;refine⟨f,fd,F.dn AO (λvs H Q E h=>?_) (λcdv A outer s H vs Q E hr h=>?_),hm,F.kp,F.binds (bn1 rfl)⟩
 .obtain⟨t,rfl,v⟩:=h;rfl
 .intro X0;refine gK λG0 hG0=>?_;obtain⟨t,rfl,hl,k⟩:=h;refine hG0 ?_
  have sz:(cb t).length<=sizeLine:=sle _ (show t.length<=100000 by omega)
  refine⟨_,eR (PW.pt (oZ (vi (yu mT mT aQ (dh Ja rfl T.fK f9 (ai (pv 0) au)) (fC T.Ux))) (sC (df iX (bh BJ (pv 0) aQ (λv v=>rfl)) gz (c7 _))))) (aX (bT oQ)) (aX (bT (dh (u9 rfl) rfl T.vb z5 (ai (fw rfl AO.nd (Al (pv 0)) (eI (N:=["word","sign"]) (sc:=bb uM) (own:=[("sign",1)]) (by decide+kernel)) (λv v v v v=>bY (i:=1) AO.nd rfl (aV rfl)) (λv v v v v=>fU) (λv v v v v=>oU Kz (pv 1) (yL T.JE) (by with_unfolding_all rfl))) au)))),?_⟩
  refine y4 (i:=1) (j:=(t.length:Int)) (k:=9) (λR r=>r) (λR r=>⟨_,rfl,cb t,rfl,sz,r⟩) (λR r=>r) ?_;by_cases h1:(1:Int)<=(t.length:Int)/\(t.length:Int)<=9
  .rw[dw h1]
   refine fV ?_;obtain⟨c,r,rfl⟩:∃c r,t=c::r:=by
    cases t with
    |nil=>simp at h1
    |cons c r=>exact⟨c,r,rfl⟩
   refine⟨_,rfl,cb (c::r),0,c,rfl,rfl,sz,bj (j:=0) rfl,rfl,_,rfl,?_⟩;have e0:decide (V.str ⟨#[c]⟩=V.str "0")=decide (c=48):=by
    by_cases h:c=48
    .subst h;rw[dw rfl];decide+kernel
    .rw[cU h,cU]
     intro q;have:TL.tl (⟨#[c]⟩:ae)=TL.tl ("0":ae):=cq TL.tl (V.str.inj q);rw[show TL.tl ("0":ae)=[48] by decide+kernel]at this
     exact h (List.head_eq_of_cons_eq this)
   refine cJ e0 (λh=>?_) (λh=>?_)
   .have e:lT (c::r)=false:=by unfold lT;rw[cU];simp[h]
    rw[<-e];exact k _ (ak.refl _)
   .refine⟨_,rfl,_,rfl,λD hD=>fF BU (λv v=>dy) (λi=>((c::r)[i]?).map λc=>V.bl (dP c)) ?_ hD (λi H2 x H' KY KN hi s2 y ky kn=>?_) (λH2 s2 hd=>?_)⟩
    .exact sl _ (show(c::r).length<=100000 by omega)
    .obtain⟨rfl,d,hc,rfl⟩:=y
     refine⟨rfl,fY ⟨_,rfl,d,_,rfl,rfl,?_⟩⟩;rw[W5];exact ky _ _ (by rw[show(c::r)[i]? =some d by simpa[cb]using hc];rfl) (ak.refl _)
    .refine⟨D,(c::r).map dP,rfl,aj.of (by rw[hd,show(cb (c::r)).cps.size=(c::r).length from rfl,jX,bU];rfl),?_⟩
     have e:((c::r).map dP).all id=lT (c::r):=by
      unfold lT;rw[pF];have e2:(c::r).all (id∘dP)=(c::r).all dP:=rfl;rw[e2];have a1:1<=(c::r).length:=by omega
      have a2:(c::r).length<=9:=by omega
      have a3:(c::r).head?≠some 48:=by simp[h]
      cases q:(c::r).all dP with
      |true=>exact(dw ⟨a1,a2,a3,rfl⟩).symm
      |false=>exact(cU (by rintro⟨_,_,_,z⟩;cases z)).symm
     rw[e];exact k _ s2
  .rw[cU h1]
   refine fm (fm ?_);have e:lT t=false:=by unfold lT;rw[cU];rintro⟨a,b,_⟩;exact h1 (by omega)
   show Q (.bl false) H;rw[<-e];exact k _ (ak.refl _)
end
theorem vn(n:Text)(os:List Text):yl (tV n) (os.map tV)=os.contains n:=by
 unfold yl;rw[Fo];induction os with
 |nil=>rfl
 |cons x r ih=>
  rw[qW,ih,NQ]
  congr 1
  show(cb x==cb n)=(n==x);by_cases h:x=n
  .subst h;simp
  .rw[show(n==x)=false by simpa using λz=>h z.symm]
   simpa using λz=>h (CO z)
theorem ox(os:List Text):(os.map tV).all kc=true:=by rw[pF];exact fE.mpr λx z=>rfl
theorem sj(x y:Text):decide (tV x=tV y)=decide (x=y):=jr.mpr ⟨J1,λh=>by rw[h]⟩
theorem RK:V.str ("owner":ae)=tV (ck "owner"):=by
 show V.str _=V.str _
 congr 1
theorem U2:V.str ("good":ae)=tV (ck "good"):=by
 show V.str _=V.str _
 congr 1
theorem Ki:V.str ("gives":ae)=tV (ck "gives"):=by
 show V.str _=V.str _
 congr 1
theorem KQ:V.str ("to":ae)=tV (ck "to"):=by
 show V.str _=V.str _
 congr 1
theorem BF:V.str ("":ae)=tV []:=by
 show V.str _=V.str _;rw[DV]
section
variable{P:bA}
theorem WS:bX ["words","owners","goods"] ["words","owners","goods"] (bb zg):=⟨rfl,rfl,rfl,by decide+kernel,rfl,by decide+kernel,by decide+kernel⟩
def IX(K:aU)(E2:aa):Sp:=λvs H Q E=>∃(aw ao ag:aa)(ws os gs:List Text),vs=[.ref aw,.ref ao,.ref ag]/\aj K H aw (ws.map tV)/\H ao=some (.lst (os.map tV))/\H ag=some (.lst (gs.map tV))/\(∀x∈ws,x.length<=1000)/\
 match Rm.e7 ws os gs with
 |none=>∀H',ak H H'->E (.ref E2) none H'
 |some y=>∀H',(∀b o,H b=some o->b≠ao->b≠ag->H' b=some o)->(ao≠ag->H' ao=some (.lst (y.1.map tV)))->(ao≠ag->H' ag=some (.lst (y.2.map tV)))->Q .bI H'
theorem Yb(G:Gd K mg "add_name" zg)(T:Tx K mg CM CD)(X:Ex K mg E1 E2 E3 E4 E5)(d_is_name:Df P w K mg base be 1 "is_name" ["word"] GK):Df P w K mg base (bR P w) 2 "add_name" ["words","owners","goods"] (IX K E2):=by
 obtain⟨f,fd,F,hm⟩:=G.ex;refine⟨f,fd,F.eP WS (λvs H Q E h=>?_) (λcdv A outer s H vs Q E hr h=>?_),hm,F.kp,F.binds (bn3 rfl)⟩
 .apply eT h;intro y y y y y y y;rfl
 .intro X0;apply eT h;intro aw ao ag ws os gs zz;refine mI zz λhw ho hg hl k=>?_
  refine⟨_,eR (PW.pt (oZ (df nH (dh iA rfl T.fK f9 (ai (pv 0) au)) aQ (c7 _)) (sC (vi (nO (bQ d_is_name hr b0 (ai (bh bO (pv 0) aQ (λy y=>rfl)) au))))))) (aX (je rfl X.m2 X.x2)) (eR (PW.pt (oZ (df CG (bh bO (pv 0) aQ (λy y=>rfl)) (pv 1) (by with_unfolding_all rfl)) (sC (df CG (bh bO (pv 0) aQ (λy y=>rfl)) (pv 2) (by with_unfolding_all rfl))))) (aX (je rfl X.m2 X.x2)) (aX (kO (PW.pt (Dl (df iX (bh bO (pv 0) aQ (λy y=>rfl)) gz (c7 _)) (DL (df vA (dh iA rfl T.fK f9 (ai (pv 1) au)) (fC T.Vz) (c7 _))))) (aX (cG (gI gU NR NS DS (pv 1) (ai (bh bO (pv 0) aQ (λy y=>rfl)) au)))) (aX (kO (PW.pt (Dl (df iX (bh bO (pv 0) aQ (λy y=>rfl)) gz (c7 _)) (DL (df vA (dh iA rfl T.fK f9 (ai (pv 2) au)) (fC T.Xf) (c7 _))))) (aX (cG (gI gU NR NS DS (pv 2) (ai (bh bO (pv 0) aQ (λy y=>rfl)) au)))) (aX (je rfl X.m2 X.x2))))))),?_⟩
  refine⟨_,rfl,aw,_,rfl,.inl hw,rfl,_,rfl,?_⟩;have el:((ws.map tV).length:Int)=(ws.length:Int):=by rw[aA]
  refine cJ (c:=¬ws.length=2) (by
   show(!decide (V.int ((ws.map tV).length:Int)=V.int 2))=_;rw[el];by_cases h:ws.length=2
   .simp[h]
   .rw[dw h,cU];rfl
    intro z;exact h (by have:=V.int.inj z;omega)) (λh=>?_) (λh=>?_)
  .refine fm ?_
   have e:Rm.e7 ws os gs=none:=by
    unfold Rm.e7;split
    .exact absurd rfl h
    .rfl
   rw[e]at k;exact k _ (ak.refl _)
  .obtain⟨w0,n,rfl⟩:∃w0 n,ws=[w0,n]:=by
    match ws,i9.mp h with
    |[a,b],_=>exact⟨a,b,rfl⟩
   refine⟨_,rfl,bL hw (bj (j:=1) rfl) ⟨n,rfl,hl n (by simp),λH1 s1=>⟨_,rfl,?_⟩⟩⟩
   have hw1:=s1.seq hw;have ho1:=s1 _ _ ho;have hg1:=s1 _ _ hg;refine cJ (c:=dD n=false) (by cases dD n<;>rfl) (λh1=>?_) (λh1=>?_)
   .have e:Rm.e7 [w0,n] os gs=none:=by unfold Rm.e7;dsimp only;rw[ay (.inl h1)]
    rw[e]at k;exact k _ s1
   .refine⟨_,rfl,bL hw1 (bj (j:=1) rfl) ⟨_,rfl,ao,_,rfl,.inl (aj.of ho1),rfl,ox os,_,rfl,?_⟩⟩
    refine cJ (c:=os.contains n=true) (by rw[aq dH,vn];simp) (λh2=>fm ?_) (λh2=>?_)
    .have e:Rm.e7 [w0,n] os gs=none:=by unfold Rm.e7;dsimp only;rw[ay (.inr (.inl h2))]
     rw[e]at k;exact k _ s1
    .refine⟨_,rfl,bL hw1 (bj (j:=1) rfl) ⟨_,rfl,ag,_,rfl,.inl (aj.of hg1),rfl,ox gs,_,rfl,?_⟩⟩
     refine cJ (c:=gs.contains n=true) (by rw[aq dH,vn];simp) (λh3=>?_) (λh3=>?_)
     .have e:Rm.e7 [w0,n] os gs=none:=by unfold Rm.e7;dsimp only;rw[ay (.inr (.inr h3))]
      rw[e]at k;exact k _ s1
     .have c0:¬(dD n=false\/os.contains n=true\/gs.contains n=true):=by rintro(z|z|z)<;>contradiction
      have e0:Rm.e7 [w0,n] os gs=(if w0=ck "owner" then(if 8<=os.length then none else some (os++[n],gs))else if w0=ck "good" then(if 6<=gs.length then none else some (os,gs++[n]))else none):=by unfold Rm.e7;dsimp only;rw[aq c0]
      rw[e0]at k;have og:¬ck "owner"=ck "good":=by decide+kernel
      have raise_:(if w0=ck "owner" then(if 8<=os.length then none else some (os++[n],gs))else if w0=ck "good" then(if 6<=gs.length then none else some (os,gs++[n]))else none:Option (List Text×List Text))=none->E (.ref E2) none H1:=λq=>by rw[q]at k;exact k _ s1
      have rest:¬(w0=ck "owner"/\os.length<8)->HP (L9 (sG (nJ Cr (nJ (wZ K) (sd 0) (tC (.int 0))) (tC (.str "good")))) (sG (nJ (lY λi j=>.bl (decide (i<j))) (yN (λxs H Q=>∃p ys,xs=[.ref p]/\(aj K H p ys\/cv K H p ys)/\Q (.int ys.length) H) (yh (sd 2) oS)) (tC (.int 6)))))
       (HB (GA K "list" HX (sd 2) (yh (nJ (wZ K) (sd 0) (tC (.int 1))) oS))) (GU E2 E) {nx:=λy H'=>Q .bI H',rt:=Q} (start ["words","owners","goods"] [.ref aw,.ref ao,.ref ag]) H1:=λhno=>by
       refine⟨_,rfl,bL hw1 (bj (j:=0) rfl) ⟨rfl,_,rfl,?_⟩⟩;refine cJ (c:=w0=ck "good") (by rw[U2];exact sj _ _) (λh4=>?_) (λh4=>?_)
       .refine⟨_,rfl,ag,_,rfl,.inl (aj.of hg1),_,_,rfl,rfl,_,rfl,?_⟩
        refine cJ (c:=gs.length<6) (jr.mpr (by rw[aA];omega)) (λh5=>?_) (λh5=>?_)
        .refine⟨_,rfl,.inl ⟨rfl,_,aj.of hg1⟩,_,rfl,bL hw1 (bj (j:=1) rfl) ⟨ag,_,_,rfl,rfl,hg1,sl _ (by rw[aA];omega),?_⟩⟩
         rw[aq (by rw[h4];exact λz=>og z.symm),ay h4,aq (by omega)]at k
         refine k _ (λb o e n1 n2=>by rw[aI n2];exact s1 _ _ e) (λne=>by rw[aI ne];exact ho1) (λy=>?_)
         rw[aR,bZ];rfl
        .refine raise_ ?_
         rw[aq (by rw[h4];exact λz=>og z.symm),ay h4,ay (by omega)]
       .refine fV ?_
        refine raise_ ?_;by_cases h5:w0=ck "owner"
        .rw[ay h5,ay (by have:¬os.length<8:=λz=>hno ⟨h5,z⟩;omega)]
        .rw[aq h5,aq h4]
      refine⟨_,rfl,bL hw1 (bj (j:=0) rfl) ⟨rfl,_,rfl,?_⟩⟩;refine cJ (c:=w0=ck "owner") (by rw[RK];exact sj _ _) (λh4=>?_) (λh4=>?_)
      .refine⟨_,rfl,ao,_,rfl,.inl (aj.of ho1),_,_,rfl,rfl,_,rfl,?_⟩
       refine cJ (c:=os.length<8) (jr.mpr (by rw[aA];omega)) (λh5=>?_) (λh5=>?_)
       .refine⟨_,rfl,.inl ⟨rfl,_,aj.of ho1⟩,_,rfl,bL hw1 (bj (j:=1) rfl) ⟨ao,_,_,rfl,rfl,ho1,sl _ (by rw[aA];omega),?_⟩⟩
        rw[ay h4,aq (by omega)]at k
        refine k _ (λb o e n1 n2=>by rw[aI n1];exact s1 _ _ e) (λy=>?_) (λne=>by rw[aI (eW ne)];exact hg1)
        rw[aR,bZ];rfl
       .exact rest λz=>h5 z.2
      .exact fV (rest λz=>h4 z.1)
end
theorem Dn{α:Type}(I:List α)(l:α):iN (I++[l]) (-1)=some l:=by
 unfold iN jn;rw[aq (by omega),ay (by rw[bV];simp;omega)]
 show(I++[l])[((-1:Int)+((I++[l]).length:Nat)).toNat]? =some l;rw[show((-1:Int)+((I++[l]).length:Nat)).toNat=I.length by rw[bV];simp;omega]
 simp
theorem Ac(I:List V)(l:V):d3 (I++[l]) none (some (-1))=I:=by
 unfold d3;rw[show HT.g5 (I++[l]).length 0 none=0 from rfl,show HT.g5 (I++[l]).length (I++[l]).length (some (-1))=I.length by unfold HT.g5;dsimp only;rw[ay (by omega),bV];simp;omega]
 simp
theorem Jq:∀(l:List Text)(x:List Text×List Text)(i:Nat)(y:List Text×List Text)(t:Text),Rm.jF x (l.take i)=some y->l[i]? =some t->Rm.jF x (l.take (i+1))=Rm.e7 (gq t) y.1 y.2/\(Rm.e7 (gq t) y.1 y.2=none->Rm.jF x l=none)
 |[],x,i,y,t,_,h=>by simp at h
 |a::r,x,0,y,t,h0,h=>by
  rw[tT]at h0;have e:x=y:=by unfold Rm.jF at h0;exact dQ h0
  subst e;have e2:a=t:=by simpa using h
  subst e2;rw[FG,tT];constructor
  .unfold Rm.jF
   cases Rm.e7 (gq a) x.1 x.2 with
   |none=>rfl
   |some z=>unfold Rm.jF;rfl
  .intro q
   unfold Rm.jF;rw[q]
 |a::r,x,i+1,y,t,h0,h=>by
  rw[FG]at h0;unfold Rm.jF at h0;cases q:Rm.e7 (gq a) x.1 x.2 with
  |none=>rw[q]at h0;cases h0
  |some z=>
   rw[q]at h0;have ih:=Jq r z i y t h0 (by simpa using h)
   rw[FG];constructor
   .conv=>lhs;unfold Rm.jF
    rw[q];exact ih.1
   .intro w
    unfold Rm.jF;rw[q];exact ih.2 w
section
variable{P:bA}
theorem uP:bX ["row","owners","goods","pieces","line"] ["row"] (bb xA):=⟨rfl,rfl,rfl,by decide+kernel,rfl,by decide+kernel,by decide+kernel⟩
def LL(K:aU)(E2:aa):Sp:=λvs H Q E=>∃(a:aa)(t:Text),vs=[.ref a]/\aj K H a (t.map nV)/\t.length<=1000/\
 match tm t with
 | .error _=>∀H',ak H H'->E (.ref E2) none H'
 | .ok y=>∀H' p ao ag,ak H H'->H ao=none->H ag=none->ao≠ag->H' p=some (.tup [.ref ao,.ref ag])->H' ao=some (.lst (y.1.map tV))->H' ag=some (.lst (y.2.map tV))->Q (.ref p) H'
theorem SV(G:Gd K mg "read_market" xA)(T:Tx K mg CM CD)(X:Ex K mg E1 E2 E3 E4 E5)(d_pieces:Df P w K mg base be 2 "pieces_of" ["row"] (xk K))(d_words:Df P w K mg base be 1 "words_of" ["line"] xq)(d_add:Df P w K mg base (bR P w) 2 "add_name" ["words","owners","goods"] (IX K E2)):Df P w K mg base (bR P w) 3 "read_market" ["row"] (LL K E2):=by
 obtain⟨f,fd,F,hm⟩:=G.ex;refine⟨f,fd,F.eP uP (λvs H Q E h=>?_) (λcdv A outer s H vs Q E hr h=>?_),hm,F.kp,F.binds (bn1 rfl)⟩
 .obtain⟨n,n,rfl,n⟩:=h;rfl
 .intro X0;apply fz h;intro a t zz;refine gy zz λha hl k=>?_
  refine⟨_,aK (bW (i:=1) uP.nd rfl (aV rfl) (cW au)) (aK (bW (i:=2) uP.nd rfl (aV rfl) (cW au)) (aK (bW (i:=3) uP.nd rfl (aV rfl) (bQ d_pieces hr b0 (ai (pv 0) au))) (eR (df nH (bh bO (pv 3) (mZ mE aQ) (λn n=>rfl)) gz (c7 _)) (aX (je rfl X.m2 X.x2)) (aK (g7 rh rfl (fH (uq uR (pv 3) BC (qk (mZ mE aQ)))) (bY (i:=4) uP.nd rfl (aV rfl)) (aX (cG (bQ d_add hr eJ (ai (bQ d_words (hr.mono (by decide)) b0 (ai (pv 4) au)) (ai (pv 1) (ai (pv 2) au))))))) (aX (bT (jl (ai (pv 1) (ai (pv 2) au))))))))),?_⟩
  obtain⟨I,l,hc⟩:=Rm.Cc 10 t;have hcs:d8 10 [] (t.map Rm.sg)=I.map (·.map Rm.sg)++[l.map Rm.sg]:=by
   have:=Rm.sv (sep:=10) (.inr rfl) t [];rw[i7]at this;rw[this,hc,bZ];rfl
  rw[Rm.Xl hc]at k;refine⟨gp _,λao hao=>?_⟩;refine⟨gp _,λag hag=>?_⟩;have s1:ak H (upd (upd H ao (.lst [])) ag (.lst [])):=(ak.new hao).trans (ak.new hag);have nag:H ag=none:=(ak.new hao).free hag;have hne:ao≠ag:=λz=>by rw[<-z,aR]at hag;cases hag
  refine⟨_,rfl,a,t,rfl,s1.seq ha,hl,λH2 p s2 hp hd=>?_⟩;have hao2:=s2 _ _ (show(upd (upd H ao (.lst [])) ag (.lst [])) ao=some (.lst []) by rw[aI hne];exact aR)
  have hag2:=s2 _ _ (show(upd (upd H ao (.lst [])) ag (.lst [])) ag=some (.lst []) from aR);rw[hcs,bZ]at hd;have hpao:p≠ao:=λz=>by rw[z,aI hne,aR]at hp;cases hp
  have hpag:p≠ag:=λz=>by rw[z,aR]at hp;cases hp
  refine⟨_,rfl,_,rfl,bL (aj.of hd) (Dn _ _) ⟨rfl,_,rfl,?_⟩⟩
  refine cJ (c:=¬l=[]) (by
   show(!decide (tV (l.map Rm.sg)=V.str ""))=_;rw[BF,sj]
   cases l<;>rfl) (λh1=>?_) (λh1=>?_)
  .rw[aq h1]at k
   exact k _ (s1.trans s2)
  .rw[ay (i9.mp h1)]at k
   refine⟨_,rfl,_,rfl,_,rfl,_,_,rfl,aj.of hd,λq hq=>⟨q,rfl,⟨_,aj.of aR⟩,?_⟩⟩;have ecv:d3 (iH tV (I.map (·.map Rm.sg))++iH tV [l.map Rm.sg]) none (some (-1))=I.map λx=>tV (x.map Rm.sg):=by
    show d3 (iH tV (I.map (·.map Rm.sg))++[tV (l.map Rm.sg)]) none (some (-1))=_;rw[Ac,bU];rfl
   have hqao:q≠ao:=λz=>by rw[z,hao2]at hq;cases hq
   have hqag:q≠ag:=λz=>by rw[z,hag2]at hq;cases hq
   have sz:I.length<=1001:=by
    have:=Rm.ua 10 t [];rw[hc,bV]at this;simp at this;omega
   have il:∀x∈I,x.length<=1000:=λx hx=>by
    have:=rL 10 t [] x (by rw[hc];exact fq _ hx)
    simp at this;omega
   let W:IV:=λi σ H'=>∃(v:Option V)(y:List Text×List Text),σ=[some (.ref a),some (.ref ao),some (.ref ag),some (.ref p),v]/\ak H H'/\Rm.jF ([],[]) (I.take i)=some y/\(∀x∈y.1,dD x=true)/\(∀x∈y.2,dD x=true)/\H' ao=some (.lst (y.1.map tV))/\H' ag=some (.lst (y.2.map tV))/\H' q=some (.lst (I.map λx=>tV (x.map Rm.sg)))
   refine g0 (fJ (K:=K) (a:=q) (xs:=I.map λx=>tV (x.map Rm.sg))) (W)
    ⟨none,([],[]),rfl,(s1.trans s2).trans (ak.new hq),rfl,(λn z=>absurd z (by simp)),(λn z=>absurd z (by simp)),by rw[aI (eW hqao)];exact hao2,by rw[aI (eW hqag)];exact hag2,by rw[<-ecv];exact aR⟩ (λi σ H' n ⟨m,j,g,d,Z,Y,U,S,R,z⟩=>aj.of z) (λi σ H' x H'' hi pv y=>?_) (λσ H' pv=>?_)
   .apply fz pv;intro v y' zz;refine Bm zz λs3 hr3 n1 n2 a1 a2 a3=>?_
    obtain⟨rfl,hx⟩:=y;rw[bz]at hx;obtain⟨z,hz,rfl⟩:=di.mp hx;have zl:=il z (cZ hz);refine⟨_,rfl,z.map Rm.sg,rfl,(by rw[aA];exact zl),λH4 r s4 hr4 hd4=>⟨_,rfl,_,rfl,r,ao,ag,gq (z.map Rm.sg),y'.1,y'.2,rfl,aj.of hd4,s4 _ _ a1,s4 _ _ a2,(λx hx=>fi (By hx) (by rw[aA];exact zl)),?_⟩⟩
    have st:=Jq I ([],[]) i y' z hr3 hz;rw[Rm.CH,Rm.TH];cases q1:Rm.e7 (gq z) y'.1 y'.2 with
    |none=>
     intro H5 s5;have e1:=st.2 q1;have:=Rm.Du I 1 ([],[]);rw[e1]at this;obtain⟨e,he⟩:=this;rw[he]at k;exact k _ ((s3.trans s4).trans s5)
    |some y2=>
     intro H5 kp b1 b2;obtain⟨m1,m2,n,n⟩:=Rm.V9 (os':=y2.1) (gs':=y2.2) q1 n1 n2;refine⟨_,y2,rfl,λb o e=>kp b o (s4 _ _ (s3 _ _ e)) (λz=>by rw[z,hao]at e;cases e) (λz=>by rw[z,nag]at e;cases e),by rw[st.1,q1],m1,m2,b1 hne,b2 hne,kp _ _ (s4 _ _ a3) hqao hqag⟩
   .apply fz pv;intro v y' zz;refine Bm zz λs3 hr3 n1 n2 a1 a2 a3=>?_
    rw[aA,jv]at hr3;have:=Rm.Du I 1 ([],[]);rw[hr3]at this;dsimp only at this;rw[this]at k;refine⟨_,rfl,_,rfl,(by show 2<=sizeLine;decide),λu hu=>?_⟩
    refine k _ u ao ag (s3.trans (ak.new hu)) hao nag hne aR ?_ ?_
    .rw[aI (cQ a1 hu)];exact a1
    .rw[aI (cQ a2 hu)];exact a2
end
theorem Bo{os gs:List Text}:∀{I:List Text}{k e:Nat},Rm.lU os gs k I=some e->∃j x,e=k+j/\I[j]? =some x/\(fM os gs x).isSome=false/\∀m y,m<j->I[m]? =some y->(fM os gs y).isSome=true
 |[],k,e,h=>by cases h
 |t::r,k,e,h=>by
  unfold Rm.lU at h;by_cases c:(fM os gs t).isSome=true
  .rw[ay c]at h
   obtain⟨j,x,e1,e2,e3,e4⟩:=Bo h;refine⟨j+1,x,by omega,by simpa using e2,e3,λm y hm hy=>?_⟩
   cases m with
   |zero=>simp at hy;subst hy;exact c
   |succ m=>exact e4 m y (by omega) (by simpa using hy)
  .rw[aq c]at h
   cases h;exact⟨0,t,rfl,rfl,by simpa using c,λm y hm=>absurd hm (by omega)⟩
theorem IZ{os gs:List Text}:∀{I:List Text}{k:Nat},Rm.lU os gs k I=none->∀x∈I,(fM os gs x).isSome=true
 |[],k,h,x,hx=>absurd hx (by simp)
 |t::r,k,h,x,hx=>by
  unfold Rm.lU at h;by_cases c:(fM os gs t).isSome=true
  .rw[ay c]at h
   rcases bM.mp hx with rfl|hx
   .exact c
   .exact IZ h x hx
  .rw[aq c]at h;cases h
section
variable{P:bA}
theorem RO:bX ["words","owners","goods"] ["words","owners","goods"] (bb wI):=⟨rfl,rfl,rfl,by decide+kernel,rfl,by decide+kernel,by decide+kernel⟩
def Ir(K:aU):Sp:=λvs H Q z=>∃(aw ao ag:aa)(ws os gs:List Text),vs=[.ref aw,.ref ao,.ref ag]/\aj K H aw (ws.map tV)/\aj K H ao (os.map tV)/\aj K H ag (gs.map tV)/\(∀x∈ws,x.length<=1000)/\∀H',ak H H'->Q (.bl (Rm.jJ ws os gs)) H'
theorem OG(G:Gd K mg "is_leg" wI)(T:Tx K mg CM CD)(d_amount:Df P w K mg base be 1 "is_amount" ["word"] IW):Df P w K mg base be 2 "is_leg" ["words","owners","goods"] (Ir K):=by
 obtain⟨f,fd,F,hm⟩:=G.ex;refine⟨f,fd,F.dn RO (λvs H Q E h=>?_) (λcdv A outer s H vs Q E hr h=>?_),hm,F.kp,F.binds (bn3 rfl)⟩
 .apply eT h;intro v v v v v v v;rfl
 .intro X0;apply eT h;intro aw ao ag ws os gs zz;refine mI zz λhw ho hg hl k=>?_
  refine⟨_,eR (PW.pt (oZ (df nH (dh iA rfl T.fK f9 (ai (pv 0) au)) aQ (c7 _)) (oZ (df nH (bh bO (pv 0) aQ (λv v=>rfl)) gz (c7 _)) (sC (df nH (bh bO (pv 0) aQ (λv v=>rfl)) gz (c7 _)))))) (aX (bT oQ)) (eR (PW.pt (oZ (df JO (bh bO (pv 0) aQ (λv v=>rfl)) (pv 1) (by with_unfolding_all rfl)) (oZ (df JO (bh bO (pv 0) aQ (λv v=>rfl)) (pv 1) (by with_unfolding_all rfl)) (sC (df iX (bh bO (pv 0) aQ (λv v=>rfl)) (bh bO (pv 0) aQ (λv v=>rfl)) (c7 _)))))) (aX (bT oQ)) (aX (bT (Aa (bQ d_amount hr b0 (ai (bh bO (pv 0) aQ (λv v=>rfl)) au)) (C5 (oU CG (bh bO (pv 0) aQ (λv v=>rfl)) (pv 2) (by with_unfolding_all rfl))))))),?_⟩
  have no:Rm.jJ ws os gs=false->Q (.bl false) H:=λe=>by rw[<-e];exact k _ (ak.refl _)
  refine⟨_,rfl,aw,_,rfl,.inl hw,rfl,_,rfl,?_⟩
  refine cJ (c:=¬ws.length=6) (by
   show(!decide (V.int ((ws.map tV).length:Int)=V.int 6))=_;rw[aA];by_cases h:ws.length=6
   .simp[h]
   .rw[dw h,cU];rfl
    intro z;exact h (by have:=V.int.inj z;omega)) (λh=>fm ?_) (λh=>?_)
  .refine no ?_
   unfold Rm.jJ;split
   .exact absurd rfl h
   .rfl
  .obtain⟨a,g,n,x,t,b,rfl⟩:∃a g n x t b,ws=[a,g,n,x,t,b]:=by
    match ws,i9.mp h with
    |[a,g,n,x,t,b],_=>exact⟨a,g,n,x,t,b,rfl⟩
   have ne (x y:Text):(!decide (tV x=tV y))=decide (¬x=y):=by rw[sj];simp
   refine⟨_,rfl,bL hw (bj (j:=1) rfl) ⟨rfl,_,rfl,?_⟩⟩;refine cJ (c:=¬g=ck "gives") (by rw[Ki];exact ne _ _) (λh1=>fm ?_) (λh1=>?_)
   .refine no ?_
    unfold Rm.jJ;dsimp only;rw[cU h1];rfl
   refine⟨_,rfl,bL hw (bj (j:=4) rfl) ⟨rfl,_,rfl,?_⟩⟩;refine cJ (c:=¬t=ck "to") (by rw[KQ];exact ne _ _) (λh2=>?_) (λh2=>?_)
   .refine no ?_
    unfold Rm.jJ;dsimp only;rw[cU h2];simp
   have e0:Rm.jJ [a,g,n,x,t,b] os gs=(os.contains a&&(os.contains b&&(decide (a≠b)&&(lT n&&gs.contains x)))):=by unfold Rm.jJ lT;dsimp only;rw[dw (i9.mp h1),dw (i9.mp h2)];rfl
   refine⟨_,rfl,bL hw (bj (j:=0) rfl) ⟨_,rfl,ao,_,rfl,.inl ho,rfl,ox os,_,rfl,?_⟩⟩;refine cJ (c:=os.contains a=false) (by rw[ay rfl,vn];cases os.contains a<;>rfl) (λh3=>fm ?_) (λh3=>?_)
   .refine no ?_
    rw[e0,h3];rfl
   refine⟨_,rfl,bL hw (bj (j:=5) rfl) ⟨_,rfl,ao,_,rfl,.inl ho,rfl,ox os,_,rfl,?_⟩⟩;refine cJ (c:=os.contains b=false) (by rw[ay rfl,vn];cases os.contains b<;>rfl) (λh4=>fm ?_) (λh4=>?_)
   .refine no ?_
    rw[e0,h4];simp
   refine⟨_,rfl,bL hw (bj (j:=0) rfl) ⟨_,rfl,bL hw (bj (j:=5) rfl) ⟨rfl,_,rfl,?_⟩⟩⟩;refine cJ (c:=a=b) (sj _ _) (λh5=>?_) (λh5=>?_)
   .refine no ?_
    rw[e0,h5];simp
   rw[e0,show os.contains a=true by simpa using h3,show os.contains b=true by simpa using h4,dw h5,qI,qI,qI]at k
   refine⟨_,rfl,bL hw (bj (j:=2) rfl) ⟨n,rfl,hl n (by simp),λH1 s1=>⟨_,rfl,?_⟩⟩⟩
   refine cJ (c:=lT n=true) (by simp) (λh6=>?_) (λh6=>?_)
   .refine⟨_,rfl,bL (s1.seq hw) (bj (j:=3) rfl) ⟨_,rfl,ag,_,rfl,.inl (s1.seq hg),rfl,ox gs,?_⟩⟩
    rw[aq dH,vn];rw[h6,qI]at k;exact k _ s1
   .rw[show lT n=false by simpa using h6,vZ]at k
    exact k _ s1
abbrev JF:List ae:=["row","owners","goods","pieces","lines","wrong","number","line"]
theorem HQ:bX JF ["row","owners","goods"] (bb u4):=⟨rfl,rfl,rfl,by decide+kernel,rfl,by decide+kernel,by decide+kernel⟩
structure gx(os gs:List Text):Prop where
 o:∀x∈os,dD x=true
 g:∀x∈gs,dD x=true
def p8(os gs:List Text)(t:Text):V:=match ly os gs t with
 | .error e=>nV e
 | .ok _=>.bI
def El(K:aU):Sp:=λvs H Q z=>∃(a ao ag:aa)(t:Text)(os gs:List Text),vs=[.ref a,.ref ao,.ref ag]/\aj K H a (t.map nV)/\aj K H ao (os.map tV)/\aj K H ag (gs.map tV)/\t.length<=1000/\gx os gs/\∀H',ak H H'->Q (p8 os gs t) H'
theorem Yj(G:Gd K mg "wrong_line_of_legs" u4)(T:Tx K mg CM CD)(d_pieces:Df P w K mg base be 2 "pieces_of" ["row"] (xk K))(d_words:Df P w K mg base be 1 "words_of" ["line"] xq)(d_leg:Df P w K mg base be 2 "is_leg" ["words","owners","goods"] (Ir K)):Df P w K mg base be 3 "wrong_line_of_legs" ["row","owners","goods"] (El K):=by
 obtain⟨f,fd,F,hm⟩:=G.ex;refine⟨f,fd,F.dn HQ (λvs H Q E h=>?_) (λcdv A outer s H vs Q E hr h=>?_),hm,F.kp,F.binds (bn3 rfl)⟩
 .apply eT h;intro _ _ _ _ _ _ _;rfl
 .intro X0;apply eT h;intro a ao ag t os gs zz;refine pk zz λha ho hg hl hn k=>?_
  have nd:=HQ.nd;refine⟨_,aK (bW (i:=3) nd rfl (aV rfl) (bQ d_pieces hr b0 (ai (pv 0) au))) (eR (df nH (bh bO (pv 3) (mZ mE aQ) (λ_ _=>rfl)) gz (c7 _)) (aX (bT (dh iA rfl T.fK f9 (ai (pv 3) au)))) (aK (bW (i:=4) nd rfl (aV rfl) (uq uR (pv 3) BC (qk (mZ mE aQ)))) (eR (df iX (dh iA rfl T.fK f9 (ai (pv 4) au)) aQ (c7 _)) (aX (bT aQ)) (eR (df qz (dh iA rfl T.fK f9 (ai (pv 4) au)) (fC T.G2) (c7 _)) (aX (bT (eG mx (fC T.G2) aQ))) (aK (wL (i:=5) rfl nd rfl rfl rfl (VO rfl T.C8 (pv 4)) (eI (N:=JF) (sc:=bb u4) (own:=[("number",6),("line",7)]) (by decide+kernel)) (λ_ _ _ _ _=>vd (K:=K) 2 rfl rfl (dA (bY (i:=6) nd rfl (aV rfl) (.inr rfl)) (dA (bY (i:=7) nd rfl (aV rfl) (.inr rfl)) ji))) (λ_ _ _ _ _=>sf (vi (nO (bQ d_leg hr b0 (ai (bQ d_words (hr.mono (by decide)) b0 (ai (pv 7) au)) (ai (pv 1) (ai (pv 2) au))))))) (λ_ _ _ _ _=>pv 6)) (aX (bT (SW rfl rfl T.La (pv 5))))))))),?_⟩
  obtain⟨I,l,hc⟩:=Rm.Cc 10 t;have hcs:d8 10 [] (t.map Rm.sg)=I.map (·.map Rm.sg)++[l.map Rm.sg]:=by
   have:=Rm.sv (sep:=10) (.inr rfl) t [];rw[i7]at this;rw[this,hc,bZ];rfl
  have sz:I.length<=1001:=by
   have:=Rm.ua 10 t [];rw[hc,bV]at this;simp at this;omega
  have il:∀x∈I,x.length<=1000:=λx hx=>by
   have:=rL 10 t [] x (by rw[hc];exact fq _ hx)
   simp at this;omega
  unfold p8 at k;rw[Rm.LY hc]at k;refine⟨_,rfl,a,t,rfl,ha,hl,λH2 p s2 hp hd=>?_⟩;rw[hcs,bZ]at hd;refine⟨_,rfl,_,rfl,bL (aj.of hd) (Dn _ _) ⟨rfl,_,rfl,?_⟩⟩
  refine cJ (c:=¬l=[]) (by
   show(!decide (tV (l.map Rm.sg)=V.str ""))=_;rw[BF,sj]
   cases l<;>rfl) (λh1=>?_) (λh1=>?_)
  .rw[aq h1]at k
   refine⟨_,rfl,p,_,rfl,.inl (aj.of hd),?_⟩;have:=k _ s2;dsimp only at this;rw[show((iH tV (I.map (·.map Rm.sg))++iH tV [l.map Rm.sg]).length:Int)=((I.length+1:Nat):Int) by simp]
   exact this
  rw[ay (i9.mp h1)]at k;refine⟨_,rfl,_,rfl,_,rfl,_,_,rfl,aj.of hd,λq hq=>?_⟩;have ecv:d3 (iH tV (I.map (·.map Rm.sg))++iH tV [l.map Rm.sg]) none (some (-1))=I.map λx=>tV (x.map Rm.sg):=by
   show d3 (iH tV (I.map (·.map Rm.sg))++[tV (l.map Rm.sg)]) none (some (-1))=_;rw[Ac,bU];rfl
  rw[ecv];have s3:ak H (upd H2 q (.lst (I.map λx=>tV (x.map Rm.sg)))):=s2.trans (ak.new hq);generalize hH3:upd H2 q (.lst (I.map λx=>tV (x.map Rm.sg)))=H3 at s3;have hq3:H3 q=some (.lst (I.map λx=>tV (x.map Rm.sg))):=by rw[<-hH3];exact aR
  refine⟨_,rfl,q,_,rfl,.inl (aj.of hq3),rfl,_,rfl,?_⟩
  refine cJ (c:=I=[]) (by
   show decide (V.int ((I.map λx=>tV (x.map Rm.sg)).length:Int)=V.int 0)=_;refine jr.mpr ⟨λz=>?_,λz=>by subst z;rfl⟩
   have:=V.int.inj z;rw[aA]at this
   exact Z9.mp (by omega)) (λh2=>?_) (λh2=>?_)
  .rw[ay h2]at k
   exact k _ s3
  rw[aq h2]at k;refine⟨_,rfl,q,_,rfl,.inl (aj.of hq3),_,_,rfl,rfl,_,rfl,?_⟩;refine cJ (c:=12<I.length) (jr.mpr (by rw[aA];omega)) (λh3=>?_) (λh3=>?_)
  .rw[ay h3]at k
   exact⟨_,_,rfl,rfl,k _ s3⟩
  rw[aq h3]at k;refine⟨_,rfl,q,_,rfl,aj.of hq3,λD hD=>?_⟩;refine fF (Q2 (K:=K) (a:=q) (xs:=I.map λx=>tV (x.map Rm.sg))) (λH4 s4=>aj.of (s4 _ _ hq3)) (λi=>(I[i]?).bind λx=>if(fM os gs x).isSome=true then none else some (V.int ((i:Nat)+1))) (sl _ (by rw[aA];omega)) hD (λi H4 x H' KY KN hi s4 y ky kn=>?_) (λH4 s4 hd4=>?_)
  .obtain⟨Tt,v,rfl,hT,rfl,hv⟩:=y
   rw[bz]at hv;obtain⟨z,hz,rfl⟩:=di.mp hv;have zl:=il z (cZ hz);have s5:ak H4 (upd H4 Tt (.tup [.int (i+1),tV (z.map Rm.sg)])):=ak.new hT;refine⟨Tt,_,rfl,cv.of aR,rfl,_,_,rfl,_,_,rfl,rfl,rfl,?_⟩;refine⟨_,rfl,z.map Rm.sg,rfl,(by rw[aA];exact zl),λH6 r s6 hr6 hd6=>⟨_,rfl,_,rfl,r,ao,ag,gq (z.map Rm.sg),os,gs,rfl,aj.of hd6,((s3.trans s4).trans (s5.trans s6)).seq ho,((s3.trans s4).trans (s5.trans s6)).seq hg,(λx hx=>fi (By hx) (by rw[aA];exact zl)),λH7 s7=>⟨_,rfl,?_⟩⟩⟩
   rw[Rm.CH,Rm.XH hn.o hn.g,<-Rm.Ox];refine cJ (c:=(fM os gs z).isSome=false) (by cases(fM os gs z).isSome<;>rfl) (λh4=>?_) (λh4=>?_)
   .exact⟨_,rfl,ky _ _ (by rw[hz];simp[h4]) ((s5.trans s6).trans s7)⟩
   .exact kn _ (by rw[hz,sV,ay (bt h4)]) ((s5.trans s6).trans s7)
  .generalize hns:((cR I.length).filterMap λ(i:Nat)=>(I[i]?).bind λx=>if(fM os gs x).isSome=true then none else some ((i:Int)+1))=ns
   have el:((cR (I.map λx=>tV (x.map Rm.sg)).length).filterMap λi=>(I[i]?).bind λx=>if(fM os gs x).isSome=true then none else some (V.int ((i:Nat)+1)))=ns.map V.int:=by
    rw[<-hns,aA,List.map_filterMap]
    congr 1
    funext i;cases I[i]? with
    |none=>rfl
    |some x=>by_cases c:(fM os gs x).isSome=true<;>simp[c]
   rw[el]at hd4;have mem:∀M:Int,M∈ns↔∃(j:Nat)(x:Text),I[j]? =some x/\(fM os gs x).isSome=false/\M=(j:Int)+1:=λM=>by
    rw[<-hns,E6];constructor
    .rintro⟨j,hj,e⟩
     cases q:I[j]? with
     |none=>rw[q]at e;cases e
     |some x=>
      rw[q]at e;simp only[sV]at e;split at e
      .cases e
      .rename_i c
       exact⟨j,x,q,by simpa using c,(dQ e).symm⟩
    .rintro⟨j,x,hj,e,rfl⟩
     exact⟨j,kq.mpr (cN.mp hj).1,by rw[hj];simp[e]⟩
   have fb:=Rm.CN os gs I 1;refine⟨_,rfl,D,ns,rfl,aj.of hd4,λe0=>?_,λM hM hmin=>?_⟩
   .cases q:Rm.lU os gs 1 I with
    |none=>
     rw[q]at fb;obtain⟨ls,h5,_⟩:=fb;rw[h5]at k;exact k _ (s3.trans s4)
    |some e=>
     obtain⟨j,x,e1,e2,e3,e4⟩:=Bo q;have:=(mem ((j:Int)+1)).2 ⟨j,x,e2,e3,rfl⟩;rw[e0]at this;cases this
   .obtain⟨j,x,hj,e,rfl⟩:=(mem M).1 hM
    cases q:Rm.lU os gs 1 I with
    |none=>
     have:=IZ q x (cZ hj);rw[e]at this;cases this
    |some e'=>
     rw[q]at fb;dsimp only at fb;rw[fb]at k;obtain⟨j',x',e1,e2,e3,e4⟩:=Bo q;have le:=hmin _ ((mem ((j':Int)+1)).2 ⟨j',x',e2,e3,rfl⟩);have ge:j'<=j:=Nat.le_of_not_lt λz=>by rw[e4 j x z hj]at e;cases e
     have ee:(e':Int)=(j:Int)+1:=by omega
     have kk:Q (nV e') H4:=k _ (s3.trans s4);rw[show nV e'=V.int ((j:Int)+1) from cq V.int ee]at kk;exact kk
end
def gW(l:bN):List V:=[nV l.from_,nV l.n,nV l.good,nV l.to_]
theorem LS(x y:Text):kd (tV x) (tV y)=decide (x=y):=by
 show(cb x==cb y)=decide (x=y);by_cases h:x=y
 .subst h;simp
 .rw[cU h];simpa using λz=>h (CO z)
theorem Ej{os:List Text}{a:Text}{i:Nat}(h:jQ os a=some i):(os.map tV)[i]? =some (tV a)/\kd (tV a) (tV a)=true/\∀(m:Nat)(z:V),m<i->(os.map tV)[m]? =some z->kd z (tV a)=false:=by
 obtain⟨h1,h2⟩:=Rm.rK h;refine⟨by rw[bz,h1];rfl,by rw[LS];simp,λm z hm hz=>?_⟩
 rw[bz]at hz;obtain⟨x,hx,rfl⟩:=di.mp hz;rw[LS,cU (h2 m x hm hx)]
theorem X3{n:Text}{k:Nat}(h:aaa n=some k):ZM (cb n)=some (k:Int)/\n.length<=9/\n.all dP=true:=by
 unfold aaa at h;split at h
 .cases h
 .rename_i c
  simp only[i8]at c;have hd:n.all dP=true:=by simpa using c.2.2.1
  refine⟨?_,by omega,hd⟩
  have ad:abf (cb n).cps.toList:=λd hd'=>by
   have:=fE.mp hd d (by simpa[cb]using hd')
   unfold dP at this;simpa using this
  rw[PySem.intText_digits ad (by simpa[cb]using c.1) (by show n.length<=4300;omega)]
  have e:abg (cb n).cps.toList=k:=by
   show n.foldl (λacc c=>acc*10+(c - 48)) 0=k;rw[<-dQ h]
   congr 1
   funext a c;rw[Yx]
  rw[e]
section
variable{P:bA}
theorem Rx:bX ["words","owners","goods"] ["words","owners","goods"] (bb xD):=⟨rfl,rfl,rfl,by decide+kernel,rfl,by decide+kernel,by decide+kernel⟩
def LR(K:aU):Sp:=λvs H Q z=>∃(aw ao ag:aa)(t:Text)(os gs:List Text)(l:bN),vs=[.ref aw,.ref ao,.ref ag]/\aj K H aw ((gq (t.map Rm.sg)).map tV)/\aj K H ao (os.map tV)/\aj K H ag (gs.map tV)/\gx os gs/\fM os gs t=some l/\∀p,H p=none->Q (.ref p) (upd H p (.tup (gW l)))
theorem Ob(G:Gd K mg "leg_of" xD)(T:Tx K mg CM CD):Df P w K mg base be 1 "leg_of" ["words","owners","goods"] (LR K):=by
 obtain⟨f,fd,F,hm⟩:=G.ex;refine⟨f,fd,F.dn Rx (λvs H Q E h=>?_) (λcdv A outer s H vs Q E hr h=>?_),hm,F.kp,F.binds (bn3 rfl)⟩
 .apply mB h;intro z z z z z z z z;rfl
 .intro X0;apply mB h;intro aw ao ag t os gs l zz;refine pk zz λhw ho hg hn hl k=>?_
  refine⟨_,aX (bT (jl (ai (gI gU Fm NT D9 (pv 1) (ai (bh bO (pv 0) aQ (λz z=>rfl)) au)) (ai (uT Pj rfl T.RH abh (ai (bh bO (pv 0) aQ (λz z=>rfl)) au)) (ai (gI gU Fm NT D9 (pv 2) (ai (bh bO (pv 0) aQ (λz z=>rfl)) au)) (ai (gI gU Fm NT D9 (pv 1) (ai (bh bO (pv 0) aQ (λz z=>rfl)) au)) au)))))),?_⟩;obtain⟨a,n,x,b,hw2,pa,pn,px,pb,z,z⟩:=Rm.Qk hl;obtain⟨ni,nl,nd⟩:=X3 pn;have sa:a.map Rm.sg=a:=(Rm.kb (Rm.oI (hn.o a (cZ (Rm.rK pa).1)))).2 rfl;have sb:b.map Rm.sg=b:=(Rm.kb (Rm.oI (hn.o b (cZ (Rm.rK pb).1)))).2 rfl;have sx:x.map Rm.sg=x:=(Rm.kb (Rm.oI (hn.g x (cZ (Rm.rK px).1)))).2 rfl;have sn:n.map Rm.sg=n:=Rm.Ma nd;have sg1:(ck "gives").map Rm.sg=ck "gives":=(Rm.kb Rm.Jg).2 rfl;have sg2:(ck "to").map Rm.sg=ck "to":=(Rm.kb Rm.JM).2 rfl;have hw':aj K H aw [tV a,tV (ck "gives"),tV n,tV x,tV (ck "to"),tV b]:=by
   rw[Rm.CH,hw2]at hw;simp only[bS,i7,sa,sb,sx,sn,sg1,sg2]at hw;exact hw
  obtain⟨a1,a2,a3⟩:=Ej pa;obtain⟨x1,x2,x3⟩:=Ej px;obtain⟨b1,b2,b3⟩:=Ej pb;refine⟨_,rfl,.inl ⟨rfl,_,ho⟩,_,rfl,bL hw' (bj (j:=0) rfl) ⟨ao,_,_,l.from_,_,rfl,rfl,ho,rfl,ox os,a1,a2,a3,?_⟩⟩;refine⟨_,rfl,bL hw' (bj (j:=2) rfl) ⟨cb n,_,rfl,ni,(by show n.length<=640;omega),?_⟩⟩
  refine⟨_,rfl,.inl ⟨rfl,_,hg⟩,_,rfl,bL hw' (bj (j:=3) rfl) ⟨ag,_,_,l.good,_,rfl,rfl,hg,rfl,ox gs,x1,x2,x3,?_⟩⟩;refine⟨_,rfl,.inl ⟨rfl,_,ho⟩,_,rfl,bL hw' (bj (j:=5) rfl) ⟨ao,_,_,l.to_,_,rfl,rfl,ho,rfl,ox os,b1,b2,b3,?_⟩⟩;exact⟨by show 4<=sizeLine;decide,λp hp=>k p hp⟩
abbrev Ls:List ae:=["row","owners","goods","line"]
theorem KS:bX Ls ["row","owners","goods"] (bb vE):=⟨rfl,rfl,rfl,by decide+kernel,rfl,by decide+kernel,by decide+kernel⟩
def fD(p:aa)(ts:List aa)(ls:List bN):List (aa×HO):=(p,.lst (ts.map V.ref))::(ts.zip ls).map λq=>(q.1,HO.tup (gW q.2))
def xr(K:aU)(E2:aa):Sp:=λvs H Q E=>∃(a ao ag:aa)(t:Text)(os gs:List Text),vs=[.ref a,.ref ao,.ref ag]/\aj K H a (t.map nV)/\aj K H ao (os.map tV)/\aj K H ag (gs.map tV)/\t.length<=1000/\gx os gs/\
 match ly os gs t with
 | .error _=>∀H',ak H H'->E (.ref E2) none H'
 | .ok ls=>∀H' p ts,ak H H'->ts.length=ls.length->Hs H' (fD p ts ls)->(∀b∈(fD p ts ls).map bg,H b=none)->Q (.ref p) H'
theorem wO{α β:Type}:∀{l:List α}{r:List β}{x:α}{y:β},l.length=r.length->(l++[x]).zip (r++[y])=l.zip r++[(x,y)]
 |[],[],_,_,_=>rfl
 |[],_::_,_,_,h=>by simp at h
 |_::_,[],_,_,h=>by simp at h
 |a::l,b::r,x,y,h=>by rw[vH,vH,FN,FN,wO (by simpa using h),vH]
theorem take_snoc{α:Type}{l:List α}{i:Nat}{x:α}(h:l[i]? =some x):l.take (i+1)=l.take i++[x]:=by
 obtain⟨hi,e⟩:=cN.mp h;rw[List.take_succ,h];rfl
theorem OH(G:Gd K mg "read_legs" vE)(T:Tx K mg CM CD)(X:Ex K mg E1 E2 E3 E4 E5)(d_wrong:Df P w K mg base be 3 "wrong_line_of_legs" ["row","owners","goods"] (El K))(d_pieces:Df P w K mg base be 2 "pieces_of" ["row"] (xk K))(d_words:Df P w K mg base be 1 "words_of" ["line"] xq)(d_leg:Df P w K mg base be 1 "leg_of" ["words","owners","goods"] (LR K)):Df P w K mg base (bR P w) 4 "read_legs" ["row","owners","goods"] (xr K E2):=by
 obtain⟨f,fd,F,hm⟩:=G.ex;refine⟨f,fd,F.eP KS (λvs H Q E h=>?_) (λcdv A outer s H vs Q E hr h=>?_),hm,F.kp,F.binds (bn3 rfl)⟩
 .apply eT h;intro v v v v v v v;rfl
 .intro X0;apply eT h;intro a ao ag t os gs zz;refine pk zz λha ho hg hl hn k=>?_
  have nd:=KS.nd;refine⟨_,eR (k4 (wK (bQ d_wrong hr b0 (ai (pv 0) (ai (pv 1) (ai (pv 2) au)))))) (aX (je rfl X.m2 X.x2)) (aX (bT (fw rfl nd (fH (uq uR (bQ d_pieces (hr.mono (by decide)) b0 (ai (pv 0) au)) BC (qk (mZ mE aQ)))) (eI (N:=Ls) (sc:=bb vE) (own:=[("line",3)]) (by decide+kernel)) (λv v v v v=>bY (i:=3) nd rfl (aV rfl) (.inr rfl)) (λv v v v v=>fU) (λv v v v v=>bQ d_leg (hr.mono (by decide)) b0 (ai (bQ d_words (hr.mono (by decide)) b0 (ai (pv 3) au)) (ai (pv 1) (ai (pv 2) au))))))),?_⟩
  refine⟨_,rfl,_,rfl,_,rfl,a,ao,ag,t,os,gs,rfl,ha,ho,hg,hl,hn,λH1 s1=>⟨_,rfl,?_⟩⟩;cases hrl:ly os gs t with
  |error e=>
   rw[hrl]at k;have ew:p8 os gs t=nV e:=by unfold p8;rw[hrl]
   rw[ew];refine fm ?_;exact k _ s1
  |ok ls=>
   rw[hrl]at k;have ew:p8 os gs t=.bI:=by unfold p8;rw[hrl]
   rw[ew];refine fV ?_;obtain⟨I,l,hc⟩:=Rm.Cc 10 t;rw[Rm.LY hc]at hrl;have l0:l=[]:=by
    by_cases z:l=[]
    .exact z
    .rw[aq z]at hrl;cases hrl
   rw[ay l0]at hrl;have ni:¬I=[]:=λz=>by rw[ay z]at hrl;cases hrl
   rw[aq ni]at hrl;have i12:¬12<I.length:=λz=>by rw[ay z]at hrl;cases hrl
   rw[aq i12]at hrl;have fb:=Rm.CN os gs I 1;have hls:ls.map some=I.map (fM os gs):=by
    cases q:Rm.lU os gs 1 I with
    |some e=>rw[q]at fb;dsimp only at fb;rw[hrl]at fb;cases fb
    |none=>
     rw[q]at fb;obtain⟨ls',h5,h6⟩:=fb;rw[hrl]at h5;cases h5;exact h6
   have hcs:d8 10 [] (t.map Rm.sg)=I.map (·.map Rm.sg)++[l.map Rm.sg]:=by
    have:=Rm.sv (sep:=10) (.inr rfl) t [];rw[i7]at this;rw[this,hc,bZ];rfl
   have il:∀x∈I,x.length<=1000:=λx hx=>by
    have:=rL 10 t [] x (by rw[hc];exact fq _ hx)
    simp at this;omega
   refine⟨_,rfl,a,t,rfl,s1.seq ha,hl,λH2 p s2 hp hd=>?_⟩;rw[hcs,bZ]at hd;refine⟨_,rfl,_,rfl,_,_,rfl,aj.of hd,λq hq=>⟨q,rfl,⟨_,aj.of aR⟩,λD hD=>?_⟩⟩;have ecv:d3 (iH tV (I.map (·.map Rm.sg))++iH tV [l.map Rm.sg]) none (some (-1))=I.map λx=>tV (x.map Rm.sg):=by
    show d3 (iH tV (I.map (·.map Rm.sg))++[tV (l.map Rm.sg)]) none (some (-1))=_;rw[Ac,bU];rfl
   rw[ecv]at hD⊢;have s3:ak H (upd H2 q (.lst (I.map λx=>tV (x.map Rm.sg)))):=(s1.trans s2).trans (ak.new hq);generalize hH3:upd H2 q (.lst (I.map λx=>tV (x.map Rm.sg)))=H3 at s3 hD;have hq3:H3 q=some (.lst (I.map λx=>tV (x.map Rm.sg))):=by rw[<-hH3];exact aR
   have lsl:ls.length=I.length:=by have:=cq wb hls;simpa using this
   refine rY (fJ (K:=K) (a:=q) (xs:=I.map λx=>tV (x.map Rm.sg))) (λi H'=>ak H3 H'/\∃ts:List aa,ts.length=i/\Hs H' (fD D ts (ls.take i))/\∀b∈(fD D ts (ls.take i)).map bg,H3 b=none) ?_ (λi H' v z=>aj.of (z.1 _ _ hq3)) (λi H4 x H' hi pv y=>?_) (λH4 pv=>?_)
   .refine⟨ak.new hD,[],rfl,⟨by simp[fD],λz hz=>?_⟩,λb hb=>?_⟩
    .simp[fD]at hz;subst hz;exact aR
    .simp[fD]at hb;subst hb;exact hD
   .obtain⟨s4,ts,tl,th,tn⟩:=pv
    obtain⟨rfl,hx⟩:=y;rw[bz]at hx;obtain⟨z,hz,rfl⟩:=di.mp hx;have zl:=il z (cZ hz);obtain⟨lg,hlg,hlz⟩:∃lg,ls[i]? =some lg/\fM os gs z=some lg:=by
     have e1:(ls.map some)[i]? =some (fM os gs z):=by rw[hls,bz,hz];rfl
     rw[bz]at e1;obtain⟨lg,h5,h6⟩:=di.mp e1;exact⟨lg,h5,h6.symm⟩
    refine⟨rfl,fY ⟨_,rfl,z.map Rm.sg,rfl,(by rw[aA];exact zl),λH6 r s6 hr6 hd6=>⟨_,rfl,_,rfl,r,ao,ag,z,os,gs,lg,rfl,aj.of hd6,((s3.trans s4).trans s6).seq ho,((s3.trans s4).trans s6).seq hg,hn,hlz,λu hu=>?_⟩⟩⟩
    have hD6:H6 D=some (.lst (ts.map V.ref)):=s6 _ _ (th.2 (D,.lst (ts.map V.ref)) (by simp[fD]))
    have uD:u≠D:=λe=>by rw[e,hD6]at hu;cases hu
    have hu4:H' u=none:=s6.free hu;refine⟨ts.map V.ref,by rw[aI (eW uD)];exact hD6,sl _ (by rw[aA];have:i<I.length:=(cN.mp hz).1;omega),?_⟩
    have s7:ak H' (upd H6 u (.tup (gW lg))):=s6.trans (ak.new hu);have th7:Hs (upd H6 u (.tup (gW lg))) ((u,.tup (gW lg))::fD D ts (ls.take i)):=(th.same s6).new hu;have ez:fD D (ts++[u]) (ls.take (i+1))=(D,.lst ((ts++[u]).map V.ref))::((ts.zip (ls.take i)).map (λq=>(q.1,HO.tup (gW q.2)))++[(u,HO.tup (gW lg))]):=by
     unfold fD;rw[take_snoc hlg,wO (by rw[tl,jT,lsl];have:i<I.length:=(cN.mp hz).1;omega)]
     simp only[bZ,bS,i7]
    refine⟨λb o e=>?_,ts++[u],by simp[tl],?_,λb hb=>?_⟩
    .by_cases hb:b=D
     .subst hb;rw[hD]at e;cases e
     .rw[aI hb];exact s7 _ _ (s4 _ _ e)
    .have p1:Hs (upd H6 u (.tup (gW lg))) ((D,.lst (ts.map V.ref))::((ts.zip (ls.take i)).map (λq=>(q.1,HO.tup (gW q.2)))++[(u,HO.tup (gW lg))])):=by
      refine th7.perm ?_;unfold fD;refine(z6 _ _ _).trans (tW _ ?_);exact wB (l₁:=[(u,HO.tup (gW lg))])
     have p2:=Hs.put (L1:=[]) (o':=.lst ((ts++[u]).map V.ref)) p1;rw[ez];rw[bZ]at p2⊢;exact p2
    .rw[ez,bS]at hb
     rcases bM.mp hb with rfl|hb
     .exact hD
     .rw[bZ]at hb
      rcases b6.mp hb with hb|hb
      .exact tn b (by unfold fD;rw[bS];exact b8 _ hb)
      .have:b=u:=by simpa using hb
       subst this;exact s4.free hu4
   .obtain⟨s4,ts,tl,th,tn⟩:=pv
    rw[aA]at tl th tn;rw[zT (by omega)]at th tn
    exact k H4 D ts (s3.trans s4) (by omega) th λb hb=>s3.free (tn b hb)
end
def j6(os gs:List Text)(x:bN):Text:=os.getD x.from_ []++(ck " gives "++(tq x.n++(32::(gs.getD x.good []++(ck " to "++os.getD x.to_ [])))))
theorem VY(n:Nat):V.str (rf (toString ((n:Nat):Int)))=tV (tq n):=by
 refine cq V.str (TL.sE ?_);rw[TL.GV];rfl
theorem Dr{n:Nat}(h:n<10^9):(tq n).length<=9:=TL.Sb (by omega) h
theorem Om:∀(ls:List Text),rg " " (ls.map cb)=cb (TL.lZ [32] ls):=by
 intro ls;refine TL.sE ?_;rw[TL.join_eq,TL.xh,show TL.tl (" ":ae)=[32] by decide+kernel,bU]
 show TL.lZ [32] (iH (TL.tl∘cb) ls)=TL.lZ [32] ls;rw[show(TL.tl∘cb)=id from rfl,vL]
section
variable{P:bA}
theorem UX:bX ["leg","owners","goods"] ["leg","owners","goods"] (bb xM):=⟨rfl,rfl,rfl,by decide+kernel,rfl,by decide+kernel,by decide+kernel⟩
def LJ(K:aU):Sp:=λvs H Q z=>∃(al ao ag:aa)(l:bN)(os gs:List Text),vs=[.ref al,.ref ao,.ref ag]/\cv K H al (gW l)/\aj K H ao (os.map tV)/\aj K H ag (gs.map tV)/\gx os gs/\l.from_<os.length/\l.to_<os.length/\l.good<gs.length/\l.n<10^9/\∀H',ak H H'->Q (tV (j6 os gs l)) H'
theorem rF{x:Text}(h:dD x=true):x.length<=8:=by
 unfold dD at h;rw[ib]at h;have:=lz h.1;exact this.2
theorem U7(G:Gd K mg "text_of_leg" xM)(T:Tx K mg CM CD):Df P w K mg base be 1 "text_of_leg" ["leg","owners","goods"] (LJ K):=by
 obtain⟨f,fd,F,hm⟩:=G.ex;refine⟨f,fd,F.dn UX (λvs H Q E h=>?_) (λcdv A outer s H vs Q E hr h=>?_),hm,F.kp,F.binds (bn3 rfl)⟩
 .apply eT h;intro y y y y y y y;rfl
 .intro X0;apply eT h;intro al ao ag l os gs zz;refine sH zz λhl ho hg hn l1 l2 l3 l4 k=>?_
  refine⟨_,aX (bT (Ab gz (cW (ai (bh bO (pv 1) (bh iy (pv 0) aQ (λy y=>rfl)) (λy y=>rfl)) (ai gz (ai (uT X5 rfl T.Tf abi (ai (bh iy (pv 0) aQ (λy y=>rfl)) au)) (ai (bh bO (pv 2) (bh iy (pv 0) aQ (λy y=>rfl)) (λy y=>rfl)) (ai gz (ai (bh bO (pv 1) (bh iy (pv 0) aQ (λy y=>rfl)) (λy y=>rfl)) au))))))))),?_⟩;have at1 (xs:List Text) (i:Nat) (h:i<xs.length):(xs.map tV)[i]? =some (tV (xs.getD i [])):=by rw[bz,eA,bH h];rfl
  refine⟨⟨_,rfl⟩,_,rfl,_,rfl,fQ hl (bj (j:=0) rfl) (bL ho (bj (at1 os l.from_ l1)) ?_)⟩;refine⟨_,rfl,fQ hl (bj (j:=1) rfl) ⟨_,rfl,?_,?_⟩⟩
  .show(l.n:Int).natAbs.log2<1920
   have:(l.n:Int).natAbs<2^64:=by show l.n<2^64;omega
   by_cases z:(l.n:Int).natAbs=0
   .rw[z];decide
   .exact ie ((Nat.log2_lt z).mpr this) (by decide)
  refine⟨_,rfl,_,rfl,fQ hl (bj (j:=2) rfl) (bL hg (bj (at1 gs l.good l3)) ?_)⟩;refine⟨_,rfl,_,rfl,fQ hl (bj (j:=3) rfl) (bL ho (bj (at1 os l.to_ l2)) ?_)⟩;refine⟨by show 6<=sizeLine;decide,λp hp=>?_⟩
  have e1:[tV (os.getD l.from_ []),V.str "gives",V.str (rf (toString ((l.n:Nat):Int))),tV (gs.getD l.good []),V.str "to",tV (os.getD l.to_ [])]=([os.getD l.from_ [],ck "gives",tq l.n,gs.getD l.good [],ck "to",os.getD l.to_ []].map cb).map V.str:=by rw[Ki,KQ,VY];rfl
  have gl (i:Nat) (h:i<os.length):(os.getD i []).length<=8:=by
   refine rF (hn.o _ ?_);rw[eA,bH h];exact fo h
  have gl2:(gs.getD l.good []).length<=8:=by
   refine rF (hn.g _ ?_);rw[eA,bH l3];exact fo l3
  refine⟨" ",p,[os.getD l.from_ [],ck "gives",tq l.n,gs.getD l.good [],ck "to",os.getD l.to_ []].map cb,rfl,rfl,.inl (aj.of (by rw[<-e1];exact aR)),?_,?_⟩
  .have a1:=gl _ l1
   have a2:=gl _ l2;have a3:=Dr l4;have e2:∀t:Text,(cb t).length=t.length:=λt=>rfl;simp only[bS,i7,FL,List.sum_nil,cY,ma,e2];rw[show(" ":ae).length=1 by decide+kernel,show(ck "gives").length=5 by decide+kernel,show(ck "to").length=2 by decide+kernel]
   omega
  .rw[Om]
   have e3:TL.lZ [32] [os.getD l.from_ [],ck "gives",tq l.n,gs.getD l.good [],ck "to",os.getD l.to_ []]=j6 os gs l:=by
    unfold j6;rw[show ck " gives "=32::(ck "gives"++[32]) by decide+kernel,show ck " to "=32::(ck "to"++[32]) by decide+kernel]
    simp[TL.lZ]
   rw[e3];exact k _ (ak.new hp)
abbrev BX:List ae:=["lines","sign","line"]
theorem Gf:bX BX ["lines"] (bb rX):=⟨rfl,rfl,rfl,by decide+kernel,rfl,by decide+kernel,by decide+kernel⟩
def hW(ls:List Text):List Nat:=ls.flatMap λt=>t++[10]
def DB(K:aU):Sp:=λvs H Q z=>∃(a:aa)(ls:List Text),vs=[.ref a]/\aj K H a (ls.map tV)/\ls.length<=100/\(∀x∈ls,x.length<=100)/\∀H' p,ak H H'->H p=none->H' p=some (.lst ((hW ls).map nV))->Q (.ref p) H'
theorem xi:∀(ls:List Text),(∀x∈ls,x.length<=100)->(hW ls).length<=101*ls.length
 |[],_=>by simp[hW]
 |t::r,h=>by
  have:=xi r λx hx=>h x (b8 _ hx);have h1:=h t (gF ..);unfold hW at this⊢;rw[gQ,bV,bV,cY];simp only[cY,ma];omega
theorem V8:∀(ls:List Text),TL.tl (rg "" ((ls.map λt=>t++[10]).map cb))=hW ls:=by
 intro ls;rw[TL.join_eq,TL.xh,show TL.tl ("":ae)=[] by decide+kernel,bU,show(TL.tl∘cb)=id from rfl,vL]
 induction ls with
 |nil=>rfl
 |cons t r ih=>
  cases r with
  |nil=>simp[TL.lZ,hW]
  |cons d q=>
   rw[bS]at ih⊢;rw[bS];show(t++[10])++([]++TL.lZ [] ((d++[10])::iH (λt=>t++[10]) q))=hW (t::d::q);rw[wy,ih];rfl
theorem PN(G:Gd K mg "row_of" rX)(T:Tx K mg CM CD):Df P w K mg base be 1 "row_of" ["lines"] (DB K):=by
 obtain⟨f,fd,F,hm⟩:=G.ex;refine⟨f,fd,F.dn Gf (λvs H Q E h=>?_) (λcdv A outer s H vs Q E hr h=>?_),hm,F.kp,F.binds (bn1 rfl)⟩
 .obtain⟨z,z,rfl,z⟩:=h;rfl
 .intro X0;apply fz h;intro a ls zz;refine lP zz λha hl hx k=>?_;clear zz
  have nd:=Gf.nd;refine⟨_,aX (bT (fw rfl nd (Al (Ab gz (fw rfl nd (fH (pv 0)) (eI (N:=BX) (sc:=bb rX) (own:=[("line",2)]) (by decide+kernel)) (λz z z z z=>bY (i:=2) nd rfl (aV rfl) (.inr rfl)) (λz z z z z=>fU) (λz z z z z=>eG T5 (pv 2) gz)))) (eI (N:=BX) (sc:=bb rX) (own:=[("sign",1)]) (by decide+kernel)) (λz z z z z=>bY (i:=1) nd rfl (aV rfl) (.inr rfl)) (λz z z z z=>fU) (λz z z z z=>dh Ib rfl T.IS Z8 (ai (pv 1) au)))),?_⟩
  refine⟨⟨_,rfl⟩,_,rfl,a,rfl,⟨_,ha⟩,λD hD=>?_⟩;have e10 (t:Text):cb t++("\n":ae)=cb (t++[10]):=TL.sE (by rw[TL.AM,show TL.tl ("\n":ae)=[10] by decide+kernel];rfl)
  refine fF (fJ (xs:=ls.map tV)) (λH2 s2=>s2.seq ha) (λi=>(ls[i]?).map λt=>tV (t++[10])) (sl _ (by rw[aA];omega)) hD (λi H2 x H' KY KN hi s2 y ky kn=>?_) (λH2 s2 hd=>?_)
  .obtain⟨rfl,hx'⟩:=y
   rw[bz]at hx';obtain⟨t,ht,rfl⟩:=di.mp hx';refine⟨rfl,fY ⟨_,rfl,cb t,"\n",rfl,rfl,?_,?_⟩⟩
   .have:=hx t (cZ ht)
    rw[show(cb t).length=t.length from rfl,show("\n":ae).length=1 by decide+kernel]
    exact sle _ (by omega)
   .rw[e10]
    exact ky _ _ (by rw[ht];rfl) (ak.refl _)
  .have e1:((cR (ls.map tV).length).filterMap λi=>(ls[i]?).map λt=>tV (t++[10]))=((ls.map λt=>t++[10]).map cb).map V.str:=by rw[aA,jX,bU,bU];rfl
   rw[e1]at hd;have ej:rg "" ((ls.map λt=>t++[10]).map cb)=cb (hW ls):=TL.sE (by rw[V8];rfl)
   have rl:=xi ls hx;refine⟨"",D,(ls.map λt=>t++[10]).map cb,rfl,rfl,.inl (aj.of hd),?_,_,rfl,λD2 hD2=>?_⟩
   .have e3:((((ls.map λt=>t++[10]).map cb).map λx=>x.length).sum)=(hW ls).length:=by
     rw[bU,bU];clear ej hd e1 k ha hl hx rl;induction ls with
     |nil=>rfl
     |cons t r ih=>rw[bS,FL,ih];show(t++[10]).length+_=_;unfold hW;rw[gQ,bV,bV,bV]
    rw[e3,aA,aA,show("":ae).length=0 by decide+kernel]
    omega
   .rw[ej]
    refine fF BU (λz z=>dy) (λi=>((hW ls)[i]?).map nV) (sl _ (show(hW ls).length<=100000 by omega)) hD2 (λi H3 x H' KY KN hi s3 y ky kn=>?_) (λH3 s3 hd3=>?_)
    .obtain⟨rfl,c,hc,rfl⟩:=y
     refine⟨rfl,fY ⟨_,rfl,_,rfl,rfl,?_⟩⟩;exact ky _ _ (by rw[show(hW ls)[i]? =some c by simpa[cb]using hc];rfl) (ak.refl _)
    .refine k H3 D2 (s2.trans s3) (s2.free hD2) ?_
     rw[hd3,show(cb (hW ls)).cps.size=(hW ls).length from rfl,jX]
end
def c4(acc:List Nat)(o:Nat):List Nat:=if acc.contains o=true then acc else acc++[o]
def aY(l:List bN):List Nat:=l.foldl (λacc x=>c4 (c4 acc x.from_) x.to_) []
theorem Dz{acc:List Nat}{z:Nat}:z∈c4 acc o↔z∈acc\/z=o:=by
 unfold c4;split
 .rename_i h
  constructor
  .exact λq=>.inl q
  .rintro(q|rfl)
   .exact q
   .exact nk.mp h
 .simp
theorem AH{acc:List Nat}(h:acc.Nodup)(o:Nat):(c4 acc o).Nodup:=by
 unfold c4;split
 .exact h
 .rename_i q
  exact pz.mpr ⟨h,by simp,λa ha b hb=>by
   have:b=o:=by simpa using hb
   subst this;intro z;subst z
   exact q (nk.mpr ha)⟩
theorem Ck:∀(l:List bN)(acc:List Nat),acc.Nodup->(l.foldl (λacc x=>c4 (c4 acc x.from_) x.to_) acc).Nodup/\∀z,z∈l.foldl (λacc x=>c4 (c4 acc x.from_) x.to_) acc↔z∈acc\/∃x∈l,z=x.from_\/z=x.to_
 |[],acc,h=>⟨h,λz=>by simp⟩
 |x::r,acc,h=>by
  rw[lj];obtain⟨h1,h2⟩:=Ck r (c4 (c4 acc x.from_) x.to_) (AH (AH h _) _);refine⟨h1,λz=>?_⟩;rw[h2,Dz,Dz];constructor
  .rintro(((q|q)|q)|⟨y,hy,q⟩)
   .exact .inl q
   .exact .inr ⟨x,by simp,.inl q⟩
   .exact .inr ⟨x,by simp,.inr q⟩
   .exact .inr ⟨y,by simp[hy],q⟩
  .rintro(q|⟨y,hy,q⟩)
   .exact .inl (.inl (.inl q))
   .rcases bM.mp hy with rfl|hy
    .rcases q with q|q
     .exact .inl (.inl (.inr q))
     .exact .inl (.inr q)
    .exact .inr ⟨y,hy,q⟩
theorem pZ(l:List bN):(aY l).Nodup:=(Ck l [] Fv).1
theorem fS{l:List bN}{z:Nat}:z∈aY l↔z∈dj l:=by
 rw[Rm.xx];have:=(Ck l [] Fv).2 z;simpa[aY]using this
theorem DT(l:List bN):(aY l).length=(dj l).length:=by
 refine(List.Perm.length_eq ?_);exact(List.perm_ext_iff_of_nodup (pZ l) ((Rm.Qy l).imp (λh=>dM h))).mpr λz=>fS
structure DA where
 a:aa
 dx:aa
 lg:aa
 gv:aa
 ts:List aa
 rs:List aa
 num:Nat
 until_:Nat
 legs:List bN
structure MA where
 dm:aa
 aO:aa
 aG:aa
 aF:aa
 aH:aa
 aM:aa
 aB:aa
 aD:aa
 aP:aa
 fr:List aa
 hd:List aa
 ds:List DA
def bJ(a:aa)(l:List Nat):aa×HO:=(a,.lst (l.map nV))
def cj(ng:Nat)(legs:List bN)(o:Nat):List Nat:=(cR ng).map λg=>gives legs o g
def oE(D:DA):List (ae×V):=[("number",nV D.num),("legs",.ref D.lg),("last_tick",nV D.until_),("gives",.ref D.gv)]
def cz(D:DA):List (Key×V):=((aY D.legs).zip D.rs).map λp=>(bG (p.1:Int),.ref p.2)
def cE(CD:aa)(ng:Nat)(D:DA):List (aa×HO):=(D.a,.ins CD D.dx (oE D))::(D.gv,.dK (cz D))::(fD D.lg D.ts D.legs++((aY D.legs).zip D.rs).map λp=>bJ p.2 (cj ng D.legs p.1))
structure oV(D:DA):Prop where
 ts:D.ts.length=D.legs.length
 rs:D.rs.length=(aY D.legs).length
def b7(A:MA)(now next:Nat):List (ae×V):=[("owners",.ref A.aO),("goods",.ref A.aG),("free",.ref A.aF),("held",.ref A.aH),("made",.ref A.aM),("burned",.ref A.aB),("tick",nV now),("next_number",nV next),("deals",.ref A.aD),("parts",.ref A.aP)]
def bF(A:MA):List (Key×V):=A.ds.map λD=>(bG (D.num:Int),.ref D.a)
def gk(b:Bool):V:=.int (if b=true then 1 else 0)
def dc(n o:Nat):List Key:=[bG (n:Int),bG (o:Int)]
def b5(P:List aS):List (List Key×V):=P.map λx=>(dc x.2.1 x.2.2.1,gk x.2.2.2)
def rows(as:List aa)(b:List (List Nat)):List (aa×HO):=(as.zip b).map λp=>bJ p.1 p.2
def cf(CM:aa)(m:aa)(A:MA)(s:aT)(P:List aS):List (aa×HO):=[(m,.ins CM A.dm (b7 A s.now s.next)),(A.aD,.dK (bF A)),(A.aP,.dT (b5 P)),bJ A.aM s.made,bJ A.aB s.burned,(A.aO,.lst (s.owners.map tV)),(A.aG,.lst (s.goods.map tV)),(A.aF,.lst (A.fr.map V.ref)),(A.aH,.lst (A.hd.map V.ref))]
def aE(CM CD:aa)(m:aa)(A:MA)(s:aT)(P:List aS):List (aa×HO):=cf CM m A s P++(rows A.fr s.market.free++(rows A.hd s.market.held++A.ds.flatMap (cE CD s.market.goods)))
def ek(D:DA):Nat×List bN×Nat:=(D.num,D.legs,D.until_)
def cx(d:aZ):Nat×List bN×Nat:=(d.num,d.legs,d.until_)
structure eY(A:MA)(s:aT):Prop where
 fr:A.fr.length=s.market.free.length
 hd:A.hd.length=s.market.held.length
 ds:A.ds.map ek=s.market.deals.map cx
 dl:∀D∈A.ds,oV D
def Mk(CM CD:aa)(H:Hp)(m:aa)(S:List aa)(s:aT)(P:List aS):Prop:=∃A,eY A s/\Hs H (aE CM CD m A s P)/\S=(aE CM CD m A s P).map bg
def iM(CM CD:aa)(H:Hp)(m:aa)(s:aT)(P:List aS):Prop:=∃A,eY A s/\Rs H (aE CM CD m A s P)
def DR(CD:aa)(ng:Nat)(H:Hp)(a:aa)(r:Nat×List bN×Nat):Prop:=∃D,D.a=a/\ek D=r/\oV D/\Rs H (cE CD ng D)
section
variable{H':Hp}{m:aa}{S:List aa}{A:MA}
theorem Mk.rd(h:Mk CM CD H m S s P):iM CM CD H m s P:=by
 obtain⟨A,l,h,z⟩:=h;exact⟨A,l,h.rs⟩
theorem iM.same(h:iM CM CD H m s P)(e:ak H H'):iM CM CD H' m s P:=by
 obtain⟨A,l,h⟩:=h;exact⟨A,l,h.same e⟩
theorem iM.lock(h:iM CM CD H m s P){d:aa}{u:HO}(hd:H d=some u)(du:qr u)(od:bc):iM CM CD (upd H d (.bu od u)) m s P:=by
 obtain⟨A,l,h⟩:=h;exact⟨A,l,h.lock hd du od⟩
theorem Mk.same(h:Mk CM CD H m S s P)(e:ak H H'):Mk CM CD H' m S s P:=by
 obtain⟨A,l,h,z⟩:=h;exact⟨A,l,h.same e,z⟩
theorem DR.same{ng:Nat}{r:Nat×List bN×Nat}(h:DR CD ng H a r)(e:ak H H'):DR CD ng H' a r:=by
 obtain⟨D,h1,h2,h3,h4⟩:=h;exact⟨D,h1,h2,h3,h4.same e⟩
theorem DR.lock{ng:Nat}{r:Nat×List bN×Nat}(h:DR CD ng H a r){d:aa}{u:HO}(hd:H d=some u)(du:qr u)(od:bc):DR CD ng (upd H d (.bu od u)) a r:=by
 obtain⟨D,h1,h2,h3,h4⟩:=h;exact⟨D,h1,h2,h3,h4.lock hd du od⟩
theorem Mk.out(h:Mk CM CD H m S s P)(n:H a=none):a∉S:=by
 obtain⟨A,l,h,rfl⟩:=h;exact h.out n
theorem Mk.keep(h:Mk CM CD H m S s P)(k:∀b∈S,∀o,H b=some o->H' b=some o):Mk CM CD H' m S s P:=by
 obtain⟨A,l,h,rfl⟩:=h;exact⟨A,l,⟨h.1,λp hp=>k p.1 (bw.mpr ⟨p,hp,rfl⟩) _ (h.2 p hp)⟩,rfl⟩
theorem eZ{x:aa×HO}(h:x∈cf CM m A s P):x∈aE CM CD m A s P:=fq _ h
theorem bC(R:Rs H (aE CM CD m A s P)):H m=some (.ins CM A.dm (b7 A s.now s.next)):=(R _ (eZ (x:=(m,.ins CM A.dm (b7 A s.now s.next))) (by simp[cf]))).is (λz=>z)
theorem zf(R:Rs H (aE CM CD m A s P)):fT H A.aD (.dK (bF A)):=R _ (eZ (x:=(A.aD,.dK (bF A))) (by simp[cf]))
theorem ki(R:Rs H (aE CM CD m A s P)):fT H A.aP (.dT (b5 P)):=R _ (eZ (x:=(A.aP,.dT (b5 P))) (by simp[cf]))
theorem t9(R:Rs H (aE CM CD m A s P)):H A.aM=some (.lst (s.made.map nV)):=(R _ (eZ (x:=bJ A.aM s.made) (by simp[cf]))).is (λz=>z)
theorem yT(R:Rs H (aE CM CD m A s P)):H A.aB=some (.lst (s.burned.map nV)):=(R _ (eZ (x:=bJ A.aB s.burned) (by simp[cf]))).is (λz=>z)
theorem o6(R:Rs H (aE CM CD m A s P)):H A.aO=some (.lst (s.owners.map tV)):=(R _ (eZ (x:=(A.aO,.lst (s.owners.map tV))) (by simp[cf]))).is (λz=>z)
theorem lW(R:Rs H (aE CM CD m A s P)):H A.aG=some (.lst (s.goods.map tV)):=(R _ (eZ (x:=(A.aG,.lst (s.goods.map tV))) (by simp[cf]))).is (λz=>z)
theorem jA(R:Rs H (aE CM CD m A s P)):H A.aF=some (.lst (A.fr.map V.ref)):=(R _ (eZ (x:=(A.aF,.lst (A.fr.map V.ref))) (by simp[cf]))).is (λz=>z)
theorem sP(R:Rs H (aE CM CD m A s P)):H A.aH=some (.lst (A.hd.map V.ref)):=(R _ (eZ (x:=(A.aH,.lst (A.hd.map V.ref))) (by simp[cf]))).is (λz=>z)
theorem zb{as:List aa}{b:List (List Nat)}{i:Nat}{r:List Nat}(h1:as[i]? =some a)(h2:b[i]? =some r):bJ a r∈rows as b:=by
 unfold rows;refine bw.mpr ⟨(a,r),?_,rfl⟩;refine cZ (i:=i) ?_;rw[mj];exact⟨h1,h2⟩
theorem rm(R:Rs H (aE CM CD m A s P)){i:Nat}{r:List Nat}(h1:A.fr[i]? =some a)(h2:s.market.free[i]? =some r):H a=some (.lst (r.map nV)):=(R (bJ a r) (cP _ (fq _ (zb h1 h2)))).is (λz=>z)
theorem CS(R:Rs H (aE CM CD m A s P)){i:Nat}{r:List Nat}(h1:A.hd[i]? =some a)(h2:s.market.held[i]? =some r):H a=some (.lst (r.map nV)):=(R (bJ a r) (cP _ (cP _ (fq _ (zb h1 h2))))).is (λz=>z)
theorem iq(R:Rs H (aE CM CD m A s P)){D:DA}(h:D∈A.ds):Rs H (cE CD s.market.goods D):=λp hp=>R p (cP _ (cP _ (cP _ (lp.mpr ⟨D,h,hp⟩))))
theorem AR(l:eY A s){d:aZ}(h:d∈s.market.deals):∃D∈A.ds,ek D=cx d:=by
 have:cx d∈A.ds.map ek:=by rw[l.ds];exact bw.mpr ⟨d,h,rfl⟩
 obtain⟨D,hD,e⟩:=bw.mp this;exact⟨D,hD,e⟩
theorem K8(l:eY A s){D:DA}(h:D∈A.ds):∃d∈s.market.deals,ek D=cx d:=by
 have:ek D∈s.market.deals.map cx:=by rw[<-l.ds];exact bw.mpr ⟨D,h,rfl⟩
 obtain⟨d,hd,e⟩:=bw.mp this;exact⟨d,hd,e.symm⟩
theorem Ta(l:eY A s):A.ds.map (·.num)=s.market.deals.map (·.num):=by
 have:=cq (iH bg) l.ds;rw[bU,bU]at this;exact this
theorem qB(l:eY A s)(u:Rm.Up s.market.deals):(A.ds.map (·.num)).Nodup:=by
 rw[Ta l];exact((Rm.uY _).mp u).imp (λh=>dM h)
variable{D:DA}{ng:Nat}
theorem fk(R:Rs H (cE CD ng D)):H D.a=some (.ins CD D.dx (oE D)):=(R (D.a,.ins CD D.dx (oE D)) (by simp[cE])).is (λz=>z)
theorem qu(R:Rs H (cE CD ng D)):fT H D.gv (.dK (cz D)):=R (D.gv,.dK (cz D)) (by simp[cE])
theorem yi(R:Rs H (cE CD ng D)):H D.lg=some (.lst (D.ts.map V.ref)):=(R (D.lg,.lst (D.ts.map V.ref)) (by simp[cE,fD])).is (λz=>z)
theorem GJ(R:Rs H (cE CD ng D)){i:Nat}{x:bN}(h1:D.ts[i]? =some a)(h2:D.legs[i]? =some x):H a=some (.tup (gW x)):=by
 refine(R (a,.tup (gW x)) ?_).is (λz=>z);have:(a,HO.tup (gW x))∈(D.ts.zip D.legs).map λq=>(q.1,HO.tup (gW q.2)):=bw.mpr ⟨(a,x),cZ (i:=i) (by rw[mj];exact⟨h1,h2⟩),rfl⟩
 exact b8 _ (b8 _ (fq _ (b8 _ this)))
theorem sQ(R:Rs H (cE CD ng D))(h:(o,a)∈(aY D.legs).zip D.rs):H a=some (.lst ((cj ng D.legs o).map nV)):=by
 refine(R (bJ a (cj ng D.legs o)) ?_).is (λz=>z);exact b8 _ (b8 _ (cP _ (bw.mpr ⟨(o,a),h,rfl⟩)))
theorem si(l:oV D)(h:o∈aY D.legs):∃a,(o,a)∈(aY D.legs).zip D.rs:=by
 obtain⟨i,hi⟩:=z7.mp h;have hl:i<D.rs.length:=by rw[l.rs];exact(cN.mp hi).1
 exact⟨D.rs[i],cZ (i:=i) (by rw[mj];exact⟨hi,bH hl⟩)⟩
end
theorem find_key{α κ:Type}[DecidableEq κ](k:α->κ):∀{l:List α}{x:α},(l.map k).Nodup->x∈l->l.find? (λy=>decide (k y=k x))=some x
 |[],x,_,h=>absurd h (by simp)
 |y::r,x,hn,h=>by
  rw[bS,gC]at hn;rw[lr];rcases bM.mp h with rfl|h
  .simp
  .have:¬k y=k x:=λe=>hn.1 (by rw[e];exact bw.mpr ⟨x,h,rfl⟩)
   rw[cU this];exact find_key k hn.2 h
theorem t5{α κ:Type}[DecidableEq κ](k:α->κ)(v:α->V)(l:List α)(key:κ):dC (l.map λx=>(k x,v x)) key=(l.find? λx=>decide (k x=key)).map v:=by
 unfold dC;rw[List.find?_map,aab];rfl
theorem yM{α κ:Type}[DecidableEq κ]{k:α->κ}{v:α->V}{l:List α}{x:α}(hn:(l.map k).Nodup)(h:x∈l):dC (l.map λx=>(k x,v x)) (k x)=some (v x):=by rw[t5,find_key k hn h];rfl
theorem AS{α κ:Type}[DecidableEq κ]{k:α->κ}{v:α->V}{l:List α}{key:κ}(h:∀x∈l,k x≠key):dC (l.map λx=>(k x,v x)) key=none:=by rw[t5,FP.mpr λx hx=>by simpa using h x hx];rfl
theorem xS{A:MA}(hn:(A.ds.map (·.num)).Nodup){D:DA}(h:D∈A.ds):dC (bF A) (bG (D.num:Int))=some (.ref D.a):=by
 refine yM (k:=λD:DA=>(bG (D.num:Int):Key)) (v:=λD=>V.ref D.a) ?_ h;have:(A.ds.map λD:DA=>(bG (D.num:Int):Key))=(A.ds.map (λx:DA=>x.num)).map λ(n:Nat)=>(bG (n:Int):Key):=by rw[bU];rfl
 rw[this];exact z8 _ (λa b h e=>h (by have:=lD e;omega)) hn
theorem Mb{A:MA}{n:Int}(h:∀D∈A.ds,(D.num:Int)≠n):dC (bF A) (bG n)=none:=AS (k:=λD:DA=>(bG (D.num:Int):Key)) (v:=λD=>V.ref D.a) λD hD e=>h D hD (lD e)
theorem rW{D:DA}(hl:oV D)(h:(o,a)∈(aY D.legs).zip D.rs):dC (cz D) (bG (o:Int))=some (.ref a):=by
 refine yM (k:=λp:Nat×aa=>(bG (p.1:Int):Key)) (v:=λp=>V.ref p.2) (x:=(o,a)) ?_ h;have:(((aY D.legs).zip D.rs).map λp:Nat×aa=>(bG (p.1:Int):Key))=(aY D.legs).map λ(n:Nat)=>(bG (n:Int):Key):=by
  have e:=NU (l₁:=aY D.legs) (l₂:=D.rs) (by rw[hl.rs];exact bK _)
  conv=>rhs;rw[<-e,bU]
  rfl
 rw[this];exact z8 _ (λa b h e=>h (by have:=lD e;omega)) (pZ D.legs)
theorem Jp{D:DA}{o:Int}(h:∀z∈aY D.legs,(z:Int)≠o):dC (cz D) (bG o)=none:=AS (k:=λp:Nat×aa=>(bG (p.1:Int):Key)) (v:=λp=>V.ref p.2) λp hp e=>h p.1 (nu hp).1 (lD e)
def dg(P:List aS)(n o:Nat):Option Bool:=(P.find? λx=>decide (dc x.2.1 x.2.2.1=dc n o)).map (·.2.2.2)
theorem zq{a b c d:Nat}(h:dc a b=dc c d):a=c/\b=d:=by
 unfold dc at h;injection h with h1 h2
 injection h2 with h2 _
 have e1:=lD h1;have e2:=lD h2;omega
theorem lV(P:List aS)(n o:Nat):dC (b5 P) (dc n o)=(dg P n o).map gk:=by
 unfold b5 dg;rw[t5 (k:=λx:aS=>dc x.2.1 x.2.2.1) (v:=λx=>gk x.2.2.2),aab];rfl
theorem D5(b:Option Bool):decide ((b.map gk).getD .bI=V.int 1)=decide (b=some true):=by
 cases b with
 |none=>rfl
 |some b=>cases b<;>rfl
theorem Pt(b:Option Bool):decide ((b.map gk).getD .bI=V.int 0)=decide (b=some false):=by
 cases b with
 |none=>rfl
 |some b=>cases b<;>rfl
theorem wG(b:Option Bool)(n:Int):yZ ((b.map gk).getD .bI) (.int n)=true:=by
 cases b with
 |none=>rfl
 |some b=>cases b<;>rfl
theorem pd(A:MA)(a b:Nat):(b7 A a b).lookup ("owners":ae)=some (.ref A.aO):=by rfl
theorem mH(A:MA)(a b:Nat):(b7 A a b).lookup ("goods":ae)=some (.ref A.aG):=by rfl
theorem k8(A:MA)(a b:Nat):(b7 A a b).lookup ("free":ae)=some (.ref A.aF):=by rfl
theorem uW(A:MA)(a b:Nat):(b7 A a b).lookup ("held":ae)=some (.ref A.aH):=by rfl
theorem Co(A:MA)(a b:Nat):(b7 A a b).lookup ("made":ae)=some (.ref A.aM):=by rfl
theorem Ga(A:MA)(a b:Nat):(b7 A a b).lookup ("burned":ae)=some (.ref A.aB):=by rfl
theorem vx(A:MA)(a b:Nat):(b7 A a b).lookup ("tick":ae)=some (nV a):=by rfl
theorem Je(A:MA)(a b:Nat):(b7 A a b).lookup ("next_number":ae)=some (nV b):=by rfl
theorem ip(A:MA)(a b:Nat):(b7 A a b).lookup ("deals":ae)=some (.ref A.aD):=by rfl
theorem j2(A:MA)(a b:Nat):(b7 A a b).lookup ("parts":ae)=some (.ref A.aP):=by rfl
theorem oX(D:DA):(oE D).lookup ("number":ae)=some (nV D.num):=by rfl
theorem Lu(D:DA):(oE D).lookup ("legs":ae)=some (.ref D.lg):=by rfl
theorem HU(D:DA):(oE D).lookup ("last_tick":ae)=some (nV D.until_):=by rfl
theorem kj(D:DA):(oE D).lookup ("gives":ae)=some (.ref D.gv):=by rfl
theorem Wa(A:MA)(a b c:Nat):b9 "tick" (nV c) (b7 A a b)=b7 A c b:=by rfl
theorem Og(A:MA)(a b c:Nat):b9 "next_number" (nV c) (b7 A a b)=b7 A a c:=by rfl
theorem QV(A:MA)(a b:Nat)(x:aa):b9 "free" (.ref x) (b7 A a b)=b7 {A with aF:=x} a b:=by rfl
theorem rC{A:d9}{k:Nat}(hr:c6 k A):A.units+2<jt:=ou (ZN (by decide:2<=64) _) hr.units
def fI(s:aT)(P:List aS)(n:Nat)(legs:List bN)(o g:Nat):Nat:=if dg P n o=some true then 0 else gives legs o g - amount s.market.free o g
def jG(s:aT)(P:List aS)(n:Nat)(legs:List bN)(o:Nat):List Nat:=(cR s.market.goods).map (fI s P n legs o)
structure dJ(s:aT):Prop where
 free:Rm.Shape s.owners.length s.market.goods s.market.free
 held:Rm.Shape s.owners.length s.market.goods s.market.held
 goods:s.market.goods<=6
 owners:s.owners.length<=8
 up:Rm.Up s.market.deals
 c5:s.market.deals.length<=16
theorem dJ.row(F:dJ s)(h:o<s.owners.length):∃r,s.market.free[o]? =some r/\r.length=s.market.goods/\∀g,r.getD g 0=amount s.market.free o g:=by
 have hl:o<s.market.free.length:=by rw[F.free.len];exact h
 refine⟨s.market.free[o],bH hl,F.free.row _ (fo hl),λg=>?_⟩;unfold amount;rw[eA (l:=s.market.free),bH hl];rfl
theorem dJ.fA(F:dJ s)(h:o<s.owners.length):∃r,s.market.held[o]? =some r/\r.length=s.market.goods/\∀g,r.getD g 0=amount s.market.held o g:=by
 have hl:o<s.market.held.length:=by rw[F.held.len];exact h
 refine⟨s.market.held[o],bH hl,F.held.row _ (fo hl),λg=>?_⟩;unfold amount;rw[eA (l:=s.market.held),bH hl];rfl
abbrev DO:List ae:=["market","deal","owner","gives","amount","free"]
theorem LG:bX DO ["market","deal","owner"] (bb r8):=⟨rfl,rfl,rfl,by decide+kernel,rfl,by decide+kernel,by decide+kernel⟩
def xn(CM CD:aa):Sp:=λvs H Q z=>∃(m a:aa)(o:Nat)(s:aT)(P:List aS)(r:Nat×List bN×Nat),vs=[.ref m,.ref a,nV o]/\dJ s/\iM CM CD H m s P/\DR CD s.market.goods H a r/\o∈aY r.2.1/\o<s.owners.length/\
 ∀H' p,ak H H'->H p=none->H' p=some (.lst ((jG s P r.1 r.2.1 o).map nV))->Q (.ref p) H'
theorem TV(G:Gd K mg "lacks_of" r8)(T:Tx K mg CM CD):Df Pr w K mg base be 1 "lacks_of" ["market","deal","owner"] (xn CM CD):=by
 obtain⟨f,fd,F,hm⟩:=G.ex;refine⟨f,fd,F.dn LG (λvs H Q E h=>?_) (λcdv A outer s H vs Q E hr h=>?_),hm,F.kp,F.binds (bn3 rfl)⟩
 .apply eT h;intro v v v v v v v;rfl
 .intro X0;apply eT h;intro m a o st P r zz;refine pk zz λft mk dr ho hlt k=>?_
  have nd:=LG.nd;have hu:=ir hr;refine⟨_,aK (bW (i:=3) nd rfl (aV rfl) (iU hu (bx (pv 1) rfl) (pv 2) (λv v=>rfl))) (eR (df iX (xc hu (bx (pv 0) rfl) (jl (ai (bx (pv 1) rfl) (ai (pv 2) au))) ⟨rfl,rfl,rfl,rfl⟩) (fC T.pS) (c7 _)) (aX (bT (fw rfl nd (fH (pv 3)) (eI (N:=DO) (sc:=bb r8) (own:=[("amount",4)]) (by decide+kernel)) (λv v v v v=>bY (i:=4) nd rfl (aV rfl) (.inr rfl)) (λv v v v v=>fU) (λv v v v v=>aQ)))) (aX (bT (fw rfl nd (A0 rfl T.Ai (ai (pv 3) (ai (bh bO (bx (pv 0) rfl) (pv 2) (λv v=>rfl)) au))) (eI (N:=DO) (sc:=bb r8) (own:=[("amount",4),("free",5)]) (by decide+kernel)) (λv v v v v=>vd (K:=K) 2 rfl rfl (dA (bY (i:=4) nd rfl (aV rfl) (.inr rfl)) (dA (bY (i:=5) nd rfl (aV rfl) (.inr rfl)) ji))) (λv v v v v=>fU) (λv v v v v=>dh (N8 rfl) rfl T.BK NM (ai (eG uC (pv 4) (pv 5)) (ai aQ au))))))),?_⟩
  obtain⟨MA,ml,R⟩:=mk;obtain⟨D,rfl,rfl,dl,RD⟩:=dr;obtain⟨ra,hra⟩:=si dl ho;obtain⟨fr,hfr,frl,fra⟩:=ft.row hlt;have hMf:o<MA.fr.length:=by rw[ml.fr];exact(cN.mp hfr).1
  have fA:=sQ RD hra;refine⟨_,rfl,bp (fk RD) T.cD T.iu (kj D) ⟨_,rfl,D.gv,_,rfl,by rw[<-rW dl hra];exact(qu RD).get (bG (o:Int)),?_⟩⟩
  refine⟨_,rfl,bp (bC R) T.cM T.jw (j2 _ _ _) ⟨MA.aP,rfl,(ki R).rB,_,rfl,bp (fk RD) T.cD T.my (oX D) ⟨_,rfl,(by show 2<=sizeLine;decide),λt ht=>?_⟩⟩⟩
  have s1:ak H (upd H t (.tup [nV D.num,nV o])):=ak.new ht;refine⟨_,((ki R).same s1).pX (k:=dc D.num o) aR,?_⟩;rw[lV];refine⟨wG _ _,_,rfl,?_⟩;refine cJ (c:=dg P D.num o=some true) (D5 _) (λh1=>?_) (λh1=>?_)
  .refine⟨_,rfl,ra,rfl,⟨_,aj.of (s1 _ _ fA)⟩,λDd hD=>?_⟩
   refine fF (fJ (xs:=(cj st.market.goods D.legs o).map nV)) (λH2 s2=>aj.of (s2 _ _ (s1 _ _ fA))) (λi=>some (V.int 0)) (sl _ (by rw[aA];unfold cj;rw[aA,sZ];have:=ft.goods;omega)) hD (λi H2 x H' KY KN hi s2 y ky kn=>?_) (λH2 s2 hd=>?_)
   .obtain⟨rfl,hx⟩:=y
    exact⟨rfl,fY (ky _ _ rfl (ak.refl _))⟩
   .refine k H2 Dd (s1.trans s2) (s1.free hD) ?_
    rw[hd]
    congr 2
    unfold jG cj;rw[aA,aA,sZ,bU];rw[show(NV (λi=>some (V.int 0)) (cR st.market.goods))=(cR st.market.goods).map λv=>V.int 0 by rw[<-NW];rfl]
    refine i5 λg v=>?_;show V.int 0=nV (fI st P D.num D.legs o g);unfold fI;rw[ay h1];rfl
  .have hfr1:=s1 _ _ (rm R (bH hMf) hfr)
   refine⟨_,rfl,_,rfl,bp (s1 _ _ (bC R)) T.cM T.jN (k8 _ _ _) ⟨_,rfl,bL (aj.of (s1 _ _ (jA R))) (bj (j:=o) (by rw[bz,bH hMf];rfl)) ⟨ra,_,_,_,rfl,aj.of (s1 _ _ fA),aj.of hfr1,λDd hD=>?_⟩⟩⟩
   have gl:((cj st.market.goods D.legs o).map nV).length=st.market.goods:=by unfold cj;simp
   refine fF (Dk (K:=K) (n:=st.market.goods) gl (by rw[aA];exact frl)) (λH2 s2=>⟨aj.of (s2 _ _ (s1 _ _ fA)),aj.of (s2 _ _ hfr1)⟩) (λi=>some (nV (fI st P D.num D.legs o i))) (sl _ (by have:=ft.goods;omega)) hD (λi H2 x H' KY KN hi s2 y ky kn=>?_) (λH2 s2 hd=>?_)
   .obtain⟨Tt,x,y,rfl,hT,rfl,hx,hy⟩:=y
    have ex:x=nV (gives D.legs o i):=by
     unfold cj at hx;rw[bU,bz,mn hi]at hx;exact(dQ hx).symm
    have ey:y=nV (amount st.market.free o i):=by
     rw[bz]at hy;obtain⟨z,hz,rfl⟩:=di.mp hy;rw[<-fra i,eA,hz];rfl
    subst ex ey;refine⟨Tt,_,rfl,cv.of aR,rfl,_,_,rfl,_,_,rfl,rfl,rfl,fY ⟨_,rfl,_,rfl,_,_,rfl,rfl,_,_,rfl,?_⟩⟩;have e:(if(0:Int)>(gives D.legs o i:Int) - (amount st.market.free o i:Int)then(0:Int)else(gives D.legs o i:Int) - (amount st.market.free o i:Int))=((fI st P D.num D.legs o i:Nat):Int):=by
     unfold fI;rw[aq h1];split<;>omega
    rw[e];exact ky _ _ rfl (ak.new hT)
   .refine k H2 Dd (s1.trans s2) (s1.free hD) ?_
    rw[hd]
    congr 2
    unfold jG;rw[bU];rw[show(NV (λi=>some (nV (fI st P D.num D.legs o i))) (cR st.market.goods))=(cR st.market.goods).map λi=>nV (fI st P D.num D.legs o i) by rw[<-NW];rfl]
    rfl
theorem XT:bX ["market","deal","owner"] ["market","deal","owner"] (bb xb):=⟨rfl,rfl,rfl,by decide+kernel,rfl,by decide+kernel,by decide+kernel⟩
def iZ(s:aT)(P:List aS)(n:Nat)(legs:List bN)(o:Nat):Bool:=(cR s.market.goods).all λg=>decide (fI s P n legs o g=0)
def AD(CM CD:aa):Sp:=λvs H Q z=>∃(m a:aa)(o:Nat)(s:aT)(P:List aS)(r:Nat×List bN×Nat),vs=[.ref m,.ref a,nV o]/\dJ s/\iM CM CD H m s P/\DR CD s.market.goods H a r/\o∈aY r.2.1/\o<s.owners.length/\0<s.market.goods/\
 ∀H',ak H H'->Q (.bl (iZ s P r.1 r.2.1 o)) H'
theorem O2(G:Gd K mg "lacks_nothing" xb)(T:Tx K mg CM CD)(d_lacks:Df Pr w K mg base be 1 "lacks_of" ["market","deal","owner"] (xn CM CD)):Df Pr w K mg base be 2 "lacks_nothing" ["market","deal","owner"] (AD CM CD):=by
 obtain⟨f,fd,F,hm⟩:=G.ex;refine⟨f,fd,F.dn XT (λvs H Q E h=>?_) (λcdv A outer s H vs Q E hr h=>?_),hm,F.kp,F.binds (bn3 rfl)⟩
 .apply eT h;intro z z z z z z z;rfl
 .intro X0;apply eT h;intro m a o st P r zz;refine Bm zz λft mk dr ho hlt hg k=>?_
  refine⟨_,aX (bT (oU iX (dh (Ub rfl) rfl T.BK NM (ai (bQ d_lacks hr b0 (ai (pv 0) (ai (pv 1) (ai (pv 2) au)))) au)) aQ (c7 _))),?_⟩;refine⟨_,rfl,_,rfl,_,rfl,m,a,o,st,P,r,rfl,ft,mk,dr,ho,hlt,λH1 p s1 hp hd=>⟨p,(jG st P r.1 r.2.1 o).map λ(n:Nat)=>(n:Int),rfl,aj.of (by rw[hd,bU];rfl),?_,λM hM hmax=>⟨rfl,?_⟩⟩⟩
  .unfold jG;simp;exact hg
  .have e:decide (V.int M=V.int 0)=iZ st P r.1 r.2.1 o:=by
    unfold iZ;have hin:∀g,g<st.market.goods->((fI st P r.1 r.2.1 o g:Nat):Int)∈(jG st P r.1 r.2.1 o).map λ(n:Nat)=>(n:Int):=λg hg=>by
     refine bw.mpr ⟨_,?_,rfl⟩;unfold jG;exact bw.mpr ⟨g,kq.mpr hg,rfl⟩
    by_cases hz:M=0
    .rw[dw (by rw[hz])]
     refine(fE.mpr λg hg=>?_).symm;have:=hmax _ (hin g (kq.mp hg));exact dw (by omega)
    .rw[cU (λq=>hz (V.int.inj q))]
     refine(vJ.mpr λq=>?_).symm;obtain⟨n,hn,rfl⟩:=bw.mp hM;unfold jG at hn;obtain⟨g,hg,rfl⟩:=bw.mp hn;have:=lz (fE.mp q g hg);exact hz (by omega)
   rw[e];exact k _ s1
def DY(s:aT)(P:List aS):Prop:=∀x∈P,∃d∈s.market.deals,d.num=x.2.1/\x.2.2.1∈aY d.legs/\x.2.2.1<s.owners.length/\0<s.market.goods
def iY(s:aT)(P:List aS)(x:aS):Bool:= !x.2.2.2&&(match l9 s.market x.2.1 with|some d=>iZ s P d.num d.legs x.2.2.1|none=>false)
theorem lR{m:aa}{A:MA}(l:eY A s)(R:Rs H (aE CM CD m A s P))(u:Rm.Up s.market.deals){d:aZ}(hd:d∈s.market.deals):∃D∈A.ds,ek D=cx d/\gX H A.aD (nV d.num) (some (.ref D.a))/\DR CD s.market.goods H D.a (cx d):=by
 obtain⟨D,hD,e⟩:=AR l hd;refine⟨D,hD,e,?_,⟨D,rfl,e,l.dl D hD,iq R hD⟩⟩;have en:D.num=d.num:=cq bg e;have:=(zf R).get (bG (D.num:Int));rw[xS (qB l u) hD]at this;rw[<-en];exact this
theorem Md:bX ["market","part","standing"] ["market"] (bb ye):=⟨rfl,rfl,rfl,by decide+kernel,rfl,by decide+kernel,by decide+kernel⟩
def Ap(CM CD:aa):Sp:=λvs H Q z=>∃(m:aa)(S:List aa)(s:aT)(P:List aS),vs=[.ref m]/\dJ s/\DY s P/\Mk CM CD H m S s P/\
 match P.find? (iY s P)with
 |none=>∀H',ak H H'->Q .bI H'
 |some x=>∀H' q,ak H H'->H' q=some (.tup [nV x.2.1,nV x.2.2.1])->Q (.ref q) H'
theorem Wj(G:Gd K mg "first_to_hold" ye)(T:Tx K mg CM CD)(d_no:Df Pr w K mg base be 2 "lacks_nothing" ["market","deal","owner"] (AD CM CD)):Df Pr w K mg base be 3 "first_to_hold" ["market"] (Ap CM CD):=by
 obtain⟨f,fd,F,hm⟩:=G.ex;refine⟨f,fd,F.dn Md (λvs H Q E h=>?_) (λcdv A outer s H vs Q E hr h=>?_),hm,F.kp,F.binds (bn1 rfl)⟩
 .apply gM h;intro _ _ _ _ _;rfl
 .intro X0;apply gM h;intro m S st P zz;refine lP zz λft pin mk k=>?_
  have nd:=Md.nd;have hu:=ir hr;refine⟨_,aK (vm (g7 jV rfl (HG (bx (pv 0) rfl)) (lS rfl (dA (bY (i:=1) nd rfl (aV rfl)) (dA (bY (i:=2) nd rfl (aV rfl)) ji))) (aX (kO (PW.pt (Dl (df iX (pv 2) (fC T.Cw) (c7 _)) (DL (nO (bQ d_no hr b0 (ai (pv 0) (ai (iU hu (bx (pv 0) rfl) (bh iy (pv 1) aQ (λ_ _=>rfl)) (λ_ _=>rfl)) (ai (bh iy (pv 1) aQ (λ_ _=>rfl)) au)))))))) (aX (bT (pv 1))) mF)))) (aX (bT Wc)),?_⟩;obtain⟨MA,ml,hs,rfl⟩:=mk;have R:=hs.rs;have hP:H MA.aP=some (.dT (b5 P)):=hs.2 (MA.aP,.dT (b5 P)) (eZ (by simp[cf]))
  have hmP:m≠MA.aP:=gL (bC R) hP (λz=>nomatch z);refine⟨MA.aP,.dT (b5 P),hP,lQ dy,λod=>?_⟩;have R0:Rs (upd H MA.aP (.bu od (.dT (b5 P)))) (aE CM CD m MA st P):=R.lock hP dy od;generalize hH0:upd H MA.aP (.bu od (.dT (b5 P)))=H0 at R0;have hP0:H0 MA.aP=some (.bu od (.dT (b5 P))):=by rw[<-hH0];exact aR
  have un:∀H',ak H0 H'->ak H (upd H' MA.aP (.dT (b5 P))):=λH' s'=>ak.unlock (od:=od) hP (by rw[hH0];exact s')
  refine⟨_,rfl,bp (bC R0) T.cM T.jw (j2 _ _ _) ⟨MA.aP,od,b5 P,rfl,hP0,?_⟩⟩
  let W:IV:=λi σ H'=>∃v1 v2:Option V,σ=[some (.ref m),v1,v2]/\ak H0 H'/\∀x∈P.take i,iY st P x=false
  refine g0 Jb (W) ⟨none,none,rfl,ak.refl _,λ_ z=>absurd z (by simp)⟩ (λi σ H' _ ⟨_,_,_,z,_⟩=>z _ _ hP0) (λi σ H' x H'' hi pv y=>?_) (λσ H' pv=>?_)
  .apply fz pv;intro v1 v2 zz;refine jx zz λs1 hno=>?_
   obtain⟨Tt,q,key,v,hk,hq,rfl,hT,rfl⟩:=y;unfold b5 at hk;rw[bz]at hk;obtain⟨x,hx,e⟩:=di.mp hk;injection e with e1 e2
   subst e1 e2;have s2:ak H' (upd H' Tt (.tup [.ref q,gk x.2.2.2])):=ak.new hT;have hq2:=s2 _ _ hq;refine⟨Tt,_,rfl,cv.of aR,rfl,_,_,rfl,_,_,rfl,rfl,?_⟩;have next:iY st P x=false->∃v1' v2':Option V,[some (V.ref m),some (V.ref q),some (gk x.2.2.2)]=[some (V.ref m),v1',v2']/\ak H0 (upd H' Tt (.tup [.ref q,gk x.2.2.2]))/\∀y∈P.take (i+1),iY st P y=false:=λhc=>by
    refine⟨_,_,rfl,s1.trans s2,λy hy=>?_⟩;rw[take_snoc hx]at hy;rcases b6.mp hy with hy|hy
    .exact hno y hy
    .rw[de.mp hy];exact hc
   refine CT (x:=gk x.2.2.2) (y:=.int 0) (λR' r=>⟨_,rfl,r⟩) (λR' r=>r) (by cases x.2.2.2<;>rfl) (cJ (c:=x.2.2.2=false) (by cases x.2.2.2<;>rfl) (λh1=>?_) (λh1=>?_))
   .obtain⟨d,hd,en,hpar,hlt,hg⟩:=pin x (cZ hx)
    obtain⟨D,hD,eD,hget,hdr⟩:=lR ml ((R0.same s1).same s2) ft.up hd;refine⟨_,rfl,_,rfl,bp (bC ((R0.same s1).same s2)) T.cM T.hU (ip _ _ _) ⟨_,rfl,fQ (cv.of hq2) (bj (j:=0) rfl) ⟨MA.aD,_,rfl,(by rw[en]at hget;exact hget),_,rfl,fQ (cv.of hq2) (bj (j:=1) rfl) ?_⟩⟩⟩
    refine⟨m,D.a,x.2.2.1,st,P,cx d,rfl,ft,⟨MA,ml,(R0.same s1).same s2⟩,hdr,hpar,hlt,hg,λH3 s3=>⟨_,rfl,?_⟩⟩;have ec:iY st P x=iZ st P d.num d.legs x.2.2.1:=by
     unfold iY;rw[h1,<-en,Rm.yn ft.up hd];rfl
    refine cJ (c:=iY st P x=true) (by rw[ec];show iZ st P d.num d.legs x.2.2.1=_;cases iZ st P d.num d.legs x.2.2.1<;>rfl) (λh2=>?_) (λh2=>?_)
    .refine⟨_,rfl,((s1.trans s2).trans s3) _ _ hP0,?_⟩
     have ef:P.find? (iY st P)=some x:=by
      rw[List.find?_eq_some_iff_getElem];obtain⟨hi',e⟩:=cN.mp hx;refine⟨h2,i,hi',e,λj hj=>?_⟩;have:=hno P[j] (cZ (i:=j) (by rw[zN hj];exact bH _))
      rw[this];rfl
     rw[ef]at k;refine k _ q (un _ ((s1.trans s2).trans s3)) ?_;have hqP:q≠MA.aP:=gL hq (s1 _ _ hP0) (λz=>nomatch z);rw[aI hqP];exact s3 _ _ hq2
    .obtain⟨v1',v2',e1,e2,e3⟩:=next (by simpa using h2)
     exact⟨_,_,rfl,e2.trans s3,e3⟩
   .exact fV (next (by unfold iY;rw[show x.2.2.2=true by simpa using h1];rfl))
  .apply fz pv;intro v1 v2 zz;refine jx zz λs1 hno=>?_
   have ln:(b5 P).length=P.length:=by unfold b5;rw[aA]
   rw[ln,jv]at hno;rw[FP.mpr λx hx=>by rw[hno x hx];exact dH]at k
   refine⟨s1 _ _ hP0,?_⟩;exact k _ (un _ s1)
theorem Gg:bX ["market","number","owner"] ["market","number"] (bb vD):=⟨rfl,rfl,rfl,by decide+kernel,rfl,by decide+kernel,by decide+kernel⟩
def HM(CM CD:aa):Sp:=λvs H Q z=>∃(m:aa)(S:List aa)(s:aT)(P:List aS)(d:aZ),vs=[.ref m,nV d.num]/\dJ s/\d∈s.market.deals/\d.legs.length<=12/\Mk CM CD H m S s P/\
 ∀H',ak H H'->Q (.bl ((aY d.legs).all λo=>decide (dg P d.num o=some true))) H'
theorem y8(l:List bN):(aY l).length<=2*l.length:=by
 unfold aY;have aux:∀(l:List bN)(acc:List Nat),(l.foldl (λacc x=>c4 (c4 acc x.from_) x.to_) acc).length<=acc.length+2*l.length:=by
  intro l;induction l with
  |nil=>intro acc;simp
  |cons x r ih=>
   intro acc;rw[lj];have h1:∀(a:List Nat)(o:Nat),(c4 a o).length<=a.length+1:=λa o=>by unfold c4;split<;>simp
   have:=ih (c4 (c4 acc x.from_) x.to_);have:=h1 (c4 acc x.from_) x.to_;have:=h1 acc x.from_;simp only[cY];omega
 simpa using aux l []
theorem wR{D:DA}(hl:oV D){i:Nat}{k:Key}{v:V}(h:(cz D)[i]? =some (k,v)):∃o,(aY D.legs)[i]? =some o/\k=bG (o:Int):=by
 unfold cz at h;rw[bz]at h;obtain⟨p,hp,e⟩:=di.mp h;rw[mj]at hp;injection e with e1 e2
 exact⟨p.1,hp.1,e1.symm⟩
theorem oT{D:DA}(hl:oV D):(cz D).length=(aY D.legs).length:=by
 unfold cz;rw[aA,tX,hl.rs,wC]
theorem uV{m:aa}{A:MA}(h:Hs H (aE CM CD m A s P)){D:DA}(hD:D∈A.ds):H D.gv=some (.dK (cz D)):=h.2 (D.gv,.dK (cz D)) (cP _ (cP _ (cP _ (lp.mpr ⟨D,hD,by simp[cE]⟩))))
theorem N5(G:Gd K mg "all_parts_held" vD)(T:Tx K mg CM CD):Df Pr w K mg base be 1 "all_parts_held" ["market","number"] (HM CM CD):=by
 obtain⟨f,fd,F,hm⟩:=G.ex;refine⟨f,fd,F.dn Gg (λvs H Q E h=>?_) (λcdv A outer s H vs Q E hr h=>?_),hm,F.kp,F.binds (bn2 rfl)⟩
 .apply mz h;intro u u u u u u;rfl
 .intro X0;apply mz h;intro m S st P d zz;refine mI zz λft hd h12 mk k=>?_
  have nd:=Gg.nd;have hu:=ir hr;refine⟨_,aX (bT (dh (u9 rfl) rfl T.vb z5 (ai (uk (fw rfl nd (u7 (bx (iU hu (bx (pv 0) rfl) (pv 1) (λu u=>rfl)) rfl)) (eI (N:=["market","number","owner"]) (sc:=bb vD) (own:=[("owner",2)]) (by decide+kernel)) (λu u u u u=>bY (i:=2) nd rfl (aV rfl) (.inr rfl)) (λu u u u u=>fU) (λu u u u u=>oU iX (xc hu (oO K rfl (pv 0) rfl) (jl (ai (pv 1) (ai (pv 2) au))) ⟨rfl,rfl,rfl,rfl⟩) (fC T.pS) (c7 _)))) au))),?_⟩
  obtain⟨MA,ml,hs,rfl⟩:=mk;have R:=hs.rs;obtain⟨D,hD,eD,hget,hdr⟩:=lR ml R ft.up hd;have dl:=ml.dl D hD;have el:D.legs=d.legs:=cq (λx=>x.2.1) eD;have hG:=uV hs hD;refine⟨D.gv,.dK (cz D),hG,lQ dy,λod=>?_⟩;have R0:Rs (upd H D.gv (.bu od (.dK (cz D)))) (aE CM CD m MA st P):=R.lock hG dy od;generalize hH0:upd H D.gv (.bu od (.dK (cz D)))=H0 at R0;have hG0:H0 D.gv=some (.bu od (.dK (cz D))):=by rw[<-hH0];exact aR
  obtain⟨D',hD',eD',hget',hdr'⟩:=lR ml R0 ft.up hd;have eDD:D'=D:=by
   have e1:D'.num=D.num:=(cq bg eD').trans (cq bg eD).symm;have h1:=find_key (λD:DA=>D.num) (qB ml ft.up) hD';have h2:=find_key (λD:DA=>D.num) (qB ml ft.up) hD;rw[e1,h2]at h1;exact(dQ h1).symm
  subst eDD;refine⟨_,rfl,bp (bC R0) T.cM T.hU (ip _ _ _) ⟨_,rfl,MA.aD,_,rfl,hget',bp (fk (iq R0 hD')) T.cD T.iu (kj D') ⟨D'.gv,od,rfl,.inl ⟨cz D',hG0,λDd hDd=>?_⟩⟩⟩⟩;refine fF t7 (λH2 s2=>s2 _ _ hG0) (λi=>((aY d.legs)[i]?).map λo=>V.bl (decide (dg P d.num o=some true))) (sl _ (by rw[oT dl,el];have:=y8 d.legs;omega)) hDd (λi H2 x H' KY KN hi s2 y ky kn=>?_) (λH2 s2 hd2=>?_)
  .obtain⟨rfl,key,v,hk,rfl⟩:=y
   obtain⟨o,hio,rfl⟩:=wR dl hk;rw[el]at hio;refine⟨rfl,fY ⟨_,rfl,bp (bC (R0.same s2)) T.cM T.jw (j2 _ _ _) ⟨MA.aP,rfl,(ki (R0.same s2)).rB,_,rfl,_,rfl,(by show 2<=sizeLine;decide),λt ht=>?_⟩⟩⟩
   have s3:ak H' (upd H' t (.tup [nV d.num,kV (bG (o:Int))])):=ak.new ht;refine⟨_,((ki (R0.same s2)).same s3).pX (k:=dc d.num o) aR,?_⟩;rw[lV];refine⟨wG _ _,ky _ _ ?_ s3⟩;rw[hio,D5];rfl
  .refine⟨s2 _ _ hG0,Dd,(aY d.legs).map λo=>decide (dg P d.num o=some true),rfl,aj.of ?_,?_⟩
   .have hDg:Dd≠D'.gv:=λz=>by rw[z,hG0]at hDd;cases hDd
    rw[aI hDg,hd2,oT dl,el,jX,bU];rfl
   .rw[pF]
    exact k _ (ak.unlock (od:=od) hG (by rw[hH0];exact s2))
abbrev Raw:=Nat×List bN×Nat
def l6(s:aT)(P:List aS)(r r2:Raw)(o:Nat):Bool:=decide (dg P r.1 o=some false)&&(decide (dg P r2.1 o=some true)&&(cR s.market.goods).any λg=>decide (0<fI s P r.1 r.2.1 o g)&&decide (0<gives r2.2.1 o g))
def j5(s:aT)(P:List aS)(r r2:Raw):Bool:=(aY r.2.1).any (l6 s P r r2)
def DU(CD:aa)(ng:Nat)(H:Hp)(a:aa)(r:Raw):Prop:=∃D,D.a=a/\ek D=r/\oV D/\Rs H (cE CD ng D)/\H D.gv=some (.dK (cz D))
abbrev GO:List ae:=["market","deal","other","owner","lacks","lack","amount"]
theorem KZ:bX GO ["market","deal","other","owner"] (bb uL):=⟨rfl,rfl,rfl,by decide+kernel,rfl,by decide+kernel,by decide+kernel⟩
def HD(CM CD:aa):Sp:=λvs H Q z=>∃(m a b:aa)(o:Nat)(s:aT)(P:List aS)(r r2:Raw),vs=[.ref m,.ref a,.ref b,nV o]/\dJ s/\iM CM CD H m s P/\DR CD s.market.goods H a r/\DR CD s.market.goods H b r2/\o∈aY r.2.1/\o<s.owners.length/\(dg P r2.1 o=some true->o∈aY r2.2.1)/\
 ∀H',ak H H'->Q (.bl (l6 s P r r2 o)) H'
theorem Xo(G:Gd K mg "waits_by" uL)(T:Tx K mg CM CD)(d_lacks:Df Pr w K mg base be 1 "lacks_of" ["market","deal","owner"] (xn CM CD)):Df Pr w K mg base be 2 "waits_by" ["market","deal","other","owner"] (HD CM CD):=by
 obtain⟨f,fd,F,hm⟩:=G.ex;refine⟨f,fd,F.dn KZ (λvs H Q E h=>?_) (λcdv A outer s H vs Q E hr h=>?_),hm,F.kp,F.binds (bn4 rfl)⟩
 .apply xw h;intro z z z z z z z z z;rfl
 .intro X0;apply xw h;intro m a b o st P r r2 zz;refine uU zz λft mk dr dr2 ho hlt hin k=>?_
  have nd:=KZ.nd;have hu:=ir hr;refine⟨_,eR (df nH (xc hu (bx (pv 0) rfl) (jl (ai (bx (pv 1) rfl) (ai (pv 3) au))) ⟨rfl,rfl,rfl,rfl⟩) (fC T.Cw) (c7 _)) (aX (bT oQ)) (eR (df nH (xc hu (bx (pv 0) rfl) (jl (ai (bx (pv 2) rfl) (ai (pv 3) au))) ⟨rfl,rfl,rfl,rfl⟩) (fC T.pS) (c7 _)) (aX (bT oQ)) (aK (bW (i:=4) nd rfl (aV rfl) (bQ d_lacks hr b0 (ai (pv 0) (ai (pv 1) (ai (pv 3) au))))) (aX (bT (dh (GR rfl) rfl T.HF aac (ai (fw rfl nd (A0 rfl T.Ai (ai (pv 4) (ai (iU hu (bx (pv 2) rfl) (pv 3) (λz z=>rfl)) au))) (eI (N:=GO) (sc:=bb uL) (own:=[("lack",5),("amount",6)]) (by decide+kernel)) (λz z z z z=>vd (K:=K) 2 rfl rfl (dA (bY (i:=5) nd rfl (aV rfl) (.inr rfl)) (dA (bY (i:=6) nd rfl (aV rfl) (.inr rfl)) ji))) (λz z z z z=>fU) (λz z z z z=>Aa (oU qz (pv 5) aQ (c7 _)) (C5 (oU qz (pv 6) aQ (c7 _))))) au)))))),?_⟩
  obtain⟨MA,ml,R⟩:=id mk;obtain⟨D,rfl,rfl,dl,RD⟩:=id dr;obtain⟨D2,rfl,rfl,dl2,RD2⟩:=id dr2;refine⟨_,rfl,bp (bC R) T.cM T.jw (j2 _ _ _) ⟨MA.aP,rfl,(ki R).rB,_,rfl,bp (fk RD) T.cD T.my (oX D) ⟨_,rfl,(by show 2<=sizeLine;decide),λt ht=>?_⟩⟩⟩
  have s1:ak H (upd H t (.tup [nV D.num,nV o])):=ak.new ht;refine⟨_,((ki R).same s1).pX (k:=dc D.num o) aR,?_⟩;rw[lV];refine⟨wG _ _,_,rfl,?_⟩;refine cJ (c:=¬dg P D.num o=some false) (by rw[Pt];simp) (λh1=>?_) (λh1=>?_)
  .have e:l6 st P (ek D) (ek D2) o=false:=by unfold l6 ek;dsimp only;rw[cU h1];rfl
   rw[e]at k;exact k _ s1
  generalize hH1:upd H t (.tup [nV D.num,nV o])=H1 at s1;have R1:=R.same s1;have RD1:=RD.same s1;have RD21:=RD2.same s1;refine⟨_,rfl,bp (bC R1) T.cM T.jw (j2 _ _ _) ⟨MA.aP,rfl,(ki R1).rB,_,rfl,bp (fk RD21) T.cD T.my (oX D2) ⟨_,rfl,(by show 2<=sizeLine;decide),λt2 ht2=>?_⟩⟩⟩
  have s2:ak H1 (upd H1 t2 (.tup [nV D2.num,nV o])):=ak.new ht2;refine⟨_,((ki R1).same s2).pX (k:=dc D2.num o) aR,?_⟩;rw[lV];refine⟨wG _ _,_,rfl,?_⟩;refine cJ (c:=¬dg P D2.num o=some true) (by rw[D5];simp) (λh2=>?_) (λh2=>?_)
  .have e:l6 st P (ek D) (ek D2) o=false:=by unfold l6 ek;dsimp only;rw[cU h2,vZ,Zj]
   rw[e]at k;exact k _ (s1.trans s2)
  have ew:l6 st P (ek D) (ek D2) o=(cR st.market.goods).any λg=>decide (0<fI st P D.num D.legs o g)&&decide (0<gives D2.legs o g):=by unfold l6 ek;dsimp only;rw[dw (i9.mp h1),dw (i9.mp h2)];rfl
  rw[ew]at k;generalize hH2:upd H1 t2 (.tup [nV D2.num,nV o])=H2 at s2;have s12:=s1.trans s2;obtain⟨ra,hra⟩:=si dl2 (hin (i9.mp h2));have fA:=sQ RD2 hra;refine⟨_,rfl,_,rfl,_,rfl,m,D.a,o,st,P,ek D,rfl,ft,mk.same s12,dr.same s12,ho,hlt,λH3 p s3 hp hd=>?_⟩;have s123:=s12.trans s3;refine⟨_,rfl,_,rfl,bp (s123 _ _ (fk RD2)) T.cD T.iu (kj D2) ⟨_,rfl,D2.gv,_,rfl,by rw[<-rW dl2 hra];exact((qu RD2).same s123).get (bG (o:Int)),p,ra,_,_,rfl,aj.of hd,aj.of (s123 _ _ fA),λDd hD=>?_⟩⟩
  have l1:((jG st P D.num D.legs o).map nV).length=st.market.goods:=by unfold jG;simp
  have l2:((cj st.market.goods D2.legs o).map nV).length=st.market.goods:=by unfold cj;simp
  refine fF (Dk (K:=K) (n:=st.market.goods) l1 l2) (λH4 s4=>⟨aj.of (s4 _ _ hd),aj.of (s4 _ _ (s123 _ _ fA))⟩) (λg=>some (V.bl (decide (0<fI st P D.num D.legs o g)&&decide (0<gives D2.legs o g)))) (sl _ (by have:=ft.goods;omega)) hD (λi H4 x H' KY KN hi s4 y ky kn=>?_) (λH4 s4 hd4=>?_)
  .obtain⟨Tt,x,y,rfl,hT,rfl,hx,hy⟩:=y
   have ex:x=nV (fI st P D.num D.legs o i):=by
    unfold jG at hx;rw[bU,bz,mn hi]at hx;exact(dQ hx).symm
   have ey:y=nV (gives D2.legs o i):=by
    unfold cj at hy;rw[bU,bz,mn hi]at hy;exact(dQ hy).symm
   subst ex ey;refine⟨Tt,_,rfl,cv.of aR,rfl,_,_,rfl,_,_,rfl,rfl,rfl,fY ⟨_,rfl,_,_,rfl,rfl,_,rfl,?_⟩⟩;refine cJ (c:=0<fI st P D.num D.legs o i) (jr.mpr (by omega)) (λh5=>?_) (λh5=>?_)
   .refine⟨_,rfl,_,_,rfl,rfl,ky _ _ ?_ (ak.new hT)⟩
    rw[dw h5,qI];show some (V.bl _)=some (V.bl (decide ((0:Int)<(gives D2.legs o i:Int))));rw[show decide ((0:Int)<(gives D2.legs o i:Int))=decide (0<gives D2.legs o i) from jr.mpr (by omega)]
   .exact ky _ _ (by rw[cU h5,vZ]) (ak.new hT)
  .refine⟨Dd,(cR st.market.goods).map λg=>decide (0<fI st P D.num D.legs o g)&&decide (0<gives D2.legs o g),rfl,aj.of ?_,?_⟩
   .rw[hd4,bU]
    rw[show(NV (λg=>some (V.bl (decide (0<fI st P D.num D.legs o g)&&decide (0<gives D2.legs o g)))) (cR st.market.goods))=(cR st.market.goods).map λg=>V.bl (decide (0<fI st P D.num D.legs o g)&&decide (0<gives D2.legs o g)) by rw[<-NW];rfl]
    rfl
   .rw[Fo]
    exact k _ (s123.trans s4)
abbrev GZ:List ae:=["market","deal","other","owner"]
theorem JG:bX GZ ["market","deal","other"] (bb ug):=⟨rfl,rfl,rfl,by decide+kernel,rfl,by decide+kernel,by decide+kernel⟩
def J7(CM CD:aa):Sp:=λvs H Q z=>∃(m a b:aa)(s:aT)(P:List aS)(r r2:Raw),vs=[.ref m,.ref a,.ref b]/\dJ s/\iM CM CD H m s P/\DU CD s.market.goods H a r/\DR CD s.market.goods H b r2/\r.2.1.length<=12/\(∀o∈aY r.2.1,o<s.owners.length)/\(∀o,dg P r2.1 o=some true->o∈aY r2.2.1)/\
 ∀H',ak H H'->Q (.bl (j5 s P r r2)) H'
theorem Vq(G:Gd K mg "waits_for" ug)(T:Tx K mg CM CD)(d_by:Df Pr w K mg base be 2 "waits_by" ["market","deal","other","owner"] (HD CM CD)):Df Pr w K mg base be 3 "waits_for" ["market","deal","other"] (J7 CM CD):=by
 obtain⟨f,fd,F,hm⟩:=G.ex;refine⟨f,fd,F.dn JG (λvs H Q E h=>?_) (λcdv A outer s H vs Q E hr h=>?_),hm,F.kp,F.binds (bn3 rfl)⟩
 .apply mB h;intro u u u u u u u u;rfl
 .intro X0;apply mB h;intro m a b st P r r2 zz;refine uU zz λft mk du dr2 h12 hlt hin k=>?_
  have nd:=JG.nd;refine⟨_,aX (bT (dh (GR rfl) rfl T.HF aac (ai (uk (fw rfl nd (u7 (bx (pv 1) rfl)) (eI (N:=GZ) (sc:=bb ug) (own:=[("owner",3)]) (by decide+kernel)) (λu u u u u=>bY (i:=3) nd rfl (aV rfl) (.inr rfl)) (λu u u u u=>fU) (λu u u u u=>bQ d_by hr b0 (ai (pv 0) (ai (pv 1) (ai (pv 2) (ai (pv 3) au))))))) au))),?_⟩
  obtain⟨D,rfl,rfl,dl,RD,hG⟩:=du;refine⟨D.gv,.dK (cz D),hG,lQ dy,λod=>?_⟩;have RD0:Rs (upd H D.gv (.bu od (.dK (cz D)))) (cE CD st.market.goods D):=RD.lock hG dy od;have mk0:=mk.lock hG dy od;have dr20:=dr2.lock hG dy od;generalize hH0:upd H D.gv (.bu od (.dK (cz D)))=H0 at RD0 mk0 dr20;have hG0:H0 D.gv=some (.bu od (.dK (cz D))):=by rw[<-hH0];exact aR
  refine⟨_,rfl,bp (fk RD0) T.cD T.iu (kj D) ⟨D.gv,od,rfl,.inl ⟨cz D,hG0,λDd hDd=>?_⟩⟩⟩;refine fF t7 (λH2 s2=>s2 _ _ hG0) (λi=>((aY D.legs)[i]?).map λo=>V.bl (l6 st P (ek D) r2 o)) (sl _ (by rw[oT dl];have:=y8 D.legs;have:D.legs.length<=12:=h12;omega)) hDd (λi H2 x H' KY KN hi s2 y ky kn=>?_) (λH2 s2 hd2=>?_)
  .obtain⟨rfl,key,v,hk,rfl⟩:=y
   obtain⟨o,hio,rfl⟩:=wR dl hk;have ho:=cZ hio;refine⟨rfl,fY ⟨_,rfl,_,rfl,_,rfl,_,rfl,m,D.a,b,o,st,P,ek D,r2,rfl,ft,mk0.same s2,⟨D,rfl,rfl,dl,RD0.same s2⟩,dr20.same s2,ho,hlt o ho,hin o,λH3 s3=>ky _ _ (by rw[hio];rfl) s3⟩⟩
  .refine⟨s2 _ _ hG0,Dd,(aY D.legs).map λo=>l6 st P (ek D) r2 o,rfl,aj.of ?_,?_⟩
   .have hDg:Dd≠D.gv:=λz=>by rw[z,hG0]at hDd;cases hDd
    rw[aI hDg,hd2,oT dl,jX,bU];rfl
   .rw[Fo]
    exact k _ (ak.unlock (od:=od) hG (by rw[hH0];exact s2))
abbrev WL:=List (Nat×List Nat)
def dq(as:List aa)(ws:WL):List (Key×V):=(as.zip ws).map λq=>(bG (q.2.1:Int),V.ref q.1)
def g8(p:aa)(as:List aa)(ws:WL):List (aa×HO):=(p,.dK (dq as ws))::(as.zip ws).map λq=>bJ q.1 q.2.2
def cF(s:aT)(P:List aS):WL:=s.market.deals.map λd=>(d.num,(s.market.deals.filter λe=>j5 s P (cx d) (cx e)).map (·.num))
structure Wf(s:aT)(P:List aS):Prop where
 fW:dJ s
 pin:DY s P
 legs:∀d∈s.market.deals,d.legs.length<=12
 own:∀d∈s.market.deals,∀o∈aY d.legs,o<s.owners.length
 par:∀d∈s.market.deals,∀o b,dg P d.num o=some b->o∈aY d.legs
theorem Dt{A:MA}(l:eY A s){i:Nat}{D:DA}(h:A.ds[i]? =some D):∃d,s.market.deals[i]? =some d/\ek D=cx d:=by
 have:(s.market.deals.map cx)[i]? =some (ek D):=by rw[<-l.ds,bz,h];rfl
 rw[bz]at this;obtain⟨d,hd,e⟩:=di.mp this;exact⟨d,hd,e.symm⟩
theorem GS{A:MA}(l:eY A s):A.ds.length=s.market.deals.length:=by
 have:=cq wb l.ds;simpa using this
theorem Cb{l1 l2:List (aa×HO)}{x y:aa×HO}(h:((l1++l2).map bg).Nodup)(hx:x∈l1)(hy:y∈l2):x.1≠y.1:=by
 rw[bZ,pz]at h;exact h.2.2 x.1 (bw.mpr ⟨x,hx,rfl⟩) y.1 (bw.mpr ⟨y,hy,rfl⟩)
theorem Gc{α β:Type}(p:α->Bool)(f:α->β)(l:List α):(l.filterMap λx=>if p x=true then some (f x)else none)=(l.filter p).map f:=by
 induction l with
 |nil=>rfl
 |cons x r ih=>
  rw[oj,fZ];by_cases h:p x=true
  .rw[ay h,ay h,bS,<-ih]
  .rw[aq h,aq h,<-ih]
abbrev IT:List ae:=["market","waits","number","deal","other"]
theorem JP:bX IT ["market"] (bb uO):=⟨rfl,rfl,rfl,by decide+kernel,rfl,by decide+kernel,by decide+kernel⟩
def Bj(CM CD:aa):Sp:=λvs H Q z=>∃(m:aa)(S:List aa)(s:aT)(P:List aS),vs=[.ref m]/\Wf s P/\Mk CM CD H m S s P/\
 ∀H' p as,ak H H'->as.length=(cF s P).length->Hs H' (g8 p as (cF s P))->(∀b∈(g8 p as (cF s P)).map bg,H b=none)->Q (.ref p) H'
theorem TU(G:Gd K mg "all_waits" uO)(T:Tx K mg CM CD)(d_for:Df Pr w K mg base be 3 "waits_for" ["market","deal","other"] (J7 CM CD)):Df Pr w K mg base be 4 "all_waits" ["market"] (Bj CM CD):=by
 obtain⟨f,fd,F,hm⟩:=G.ex;refine⟨f,fd,F.dn JP (λvs H Q E h=>?_) (λcdv A outer s H vs Q E hr h=>?_),hm,F.kp,F.binds (bn1 rfl)⟩
 .apply gM h;intro u u u u u;rfl
 .intro X0;apply gM h;intro m S st P zz;refine gy zz λwf mk k=>?_
  have nd:=JP.nd;have hu:=ir hr;refine⟨_,aK (bW (i:=1) nd rfl (aV rfl) yB) (aK (vm (g7 jV rfl (HL (bx (pv 0) rfl)) (lS rfl (dA (bY (i:=2) nd rfl (aV rfl)) (dA (bY (i:=3) nd rfl (tU rfl)) ji))) (aX (rR hu (pv 1) (pv 2) (fw rfl nd (BB (bx (pv 0) rfl)) (eI (N:=IT) (sc:=bb uO) (own:=[("other",4)]) (by decide+kernel)) (λu u u u u=>bY (i:=4) nd rfl (aV rfl) (.inr rfl)) (λu u u u u=>sf (nO (bQ d_for hr b0 (ai (pv 0) (ai (pv 3) (ai (pv 4) au)))))) (λu u u u u=>oO K rfl (pv 4) rfl)) rfl)))) (aX (bT (pv 1)))),?_⟩
  obtain⟨MA,ml,hs,rfl⟩:=mk;have ft:=wf.fW;have hDk:H MA.aD=some (.dK (bF MA)):=hs.2 (MA.aD,.dK (bF MA)) (eZ (by simp[cf]))
  intro p hp;have s0:ak H (upd H p (.dK [])):=ak.new hp;have hs0:=hs.same s0;have hD0:=s0 _ _ hDk;have hpD:p≠MA.aD:=λz=>by rw[z,hDk]at hp;cases hp
  refine⟨MA.aD,.dK (bF MA),hD0,lQ dy,λod=>?_⟩;have R0:=hs0.rs.lock hD0 dy od;generalize hH0:upd (upd H p (.dK [])) MA.aD (.bu od (.dK (bF MA)))=H0 at R0;have hDf:H0 MA.aD=some (.bu od (.dK (bF MA))):=by rw[<-hH0];exact aR
  have hp0:H0 p=some (.dK []):=by rw[<-hH0,aI hpD];exact aR
  have gvx:∀D∈MA.ds,H0 D.gv=some (.dK (cz D)):=λD hD=>by
   have ne:D.gv≠MA.aD:=by
    have:=Cb (x:=(MA.aD,HO.dK (bF MA))) (y:=(D.gv,HO.dK (cz D))) hs.1 (by simp[cf]) (cP _ (cP _ (lp.mpr ⟨D,hD,by simp[cE]⟩)))
    exact λz=>this z.symm
   rw[<-hH0,aI ne];exact s0 _ _ (uV hs hD)
  have fresh:∀b,H0 b=none->H b=none:=λb hb=>by
   cases q:H b with
   |none=>rfl
   |some o=>
    have:=s0 _ _ q;by_cases z:b=MA.aD
    .rw[z,hDf]at hb;cases hb
    .rw[<-hH0,aI z,this]at hb;cases hb
  have Rp:Rs H0 (aE CM CD m MA st P):=R0;refine⟨_,rfl,bp (bC R0) T.cM T.hU (ip _ _ _) ⟨MA.aD,od,bF MA,rfl,hDf,?_⟩⟩;have wl:(cF st P).length=st.market.deals.length:=by unfold cF;rw[aA]
  have kl:(bF MA).length=st.market.deals.length:=by unfold bF;rw[aA,GS ml]
  let W:IV:=λi σ H'=>∃v2 v3:Option V,σ=[some (.ref m),some (.ref p),v2,v3,none]/\(∀b o,H0 b=some o->b≠p->H' b=some o)/\∃as:List aa,as.length=i/\Hs H' (g8 p as ((cF st P).take i))/\∀a∈as,H0 a=none
  refine g0 FZ (W)
   ⟨none,none,rfl,λb o e u=>e,[],rfl,⟨by simp[g8],λz hz=>?_⟩,λu z=>absurd z (by simp)⟩ (λi σ H' u ⟨t,r,n,z,l⟩=>z _ _ hDf (eW hpD)) (λi σ H' x H'' hi pv y=>?_) (λσ H' pv=>?_)
  .simp[g8]at hz;subst hz;exact hp0
  .apply fz pv;intro v2 v3 zz;obtain⟨kp,as,al,ah,an⟩:=zz
   obtain⟨Tt,key,v,hk,rfl,hT,rfl⟩:=y;unfold bF at hk;rw[bz]at hk;obtain⟨D,hDi,e⟩:=di.mp hk;injection e with e1 e2
   subst e1 e2;obtain⟨d,hdi,eD⟩:=Dt ml hDi;have hd:=cZ hdi;have hDm:=cZ hDi;have en:D.num=d.num:=cq bg eD;have hH'T:H0 Tt=none:=by
    cases q:H0 Tt with
    |none=>rfl
    |some o=>
     by_cases z:Tt=p
     .have:=ah.2 (p,.dK (dq as ((cF st P).take i))) (by simp[g8])
      rw[z,this]at hT;cases hT
     .rw[kp _ _ q z]at hT;cases hT
   have kp2:∀b o,H0 b=some o->b≠p->(upd H' Tt (.tup [nV D.num,.ref D.a])) b=some o:=λb o e ne=>by rw[aI (cQ e hH'T)];exact kp b o e ne
   have R2:Rs (upd H' Tt (.tup [nV D.num,.ref D.a])) (aE CM CD m MA st P):=λq hq=>by
    have hqp:q.1≠p:=λz=>by
     have:=(hs.2 q hq);rw[z,hp]at this;cases this
    rcases R0 q hq with h|⟨h1,ob,h2⟩
    .exact .inl (kp2 _ _ h hqp)
    .exact .inr ⟨h1,ob,kp2 _ _ h2 hqp⟩
   have ah2:=ah.same (ak.new (o:=.tup [nV D.num,.ref D.a]) hT);have hDf2:=kp2 _ _ hDf (eW hpD);have gv2:∀D∈MA.ds,(upd H' Tt (.tup [nV D.num,.ref D.a])) D.gv=some (.dK (cz D))->True:=λu u u=>dy;have gvp:D.gv≠p:=λz=>by have:=uV hs hDm;rw[z,hp]at this;cases this
   have gvD:=kp2 _ _ (gvx D hDm) gvp;have tt:=(aR:(upd H' Tt (.tup [nV D.num,.ref D.a])) Tt=some (.tup [nV D.num,.ref D.a]));generalize hH2:upd H' Tt (.tup [nV D.num,.ref D.a])=H2 at kp2 R2 ah2 hDf2 gvD tt;refine⟨Tt,_,rfl,cv.of aR,rfl,_,_,rfl,_,_,rfl,rfl,?_⟩;rw[show upd H' Tt (.tup [kV (bG (D.num:Int)),V.ref D.a])=H2 from hH2];refine⟨_,rfl,bp (bC R2) T.cM T.hU (ip _ _ _) ⟨MA.aD,od,bF MA,rfl,hDf2,λDd hDd=>?_⟩⟩;refine fF Eo (λH3 s3=>s3 _ _ hDf2) (λj=>(st.market.deals[j]?).bind λe=>if j5 st P (cx d) (cx e)=true then some (nV e.num)else none) (sl _ (by rw[kl];have:=ft.c5;omega)) hDd (λj H3 x H' KY KN hj s3 y ky kn=>?_) (λH3 s3 hd3=>?_)
   .obtain⟨rfl,key,hk⟩:=y
    unfold bF at hk;rw[bz]at hk;obtain⟨D2,hD2,e⟩:=di.mp hk;injection e with e1 e2
    subst e1 e2;obtain⟨d2,hd2i,eD2⟩:=Dt ml hD2;have hd2:=cZ hd2i;have R3:=R2.same s3;refine⟨rfl,_,rfl,_,rfl,_,rfl,m,D.a,D2.a,st,P,cx d,cx d2,rfl,ft,⟨MA,ml,R3⟩,⟨D,rfl,eD,ml.dl D hDm,iq R3 hDm,s3 _ _ gvD⟩,⟨D2,rfl,eD2,ml.dl D2 (cZ hD2),iq R3 (cZ hD2)⟩,wf.legs d hd,wf.own d hd,λo ho=>wf.par d2 hd2 o true ho,λH4 s4=>⟨_,rfl,?_⟩⟩;refine cJ (c:=j5 st P (cx d) (cx d2)=true) (by cases j5 st P (cx d) (cx d2)<;>rfl) (λh1=>?_) (λh1=>?_)
    .refine⟨_,rfl,bp (s4 _ _ (fk (iq R3 (cZ hD2)))) T.cD T.my (oX D2) (ky _ _ ?_ s4)⟩
     rw[hd2i,sV,ay h1,show D2.num=d2.num from cq bg eD2]
    .exact kn _ (by rw[hd2i,sV,aq h1]) s4
   .rw[kl,Eu,Gc]at hd3
    have hp3:H3 p=some (.dK (dq as ((cF st P).take i))):=s3 _ _ (ah2.2 (p,.dK (dq as ((cF st P).take i))) (by simp[g8]))
    have wi:(cF st P)[i]? =some (d.num,(st.market.deals.filter λe=>j5 st P (cx d) (cx e)).map (·.num)):=by unfold cF;rw[bz,hdi];rfl
    have tl:((cF st P).take i).length=i:=by
     rw[jT,wl];have:=(cN.mp hdi).1;omega
    have knew:dC (dq as ((cF st P).take i)) (bG (D.num:Int))=none:=by
     refine AS (k:=λq:aa×(Nat×List Nat)=>(bG (q.2.1:Int):Key)) (v:=λq=>V.ref q.1) λq hq e=>?_;have h1:=(nu hq).2;obtain⟨j,hj⟩:=z7.mp h1;have hji:j<i:=by have:=(cN.mp hj).1;rw[tl]at this;exact this
     rw[zN hji]at hj;unfold cF at hj;rw[bz]at hj;obtain⟨d',hd',e'⟩:=di.mp hj;have e1:d'.num=q.2.1:=cq bg e';have e2:(q.2.1:Int)=(D.num:Int):=lD e;obtain⟨h3,h4⟩:=cN.mp hd';obtain⟨h5,h6⟩:=cN.mp hdi;have lt:=List.pairwise_iff_getElem.mp ft.up j i h3 h5 hji;rw[h4,h6]at lt;omega
    refine⟨_,rfl,_,rfl,p,_,rfl,k6.k (k:=bG (D.num:Int)) hp3 (sl _ (by unfold dq;rw[aA,tX,al,tl];have:=ft.c5;have:=(cN.mp hdi).1;omega)),?_⟩
    rw[uI _ knew];have hpDd:p≠Dd:=λz=>by rw[<-z]at hDd;have:=ah2.2 (p,.dK (dq as ((cF st P).take i))) (by simp[g8]);rw[this]at hDd;cases hDd
    have ez:g8 p (as++[Dd]) ((cF st P).take (i+1))=(p,.dK (dq as ((cF st P).take i)++[(bG (D.num:Int),V.ref Dd)]))::((as.zip ((cF st P).take i)).map (λq=>bJ q.1 q.2.2)++[bJ Dd ((st.market.deals.filter λe=>j5 st P (cx d) (cx e)).map (·.num))]):=by
     unfold g8 dq;rw[take_snoc wi,wO (by rw[al,tl])]
     simp only[bZ,bS,i7,en]
    have an3:H0 Dd=none:=by
     cases q:H0 Dd with
     |none=>rfl
     |some o=>rw[kp2 _ _ q (eW hpDd)]at hDd;cases hDd
    refine⟨_,_,rfl,λb o e ne=>?_,as++[Dd],by simp[al],?_,λa ha=>?_⟩
    .rw[aI ne];exact s3 _ _ (kp2 _ _ e ne)
    .have p1:Hs H3 ((p,.dK (dq as ((cF st P).take i)))::((as.zip ((cF st P).take i)).map (λq=>bJ q.1 q.2.2)++[bJ Dd ((st.market.deals.filter λe=>j5 st P (cx d) (cx e)).map (·.num))])):=by
      have h1:=ah2.same s3;have hdd:Dd∉(g8 p as ((cF st P).take i)).map bg:=ah2.out hDd;refine Hs.perm (L:=bJ Dd ((st.market.deals.filter λe=>j5 st P (cx d) (cx e)).map (·.num))::g8 p as ((cF st P).take i)) ⟨?_,?_⟩ ?_
      .rw[bS];exact gC.mpr ⟨hdd,h1.1⟩
      .intro q hq
       rcases bM.mp hq with rfl|hq
       .show H3 Dd=some (.lst _)
        rw[hd3,bU];rfl
       .exact h1.2 q hq
      .unfold g8
       refine(z6 _ _ _).trans (tW _ ?_);exact wB (l₁:=[bJ Dd _])
     have p2:=Hs.put (L1:=[]) (o':=.dK (dq as ((cF st P).take i)++[(bG (D.num:Int),V.ref Dd)])) p1;rw[ez];exact p2
    .rcases b6.mp ha with ha|ha
     .exact an a ha
     .rw[de.mp ha];exact an3
  .apply fz pv;intro v2 v3 zz;obtain⟨kp,as,al,ah,an⟩:=zz
   rw[kl]at al ah;rw[zT (by omega)]at ah
   have hDf':=kp _ _ hDf (eW hpD);refine⟨hDf',_,rfl,?_⟩;have sm:ak H (upd H' MA.aD (.dK (bF MA))):=λb o e=>by
    by_cases z:b=MA.aD
    .subst z;rw[hDk]at e;cases e;exact aR
    .rw[aI z]
     refine kp b o ?_ (λq=>by rw[q,hp]at e;cases e)
     rw[<-hH0,aI z];exact s0 _ _ e
   have asD:∀q∈g8 p as (cF st P),q.1≠MA.aD:=λq hq z=>by
    have:=ah.2 q hq;rcases bM.mp hq with rfl|hq
    .exact hpD z
    .obtain⟨x,hx,rfl⟩:=bw.mp hq
     have h1:=an x.1 (nu hx).1;have z':x.1=MA.aD:=z;rw[z',hDf]at h1;cases h1
   refine k _ p as sm (by rw[al,wl]) ⟨ah.1,λq hq=>by rw[aI (asD q hq)];exact ah.2 q hq⟩ λb hb=>?_
   obtain⟨q,hq,rfl⟩:=bw.mp hb;rcases bM.mp hq with rfl|hq
   .exact hp
   .obtain⟨x,hx,rfl⟩:=bw.mp hq
    exact fresh _ (an x.1 (nu hx).1)
def dI(ws:WL):List (Nat×Nat):=ws.flatMap λq=>q.2.map λy=>(q.1,y)
theorem AG{ws:WL}{a b:Nat}:(a,b)∈dI ws↔∃l,(a,l)∈ws/\b∈l:=by
 unfold dI;rw[lp];constructor
 .rintro⟨q,hq,h⟩
  obtain⟨y,hy,e⟩:=bw.mp h;injection e with e1 e2
  subst e1 e2;exact⟨q.2,hq,hy⟩
 .rintro⟨l,hl,hb⟩
  exact⟨(a,l),hl,bw.mpr ⟨b,hb,rfl⟩⟩
theorem Dh:∀{ws:WL}{a:Nat}{l:List Nat},(ws.map (·.1)).Nodup->(a,l)∈ws->Rm.jD (dI ws) a=l
 |[],a,l,_,h=>absurd h (by simp)
 |q::r,a,l,hn,h=>by
  rw[bS,gC]at hn;have e:dI (q::r)=(q.2.map λy=>(q.1,y))++dI r:=by unfold dI;rw[gQ]
  unfold Rm.jD;rw[e,aad,bZ];rcases bM.mp h with h|h
  .subst h
   have e1:(((l.map λy=>(a,y)).filter λe=>e.1==a).map (·.2))=l:=by
    rw[qF.mpr (by intro x hx;obtain⟨y,w,rfl⟩:=bw.mp hx;simp),bU]
    conv=>rhs;rw[<-vL l]
    rfl
   have e2:((dI r).filter λe=>e.1==a)=[]:=by
    refine MI.mpr λx hx q=>?_;obtain⟨l',h1,w⟩:=AG.mp (show(x.1,x.2)∈dI r from hx);exact hn.1 (bw.mpr ⟨(x.1,l'),h1,eq_of_beq q⟩)
   show _++_=_;rw[e1,e2];simp
  .have e1:((q.2.map λy=>(q.1,y)).filter λe=>e.1==a)=[]:=by
    refine MI.mpr λx hx z=>?_;obtain⟨y,w,rfl⟩:=bw.mp hx;exact hn.1 (bw.mpr ⟨(a,l),h,(eq_of_beq z).symm⟩)
   rw[e1,i7,wy];exact Dh hn.2 h
structure Br(ws:WL):Prop where
 nd:(ws.map (·.1)).Nodup
 BW:∀q∈ws,∀y∈q.2,y∈ws.map (·.1)
 c5:ws.length<=16
 row:∀q∈ws,q.2.length<=16
def WR(H:Hp)(p:aa)(ws:WL):Prop:=∃as,as.length=ws.length/\Rs H (g8 p as ws)
theorem WR.same{H':Hp}{p:aa}{ws:WL}(h:WR H p ws)(s:ak H H'):WR H' p ws:=by
 obtain⟨as,l,h⟩:=h;exact⟨as,l,h.same s⟩
theorem WR.get{p:aa}{ws:WL}(h:WR H p ws)(ok:Br ws){n:Nat}(hn:n∈ws.map (·.1)):∃a l,(n,l)∈ws/\gX H p (nV n) (some (.ref a))/\H a=some (.lst (l.map nV)):=by
 obtain⟨as,al,R⟩:=h;obtain⟨q,hq,rfl⟩:=bw.mp hn;obtain⟨i,hi⟩:=z7.mp hq;have hl:i<as.length:=by rw[al];exact(cN.mp hi).1
 have hz:(as[i],q)∈as.zip ws:=cZ (i:=i) (by rw[mj];exact⟨bH hl,hi⟩)
 refine⟨as[i],q.2,hq,?_,(R (bJ as[i] q.2) (b8 _ (bw.mpr ⟨(as[i],q),hz,rfl⟩))).is (λz=>z)⟩;have hD:fT H p (.dK (dq as ws)):=R (p,.dK (dq as ws)) (by simp[g8])
 have:=hD.get (bG (q.1:Int));have e:dC (dq as ws) (bG (q.1:Int))=some (.ref as[i]):=by
  refine yM (k:=λq:aa×(Nat×List Nat)=>(bG (q.2.1:Int):Key)) (v:=λq=>V.ref q.1) (x:=(as[i],q)) ?_ hz;have e2:((as.zip ws).map λq:aa×(Nat×List Nat)=>(bG (q.2.1:Int):Key))=(ws.map λq:Nat×List Nat=>q.1).map λ(n:Nat)=>(bG (n:Int):Key):=by
   have e3:=List.map_snd_zip (l₁:=as) (l₂:=ws) (by rw[al];exact bK _)
   conv=>rhs;rw[<-e3,bU,bU]
   rfl
  rw[e2];exact z8 _ (λa b h e=>h (by have:=lD e;omega)) ok.nd
 rw[e]at this;exact this
def jE(l:List Nat):List (Key×V):=l.map λ(n:Nat)=>(bG (n:Int),V.bl true)
theorem J9(l:List Nat)(n:Nat):(dC (jE l) (bG (n:Int))).isSome=l.contains n:=by
 unfold jE;rw[t5 (k:=λn:Nat=>(bG (n:Int):Key)) (v:=λz=>V.bl true)];rw[pK];induction l with
 |nil=>rfl
 |cons x r ih=>
  rw[lr,NQ];by_cases h:n=x
  .subst h;simp
  .rw[cU (λe=>h (by have:=lD e;omega)),show(n==x)=false by simpa using h,Np]
   exact ih
abbrev Pf:List ae:=["waits","start","seen","ahead","number"]
theorem JJ:bX Pf ["waits","start"] (bb xu):=⟨rfl,rfl,rfl,by decide+kernel,rfl,by decide+kernel,by decide+kernel⟩
def K0:Sp:=λvs H Q z=>∃(p:aa)(ws:WL)(n:Nat),vs=[.ref p,nV n]/\WR H p ws/\Br ws/\n∈ws.map (·.1)/\∀H' b,ak H H'->(b=true↔Rm.Way (dI ws) n n)->Q (.bl b) H'
theorem QC(G:Gd K mg "is_on_ring" xu)(T:Tx K mg CM CD):Df Pr w K mg base be 1 "is_on_ring" ["waits","start"] K0:=by
 obtain⟨f,fd,F,hm⟩:=G.ex;refine⟨f,fd,F.dn JJ (λvs H Q E h=>?_) (λcdv A outer s H vs Q E hr h=>?_),hm,F.kp,F.binds (bn2 rfl)⟩
 .apply kP h;intro v v v v;rfl
 .intro X0;apply kP h;intro p ws n zz;refine lP zz λwr ok hn k=>?_
  have nd:=JJ.nd;have hu:=ir hr;refine⟨_,aK (bW (i:=2) nd rfl (aV rfl) yB) (aK (bW (i:=3) nd rfl (aV rfl) (uT Lw rfl T.AI NX (ai (iU hu (pv 0) (pv 1) (λv v=>rfl)) au))) (aK (xQ jV (df qz (dh iA rfl T.fK f9 (ai (pv 3) au)) aQ (c7 _)) (aK (bW (i:=4) nd rfl (aV rfl) (Yl gU PySem.F.slot_list_pop PySem.F.type_list_pop PQ (pv 3))) (eR (df iX (pv 4) (pv 1) (c7 _)) (aX (bT oQ)) (aX (kO (k4 (rp hu (pv 4) (pv 2))) (aK (rR hu (pv 2) (pv 4) oQ rfl) (aX (cG (gI gU lH lI jY (pv 3) (ai (iU hu (pv 0) (pv 4) (λv v=>rfl)) au))))) mF))))) (aX (bT oQ)))),?_⟩;intro ps hps;have s1:ak H (upd H ps (.dK [])):=ak.new hps;obtain⟨a0,l0,hl0,hg0,ha0⟩:=(wr.same s1).get ok hn;refine⟨_,rfl,_,rfl,p,_,rfl,hg0,a0,_,rfl,.inl (aj.of ha0),λal hal=>?_⟩;have s2:ak (upd H ps (.dK [])) (upd (upd H ps (.dK [])) al (.lst (l0.map nV))):=ak.new hal;have hne:ps≠al:=λz=>by rw[<-z,aR]at hal;cases hal
  have es0:Rm.jD (dI ws) n=l0:=Dh ok.nd hl0;have inK:∀x y,(x,y)∈dI ws->y∈ws.map (·.1):=λx y h=>by
   obtain⟨l,h1,h2⟩:=AG.mp h;exact ok.BW _ h1 y h2
  let W:IV:=λmm σ H'=>∃(v4:Option V)(seen ahead:List Nat),σ=[some (.ref p),some (nV n),some (.ref ps),some (.ref al),v4]/\mm=Rm.oR (dI ws) (ws.map (·.1)) seen ahead/\(∀b o,H b=some o->H' b=some o)/\H' ps=some (.dK (jE seen))/\H' al=some (.lst (ahead.map nV))/\Rm.Walk (dI ws) n seen ahead/\seen.Nodup/\(∀x∈seen,x∈ws.map (·.1))/\(∀x∈ahead,x∈ws.map (·.1))/\ahead.length<=16+16*seen.length
  refine⟨W,⟨_,none,[],l0,rfl,rfl,(s1.trans s2),by rw[aI hne];exact aR,aR,by rw[<-es0];exact Rm.Walk.begin _ _,Fv,λv z=>absurd z (by simp),λx hx=>inK n x (AG.mpr ⟨l0,hl0,hx⟩),by have:=ok.row _ hl0;simpa using this⟩,λmm σ H' pv=>?_⟩
  obtain⟨v4,seen,ahead,rfl,rfl,kp,hse,hah,wk,snd,sin,ain,alen⟩:=pv;have sl1:seen.length<=16:=by
   have:=Rm.uS snd sin;rw[aA]at this;have:=ok.c5;omega
  refine⟨_,rfl,al,_,rfl,.inl (aj.of hah),_,_,rfl,rfl,_,rfl,?_⟩;refine cJ (c:=0<ahead.length) (jr.mpr (by rw[aA];omega)) (λh1=>?_) (λh1=>?_)
  .obtain⟨ah,x,rfl⟩:∃ah x,ahead=ah++[x]:=by
    rcases YC ahead with e|⟨ah,x,e⟩
    .rw[e]at h1;simp at h1
    .exact⟨ah,x,by simpa using e⟩
   have hx:=ain x (by simp)
   refine⟨λσ' H''=>∃m',m'<Rm.oR (dI ws) (ws.map (·.1)) seen (ah++[x])/\W m' σ' H'',λσ' H'' z=>z,?_⟩;refine⟨_,rfl,.inl ⟨rfl,_,aj.of hah⟩,al,_,nV x,rfl,rfl,hah,by rw[bZ,bV];simp,?_⟩
   have edl:(iH nV (ah++[x])).dropLast=ah.map nV:=by rw[bZ];simp
   rw[edl];have hne':ps≠al:=gL hse hah (λz=>nomatch z);have kp1:∀b o,H b=some o->(upd H' al (.lst (ah.map nV))) b=some o:=λb o e=>by rw[aI (λz=>by rw[z]at e;have:=(ak.new hps:ak H _).free hal;rw[this]at e;cases e)];exact kp b o e
   have hse1:(upd H' al (.lst (ah.map nV))) ps=some (.dK (jE seen)):=by rw[aI hne'];exact hse
   have hah1:(upd H' al (.lst (ah.map nV))) al=some (.lst (ah.map nV)):=aR;generalize upd H' al (.lst (ah.map nV))=H1 at kp1 hse1 hah1;refine⟨_,rfl,_,rfl,rfl,_,rfl,cJ (c:=x=n) (jr.mpr ⟨λz=>by have:=V.int.inj z;omega,λz=>by rw[z]⟩) (λh2=>?_) (λh2=>?_)⟩
   .subst h2
    exact k _ true kp1 ⟨λv=>wk.back,λv=>rfl⟩
   .refine⟨_,rfl,_,rfl,ps,_,rfl,gX.k (k:=bG (x:Int)) hse1,_,rfl,?_⟩
    refine cJ (c:=¬x∈seen) (by rw[J9];by_cases z:x∈seen<;>simp[z]) (λh3=>?_) (λh3=>?_)
    .have knew:dC (jE seen) (bG (x:Int))=none:=by
      have:=J9 seen x;rw[show seen.contains x=false by simpa using h3]at this
      exact aae.mp (by simpa using this)
     refine⟨_,rfl,_,rfl,ps,_,rfl,k6.k (k:=bG (x:Int)) hse1 (sl _ (by unfold jE;rw[aA];omega)),?_⟩
     rw[uI _ knew];have eS:jE seen++[(bG (x:Int),V.bl true)]=jE (seen++[x]):=by unfold jE;rw[bZ];rfl
     rw[eS];have kp2:∀b o,H b=some o->(upd H1 ps (.dK (jE (seen++[x])))) b=some o:=λb o e=>by rw[aI (cQ e hps)];exact kp1 b o e
     have hah2:(upd H1 ps (.dK (jE (seen++[x])))) al=some (.lst (ah.map nV)):=by rw[aI (eW hne')];exact hah1
     have hse2:(upd H1 ps (.dK (jE (seen++[x])))) ps=some (.dK (jE (seen++[x]))):=aR;generalize upd H1 ps (.dK (jE (seen++[x])))=H2 at kp2 hah2 hse2;obtain⟨ax,lx,hlx,hgx,hax⟩:=(wr.same kp2).get ok hx;have esx:Rm.jD (dI ws) x=lx:=Dh ok.nd hlx;refine⟨_,rfl,.inl ⟨rfl,_,aj.of hah2⟩,_,rfl,_,rfl,p,_,rfl,hgx,al,ax,_,_,rfl,rfl,hah2,hax,sle _ (by rw[aA,aA];have:lx.length<=16:=ok.row _ hlx;rw[bV]at alen;simp at alen;omega),?_⟩
     have hxl:x∈ws.map (·.1):=hx;refine⟨_,?_,_,seen++[x],ah++lx,rfl,rfl,λb o e=>?_,?_,?_,?_,?_,?_,?_,?_⟩
     .have:=Rm.Qv (dI ws) (ws.map (·.1)) seen ah ok.nd hxl h3
      rw[esx]at this;omega
     .rw[aI (λz=>by rw[z]at e;have:=(ak.new hps:ak H _).free hal;rw[this]at e;cases e)];exact kp2 b o e
     .rw[aI hne'];exact hse2
     .rw[aR,bZ]
     .have:=wk.new h2;rw[esx]at this;exact this
     .exact pz.mpr ⟨snd,by simp,λa ha b hb=>by rw[de.mp hb];exact λz=>h3 (z▸ha)⟩
     .intro y hy
      rcases b6.mp hy with hy|hy
      .exact sin y hy
      .rw[de.mp hy];exact hx
     .intro y hy
      rcases b6.mp hy with hy|hy
      .exact ain y (fq _ hy)
      .exact ok.BW _ hlx y hy
     .have:lx.length<=16:=ok.row _ hlx
      rw[bV]at alen;rw[bV,bV];simp at alen this⊢;omega
    .have h3':x∈seen:=i9.mp h3
     refine⟨_,?_,_,seen,ah,rfl,rfl,kp1,hse1,hah1,wk.old h3',snd,sin,λy hy=>ain y (fq _ hy),by rw[bV]at alen;simp at alen;omega⟩
     have:=Rm.Xc (dI ws) (ws.map (·.1)) seen ah x;omega
  .have e0:ahead=[]:=Z9.mp (by omega)
   subst e0;exact k _ false kp ⟨λz=>absurd z (by decide),λz=>absurd z wk.over⟩
abbrev Mc:List ae:=["market","waits","number"]
theorem L4:bX Mc ["market"] (bb t8):=⟨rfl,rfl,rfl,by decide+kernel,rfl,by decide+kernel,by decide+kernel⟩
theorem Gq(wf:Wf s P):Br (cF s P) where
 nd:=by
  unfold cF;rw[bU];exact((Rm.uY _).mp wf.fW.up).imp (λh=>dM h)
 BW:=λq hq y hy=>by
  unfold cF at hq⊢;obtain⟨d,hd,rfl⟩:=bw.mp hq;obtain⟨e,he,rfl⟩:=bw.mp hy;rw[bU];exact bw.mpr ⟨e,(dG.mp he).1,rfl⟩
 c5:=by unfold cF;rw[aA];exact wf.fW.c5
 row:=λq hq=>by
  unfold cF at hq;obtain⟨d,hd,rfl⟩:=bw.mp hq;rw[aA];exact fi (tp _ _) wf.fW.c5
def Am(ws:WL)(v:V):Prop:=(v=.bI/\∀n∈ws.map (·.1),¬Rm.Way (dI ws) n n)\/∃n∈ws.map (·.1),v=nV n/\Rm.Way (dI ws) n n/\∀x∈ws.map (·.1),Rm.Way (dI ws) x x->x<=n
def CF(CM CD:aa):Sp:=λvs H Q z=>∃(m:aa)(S:List aa)(s:aT)(P:List aS),vs=[.ref m]/\Wf s P/\Mk CM CD H m S s P/\∀H' v,ak H H'->Am (cF s P) v->Q v H'
theorem RC(G:Gd K mg "greatest_on_ring" t8)(T:Tx K mg CM CD)(d_all:Df Pr w K mg base be 4 "all_waits" ["market"] (Bj CM CD))(d_ring:Df Pr w K mg base be 1 "is_on_ring" ["waits","start"] K0):Df Pr w K mg base be 5 "greatest_on_ring" ["market"] (CF CM CD):=by
 obtain⟨f,fd,F,hm⟩:=G.ex;refine⟨f,fd,F.dn L4 (λvs H Q E h=>?_) (λcdv A outer s H vs Q E hr h=>?_),hm,F.kp,F.binds (bn1 rfl)⟩
 .apply gM h;intro u u u u u;rfl
 .intro X0;apply gM h;intro m S st P zz;refine gy zz λwf mk k=>?_
  have nd:=L4.nd;refine⟨_,aK (bW (i:=1) nd rfl (tU rfl) (bQ d_all hr b0 (ai (pv 0) au))) (aX (bT (Ya rfl rfl T.BK (uk (fw rfl nd (u7 (pv 1)) (eI (N:=Mc) (sc:=bb t8) (own:=[("number",2)]) (by decide+kernel)) (λu u u u u=>bY (i:=2) nd rfl (aV rfl) (.inr rfl)) (λu u u u u=>sf (nO (bQ d_ring (hr.mono (by decide)) b0 (ai (pv 1) (ai (pv 2) au))))) (λu u u u u=>pv 2)))))),?_⟩
  refine⟨_,rfl,m,S,st,P,rfl,wf,mk,λH1 p as s1 al ah fr=>?_⟩;have ok:=Gq wf;have hp1:H1 p=some (.dK (dq as (cF st P))):=ah.2 (p,.dK (dq as (cF st P))) (by simp[g8])
  refine⟨p,.dK (dq as (cF st P)),hp1,lQ dy,λod=>?_⟩;have R0:=ah.rs.lock hp1 dy od;generalize hH0:upd H1 p (.bu od (.dK (dq as (cF st P))))=H0 at R0;have hp0:H0 p=some (.bu od (.dK (dq as (cF st P)))):=by rw[<-hH0];exact aR
  refine⟨_,rfl,p,od,rfl,.inl ⟨dq as (cF st P),hp0,λDd hDd=>?_⟩⟩;have kl:(dq as (cF st P)).length=(cF st P).length:=by unfold dq;rw[aA,tX,al,wC]
  have keyAt:∀i key v,(dq as (cF st P))[i]? =some (key,v)->∃q:Nat×List Nat,(cF st P)[i]? =some q/\key=bG (q.1:Int):=λi key v h=>by
   unfold dq at h;rw[bz]at h;obtain⟨x,hx,e⟩:=di.mp h;rw[mj]at hx;injection e with e1 e2
   exact⟨x.2,hx.2,e1.symm⟩
  refine rY t7 (λi H'=>ak H0 H'/\∃ns:List Nat,H' Dd=some (.lst (ns.map nV))/\ns.length<=i/\∀n,n∈ns↔(n∈((cF st P).take i).map (·.1)/\Rm.Way (dI (cF st P)) n n))
   ⟨ak.new hDd,[],aR,bK _,λn=>by simp⟩ (λi H' u z=>z.1 _ _ hp0) (λi H' x H'' hi pv y=>?_) (λH' pv=>?_)
  .obtain⟨s2,ns,hns,nl,nm⟩:=pv
   obtain⟨rfl,key,v,hk,rfl⟩:=y;obtain⟨q,hq,rfl⟩:=keyAt i key v hk;have hqm:=cZ hq;refine⟨rfl,_,rfl,_,rfl,p,cF st P,q.1,rfl,⟨as,al,R0.same s2⟩,ok,bw.mpr ⟨q,hqm,rfl⟩,λH3 b s3 hb=>⟨_,rfl,?_⟩⟩;have nt:∀n,n∈((cF st P).take (i+1)).map (·.1)↔n∈((cF st P).take i).map (·.1)\/n=q.1:=λn=>by rw[take_snoc hq,bZ,b6];simp
   cases b with
   |true=>
    have hw:=hb.1 rfl;refine fm ⟨_,rfl,ns.map nV,s3 _ _ hns,sl _ (by rw[aA];have:=ok.c5;rw[kl]at hi;omega),?_⟩
    refine⟨λb o e=>?_,ns++[q.1],by rw[aR,bZ];rfl,by simp;omega,λn=>?_⟩
    .rw[aI (cQ e hDd)];exact s3 _ _ (s2 _ _ e)
    .rw[b6,nm,nt,de]
     constructor
     .rintro(⟨h1,h2⟩|rfl)
      .exact⟨.inl h1,h2⟩
      .exact⟨.inr rfl,hw⟩
     .rintro⟨h1|rfl,h2⟩
      .exact .inl ⟨h1,h2⟩
      .exact .inr rfl
   |false=>
    have hw:¬Rm.Way (dI (cF st P)) q.1 q.1:=λz=>dH (hb.2 z);refine fV ⟨s2.trans s3,ns,s3 _ _ hns,by omega,λn=>?_⟩
    rw[nm,nt];constructor
    .rintro⟨h1,h2⟩;exact⟨.inl h1,h2⟩
    .rintro⟨h1|rfl,h2⟩
     .exact⟨h1,h2⟩
     .exact absurd h2 hw
  .obtain⟨s2,ns,hns,nl,nm⟩:=pv
   rw[kl,jv]at nm;have hDp:Dd≠p:=λz=>by rw[z,hp0]at hDd;cases hDd
   have sm:ak H (upd H' p (.dK (dq as (cF st P)))):=s1.trans (ak.unlock (od:=od) hp1 (by rw[hH0];exact s2))
   refine⟨s2 _ _ hp0,Dd,ns.map λ(n:Nat)=>(n:Int),rfl,aj.of (by rw[aI hDp,hns,bU];rfl),λe0=>?_,λM hM hmax=>?_⟩
   .have e1:ns=[]:=by simpa using e0
    refine k _ _ sm (.inl ⟨rfl,λn hn hw=>?_⟩);have:=(nm n).2 ⟨hn,hw⟩;rw[e1]at this;cases this
   .obtain⟨n,hn,rfl⟩:=bw.mp hM
    obtain⟨h1,h2⟩:=(nm n).1 hn;refine k _ _ sm (.inr ⟨n,h1,rfl,h2,λx hx hw=>?_⟩);have:=hmax _ (bw.mpr ⟨x,(nm x).2 ⟨hx,hw⟩,rfl⟩);omega
def cK(s:aT)(f h:List (List Nat)):aT:={s with market:={s.market with free:=f,held:=h}}
theorem nL{α:Type}(F:α->α):∀{b:List α}{o:Nat}{r:α},b[o]? =some r->b.modify o F=b.set o (F r)
 |[],o,r,h=>by simp at h
 |x::b,0,r,h=>by
  have:x=r:=by simpa using h
  subst this;rfl
 |x::b,o+1,r,h=>by
  have:=nL F (b:=b) (o:=o) (r:=r) (by simpa using h)
  show x::b.modify o F=x::b.set o (F r);rw[this]
theorem AL:∀{as:List aa}{b:List (List Nat)}{o:Nat}{a:aa}{r:List Nat},as[o]? =some a->b[o]? =some r->∃L1 L2,rows as b=L1++bJ a r::L2/\∀r',rows as (b.set o r')=L1++bJ a r'::L2
 |[],_,o,a,r,h,_=>by simp at h
 |_::_,[],o,a,r,_,h=>by simp at h
 |x::as,y::b,0,a,r,h1,h2=>by
  have e1:x=a:=by simpa using h1
  have e2:y=r:=by simpa using h2
  subst e1 e2;exact⟨[],rows as b,rfl,λr'=>rfl⟩
 |x::as,y::b,o+1,a,r,h1,h2=>by
  obtain⟨L1,L2,e1,e2⟩:=AL (as:=as) (b:=b) (o:=o) (a:=a) (r:=r) (by simpa using h1) (by simpa using h2)
  refine⟨bJ x y::L1,L2,?_,λr'=>?_⟩
  .show bJ x y::rows as b=_
   rw[e1];rfl
  .show bJ x y::rows as (b.set o r')=_
   rw[e2];rfl
section
variable{m:aa}{A:MA}{X:List (aa×HO)}
theorem Pe(hs:Hs H (aE CM CD m A s P++X)){r:List Nat}(ha:A.fr[o]? =some a)(hr:s.market.free[o]? =some r)(r':List Nat):Hs (upd H a (.lst (r'.map nV))) (aE CM CD m A (cK s (s.market.free.set o r') s.market.held) P++X):=by
 obtain⟨L1,L2,e1,e2⟩:=AL ha hr;have ea:aE CM CD m A s P++X=(cf CM m A s P++L1)++bJ a r::(L2++(rows A.hd s.market.held++A.ds.flatMap (cE CD s.market.goods))++X):=by unfold aE;rw[e1];simp
 have eb:aE CM CD m A (cK s (s.market.free.set o r') s.market.held) P++X=(cf CM m A s P++L1)++bJ a r'::(L2++(rows A.hd s.market.held++A.ds.flatMap (cE CD s.market.goods))++X):=by
  unfold aE cK;rw[show(cf CM m A {s with market:={s.market with free:=s.market.free.set o r',held:=s.market.held}} P)=cf CM m A s P from rfl]
  dsimp only;rw[e2];simp
 rw[eb];rw[ea]at hs;exact hs.put
theorem Tj(hs:Hs H (aE CM CD m A s P++X)){r:List Nat}(ha:A.hd[o]? =some a)(hr:s.market.held[o]? =some r)(r':List Nat):Hs (upd H a (.lst (r'.map nV))) (aE CM CD m A (cK s s.market.free (s.market.held.set o r')) P++X):=by
 obtain⟨L1,L2,e1,e2⟩:=AL ha hr;have ea:aE CM CD m A s P++X=(cf CM m A s P++(rows A.fr s.market.free++L1))++bJ a r::(L2++A.ds.flatMap (cE CD s.market.goods)++X):=by unfold aE;rw[e1];simp
 have eb:aE CM CD m A (cK s s.market.free (s.market.held.set o r')) P++X=(cf CM m A s P++(rows A.fr s.market.free++L1))++bJ a r'::(L2++A.ds.flatMap (cE CD s.market.goods)++X):=by
  unfold aE cK;rw[show(cf CM m A {s with market:={s.market with free:=s.market.free,held:=s.market.held.set o r'}} P)=cf CM m A s P from rfl]
  dsimp only;rw[e2];simp
 rw[eb];rw[ea]at hs;exact hs.put
theorem m6(hs:Hs H (aE CM CD m A s P++X)):Hs H (aE CM CD m A s P):=hs.sub (List.sublist_append_left _ _)
theorem iV(hs:Hs H (aE CM CD m A s P)):Hs H (aE CM CD m A s P++[]):=by rw[oo];exact hs
theorem mX(hs:Hs H (aE CM CD m A s P++[])):Hs H (aE CM CD m A s P):=by rw[oo]at hs;exact hs
theorem dJ.fh(F:dJ s){f h:List (List Nat)}(h1:Rm.Shape s.owners.length s.market.goods f)(h2:Rm.Shape s.owners.length s.market.goods h):dJ (cK s f h):=⟨h1,h2,F.goods,F.owners,F.up,F.c5⟩
theorem eY.fh(l:eY A s){f h:List (List Nat)}(h1:f.length=s.market.free.length)(h2:h.length=s.market.held.length):eY A (cK s f h):=⟨l.fr.trans h1.symm,l.hd.trans h2.symm,l.ds,l.dl⟩
theorem qb(ml:eY A s)(hs:Hs H (aE CM CD m A s P++X))(F:dJ s){g:Nat}(ho:o<s.owners.length)(hg:g<s.market.goods)(f:Nat->Nat):∃a vs,A.fr[o]? =some a/\H a=some (.lst vs)/\vs[g]? =some (nV (amount s.market.free o g))/\jn vs.length (g:Int)=some g/\Hs (upd H a (.lst (vs.set g (nV (f (amount s.market.free o g)))))) (aE CM CD m A (cK s (gD s.market.free o g f) s.market.held) P++X):=by
 obtain⟨r,hr,rl,ra⟩:=F.row ho;have hl:o<A.fr.length:=by rw[ml.fr];exact(cN.mp hr).1
 have hg':g<r.length:=by rw[rl];exact hg
 have hrg:r[g]? =some (amount s.market.free o g):=by rw[<-ra g,eA,bH hg'];rfl
 refine⟨A.fr[o],r.map nV,bH hl,rm (m6 hs).rs (bH hl) hr,by rw[bz,hrg];rfl,sM (by rw[aA];exact hg'),?_⟩
 have:=Pe hs (bH hl) hr (r.set g (f (amount s.market.free o g)));rw[wD]at this;have e:gD s.market.free o g f=s.market.free.set o (r.set g (f (amount s.market.free o g))):=by
  unfold gD;rw[nL _ hr,nL f hrg]
 rw[e];exact this
theorem DM(ml:eY A s)(hs:Hs H (aE CM CD m A s P++X))(F:dJ s){g:Nat}(ho:o<s.owners.length)(hg:g<s.market.goods)(f:Nat->Nat):∃a vs,A.hd[o]? =some a/\H a=some (.lst vs)/\vs[g]? =some (nV (amount s.market.held o g))/\jn vs.length (g:Int)=some g/\Hs (upd H a (.lst (vs.set g (nV (f (amount s.market.held o g)))))) (aE CM CD m A (cK s s.market.free (gD s.market.held o g f)) P++X):=by
 obtain⟨r,hr,rl,ra⟩:=F.fA ho;have hl:o<A.hd.length:=by rw[ml.hd];exact(cN.mp hr).1
 have hg':g<r.length:=by rw[rl];exact hg
 have hrg:r[g]? =some (amount s.market.held o g):=by rw[<-ra g,eA,bH hg'];rfl
 refine⟨A.hd[o],r.map nV,bH hl,CS (m6 hs).rs (bH hl) hr,by rw[bz,hrg];rfl,sM (by rw[aA];exact hg'),?_⟩
 have:=Tj hs (bH hl) hr (r.set g (f (amount s.market.held o g)));rw[wD]at this;have e:gD s.market.held o g f=s.market.held.set o (r.set g (f (amount s.market.held o g))):=by
  unfold gD;rw[nL _ hr,nL f hrg]
 rw[e];exact this
theorem qC(ml:eY A s)(F:dJ s)(ho:o<s.owners.length)(h:A.fr[o]? =some a):a∈(aE CM CD m A s P).map bg:=by
 obtain⟨r,hr,z⟩:=F.row ho;exact bw.mpr ⟨bJ a r,cP _ (fq _ (zb h hr)),rfl⟩
theorem Ca(ml:eY A s)(F:dJ s)(ho:o<s.owners.length)(h:A.hd[o]? =some a):a∈(aE CM CD m A s P).map bg:=by
 obtain⟨r,hr,z⟩:=F.fA ho;exact bw.mpr ⟨bJ a r,cP _ (cP _ (fq _ (zb h hr))),rfl⟩
theorem uQ:∀{as:List aa}{b:List (List Nat)},as.length=b.length->(rows as b).map bg=as
 |[],[],_=>rfl
 |[],_::_,h=>by simp at h
 |_::_,[],h=>by simp at h
 |x::as,y::b,h=>by
  show x::(rows as b).map bg=x::as;rw[uQ (by simpa using h)]
theorem sL(ml:eY A s){f h:List (List Nat)}(h1:f.length=s.market.free.length)(h2:h.length=s.market.held.length):(aE CM CD m A (cK s f h) P).map bg=(aE CM CD m A s P).map bg:=by
 unfold aE;rw[bZ,bZ,bZ,bZ,bZ,bZ];rw[uQ ml.fr,uQ ml.hd,uQ (show A.fr.length=(cK s f h).market.free.length from ml.fr.trans h1.symm),uQ (show A.hd.length=(cK s f h).market.held.length from ml.hd.trans h2.symm)];rfl
theorem sU(P':List aS):(aE CM CD m A s P').map bg=(aE CM CD m A s P).map bg:=by
 simp only[aE,bZ];rfl
theorem yd(hs:Hs H (aE CM CD m A s P++X))(P':List aS):Hs (upd H A.aP (.dT (b5 P'))) (aE CM CD m A s P'++X):=by
 have ea (P:List aS):aE CM CD m A s P++X=[(m,.ins CM A.dm (b7 A s.now s.next)),(A.aD,.dK (bF A))]++(A.aP,.dT (b5 P))::([bJ A.aM s.made,bJ A.aB s.burned,(A.aO,.lst (s.owners.map tV)),(A.aG,.lst (s.goods.map tV)),(A.aF,.lst (A.fr.map V.ref)),(A.aH,.lst (A.hd.map V.ref))]++(rows A.fr s.market.free++(rows A.hd s.market.held++A.ds.flatMap (cE CD s.market.goods)))++X):=by unfold aE cf;simp
 rw[ea]at hs⊢;exact hs.put
theorem rA(hs:Hs H (aE CM CD m A s P++X)):H A.aP=some (.dT (b5 P)):=hs.2 (A.aP,.dT (b5 P)) (fq _ (eZ (by simp[cf])))
end
def mQ(P:List aS)(n o:Nat):List aS:=P.map λx=>if x.2.1=n/\x.2.2.1=o then(x.1,x.2.1,x.2.2.1,true)else x
def k7(P:List aS)(n o:Nat):List aS:=P.filter λx=> !(x.2.1==n&&x.2.2.1==o)
theorem yX{x:aS}{n:Nat}:dc x.2.1 x.2.2.1=dc n o↔x.2.1=n/\x.2.2.1=o:=⟨zq,λh=>by rw[h.1,h.2]⟩
theorem OB{n:Nat}(h:(dg P n o).isSome=true):putK (b5 P) (dc n o) (.int 1)=b5 (mQ P n o):=by
 have hv:((b5 P).any λkv=>decide (kv.1=dc n o))=true:=by rw[yG,lV,pK];exact h
 unfold putK;rw[ay hv];unfold b5 mQ;rw[bU,bU];refine i5 λx y=>?_;show(if dc x.2.1 x.2.2.1=dc n o then(dc x.2.1 x.2.2.1,V.int 1)else(dc x.2.1 x.2.2.1,gk x.2.2.2))=_;by_cases c:x.2.1=n/\x.2.2.1=o
 .rw[ay (yX.mpr c)]
  show _=(λx:aS=>(dc x.2.1 x.2.2.1,gk x.2.2.2)) (if x.2.1=n/\x.2.2.1=o then(x.1,x.2.1,x.2.2.1,true)else x);rw[ay c];rfl
 .rw[aq (λz=>c (yX.mp z))]
  show _=(λx:aS=>(dc x.2.1 x.2.2.1,gk x.2.2.2)) (if x.2.1=n/\x.2.2.1=o then(x.1,x.2.1,x.2.2.1,true)else x);rw[aq c]
theorem Hj(P:List aS)(n o:Nat):j4 (b5 P) (dc n o)=b5 (k7 P n o):=by
 unfold j4 b5 k7;rw[tw]
 congr 1
 refine nU λx y=>?_;show decide (dc x.2.1 x.2.2.1≠dc n o)= !(x.2.1==n&&x.2.2.1==o);by_cases c:x.2.1=n/\x.2.2.1=o
 .rw[cU (λz=>z (yX.mpr c))];simp[c]
 .rw[dw (show dc x.2.1 x.2.2.1≠dc n o from λz=>c (yX.mp z))]
  by_cases c1:x.2.1=n
  .have:¬x.2.2.1=o:=λz=>c ⟨c1,z⟩
   simp[this]
  .simp[c1]
abbrev LV:List ae:=["self","number","owner","gives","good","amount"]
theorem HE:bX LV ["self","number","owner"] (bb yP):=⟨rfl,rfl,rfl,by decide+kernel,rfl,by decide+kernel,by decide+kernel⟩
def Jc(CM CD:aa):Sp:=λvs H Q z=>∃(m:aa)(S:List aa)(s:aT)(P:List aS)(d:aZ)(o:Nat),vs=[.ref m,nV d.num,nV o]/\dJ s/\d∈s.market.deals/\o∈aY d.legs/\o<s.owners.length/\(∀g,g<s.market.goods->gives d.legs o g<=amount s.market.free o g)/\(dg P d.num o).isSome=true/\P.length<=1000/\Mk CM CD H m S s P/\
 ∀H',Mk CM CD H' m S (cK s (FQ s.market d o).free (FQ s.market d o).held) (mQ P d.num o)->Fr H S H' S->Q .bI H'
theorem Wx(G:Gm K CM "hold_part" "Market.hold_part" yP)(T:Tx K mg CM CD):Mt Pr w K mg base be 1 CM "hold_part" ["self","number","owner"] (Jc CM CD):=by
 obtain⟨f,fd,F,hm⟩:=G.ex;refine⟨f,fd,F.dn HE (λvs H Q E h=>?_) (λcdv A outer s H vs Q E hr h=>?_),hm,F.binds (bn3 rfl)⟩
 .apply eT h;intro u u u u u u u;rfl
 .intro X0;apply eT h;intro m S st P d o zz;refine sH zz λft hd ho hlt hfree hsome hPl mk k=>?_
  have nd:=HE.nd;have hu:=ir hr;refine⟨_,aK (bW (i:=3) nd rfl (aV rfl) (iU hu (bx (iU hu (bx (pv 0) rfl) (pv 1) (λu u=>rfl)) rfl) (pv 2) (λu u=>rfl))) (aK (g7 jV rfl (KC rfl T.C8 (ai (pv 3) au)) (lS rfl (dA (bY (i:=4) nd rfl (aV rfl)) (dA (bY (i:=5) nd rfl (aV rfl)) ji))) (aK (jg (bh bO (bx (pv 0) rfl) (pv 2) (λu u=>rfl)) (pv 4) jo (pv 5) rM set_list) (aX (jg (bh bO (bx (pv 0) rfl) (pv 2) (λu u=>rfl)) (pv 4) jo (pv 5) nR set_list)))) (aX (rR hu (bx (pv 0) rfl) (jl (ai (pv 1) (ai (pv 2) au))) (fC T.pS) rfl))),?_⟩;obtain⟨MA,ml,hs,rfl⟩:=mk;have R:=hs.rs;obtain⟨D,hD,eD,hget,hdr⟩:=lR ml R ft.up hd;have dl:=ml.dl D hD;have el:D.legs=d.legs:=cq (λx=>x.2.1) eD;obtain⟨ra,hra⟩:=si dl (by rw[el];exact ho)
  have RD:=iq R hD;have fA:=sQ RD hra;rw[el]at fA;refine⟨_,rfl,bp (bC R) T.cM T.hU (ip _ _ _) ⟨_,rfl,MA.aD,_,rfl,hget,bp (fk RD) T.cD T.iu (kj D) ⟨_,rfl,D.gv,_,rfl,by rw[<-rW dl hra];exact(qu RD).get (bG (o:Int)),?_⟩⟩⟩
  refine⟨_,rfl,ra,_,rfl,aj.of fA,?_⟩;have F0:Rm.Frame st.owners.length st.market:=⟨ft.free,ft.held⟩;have gl:((cj st.market.goods d.legs o).map nV).length=st.market.goods:=by unfold cj;simp
  have hraS:∀{f h:List (List Nat)},ra∈(aE CM CD m MA st P).map bg:=λ{f h}=>bw.mpr ⟨bJ ra (cj st.market.goods D.legs o),cP _ (cP _ (cP _ (lp.mpr ⟨D,hD,b8 _ (b8 _ (cP _ (bw.mpr ⟨(o,ra),hra,rfl⟩)))⟩))),rfl⟩;have lens:∀i,i<=st.market.goods->(Rm.d6 st.market d o i).free.length=st.market.free.length/\(Rm.d6 st.market d o i).held.length=st.market.held.length/\dJ (cK st (Rm.d6 st.market d o i).free (Rm.d6 st.market d o i).held):=λi hi=>by
   obtain⟨f1,u,u⟩:=Rm.wF F0 d hlt i hi;have hgd:=(Rm.qv st.market d o i).1;have s1:=f1.free;have s2:=f1.held;rw[hgd]at s1 s2;exact⟨s1.len.trans ft.free.len.symm,s2.len.trans ft.held.len.symm,ft.fh s1 s2⟩
  let W:IV:=λi σ H'=>∃v4 v5:Option V,σ=[some (.ref m),some (nV d.num),some (nV o),some (.ref ra),v4,v5]/\i<=st.market.goods/\Hs H' (aE CM CD m MA (cK st (Rm.d6 st.market d o i).free (Rm.d6 st.market d o i).held) P)/\Fr H ((aE CM CD m MA st P).map bg) H' ((aE CM CD m MA st P).map bg)
  refine g0 (LN (K:=K) (a:=ra) (xs:=(cj st.market.goods d.legs o).map nV)) (W)
   ⟨none,none,rfl,gp _,hs,Fr.refl⟩ (λi σ H' u ⟨r,q,p,n,h1,l⟩=>?_) (λi σ H' x H'' hi pv y=>?_) (λσ H' pv=>?_)
  .exact aj.of (by have:=sQ (iq h1.rs hD) hra;rw[el]at this;exact this)
  .apply fz pv;intro v4 v5 zz;refine gy zz λhle h1 fr1=>?_
   obtain⟨Tt,v,rfl,hT,rfl,hv⟩:=y;rw[gl]at hi;have ev:v=nV (gives d.legs o i):=by
    unfold cj at hv;rw[bU,bz,mn hi]at hv;exact(dQ hv).symm
   subst ev;obtain⟨ln1,ln2,ft1⟩:=lens i hle;have ml1:=ml.fh ln1 ln2;have s2:ak H' (upd H' Tt (.tup [.int (i:Nat),nV (gives d.legs o i)])):=ak.new hT;have h2:=iV (h1.same s2);have fr2:=fr1.trans (Fr.dE s2);obtain⟨u,am1,am2⟩:=Rm.wF F0 d hlt i hle;have eam:amount (Rm.d6 st.market d o i).free o i=amount st.market.free o i:=by rw[am1,aq (by omega)]
   refine⟨Tt,_,rfl,cv.of aR,rfl,_,_,rfl,_,_,rfl,rfl,?_⟩;generalize upd H' Tt (.tup [.int (i:Nat),nV (gives d.legs o i)])=H2 at h2 fr2;obtain⟨a,vs,ha,hav,hvg,hix,h3⟩:=qb ml1 h2 ft1 hlt (show i<st.market.goods from hi) (λx=>x - gives d.legs o i);have R2:=(m6 h2).rs;refine⟨_,rfl,bp (bC R2) T.cM T.jN (k8 _ _ _) ⟨_,rfl,bL (aj.of (jA R2)) (bj (j:=o) (by rw[bz,ha];rfl)) ⟨_,rfl,jj (aj.of hav) hvg ⟨_,rfl,_,_,rfl,rfl,a,_,_,i,rfl,rfl,hav,hix,?_⟩⟩⟩⟩
   have ez:nV (amount (Rm.d6 st.market d o i).free o i - gives d.legs o i)=V.int (((amount (Rm.d6 st.market d o i).free o i:Nat):Int) - ((gives d.legs o i:Nat):Int)):=by
    have:=hfree i hi;unfold nV
    congr 1
    omega
   have h3:Hs (upd H2 a (.lst (vs.set i (nV (amount (Rm.d6 st.market d o i).free o i - gives d.legs o i))))) _:=h3;rw[ez]at h3;have fr3:=fr2.trans (Fr.gu (S:=(aE CM CD m MA st P).map bg) (o':=.lst (vs.set i (V.int (((amount (Rm.d6 st.market d o i).free o i:Nat):Int) - ((gives d.legs o i:Nat):Int))))) hav (λxs z=>nomatch z) (qC ml ft hlt ha));have sh3:Rm.Shape st.owners.length st.market.goods (gD (Rm.d6 st.market d o i).free o i λx=>x - gives d.legs o i):=Rm.vC ft1.free _ _ _;have ft3:dJ (cK st (gD (Rm.d6 st.market d o i).free o i λx=>x - gives d.legs o i) (Rm.d6 st.market d o i).held):=ft.fh sh3 ft1.held;have ml3:eY MA (cK st (gD (Rm.d6 st.market d o i).free o i λx=>x - gives d.legs o i) (Rm.d6 st.market d o i).held):=ml.fh (sh3.len.trans ft.free.len.symm) ln2;obtain⟨b,us,hb,hbv,hug,hix2,h4⟩:=DM (s:=cK st (gD (Rm.d6 st.market d o i).free o i λx=>x - gives d.legs o i) (Rm.d6 st.market d o i).held) ml3 h3 ft3 hlt (show i<st.market.goods from hi) (λx=>x+gives d.legs o i);have R3:=(m6 h3).rs;refine⟨_,rfl,bp (bC R3) T.cM T.rH (uW _ _ _) ⟨_,rfl,bL (aj.of (sP R3)) (bj (j:=o) (by rw[bz,hb];rfl)) ⟨_,rfl,jj (aj.of hbv) hug ⟨_,rfl,_,_,rfl,rfl,b,_,_,i,rfl,rfl,hbv,hix2,?_⟩⟩⟩⟩
   refine⟨_,_,rfl,hi,?_,fr3.trans (Fr.gu hbv (λxs z=>nomatch z) (Ca ml ft hlt hb))⟩;have:=mX h4;rw[Rm.CK];exact this
  .apply fz pv;intro v4 v5 zz;refine gy zz λhle h1 fr1=>?_
   rw[gl]at h1;have h2:=h1.rs;have hP:H' MA.aP=some (.dT (b5 P)):=rA (iV h1);refine⟨_,rfl,bp (bC h2) T.cM T.jw (j2 _ _ _) ⟨_,rfl,_,rfl,(by show 2<=sizeLine;decide),λt ht=>?_⟩⟩
   have s3:ak H' (upd H' t (.tup [nV d.num,nV o])):=ak.new ht;refine⟨MA.aP,_,rfl,k6.t (k:=dc d.num o) (s3 _ _ hP) aR (sl _ (by unfold b5;rw[aA];omega)),?_⟩
   rw[OB hsome];have h3:=yd (iV (h1.same s3)) (mQ P d.num o);refine k _ ⟨MA,ml.fh (lens _ (bK _)).1 (lens _ (bK _)).2.1,mX h3,?_⟩ ?_
   .exact((sU (P:=P) _).trans (sL ml (lens _ (bK _)).1 (lens _ (bK _)).2.1)).symm
   .refine(fr1.trans (Fr.dE s3)).trans (Fr.gu (s3 _ _ hP) (λxs z=>nomatch z) ?_)
    exact bw.mpr ⟨(MA.aP,.dT (b5 P)),eZ (by simp[cf]),rfl⟩
theorem J6:bX LV ["self","number","owner"] (bb yk):=⟨rfl,rfl,rfl,by decide+kernel,rfl,by decide+kernel,by decide+kernel⟩
def mL(s:aT)(d:aZ)(o:Nat)(b:Bool):aT:=if b=true then cK s (d7 s.market d o).free (d7 s.market d o).held else s
def BN(CM CD:aa):Sp:=λvs H Q z=>∃(m:aa)(S:List aa)(s:aT)(P:List aS)(d:aZ)(o:Nat)(b:Bool),vs=[.ref m,nV d.num,nV o]/\dJ s/\d∈s.market.deals/\o∈aY d.legs/\o<s.owners.length/\dg P d.num o=some b/\(b=true->∀g,g<s.market.goods->gives d.legs o g<=amount s.market.held o g)/\Mk CM CD H m S s P/\
 ∀H',Mk CM CD H' m S (mL s d o b) (k7 P d.num o)->Fr H S H' S->Q .bI H'
theorem Yf(G:Gm K CM "drop_part" "Market.drop_part" yk)(T:Tx K mg CM CD):Mt Pr w K mg base be 1 CM "drop_part" ["self","number","owner"] (BN CM CD):=by
 obtain⟨f,fd,F,hm⟩:=G.ex;refine⟨f,fd,F.dn J6 (λvs H Q E h=>?_) (λcdv A outer s H vs Q E hr h=>?_),hm,F.binds (bn3 rfl)⟩
 .apply mB h;intro u u u u u u u u;rfl
 .intro X0;apply mB h;intro m S st P d o b zz;refine uU zz λft hd ho hlt hpl hheld mk k=>?_
  have nd:=J6.nd;have hu:=ir hr;refine⟨_,aK (bW (i:=3) nd rfl (aV rfl) (iU hu (bx (iU hu (bx (pv 0) rfl) (pv 1) (λu u=>rfl)) rfl) (pv 2) (λu u=>rfl))) (aX (kO (df iX (Hu (rC hr) (bx (pv 0) rfl) (jl (ai (pv 1) (ai (pv 2) au))) ⟨rfl,rfl,rfl,rfl⟩) (fC T.pS) (c7 _)) (aX (g7 jV rfl (KC rfl T.C8 (ai (pv 3) au)) (lS rfl (dA (bY (i:=4) nd rfl (aV rfl)) (dA (bY (i:=5) nd rfl (aV rfl)) ji))) (aK (jg (bh bO (bx (pv 0) rfl) (pv 2) (λu u=>rfl)) (pv 4) jo (pv 5) rM set_list) (aX (jg (bh bO (bx (pv 0) rfl) (pv 2) (λu u=>rfl)) (pv 4) jo (pv 5) nR set_list))))) mF)),?_⟩;obtain⟨MA,ml,hs,rfl⟩:=mk;have R:=hs.rs;obtain⟨D,hD,eD,hget,hdr⟩:=lR ml R ft.up hd;have dl:=ml.dl D hD;have el:D.legs=d.legs:=cq (λx=>x.2.1) eD;obtain⟨ra,hra⟩:=si dl (by rw[el];exact ho)
  have RD:=iq R hD;refine⟨_,rfl,bp (bC R) T.cM T.hU (ip _ _ _) ⟨_,rfl,MA.aD,_,rfl,hget,bp (fk RD) T.cD T.iu (kj D) ⟨_,rfl,D.gv,_,rfl,by rw[<-rW dl hra];exact(qu RD).get (bG (o:Int)),?_⟩⟩⟩
  refine⟨_,rfl,bp (bC R) T.cM T.jw (j2 _ _ _) ⟨MA.aP,rfl,(ki R).rB,_,rfl,_,rfl,(by show 2<=sizeLine;decide),λt ht=>?_⟩⟩
  have s1:ak H (upd H t (.tup [nV d.num,nV o])):=ak.new ht;have hP:H MA.aP=some (.dT (b5 P)):=rA (iV hs);refine⟨_,dc d.num o,t,gk b,s1 _ _ hP,rfl,aR,by rw[lV,hpl];rfl,?_⟩
  rw[Hj];have h1:=yd (iV (hs.same s1)) (k7 P d.num o);have fr1:Fr H ((aE CM CD m MA st P).map bg) (upd (upd H t (.tup [nV d.num,nV o])) MA.aP (.dT (b5 (k7 P d.num o)))) ((aE CM CD m MA st P).map bg):=(Fr.dE s1).trans (Fr.gu (s1 _ _ hP) (λxs z=>nomatch z) (bw.mpr ⟨(MA.aP,.dT (b5 P)),eZ (by simp[cf]),rfl⟩))
  have h1:=mX h1;generalize upd (upd H t (.tup [nV d.num,nV o])) MA.aP (.dT (b5 (k7 P d.num o)))=H1 at h1 fr1;refine⟨by cases b<;>rfl,_,rfl,?_⟩
  refine cJ (c:=b=true) (by cases b<;>rfl) (λhb=>?_) (λhb=>?_)
  .subst hb
   have fA:=sQ (iq h1.rs hD) hra;rw[el]at fA;refine⟨_,rfl,ra,_,rfl,aj.of fA,?_⟩;have F0:Rm.Frame st.owners.length st.market:=⟨ft.free,ft.held⟩;have gl:((cj st.market.goods d.legs o).map nV).length=st.market.goods:=by unfold cj;simp
   have lens:∀i,i<=st.market.goods->(Rm.dZ st.market d o i).free.length=st.market.free.length/\(Rm.dZ st.market d o i).held.length=st.market.held.length/\dJ (cK st (Rm.dZ st.market d o i).free (Rm.dZ st.market d o i).held):=λi hi=>by
    obtain⟨f1,u,u⟩:=Rm.wH F0 d hlt i hi;have hgd:=(Rm.uX st.market d o i).1;have s1:=f1.free;have s2:=f1.held;rw[hgd]at s1 s2;exact⟨s1.len.trans ft.free.len.symm,s2.len.trans ft.held.len.symm,ft.fh s1 s2⟩
   let W:IV:=λi σ H'=>∃v4 v5:Option V,σ=[some (.ref m),some (nV d.num),some (nV o),some (.ref ra),v4,v5]/\i<=st.market.goods/\Hs H' (aE CM CD m MA (cK st (Rm.dZ st.market d o i).free (Rm.dZ st.market d o i).held) (k7 P d.num o))/\Fr H ((aE CM CD m MA st P).map bg) H' ((aE CM CD m MA st P).map bg)
   refine g0 (LN (K:=K) (a:=ra) (xs:=(cj st.market.goods d.legs o).map nV)) (W)
    ⟨none,none,rfl,gp _,h1,fr1⟩ (λi σ H' u ⟨r,q,p,n,h1,l⟩=>?_) (λi σ H' x H'' hi pv y=>?_) (λσ H' pv=>?_)
   .exact aj.of (by have:=sQ (iq h1.rs hD) hra;rw[el]at this;exact this)
   .apply fz pv;intro v4 v5 zz;refine gy zz λhle h1 fr1=>?_
    obtain⟨Tt,v,rfl,hT,rfl,hv⟩:=y;rw[gl]at hi;have ev:v=nV (gives d.legs o i):=by
     unfold cj at hv;rw[bU,bz,mn hi]at hv;exact(dQ hv).symm
    subst ev;obtain⟨ln1,ln2,ft1⟩:=lens i hle;have ml1:=ml.fh ln1 ln2;have s2:ak H' (upd H' Tt (.tup [.int (i:Nat),nV (gives d.legs o i)])):=ak.new hT;have h2:=iV (h1.same s2);have fr2:=fr1.trans (Fr.dE s2);obtain⟨u,am1,am2⟩:=Rm.wH F0 d hlt i hle;have eam:amount (Rm.dZ st.market d o i).held o i=amount st.market.held o i:=by rw[am2,aq (by omega)]
    refine⟨Tt,_,rfl,cv.of aR,rfl,_,_,rfl,_,_,rfl,rfl,?_⟩;generalize upd H' Tt (.tup [.int (i:Nat),nV (gives d.legs o i)])=H2 at h2 fr2;obtain⟨a,vs,ha,hav,hvg,hix,h3⟩:=DM ml1 h2 ft1 hlt (show i<st.market.goods from hi) (λx=>x - gives d.legs o i);have R2:=(m6 h2).rs;refine⟨_,rfl,bp (bC R2) T.cM T.rH (uW _ _ _) ⟨_,rfl,bL (aj.of (sP R2)) (bj (j:=o) (by rw[bz,ha];rfl)) ⟨_,rfl,jj (aj.of hav) hvg ⟨_,rfl,_,_,rfl,rfl,a,_,_,i,rfl,rfl,hav,hix,?_⟩⟩⟩⟩
    have ez:nV (amount (Rm.dZ st.market d o i).held o i - gives d.legs o i)=V.int (((amount (Rm.dZ st.market d o i).held o i:Nat):Int) - ((gives d.legs o i:Nat):Int)):=by
     have:=hheld rfl i hi;unfold nV
     congr 1
     omega
    have h3:Hs (upd H2 a (.lst (vs.set i (nV (amount (Rm.dZ st.market d o i).held o i - gives d.legs o i))))) _:=h3;rw[ez]at h3;have fr3:=fr2.trans (Fr.gu (S:=(aE CM CD m MA st P).map bg) (o':=.lst (vs.set i (V.int (((amount (Rm.dZ st.market d o i).held o i:Nat):Int) - ((gives d.legs o i:Nat):Int))))) hav (λxs z=>nomatch z) (Ca ml ft hlt ha));have sh3:Rm.Shape st.owners.length st.market.goods (gD (Rm.dZ st.market d o i).held o i λx=>x - gives d.legs o i):=Rm.vC ft1.held _ _ _;have ft3:dJ (cK st (Rm.dZ st.market d o i).free (gD (Rm.dZ st.market d o i).held o i λx=>x - gives d.legs o i)):=ft.fh ft1.free sh3;have ml3:eY MA (cK st (Rm.dZ st.market d o i).free (gD (Rm.dZ st.market d o i).held o i λx=>x - gives d.legs o i)):=ml.fh ln1 (sh3.len.trans ft.held.len.symm);obtain⟨b,us,hb,hbv,hug,hix2,h4⟩:=qb (s:=cK st (Rm.dZ st.market d o i).free (gD (Rm.dZ st.market d o i).held o i λx=>x - gives d.legs o i)) ml3 h3 ft3 hlt (show i<st.market.goods from hi) (λx=>x+gives d.legs o i);have R3:=(m6 h3).rs;refine⟨_,rfl,bp (bC R3) T.cM T.jN (k8 _ _ _) ⟨_,rfl,bL (aj.of (jA R3)) (bj (j:=o) (by rw[bz,hb];rfl)) ⟨_,rfl,jj (aj.of hbv) hug ⟨_,rfl,_,_,rfl,rfl,b,_,_,i,rfl,rfl,hbv,hix2,?_⟩⟩⟩⟩
    refine⟨_,_,rfl,hi,?_,fr3.trans (Fr.gu hbv (λxs z=>nomatch z) (qC ml ft hlt hb))⟩;have:=mX h4;rw[Rm.Aj];exact this
   .apply fz pv;intro v4 v5 zz;refine gy zz λhle h1 fr1=>?_
    rw[gl]at h1;refine k _ ⟨MA,ml.fh (lens _ (bK _)).1 (lens _ (bK _)).2.1,h1,?_⟩ fr1;exact((sU (P:=P) _).trans (sL ml (lens _ (bK _)).1 (lens _ (bK _)).2.1)).symm
  .have e:mL st d o b=st:=by unfold mL;rw[aq hb]
   refine k _ ?_ fr1;rw[e];exact⟨MA,ml,h1,(sU (P:=P) _).symm⟩
def cg(s:aT)(m:aL):aT:={s with market:=m}
structure cy(s:aT)(P:List aS):Prop where
 g:bo s.owners.length s.next s.since s.market
 o:Ord s.market P
 goods:s.market.goods<=6
 owners:s.owners.length<=8
theorem cy.fW(h:cy s P):dJ s:=⟨h.g.frame.free,h.g.frame.held,h.goods,h.owners,h.g.up,h.g.c5⟩
theorem cy.m{P':List aS}{m:aL}(h:cy s P)(g:bo s.owners.length s.next s.since m)(e:m.goods=s.market.goods)(o:Ord m P'):cy (cg s m) P':=⟨g,o,by show m.goods<=6;rw[e];exact h.goods,h.owners⟩
theorem yK{no ng:Nat}{l:List bN}(h:Rm.j7 no ng l)(hn:l≠[]):0<ng:=by
 cases l with
 |nil=>exact absurd rfl hn
 |cons x r=>exact ou (gp _) (h.jK x (gF ..))
theorem cy.mem(h:cy s P){x:aS}(hx:x∈P):∃d∈s.market.deals,∃p∈d.parts,x=(p.since,d.num,p.owner,p.held):=(h.o.mem x).1 hx
theorem cy.pin(h:cy s P):DY s P:=λx hx=>by
 obtain⟨d,hd,p,hp,rfl⟩:=h.mem hx;exact⟨d,hd,rfl,fS.mpr (h.g.g9 d hd p hp),h.g.nF hd hp,yK (h.g.legs d hd) (h.g.size d hd).1⟩
theorem BH(hn:(P.map λx=>(x.2.1,x.2.2.1)).Nodup){x:aS}(hx:x∈P):dg P x.2.1 x.2.2.1=some x.2.2.2:=by
 unfold dg;have:(P.map λx:aS=>dc x.2.1 x.2.2.1).Nodup:=by
  have e:(P.map λx:aS=>dc x.2.1 x.2.2.1)=(P.map λx:aS=>(x.2.1,x.2.2.1)).map λy=>dc y.1 y.2:=by rw[bU];rfl
  rw[e];exact z8 _ (λa b h e=>h (Ms (zq e).1 (zq e).2)) hn
 rw[find_key (λx:aS=>dc x.2.1 x.2.2.1) this hx];rfl
theorem SY{n:Nat}{b:Bool}(h:dg P n o=some b):∃x∈P,x.2.1=n/\x.2.2.1=o/\x.2.2.2=b:=by
 unfold dg at h;obtain⟨x,hx,e⟩:=di.mp h;have h1:=zu hx;have h2:=zq (lz h1);exact⟨x,zt hx,h2.1,h2.2,e⟩
theorem cy.look(h:cy s P){d:aZ}(hd:d∈s.market.deals){b:Bool}:dg P d.num o=some b↔∃p∈d.parts,p.owner=o/\p.held=b:=by
 constructor
 .intro e
  obtain⟨x,hx,e1,e2,e3⟩:=SY e;obtain⟨d',hd',p,hp,rfl⟩:=h.mem hx;have:d'=d:=h.g.up.inj hd' hd e1;subst this;exact⟨p,hp,e2,e3⟩
 .rintro⟨p,hp,rfl,rfl⟩
  exact BH (h.o.nodup h.g) ((h.o.mem (p.since,d.num,p.owner,p.held)).2 ⟨d,hd,p,hp,rfl⟩)
theorem cy.wf(h:cy s P):Wf s P where
 fW:=h.fW
 pin:=h.pin
 legs d hd:=(h.g.size d hd).2.1
 own d hd o ho:=Rm.wV (h.g.legs d hd) o (fS.mp ho)
 par d hd o b e:=by
  obtain⟨p,hp,rfl,z⟩:=(h.look hd).1 e;exact fS.mpr (h.g.g9 d hd p hp)
section
variable{H':Hp}{m:aa}{S:List aa}{A:MA}{X:List (aa×HO)}
theorem yx{m':aL}(e:m'.goods=s.market.goods):aE CM CD m A (cg s m') P=aE CM CD m A (cK s m'.free m'.held) P:=by
 unfold aE cg cK;dsimp only;rw[e];rfl
theorem Mk.to{m':aL}(h:Mk CM CD H m S (cK s m'.free m'.held) P)(e:m'.goods=s.market.goods)(ed:m'.deals.map cx=s.market.deals.map cx):Mk CM CD H m S (cg s m') P:=by
 obtain⟨A,l,h,rfl⟩:=h;exact⟨A,⟨l.fr,l.hd,l.ds.trans ed.symm,l.dl⟩,by rw[yx e];exact h,by rw[yx e]⟩
theorem vo{ds:List aZ}(u:Rm.Up ds){d e:aZ}(hd:d∈ds)(h:cx e=cx d):(Rm.putD ds e).map cx=ds.map cx:=by
 unfold Rm.putD;rw[bU];refine i5 λx hx=>?_;show cx (if x.num=e.num then e else x)=cx x;by_cases c:x.num=e.num
 .rw[ay c]
  have en:e.num=d.num:=cq bg h;have:x=d:=u.inj hx hd (c.trans en);rw[this];exact h
 .rw[aq c]
theorem zo{α β:Type}(p:α->Bool)(f:α->List β):∀l:List α,((l.filter p).flatMap f).Sublist (l.flatMap f)
 |[]=>by simp
 |x::r=>by
  rw[fZ,gQ];by_cases h:p x=true
  .rw[ay h,gQ]
   exact qD (tY _) (zo p f r)
  .rw[aq h]
   exact(zo p f r).trans (FR _ _)
def d4(A:MA)(n:Nat):MA:={A with ds:=A.ds.filter λD=>D.num !=n}
theorem JD(A:MA)(n:Nat):j4 (bF A) (bG (n:Int))=bF (d4 A n):=by
 unfold j4 bF d4;dsimp only;rw[tw]
 congr 1
 refine nU λD y=>?_;show decide ((bG (D.num:Int):Key)≠bG (n:Int))=(D.num !=n);by_cases c:D.num=n
 .rw[cU (λz=>z (by rw[c]))];simp[c]
 .rw[dw (show(bG (D.num:Int):Key)≠bG (n:Int) from λz=>c (by have:=lD z;omega))];simp[c]
theorem UW(hs:Hs H (aE CM CD m A s P))(n:Nat)(ds:List aZ):Hs (upd H A.aD (.dK (bF (d4 A n)))) (aE CM CD m (d4 A n) (cg s {s.market with deals:=ds}) P):=by
 have ea:aE CM CD m A s P=[(m,.ins CM A.dm (b7 A s.now s.next))]++(A.aD,.dK (bF A))::([(A.aP,.dT (b5 P)),bJ A.aM s.made,bJ A.aB s.burned,(A.aO,.lst (s.owners.map tV)),(A.aG,.lst (s.goods.map tV)),(A.aF,.lst (A.fr.map V.ref)),(A.aH,.lst (A.hd.map V.ref))]++(rows A.fr s.market.free++(rows A.hd s.market.held++A.ds.flatMap (cE CD s.market.goods)))):=by unfold aE cf;simp
 have eb:aE CM CD m (d4 A n) (cg s {s.market with deals:=ds}) P=[(m,.ins CM A.dm (b7 A s.now s.next))]++(A.aD,.dK (bF (d4 A n)))::([(A.aP,.dT (b5 P)),bJ A.aM s.made,bJ A.aB s.burned,(A.aO,.lst (s.owners.map tV)),(A.aG,.lst (s.goods.map tV)),(A.aF,.lst (A.fr.map V.ref)),(A.aH,.lst (A.hd.map V.ref))]++(rows A.fr s.market.free++(rows A.hd s.market.held++(A.ds.filter λD=>D.num !=n).flatMap (cE CD s.market.goods)))):=by unfold aE cf d4 cg;simp;rfl
 rw[ea]at hs;rw[eb];refine(hs.put (o':=.dK (bF (d4 A n)))).sub ?_;refine qD (tY _) (NY _ (qD (tY _) (qD (tY _) (qD (tY _) ?_))));exact zo _ _ _
theorem Ln(n:Nat)(ds:List aZ):∀b∈(aE CM CD m (d4 A n) (cg s {s.market with deals:=ds}) P).map bg,b∈(aE CM CD m A s P).map bg:=λb hb=>by
 simp only[aE,bZ,b6]at hb⊢;rcases hb with hb|hb|hb|hb
 .exact .inl hb
 .exact .inr (.inl hb)
 .exact .inr (.inr (.inl hb))
 .refine .inr (.inr (.inr ?_))
  exact((zo (λD:DA=>D.num !=n) (cE CD s.market.goods) A.ds).map bg).subset hb
theorem KJ(l:eY A s)(n:Nat):eY (d4 A n) (cg s {s.market with deals:=Rm.cutD s.market.deals n}):=by
 refine⟨l.fr,l.hd,?_,λD hD=>l.dl D (dG.mp hD).1⟩;show(A.ds.filter λD=>D.num !=n).map ek=(s.market.deals.filter λd=>d.num !=n).map cx;have e1:(A.ds.filter λD=>D.num !=n).map ek=(A.ds.map ek).filter λr=>r.1!=n:=by rw[tw];rfl
 have e2:(s.market.deals.filter λd=>d.num !=n).map cx=(s.market.deals.map cx).filter λr=>r.1!=n:=by rw[tw];rfl
 rw[e1,e2,l.ds]
theorem _root_.L2.Fr.less{S' S'':List aa}(f:Fr H S H' S')(h:∀b∈S'',b∈S'):Fr H S H' S'':=⟨f.keep,f.gA,λb hb=>f.new b (h b hb)⟩
end
theorem yO{n:Nat}{ks:List Nat}:k7 (P.filter λx=> !(x.2.1==n&&ks.contains x.2.2.1)) n o=P.filter λx=> !(x.2.1==n&&(ks++[o]).contains x.2.2.1):=by
 unfold k7;rw[Yw];refine nU λx z=>?_;rw[aaf,aaf,List.any_append];cases(x.2.1==n)<;>simp[Bool.and_comm]
abbrev OF:List ae:=["self","number","parties","owner"]
theorem HA:bX OF ["self","number"] (bb xZ):=⟨rfl,rfl,rfl,by decide+kernel,rfl,by decide+kernel,by decide+kernel⟩
def jk(P:List aS)(n:Nat):List aS:=P.filter λx=> !(x.2.1==n)
def yo(CM CD:aa):Sp:=λvs H Q z=>∃(m:aa)(S:List aa)(s:aT)(P:List aS)(d:aZ),vs=[.ref m,nV d.num]/\cy s P/\d∈s.market.deals/\Mk CM CD H m S s P/\
 ∀H' S',Mk CM CD H' m S' (cg s (dv s.market d)) (jk P d.num)->Fr H S H' S'->Q .bI H'
theorem Xs(G:Gm K CM "call_off" "Market.call_off" xZ)(T:Tx K mg CM CD)(nM:∀A a b,(b7 A a b).lookup ("drop_part":ae)=none)(d_drop:Mt Pr w K mg base be 1 CM "drop_part" ["self","number","owner"] (BN CM CD)):Mt Pr w K mg base be 2 CM "call_off" ["self","number"] (yo CM CD):=by
 obtain⟨f,fd,F,hm⟩:=G.ex;refine⟨f,fd,F.dn HA (λvs H Q E h=>?_) (λcdv A outer s H vs Q E hr h=>?_),hm,F.binds (bn2 rfl)⟩
 .apply mz h;intro _ _ _ _ _ _;rfl
 .intro X0;apply mz h;intro m S st P d zz;refine lP zz λsnd hd mk k=>?_
  have nd:=HA.nd;have hu:=ir hr;have ft:=snd.fW;refine⟨_,aK (bW (i:=2) nd rfl (aV rfl) (uT (Q1 rfl) rfl T.AI NX (ai (bx (iU hu (bx (pv 0) rfl) (pv 1) (λ_ _=>rfl)) rfl) au))) (aK (g7 jV rfl (fH (pv 2)) (bY (i:=3) nd rfl (aV rfl)) (aX (kO (k4 (L0 hu (jl (ai (pv 1) (ai (pv 3) au))) (bx (pv 0) rfl))) (aX (cG (jz (pv 0) T.cM d_drop hr b0 (ai (pv 1) (ai (pv 3) au))))) mF))) (aX (cG (HR (bx (pv 0) rfl) (pv 1) ⟨rfl,rfl,rfl,rfl⟩)))),?_⟩;obtain⟨MA,ml,hs,rfl⟩:=id mk;have R:=hs.rs;obtain⟨D,hD,eD,hget,hdr⟩:=lR ml R ft.up hd;have dl:=ml.dl D hD;have el:D.legs=d.legs:=cq (λx=>x.2.1) eD;have RD:=iq R hD;refine⟨_,rfl,bp (bC R) T.cM T.hU (ip _ _ _) ⟨_,rfl,MA.aD,_,rfl,hget,bp (fk RD) T.cD T.iu (kj D) ⟨D.gv,_,rfl,(qu RD).rd,λal hal=>?_⟩⟩⟩;have eg:((cz D).map λp=>kV p.1)=(aY d.legs).map nV:=by
   unfold cz;rw[bU];have e3:=NU (l₁:=aY D.legs) (l₂:=D.rs) (by rw[dl.rs];exact bK _)
   rw[<-el]
   conv=>rhs;rw[<-e3,bU]
   rfl
  rw[eg];have s1:ak H (upd H al (.lst ((aY d.legs).map nV))):=ak.new hal;have hal1:(upd H al (.lst ((aY d.legs).map nV))) al=some (.lst ((aY d.legs).map nV)):=aR;have mk1:=mk.same s1;have alS:al∉(aE CM CD m MA st P).map bg:=mk.out hal;have fr1:Fr H ((aE CM CD m MA st P).map bg) (upd H al (.lst ((aY d.legs).map nV))) ((aE CM CD m MA st P).map bg):=Fr.dE s1;generalize upd H al (.lst ((aY d.legs).map nV))=H1 at s1 hal1 mk1 fr1;generalize hS:(aE CM CD m MA st P).map bg=S at mk1 alS fr1;refine⟨_,rfl,al,rfl,⟨_,aj.of hal1⟩,?_⟩
  let W:IV:=λi σ H'=>∃(v3:Option V)(mi:aL),σ=[some (.ref m),some (nV d.num),some (.ref al),v3]/\Rm.jC st.owners.length st.next st.since st.market d ((aY d.legs).take i) mi/\Ord mi (P.filter λx=> !(x.2.1==d.num&&((aY d.legs).take i).contains x.2.2.1))/\Mk CM CD H' m S (cg st mi) (P.filter λx=> !(x.2.1==d.num&&((aY d.legs).take i).contains x.2.2.1))/\Fr H S H' S/\H' al=some (.lst ((aY d.legs).map nV))
  refine g0 (fJ (K:=K) (a:=al) (xs:=(aY d.legs).map nV)) (W)
   ⟨none,st.market,rfl,Rm.jC.begin snd.g hd,?_,?_,fr1,hal1⟩ (λi σ H' _ ⟨_,_,_,_,_,_,_,z⟩=>aj.of z) (λi σ H' x H'' hi pv y=>?_) (λσ H' pv=>?_)
  .have e0:(P.filter λx=> !(x.2.1==d.num&&((aY d.legs).take 0).contains x.2.2.1))=P:=by rw[tT];exact qF.mpr λx _=>by simp
   rw[e0];exact snd.o
  .have e0:(P.filter λx=> !(x.2.1==d.num&&((aY d.legs).take 0).contains x.2.2.1))=P:=by rw[tT];exact qF.mpr λx _=>by simp
   rw[e0];exact mk1
  .apply fz pv;intro v3 mi zz;refine mI zz λdp oi mki fri hali=>?_
   obtain⟨rfl,hx⟩:=y;rw[bz]at hx;obtain⟨o,hio,rfl⟩:=di.mp hx;have hom:=cZ hio;have hks:o∉(aY d.legs).take i:=λz=>by
    obtain⟨j,hj⟩:=z7.mp z;have hji:j<i:=by have:=(cN.mp hj).1;rw[jT]at this;omega
    rw[zN hji]at hj;have:=CV (pZ d.legs) hj hio;omega
   have sndi:cy (cg st mi) (P.filter λx=> !(x.2.1==d.num&&((aY d.legs).take i).contains x.2.2.1)):=snd.m dp.good dp.goods oi;obtain⟨MB,mlB,hsB,eS⟩:=id mki;have RB:=hsB.rs;refine⟨_,rfl,_,rfl,(by show 2<=sizeLine;decide),λt ht=>?_⟩
   have s2:ak H'' (upd H'' t (.tup [nV d.num,nV o])):=ak.new ht;have fr2:=fri.trans (Fr.dE s2);have hal2:=s2 _ _ hali;have mk2:=mki.same s2;have R2:=RB.same s2;refine⟨_,rfl,bp (bC R2) T.cM T.jw (j2 _ _ _) ⟨MB.aP,_,rfl,(ki R2).pX (k:=dc d.num o) aR,_,rfl,?_⟩⟩;rw[lV,pK];generalize upd H'' t (.tup [nV d.num,nV o])=H2 at fr2 hal2 mk2 R2;have hmem:Rm.dz d ((aY d.legs).take i)∈(cg st mi).market.deals:=dp.mem hd;cases hpl:dg (P.filter λx=> !(x.2.1==d.num&&((aY d.legs).take i).contains x.2.2.1)) d.num o with
   |none=>
    refine fV ⟨_,mi,rfl,?_,?_,?_,fr2,hal2⟩
    all_goals rw[take_snoc hio]
    .refine dp.skip ?_
     rintro⟨p,hp,rfl⟩;have:∃b,dg (P.filter λx=> !(x.2.1==d.num&&((aY d.legs).take i).contains x.2.2.1)) d.num p.owner=some b:=⟨p.held,(sndi.look hmem).2 ⟨p,by unfold Rm.dz;exact dG.mpr ⟨hp,by simpa using hks⟩,rfl,rfl⟩⟩
     rw[hpl]at this;obtain⟨b,hb⟩:=this;cases hb
    all_goals
     have ef:(P.filter λx=> !(x.2.1==d.num&&((aY d.legs).take i++[o]).contains x.2.2.1))=(P.filter λx=> !(x.2.1==d.num&&((aY d.legs).take i).contains x.2.2.1)):=by
      rw[<-yO];refine qF.mpr λx hx=>?_;by_cases c:x.2.1=d.num/\x.2.2.1=o
      .exfalso
       have:=BH (sndi.o.nodup sndi.g) hx;rw[c.1,c.2,hpl]at this;cases this
      .by_cases c1:x.2.1=d.num
       .have c2:¬x.2.2.1=o:=λz=>c ⟨c1,z⟩
        simp[c2]
       .simp[c1]
     rw[ef]
    .exact oi
    .exact mk2
   |some b=>
    obtain⟨p,hp,rfl,rfl⟩:=(sndi.look hmem).1 hpl;refine fm ⟨_,rfl,m,MB.dm,_,rfl,bC R2,nM _ _ _,_,rfl,_,rfl,m,S,cg st mi,_,Rm.dz d ((aY d.legs).take i),p.owner,p.held,rfl,sndi.fW,hmem,hom,sndi.g.nF hmem hp,hpl,λhb g hg=>?_,mk2,λH3 mk3 fr3=>?_⟩
    .have:=sndi.g.rO hmem (o:=p.owner) (g:=g) (sndi.g.nF hmem hp) hg
     unfold Rm.cX at this;rw[ay (Rm.i3.2 ⟨p,hp,rfl,hb⟩)]at this;exact this
    .have dp1:=dp.one hd hp hks
     refine⟨_,_,rfl,by rw[take_snoc hio];exact dp1,?_,?_,fr2.trans fr3,?_⟩
     .rw[take_snoc hio,<-yO]
      exact oi.drop sndi.g.up hmem p.owner (by rw[dp1.deals,dp.deals,Rm.LX,Rm.Ml _ (Rm.dz d ((aY d.legs).take i)) (Rm.dz d ((aY d.legs).take i++[p.owner])) rfl])
     .rw[take_snoc hio,<-yO]
      refine Mk.to ?_ dp1.goods ?_
      .have e1:mL (cg st mi) (Rm.dz d ((aY d.legs).take i)) p.owner p.held=cg st (if p.held=true then{mi with free:=(d7 mi (Rm.dz d ((aY d.legs).take i)) p.owner).free,held:=(d7 mi (Rm.dz d ((aY d.legs).take i)) p.owner).held}else mi):=by
        unfold mL;cases p.held<;>rfl
       rw[e1]at mk3;obtain⟨MC,mlC,hsC,eC⟩:=mk3;have e2:cK st (Rm.gh mi (Rm.dz d ((aY d.legs).take i)) p).free (Rm.gh mi (Rm.dz d ((aY d.legs).take i)) p).held=cK st (if p.held=true then{mi with free:=(d7 mi (Rm.dz d ((aY d.legs).take i)) p.owner).free,held:=(d7 mi (Rm.dz d ((aY d.legs).take i)) p.owner).held}else mi).free (if p.held=true then{mi with free:=(d7 mi (Rm.dz d ((aY d.legs).take i)) p.owner).free,held:=(d7 mi (Rm.dz d ((aY d.legs).take i)) p.owner).held}else mi).held:=by
        unfold Rm.gh nc;cases p.held<;>rfl
       have e3:(if p.held=true then{mi with free:=(d7 mi (Rm.dz d ((aY d.legs).take i)) p.owner).free,held:=(d7 mi (Rm.dz d ((aY d.legs).take i)) p.owner).held}else mi).goods=st.market.goods:=by
        cases p.held
        .exact dp.goods
        .exact dp.goods
       have e4:(if p.held=true then{mi with free:=(d7 mi (Rm.dz d ((aY d.legs).take i)) p.owner).free,held:=(d7 mi (Rm.dz d ((aY d.legs).take i)) p.owner).held}else mi).deals.map cx=st.market.deals.map cx:=by
        have:mi.deals.map cx=st.market.deals.map cx:=by rw[dp.deals];exact vo snd.g.up hd rfl
        cases p.held
        .exact this
        .exact this
       rw[e2];refine⟨MC,⟨mlC.fr,mlC.hd,mlC.ds.trans e4,mlC.dl⟩,?_,?_⟩
       .rw[<-yx e3];exact hsC
       .rw[<-yx e3];exact eC
      .rw[dp1.deals];exact vo snd.g.up hd rfl
     .exact fr3.keep _ _ hal2 (λz=>alS z)
  .apply fz pv;intro v3 mi zz;refine mI zz λdp oi mki fri hali=>?_
   rw[aA,jv]at dp oi mki;have ef:(P.filter λx=> !(x.2.1==d.num&&(aY d.legs).contains x.2.2.1))=jk P d.num:=by
    unfold jk;refine nU λx hx=>?_;obtain⟨e,he,p,hp,rfl⟩:=snd.mem hx;by_cases c:e.num=d.num
    .have:e=d:=snd.g.up.inj he hd c
     subst this;have:p.owner∈aY e.legs:=fS.mpr (snd.g.g9 e he p hp);simp[this]
    .simp[c]
   rw[ef]at oi mki;obtain⟨MB,mlB,hsB,eS⟩:=mki;have RB:=hsB.rs;have sndi:cy (cg st mi) (jk P d.num):=snd.m dp.good dp.goods oi;have hmem:Rm.dz d (aY d.legs)∈(cg st mi).market.deals:=dp.mem hd;obtain⟨D2,hD2,eD2⟩:=AR mlB hmem;have en2:D2.num=d.num:=cq bg eD2;have hv:=xS (qB mlB sndi.g.up) hD2;rw[en2]at hv;have hDk:H' MB.aD=some (.dK (bF MB)):=hsB.2 (MB.aD,.dK (bF MB)) (eZ (by simp[cf]))
   refine⟨_,rfl,bp (bC RB) T.cM T.hU (ip _ _ _) ⟨MB.aD,rfl,(zf RB).HN,_,rfl,bF MB,bG (d.num:Int),_,hDk,rfl,hv,?_⟩⟩;rw[JD];have hput:=UW hsB d.num (Rm.cutD mi.deals d.num);have eoff:dv st.market d={mi with deals:=Rm.cutD mi.deals d.num}:=(dp.off snd.g hd λo ho=>fS.mpr ho).symm
   refine k _ _ ⟨d4 MB d.num,?_,?_,rfl⟩ ?_
   .rw[eoff];exact KJ mlB d.num
   .rw[eoff];exact hput
   .have hfr:Fr H S (upd H' MB.aD (.dK (bF (d4 MB d.num)))) S:=fri.trans (Fr.gu hDk (λxs z=>nomatch z) (by rw[eS];exact bw.mpr ⟨(MB.aD,.dK (bF MB)),eZ (by simp[cf]),rfl⟩))
    rw[hS];refine hfr.less λb hb=>?_;rw[eS];rw[eoff]at hb;exact Ln d.num (Rm.cutD mi.deals d.num) b hb
theorem IU{β:Type}(f:DA->List β):∀{l:List DA}{D:DA},(l.map (·.num)).Nodup->D∈l->(l.flatMap f).Perm ((l.filter λE=>E.num !=D.num).flatMap f++f D)
 |[],D,_,h=>absurd h (by simp)
 |E::r,D,hn,h=>by
  rw[bS,gC]at hn;rw[gQ,fZ];rcases bM.mp h with rfl|h
  .have e:(r.filter λE=>E.num !=D.num)=r:=qF.mpr λE hE=>by
    have:E.num≠D.num:=λz=>hn.1 (z▸bw.mpr ⟨E,hE,rfl⟩);simpa using this
   rw[aq (by simp),e]
   exact wB
  .have ne:E.num≠D.num:=λz=>hn.1 (z▸bw.mpr ⟨D,h,rfl⟩)
   rw[ay (by simpa using ne),gQ,nT]
   exact(IU f hn.2 h).append_left (f E)
section
variable{H':Hp}{m:aa}{S:List aa}{A:MA}
theorem QS(hs:Hs H (aE CM CD m A s P))(hn:(A.ds.map (·.num)).Nodup){D:DA}(hD:D∈A.ds)(ds:List aZ):Hs (upd H A.aD (.dK (bF (d4 A D.num)))) (aE CM CD m (d4 A D.num) (cg s {s.market with deals:=ds}) P++cE CD s.market.goods D):=by
 have ea:aE CM CD m A s P=[(m,.ins CM A.dm (b7 A s.now s.next))]++(A.aD,.dK (bF A))::([(A.aP,.dT (b5 P)),bJ A.aM s.made,bJ A.aB s.burned,(A.aO,.lst (s.owners.map tV)),(A.aG,.lst (s.goods.map tV)),(A.aF,.lst (A.fr.map V.ref)),(A.aH,.lst (A.hd.map V.ref))]++(rows A.fr s.market.free++(rows A.hd s.market.held++A.ds.flatMap (cE CD s.market.goods)))):=by unfold aE cf;simp
 have eb:aE CM CD m (d4 A D.num) (cg s {s.market with deals:=ds}) P++cE CD s.market.goods D=[(m,.ins CM A.dm (b7 A s.now s.next))]++(A.aD,.dK (bF (d4 A D.num)))::([(A.aP,.dT (b5 P)),bJ A.aM s.made,bJ A.aB s.burned,(A.aO,.lst (s.owners.map tV)),(A.aG,.lst (s.goods.map tV)),(A.aF,.lst (A.fr.map V.ref)),(A.aH,.lst (A.hd.map V.ref))]++(rows A.fr s.market.free++(rows A.hd s.market.held++((A.ds.filter λE=>E.num !=D.num).flatMap (cE CD s.market.goods)++cE CD s.market.goods D)))):=by unfold aE cf d4 cg;simp;rfl
 rw[ea]at hs;rw[eb];refine(hs.put (o':=.dK (bF (d4 A D.num)))).perm ?_;exact z9 _ (tW _ (z9 _ (z9 _ (z9 _ (IU _ hn hD)))))
end
theorem Lh(ds:List aZ):∀(l:List bN)(m:aL),Rm.cC {m with deals:=ds} l={Rm.cC m l with deals:=ds}
 |[],m=>rfl
 |x::r,m=>by
  show Rm.cC {{m with held:=fL m.held x.from_ x.good x.n,free:=iP m.free x.to_ x.good x.n}with deals:=ds} r=_
  rw[Lh ds r];rfl
theorem UB(l:List bN)(i o g:Nat):gives (l.take i) o g<=gives l o g:=by
 have e:=Rm.qo (l.take i) (l.drop i) o g;rw[List.take_append_drop]at e;omega
abbrev Od:List ae:=["self","number","deal","giver","amount","good","taker","owner"]
theorem Mq:bX Od ["self","number"] (bb za):=⟨rfl,rfl,rfl,by decide+kernel,rfl,by decide+kernel,by decide+kernel⟩
def Jv(CM CD:aa):Sp:=λvs H Q z=>∃(m:aa)(S:List aa)(s:aT)(P:List aS)(d:aZ),vs=[.ref m,nV d.num]/\cy s P/\d∈s.market.deals/\nh d=true/\Mk CM CD H m S s P/\
 ∀H' S',Mk CM CD H' m S' (cg s (m9 s.market d)) (jk P d.num)->Fr H S H' S'->Q .bI H'
theorem Wq(G:Gm K CM "carry_out" "Market.carry_out" za)(T:Tx K mg CM CD):Mt Pr w K mg base be 1 CM "carry_out" ["self","number"] (Jv CM CD):=by
 obtain⟨f,fd,F,hm⟩:=G.ex;refine⟨f,fd,F.dn Mq (λvs H Q E h=>?_) (λcdv A outer s H vs Q E hr h=>?_),hm,F.binds (bn2 rfl)⟩
 .apply mz h;intro u u u u u u;rfl
 .intro X0;apply mz h;intro m S st P d zz;refine mI zz λsnd hd hcomp mk k=>?_
  have nd:=Mq.nd;have hu:=ir hr;have ft:=snd.fW;refine⟨_,aK (bW (i:=2) nd rfl (aV rfl) (HR (bx (pv 0) rfl) (pv 1) ⟨rfl,rfl,rfl,rfl⟩)) (aK (g7 jV rfl (fH (bx (pv 2) rfl)) (lS rfl (dA (bY (i:=3) nd rfl (aV rfl)) (dA (bY (i:=4) nd rfl (aV rfl)) (dA (bY (i:=5) nd rfl (aV rfl)) (dA (bY (i:=6) nd rfl (aV rfl)) ji))))) (aK (jg (bh bO (bx (pv 0) rfl) (pv 3) (λu u=>rfl)) (pv 5) jo (pv 4) rM set_list) (aX (jg (bh bO (bx (pv 0) rfl) (pv 6) (λu u=>rfl)) (pv 5) jo (pv 4) nR set_list)))) (aX (vm (g7 jV rfl (u7 (bx (pv 2) rfl)) (bY (i:=7) nd rfl (aV rfl)) (aX (cG (Hu (rC hr) (bx (pv 0) rfl) (jl (ai (pv 1) (ai (pv 7) au))) ⟨rfl,rfl,rfl,rfl⟩))))))),?_⟩;obtain⟨MA,ml,hs,rfl⟩:=mk;have R:=hs.rs;obtain⟨D,hD,eD,hget,hdr⟩:=lR ml R ft.up hd;have dl:=ml.dl D hD;have el:D.legs=d.legs:=cq (λx=>x.2.1) eD;have en:D.num=d.num:=cq bg eD;have hDk:H MA.aD=some (.dK (bF MA)):=hs.2 (MA.aD,.dK (bF MA)) (eZ (by simp[cf]))
  have hv:=xS (qB ml ft.up) hD;rw[en]at hv;refine⟨_,rfl,bp (bC R) T.cM T.hU (ip _ _ _) ⟨MA.aD,rfl,(zf R).HN,_,rfl,bF MA,bG (d.num:Int),_,hDk,rfl,hv,?_⟩⟩;rw[JD];have h1:=QS hs (qB ml ft.up) hD (Rm.cutD st.market.deals d.num);rw[en]at h1;have hraw:eY (d4 MA d.num) (cg st {st.market with deals:=Rm.cutD st.market.deals d.num}):=KJ ml d.num
  have inS:∀x∈aE CM CD m MA st P,x.1∈(aE CM CD m MA st P).map bg:=λx hx=>bw.mpr ⟨x,hx,rfl⟩;have fr1:Fr H ((aE CM CD m MA st P).map bg) (upd H MA.aD (.dK (bF (d4 MA d.num)))) ((aE CM CD m MA st P).map bg):=Fr.gu hDk (λxs z=>nomatch z) (inS (MA.aD,.dK (bF MA)) (eZ (by simp[cf])))
  generalize upd H MA.aD (.dK (bF (d4 MA d.num)))=H1 at h1 fr1;generalize hs1:cg st {st.market with deals:=Rm.cutD st.market.deals d.num}=s1 at h1 hraw
  have e1o:s1.owners=st.owners:=by rw[<-hs1];rfl
  have e1f:s1.market.free=st.market.free:=by rw[<-hs1];rfl
  have e1h:s1.market.held=st.market.held:=by rw[<-hs1];rfl
  have e1g:s1.market.goods=st.market.goods:=by rw[<-hs1];rfl
  have ft1:dJ s1:=by
   rw[<-hs1];exact⟨ft.free,ft.held,ft.goods,ft.owners,ft.up.cutD _,fi (tp _ _) ft.c5⟩
  have RD1:Rs H1 (cE CD st.market.goods D):=(h1.sub (FR _ _)).rs;have lok:=snd.g.legs d hd;have F1:Rm.Frame st.owners.length s1.market:=⟨by rw[e1f,e1g];exact ft.free,by rw[e1h,e1g];exact ft.held⟩
  have lokT:∀i,Rm.j7 st.owners.length s1.market.goods (d.legs.take i):=λi=>by
   rw[e1g];exact⟨λx hx=>lok.lM x (tZ hx),λx hx=>lok.lN x (tZ hx),λx hx=>lok.jK x (tZ hx)⟩
  have lens:∀i,(Rm.cC s1.market (d.legs.take i)).free.length=s1.market.free.length/\(Rm.cC s1.market (d.legs.take i)).held.length=s1.market.held.length/\dJ (cK s1 (Rm.cC s1.market (d.legs.take i)).free (Rm.cC s1.market (d.legs.take i)).held):=λi=>by
   obtain⟨hgd,u,f1,u,u⟩:=Rm.BM F1 _ (lokT i);have a1:=f1.free;have a2:=f1.held;rw[hgd]at a1 a2;refine⟨a1.len.trans (by rw[e1f];exact ft.free.len.symm),a2.len.trans (by rw[e1h];exact ft.held.len.symm),ft1.fh (by rw[e1o];exact a1) (by rw[e1o];exact a2)⟩
  have lstD:∀{H':Hp}{s':aT},Hs H' (aE CM CD m (d4 MA d.num) s' P++cE CD st.market.goods D)->Rs H' (cE CD st.market.goods D):=λh=>(h.sub (FR _ _)).rs;refine⟨_,rfl,bp (fk RD1) T.cD T.nQ (Lu D) ⟨D.lg,rfl,⟨_,aj.of (yi RD1)⟩,?_⟩⟩;have tsl:D.ts.length=d.legs.length:=by rw[dl.ts,el]
  let W:IV:=λi σ H'=>∃v3 v4 v5 v6:Option V,σ=[some (.ref m),some (nV d.num),some (.ref D.a),v3,v4,v5,v6,none]/\Hs H' (aE CM CD m (d4 MA d.num) (cK s1 (Rm.cC s1.market (d.legs.take i)).free (Rm.cC s1.market (d.legs.take i)).held) P++cE CD st.market.goods D)/\Fr H ((aE CM CD m MA st P).map bg) H' ((aE CM CD m MA st P).map bg)
  refine g0 (fJ (K:=K) (a:=D.lg) (xs:=D.ts.map V.ref)) (W)
   ⟨none,none,none,none,rfl,h1,fr1⟩ (λi σ H' u ⟨r,q,l,Z,Y,h,X⟩=>aj.of (yi (lstD h))) (λi σ H' x H'' hi pv y=>?_) (λσ H' pv=>?_)
  .apply gM pv;intro v3 v4 v5 v6 zz;refine jx zz λhI frI=>?_
   obtain⟨rfl,hx⟩:=y;rw[bz]at hx;obtain⟨t,ht,rfl⟩:=di.mp hx;have hil:i<d.legs.length:=by rw[<-tsl];exact(cN.mp ht).1
   obtain⟨lg,hlg⟩:∃lg,d.legs[i]? =some lg:=⟨d.legs[i],bH hil⟩;have hlm:=cZ hlg;have htup:=GJ (lstD hI) ht (by rw[el];exact hlg)
   obtain⟨ln1,ln2,ftI⟩:=lens i;have mlI:=hraw.fh ln1 ln2;obtain⟨hgd,u,u,amh,amf⟩:=Rm.BM F1 _ (lokT i);have hfrom:=lok.lM lg hlm;have hto:=lok.lN lg hlm;have hgood:=lok.jK lg hlm;have hle:lg.n<=amount (Rm.cC s1.market (d.legs.take i)).held lg.from_ lg.good:=by
    rw[amh,e1h];have a1:=UB d.legs (i+1) lg.from_ lg.good;rw[take_snoc hlg,Rm.qo,Rm.nD,ay ⟨rfl,rfl⟩]at a1;have a2:=snd.g.rO hd (o:=lg.from_) (g:=lg.good) hfrom hgood;rw[Rm.JZ hcomp]at a2;omega
   refine⟨t,_,rfl,cv.of htup,rfl,_,_,rfl,_,_,rfl,_,_,rfl,_,_,rfl,rfl,?_⟩;obtain⟨a,vs,ha,hav,hvg,hix,h3⟩:=DM (s:=cK s1 (Rm.cC s1.market (d.legs.take i)).free (Rm.cC s1.market (d.legs.take i)).held) mlI hI ftI (o:=lg.from_) (g:=lg.good) (by show lg.from_<s1.owners.length;rw[e1o];exact hfrom) (by show lg.good<s1.market.goods;rw[e1g];exact hgood) (λx=>x - lg.n)
   have RI:=(m6 hI).rs;have memH:a∈(aE CM CD m MA st P).map bg:=Ca ml ft hfrom ha;refine⟨_,rfl,bp (bC RI) T.cM T.rH (uW _ _ _) ⟨_,rfl,bL (aj.of (sP RI)) (bj (j:=lg.from_) (by rw[bz,ha];rfl)) ⟨_,rfl,jj (aj.of hav) hvg ⟨_,rfl,_,_,rfl,rfl,a,_,_,lg.good,rfl,rfl,hav,hix,?_⟩⟩⟩⟩
   have ez:nV (amount (Rm.cC s1.market (d.legs.take i)).held lg.from_ lg.good - lg.n)=V.int (((amount (Rm.cC s1.market (d.legs.take i)).held lg.from_ lg.good:Nat):Int) - ((lg.n:Nat):Int)):=by
    unfold nV
    congr 1
    omega
   have h3:Hs (upd H'' a (.lst (vs.set lg.good (nV (amount (Rm.cC s1.market (d.legs.take i)).held lg.from_ lg.good - lg.n))))) _:=h3;rw[ez]at h3;have fr3:=frI.trans (Fr.gu (S:=(aE CM CD m MA st P).map bg) (o':=.lst (vs.set lg.good (V.int (((amount (Rm.cC s1.market (d.legs.take i)).held lg.from_ lg.good:Nat):Int) - ((lg.n:Nat):Int))))) hav (λxs z=>nomatch z) memH);have sh3:Rm.Shape s1.owners.length s1.market.goods (gD (Rm.cC s1.market (d.legs.take i)).held lg.from_ lg.good λx=>x - lg.n):=Rm.vC ftI.held _ _ _;have ft3:dJ (cK s1 (Rm.cC s1.market (d.legs.take i)).free (gD (Rm.cC s1.market (d.legs.take i)).held lg.from_ lg.good λx=>x - lg.n)):=ft1.fh ftI.free sh3;have ml3:eY (d4 MA d.num) (cK s1 (Rm.cC s1.market (d.legs.take i)).free (gD (Rm.cC s1.market (d.legs.take i)).held lg.from_ lg.good λx=>x - lg.n)):=hraw.fh ln1 (sh3.len.trans ft1.held.len.symm);obtain⟨b,us,hb,hbv,hug,hix2,h4⟩:=qb (s:=cK s1 (Rm.cC s1.market (d.legs.take i)).free (gD (Rm.cC s1.market (d.legs.take i)).held lg.from_ lg.good λx=>x - lg.n)) ml3 h3 ft3 (o:=lg.to_) (g:=lg.good) (by show lg.to_<s1.owners.length;rw[e1o];exact hto) (by show lg.good<s1.market.goods;rw[e1g];exact hgood) (λx=>x+lg.n)
   have R3:=(m6 h3).rs;have memF:b∈(aE CM CD m MA st P).map bg:=qC ml ft hto hb;refine⟨_,rfl,bp (bC R3) T.cM T.jN (k8 _ _ _) ⟨_,rfl,bL (aj.of (jA R3)) (bj (j:=lg.to_) (by rw[bz,hb];rfl)) ⟨_,rfl,jj (aj.of hbv) hug ⟨_,rfl,_,_,rfl,rfl,b,_,_,lg.good,rfl,rfl,hbv,hix2,?_⟩⟩⟩⟩
   refine⟨_,_,_,_,rfl,?_,fr3.trans (Fr.gu hbv (λxs z=>nomatch z) memF)⟩;rw[take_snoc hlg,Rm.Mp];exact h4
  .apply gM pv;intro v3 v4 v5 v6 zz;refine jx zz λhI frI=>?_
   rw[aA,tsl,jv]at hI;have hl:=lens d.legs.length;rw[jv]at hl;have gvX:H' D.gv=some (.dK (cz D)):=hI.2 (D.gv,.dK (cz D)) (cP _ (by simp[cE]))
   have RD2:=lstD hI;refine⟨D.gv,.dK (cz D),gvX,lQ dy,λod=>?_⟩;have gvS:D.gv∈(aE CM CD m MA st P).map bg:=inS (D.gv,.dK (cz D)) (cP _ (cP _ (cP _ (lp.mpr ⟨D,hD,by simp[cE]⟩))))
   have gvM:∀x∈aE CM CD m (d4 MA d.num) (cK s1 (Rm.cC s1.market d.legs).free (Rm.cC s1.market d.legs).held) P,x.1≠D.gv:=λx hx=>Cb (y:=(D.gv,HO.dK (cz D))) hI.1 hx (by simp[cE])
   have h0:Hs (upd H' D.gv (.bu od (.dK (cz D)))) (aE CM CD m (d4 MA d.num) (cK s1 (Rm.cC s1.market d.legs).free (Rm.cC s1.market d.legs).held) P):=⟨(m6 hI).1,λx hx=>by rw[aI (gvM x hx)];exact(m6 hI).2 x hx⟩
   have fr0:=frI.trans (Fr.gu (o':=.bu od (.dK (cz D))) gvX (λxs z=>nomatch z) gvS);have RD0:=RD2.lock gvX dy od;have hG0:(upd H' D.gv (.bu od (.dK (cz D)))) D.gv=some (.bu od (.dK (cz D))):=aR;have hAa:D.a≠D.gv:=gL (fk RD2) gvX (λz=>nomatch z);have hAx:(upd H' D.gv (.bu od (.dK (cz D)))) D.a=some (.ins CD D.dx (oE D)):=by rw[aI hAa];exact fk RD2
   generalize upd H' D.gv (.bu od (.dK (cz D)))=H0 at h0 fr0 RD0 hG0 hAx;refine⟨_,rfl,bp hAx T.cD T.iu (kj D) ⟨D.gv,od,rfl,.inl ⟨cz D,hG0,?_⟩⟩⟩;have pnd:=snd.o.nodup snd.g
   let W:IV:=λi σ H''=>∃v7:Option V,σ=[some (.ref m),some (nV d.num),some (.ref D.a),v3,v4,v5,v6,v7]/\Hs H'' (aE CM CD m (d4 MA d.num) (cK s1 (Rm.cC s1.market d.legs).free (Rm.cC s1.market d.legs).held) (P.filter λx=> !(x.2.1==d.num&&((aY d.legs).take i).contains x.2.2.1)))/\Fr H ((aE CM CD m MA st P).map bg) H'' ((aE CM CD m MA st P).map bg)/\H'' D.gv=some (.bu od (.dK (cz D)))
   refine g0 t7 (W)
    ⟨none,rfl,?_,fr0,hG0⟩ (λi σ H'' u ⟨r,q,l,Z,z⟩=>z) (λi σ H'' x H3 hi pv y=>?_) (λσ H'' pv=>?_)
   .have e0:(P.filter λx=> !(x.2.1==d.num&&((aY d.legs).take 0).contains x.2.2.1))=P:=by rw[tT];exact qF.mpr λx u=>by simp
    rw[e0];exact h0
   .apply xR pv;intro v7 zz;refine gy zz λhJ frJ hgJ=>?_
    obtain⟨rfl,key,v,hk,rfl⟩:=y;obtain⟨o,hio,rfl⟩:=wR dl hk;rw[el]at hio;have hom:=cZ hio;have hks:o∉(aY d.legs).take i:=λz=>by
     obtain⟨j,hj⟩:=z7.mp z;have hji:j<i:=by have:=(cN.mp hj).1;rw[jT]at this;omega
     rw[zN hji]at hj;have:=CV (pZ d.legs) hj hio;omega
    have hpl:dg (P.filter λx=> !(x.2.1==d.num&&((aY d.legs).take i).contains x.2.2.1)) d.num o=some true:=by
     have h5:=(Rm.Dg.1 hcomp) o (fS.mp hom);obtain⟨p,hp,rfl,hh⟩:=Rm.i3.1 h5;have hx:(p.since,d.num,p.owner,p.held)∈P:=(snd.o.mem _).2 ⟨d,hd,p,hp,rfl⟩;have:=BH (P:=P.filter λx=> !(x.2.1==d.num&&((aY d.legs).take i).contains x.2.2.1)) (pnd.sublist (lq.map _)) (x:=(p.since,d.num,p.owner,p.held)) (dG.mpr ⟨hx,by simpa using hks⟩)
     rw[hh]at this;exact this
    have RJ:=hJ.rs;have hPJ:H3 MA.aP=some (.dT (b5 (P.filter λx=> !(x.2.1==d.num&&((aY d.legs).take i).contains x.2.2.1)))):=rA (A:=d4 MA d.num) (iV hJ);refine⟨_,rfl,bp (bC RJ) T.cM T.jw (j2 _ _ _) ⟨_,rfl,(ki RJ).rB,_,rfl,_,rfl,(by show 2<=sizeLine;decide),λt ht=>?_⟩⟩
    have s5:ak H3 (upd H3 t (.tup [nV d.num,kV (bG (o:Int))])):=ak.new ht;refine⟨_,dc d.num o,t,gk true,s5 _ _ hPJ,rfl,aR,by rw[lV,hpl];rfl,?_⟩
    rw[Hj,yO];have h6:=mX (yd (iV (hJ.same s5)) (P.filter λx=> !(x.2.1==d.num&&((aY d.legs).take i++[o]).contains x.2.2.1)));have hgP:D.gv≠MA.aP:=gL hgJ hPJ (λz=>nomatch z);refine⟨_,rfl,by rw[take_snoc hio];exact h6,(frJ.trans (Fr.dE s5)).trans (Fr.gu (s5 _ _ hPJ) (λxs z=>nomatch z) (inS (MA.aP,.dT (b5 P)) (eZ (by simp[cf])))),?_⟩
    exact(aI hgP).trans (s5 _ _ hgJ)
   .apply xR pv;intro v7 zz;refine gy zz λhJ frJ hgJ=>?_
    rw[oT dl,el,jv]at hJ;have ef:(P.filter λx=> !(x.2.1==d.num&&(aY d.legs).contains x.2.2.1))=jk P d.num:=by
     unfold jk;refine nU λx hx=>?_;obtain⟨e,he,p,hp,rfl⟩:=snd.mem hx;by_cases c:e.num=d.num
     .have:e=d:=snd.g.up.inj he hd c
      subst this;have:p.owner∈aY e.legs:=fS.mpr (snd.g.g9 e he p hp);simp[this]
     .simp[c]
    rw[ef]at hJ;refine⟨hgJ,?_⟩;have edone:m9 st.market d={Rm.cC st.market d.legs with deals:=Rm.cutD st.market.deals d.num}:=by
     rw[Rm.DI];refine Rm.Ar rfl rfl rfl ?_;show(Rm.cC st.market d.legs).deals.filter (λx=>x.num !=d.num)=_;rw[(Rm.vF d.legs st.market).2];rfl
    have em:s1.market={st.market with deals:=Rm.cutD st.market.deals d.num}:=by rw[<-hs1];rfl
    have eK:Rm.cC s1.market d.legs={Rm.cC st.market d.legs with deals:=Rm.cutD st.market.deals d.num}:=by rw[em,Lh]
    have est:cK s1 (Rm.cC s1.market d.legs).free (Rm.cC s1.market d.legs).held=cg st (m9 st.market d):=by
     rw[edone,eK,<-hs1];unfold cK cg
     congr 1
     refine Rm.Ar ?_ rfl rfl rfl;show st.market.goods=(Rm.cC st.market d.legs).goods;rw[(Rm.vF d.legs st.market).1]
    have gvJ:∀x∈aE CM CD m (d4 MA d.num) (cK s1 (Rm.cC s1.market d.legs).free (Rm.cC s1.market d.legs).held) (jk P d.num),x.1≠D.gv:=λx hx=>by
     have:x.1∈(aE CM CD m (d4 MA d.num) (cK s1 (Rm.cC s1.market d.legs).free (Rm.cC s1.market d.legs).held) P).map bg:=by rw[<-sU (jk P d.num)];exact bw.mpr ⟨x,hx,rfl⟩
     obtain⟨y,hy,e⟩:=bw.mp this;rw[<-e];exact gvM y hy
    have mlF:=hraw.fh hl.1 hl.2.1;refine k _ _ ⟨d4 MA d.num,by rw[<-est];exact mlF,by rw[<-est];exact⟨hJ.1,λx hx=>by rw[aI (gvJ x hx)];exact hJ.2 x hx⟩,rfl⟩ ?_
    have hfr:=frJ.trans (Fr.gu (o':=.dK (cz D)) hgJ (λxs z=>nomatch z) gvS);refine hfr.less λb hb=>?_;rw[<-est,sU (P:=P),sL hraw hl.1 hl.2.1,<-hs1]at hb;exact Ln d.num (Rm.cutD st.market.deals d.num) b hb
theorem WJ{d:aZ}(h:dg P d.num o≠some true):iZ s P d.num d.legs o=jq s.market d o:=by
 unfold iZ jq;refine MJ rfl λg=>?_;unfold fI;rw[aq h];exact jr.mpr (by omega)
theorem Jf(h:cy s P){x:aS}(hx:x∈P):iY s P x=(!x.2.2.2&&((l9 s.market x.2.1).bind λd=>if jq s.market d x.2.2.1=true then some (d,x.2.2.1)else none).isSome):=by
 obtain⟨d,hd,p,hp,rfl⟩:=h.mem hx;unfold iY;dsimp only;rw[Rm.yn h.g.up hd];cases hh:p.held with
 |true=>rfl
 |false=>
  have:dg P d.num p.owner=some false:=(h.look hd).2 ⟨p,hp,rfl,hh⟩;show(!false&&iZ s P d.num d.legs p.owner)=_;rw[WJ (by rw[this];simp)]
  cases q:jq s.market d p.owner<;>simp[q]
theorem find_some{α β:Type}(f:α->Option β):∀l:List α,l.findSome? f=(l.find? λx=>(f x).isSome).bind f
 |[]=>rfl
 |x::r=>by
  rw[List.findSome?_cons,lr];cases h:f x with
  |none=>simpa using find_some f r
  |some y=>simp[h]
theorem OS(h:cy s P):fg s.market=(P.find? (iY s P)).bind λx=>(l9 s.market x.2.1).bind λd=>if jq s.market d x.2.2.1=true then some (d,x.2.2.1)else none:=by
 unfold fg;rw[Rm.TK h.g.Xa h.o,List.findSome?_map,find_some];unfold Rm.waiting;rw[List.find?_filter];simp only[Bool.decide_and,Bool.decide_eq_true];have e:(P.find? λa=>(!a.2.2.2)&&(((λx:Nat×(Nat×Nat)=>(l9 s.market x.2.1).bind λd=>if jq s.market d x.2.2=true then some (d,x.2.2)else none)∘Rm.D6) a).isSome)=P.find? (iY s P):=by
  have aux:∀l:List aS,(∀x∈l,x∈P)->(l.find? λa=>(!a.2.2.2)&&(((λx:Nat×(Nat×Nat)=>(l9 s.market x.2.1).bind λd=>if jq s.market d x.2.2=true then some (d,x.2.2)else none)∘Rm.D6) a).isSome)=l.find? (iY s P):=by
   intro l;induction l with
   |nil=>intro z;rfl
   |cons x r ih=>
    intro hm;rw[lr,lr,ih λy hy=>hm y (b8 _ hy),Jf h (hm x (gF ..))];rfl
  exact aux P λz h=>h
 rw[e];rfl
theorem Vu(h:cy s P){d e:aZ}(hd:d∈s.market.deals)(he:e∈s.market.deals):j5 s P (cx d) (cx e)=pB s.market d e:=by
 rw[lu];unfold j5 l6 pB cx;dsimp only;simp only[vI,ib,kr,bne_iff_ne,EB,pC];constructor
 .rintro⟨o,ho,h1,h2,g,hg,h3,h4⟩
  obtain⟨p,hp,rfl,hh⟩:=(h.look hd).1 h1;obtain⟨q,hq,hqo,hqh⟩:=(h.look he).1 h2;refine⟨λz=>?_,p,hp,hh,g,hg,?_,q,hq,hqo,hqh,h4⟩
  .rw[z]at h1;rw[h1]at h2;cases h2
  .unfold fI at h3
   rw[aq (by rw[h1];simp)]at h3
   omega
 .rintro⟨hne,p,hp,hh,g,hg,h3,q,hq,hqo,hqh,h4⟩
  have h1:dg P d.num p.owner=some false:=(h.look hd).2 ⟨p,hp,rfl,hh⟩;refine⟨p.owner,fS.mpr (h.g.g9 d hd p hp),h1,(h.look he).2 ⟨q,hq,hqo,hqh⟩,g,hg,?_,h4⟩;unfold fI;rw[aq (by rw[h1];simp)]
  omega
theorem Ku(h:cy s P):dI (cF s P)=gS s.market:=by
 unfold dI cF gS;rw[NZ];have aux:∀l:List aZ,(∀d∈l,d∈s.market.deals)->(l.flatMap λd=>((s.market.deals.filter λe=>j5 s P (cx d) (cx e)).map (·.num)).map λy=>(d.num,y))=l.flatMap λd=>(s.market.deals.filter (pB s.market d)).map λe=>(d.num,e.num):=by
  intro l;induction l with
  |nil=>intro z;rfl
  |cons d r ih=>
   intro hm;rw[gQ,gQ,ih λy hy=>hm y (b8 _ hy),bU]
   congr 1
   have:(s.market.deals.filter λe=>j5 s P (cx d) (cx e))=s.market.deals.filter (pB s.market d):=nU λe he=>Vu h (hm d (gF ..)) he;rw[this];rfl
 exact aux _ λz h=>h
theorem V6(h:cy s P){v:V}(g:Am (cF s P) v):match gE s.market with|none=>v=.bI|some d=>v=nV d.num:=by
 have keys:(cF s P).map (·.1)=s.market.deals.map (·.num):=by unfold cF;rw[bU];rfl
 unfold Am at g;rw[Ku h,keys]at g;rcases g with⟨rfl,hno⟩|⟨n,hn,rfl,hw,hmax⟩
 .have:gE s.market=none:=Rm.A6.2 λd hd=>by
   cases q:vK s.market d.num with
   |false=>rfl
   |true=>exact absurd ((Rm.ur s.market d.num).1 q) (hno d.num (bw.mpr ⟨d,hd,rfl⟩))
  rw[this]
 .obtain⟨d,hd,rfl⟩:=bw.mp hn
  have:gE s.market=some d:=(Rm.UD h.g.up).2 ⟨hd,(Rm.ur s.market d.num).2 hw,λe he hr=>hmax e.num (bw.mpr ⟨e,he,rfl⟩) ((Rm.ur s.market e.num).1 hr)⟩;rw[this]
def sy(m:aL)(H:Hp)(v:V):Prop:=match fg m with
 |none=>v=.bI
 |some x=>∃q,v=.ref q/\H q=some (.tup [nV x.1.num,nV x.2])
theorem Sv(h:cy s P){Q:VK}(k:∀H' v,ak H H'->sy s.market H' v->Q v H'):
 match P.find? (iY s P)with
 |none=>∀H',ak H H'->Q .bI H'
 |some x=>∀H' q,ak H H'->H' q=some (.tup [nV x.2.1,nV x.2.2.1])->Q (.ref q) H':=by
 have e:=OS h;cases q:P.find? (iY s P)with
 |none=>
  rw[q]at e;intro H' s';refine k _ _ s' ?_;unfold sy;rw[show fg s.market=none from e]
 |some x=>
  rw[q]at e;intro H' a s' ha;refine k _ _ s' ?_;have hx:=zt q;have hc:=zu q;rw[Jf h hx,ib]at hc;obtain⟨y,hy⟩:=Y9.mp hc.2;have e2:fg s.market=some y:=by rw[e];exact hy
  unfold sy;rw[e2];obtain⟨d,hd,hy2⟩:=Option.bind_eq_some_iff.mp hy;split at hy2
  .cases hy2
   refine⟨a,rfl,?_⟩;rw[ha,(Rm.Ci hd).2]
  .cases hy2
def c9(l:News):List V:=(nq l).map V.int
theorem sI(a b:News):c9 (a++b)=c9 a++c9 b:=by
 unfold c9 nq;rw[md,bZ]
theorem l5(a:News):(c9 a).length=2*a.length:=by
 unfold c9 nq;rw[aA];induction a with
 |nil=>rfl
 |cons x r ih=>rw[gQ,bV,ih,cY];simp;omega
def nP(c:aL):aL×News:=match gE c with
 |none=>(c,[])
 |some d=>((dk (dv c d)).1,(2,d.num)::(dk (dv c d)).2)
theorem Mj{no nx sn:Nat}{m:aL}(G:bo no nx sn m):dk m=((nP (Rm.cw m).1).1,(Rm.cw m).2++(nP (Rm.cw m).1).2):=by
 unfold nP;cases q:gE (Rm.cw m).1 with
 |none=>rw[Rm.Er q];simp
 |some d=>rw[G.KU q]
theorem Td(A:MA)(a b:Nat):(b7 A a b).lookup ("hold_part":ae)=none:=by rfl
theorem Sf(A:MA)(a b:Nat):(b7 A a b).lookup ("carry_out":ae)=none:=by rfl
theorem Bk(A:MA)(a b:Nat):(b7 A a b).lookup ("call_off":ae)=none:=by rfl
theorem K3(A:MA)(a b:Nat):(b7 A a b).lookup ("drop_part":ae)=none:=by rfl
theorem xl(h:cy s P):P.length<=1000:=by
 have:=h.o.len h.g;have:=h.owners;omega
theorem vc{m:aa}{S:List aa}(h:Mk CM CD H m S s P):∃A,H m=some (.ins CM (MA.dm A) (b7 A s.now s.next))/\m∈S:=by
 obtain⟨A,_,hs,rfl⟩:=h;exact⟨A,bC hs.rs,bw.mpr ⟨(m,.ins CM A.dm (b7 A s.now s.next)),eZ (by simp[cf]),rfl⟩⟩
theorem _root_.L2.Df.imp{CX:e8}{kk:Nat}{x:ae}{ps:List ae}{sp sp':Sp}(D:Df Pr w K mg base CX kk x ps sp)(h:∀vs H Q E,sp' vs H Q E->sp vs H Q E):Df Pr w K mg base CX kk x ps sp':=by
 obtain⟨f,fd,F,r⟩:=D.ex;exact⟨f,fd,F.imp h,r⟩
def Qb(CM CD:aa):Sp:=λvs H Q z=>∃(m:aa)(S:List aa)(s:aT)(P:List aS),vs=[.ref m]/\cy s P/\Mk CM CD H m S s P/\∀H' v,ak H H'->sy s.market H' v->Q v H'
theorem RZ{kk:Nat}(D:Df Pr w K mg base be kk "first_to_hold" ["market"] (Ap CM CD)):Df Pr w K mg base be kk "first_to_hold" ["market"] (Qb CM CD):=D.imp λvs H Q E ⟨m,S,s,P,e,snd,mk,k⟩=>⟨m,S,s,P,e,snd.fW,snd.pin,mk,Sv snd k⟩
abbrev Vo:List ae:=["market","happened","part"]
theorem Mg:bX Vo ["market"] (bb yI):=⟨rfl,rfl,rfl,by decide+kernel,rfl,by decide+kernel,by decide+kernel⟩
def Iv(CM CD:aa):Sp:=λvs H Q z=>∃(m:aa)(S:List aa)(s:aT)(P:List aS),vs=[.ref m]/\cy s P/\Mk CM CD H m S s P/\
 ∀H' S' P' p,Mk CM CD H' m S' (cg s (Rm.cw s.market).1) P'->cy (cg s (Rm.cw s.market).1) P'->Fr H S H' S'->H p=none->p∉S'->H' p=some (.lst (c9 (Rm.cw s.market).2))->Q (.ref p) H'
theorem Ve(G:Gd K mg "hold_parts" yI)(T:Tx K mg CM CD)(d_first:Df Pr w K mg base be 3 "first_to_hold" ["market"] (Ap CM CD))(d_held:Df Pr w K mg base be 1 "all_parts_held" ["market","number"] (HM CM CD))(d_hold:Mt Pr w K mg base be 1 CM "hold_part" ["self","number","owner"] (Jc CM CD))(d_carry:Mt Pr w K mg base be 1 CM "carry_out" ["self","number"] (Jv CM CD)):Df Pr w K mg base be 4 "hold_parts" ["market"] (Iv CM CD):=by
 obtain⟨f,fd,F,hm⟩:=G.ex;refine⟨f,fd,F.dn Mg (λvs H Q E h=>?_) (λcdv A outer s H vs Q E hr h=>?_),hm,F.kp,F.binds (bn1 rfl)⟩
 .apply gM h;intro _ _ _ _ _;rfl
 .intro X0;apply gM h;intro m S st P zz;refine gy zz λsnd mk k=>?_
  have nd:=Mg.nd;have d_first:=RZ d_first;have hr1:c6 1 _:=hr.mono (by decide)
  refine⟨_,aK (bW (i:=1) nd rfl (aV rfl) (cW au)) (aK (bW (i:=2) nd rfl (aV rfl) (bQ d_first hr b0 (ai (pv 0) au))) (aK (xQ jV (k4 (wK (pv 2))) (aK (cG (jz (pv 0) T.cM d_hold hr1 b0 (ai (bh iy (pv 2) aQ (λ_ _=>rfl)) (ai (bh iy (pv 2) aQ (λ_ _=>rfl)) au)))) (aK (kO (nO (bQ d_held hr1 b0 (ai (pv 0) (ai (bh iy (pv 2) aQ (λ_ _=>rfl)) au)))) (aK (cG (jz (pv 0) T.cM d_carry hr1 b0 (ai (bh iy (pv 2) aQ (λ_ _=>rfl)) au))) (aX (cG (gI gU lH lI jY (pv 1) (ai (cW (ai (fC T.QA) (ai (bh iy (pv 2) aQ (λ_ _=>rfl)) au))) au))))) mF) (aX (bW (i:=2) nd rfl (aV rfl) (bQ d_first hr b0 (ai (pv 0) au))))))) (aX (bT (pv 1))))),?_⟩;refine⟨gp _,λhp hhp=>?_⟩;have s1:ak H (upd H hp (.lst [])):=ak.new hhp;have hhp1:(upd H hp (.lst [])) hp=some (.lst []):=aR;have hpS:hp∉S:=mk.out hhp;refine⟨_,rfl,m,S,st,P,rfl,snd,mk.same s1,λH1 v s2 hv=>?_⟩;have dl0:=snd.g.c5
  let W:IV:=λmm σ H'=>∃(mi:aL)(Pi:List aS)(Si:List aa)(acc:News)(v:V),σ=[some (.ref m),some (.ref hp),some v]/\mm=jP mi/\cy (cg st mi) Pi/\Mk CM CD H' m Si (cg st mi) Pi/\Fr H S H' Si/\hp∉Si/\H' hp=some (.lst (c9 acc))/\Rm.cw st.market=((Rm.cw mi).1,acc++(Rm.cw mi).2)/\acc.length+mi.deals.length<=16/\sy mi H' v
  refine⟨W,⟨_,st.market,P,S,[],v,rfl,rfl,snd,(mk.same s1).same s2,Fr.dE (s1.trans s2),hpS,s2 _ _ hhp1,by simp,by simpa using dl0,hv⟩,λmm σ H' pv=>?_⟩
  obtain⟨mi,Pi,Si,acc,v,rfl,rfl,sndi,mki,fri,hpi,hhpi,hall,hlen,hfv⟩:=pv;refine⟨_,rfl,_,rfl,?_⟩;unfold sy at hfv;cases hnx:fg mi with
  |none=>
   rw[hnx]at hfv;subst hfv;refine fV ?_;have e0:=Rm.yj hnx;rw[e0]at hall;have e1:(Rm.cw st.market).1=mi:=by rw[hall]
   have e2:(Rm.cw st.market).2=acc:=by rw[hall];simp
   refine⟨_,rfl,?_⟩;exact k H' Si Pi hp (by rw[e1];exact mki) (by rw[e1];exact sndi) fri hhp hpi (by rw[e2];exact hhpi)
  |some x=>
   obtain⟨d,o⟩:=x;rw[hnx]at hfv;obtain⟨q,rfl,hq⟩:=hfv;refine fm ?_;obtain⟨hd,⟨p,hp',hpo,hph⟩,hfree⟩:=sndi.g.next hnx;subst hpo;have hd':d∈(cg st mi).market.deals:=hd;obtain⟨A1,hmm,hmS⟩:=vc mki;have hpl:dg Pi d.num p.owner=some false:=(sndi.look hd').2 ⟨p,hp',rfl,hph⟩;refine⟨λσ' H''=>∃m',m'<jP mi/\W m' σ' H'',λσ' H'' z=>z,?_⟩;refine⟨_,rfl,m,_,_,rfl,hmm,Td _ _ _,_,rfl,fQ (cv.of hq) (bj (j:=0) rfl) ⟨_,rfl,fQ (cv.of hq) (bj (j:=1) rfl) ?_⟩⟩;refine⟨m,Si,cg st mi,Pi,d,p.owner,rfl,sndi.fW,hd',fS.mpr (sndi.g.g9 d hd' p hp'),sndi.g.nF hd' hp',λg hg=>?_,by rw[hpl];rfl,xl sndi,mki,λH2 mk2 fr2=>?_⟩
   .have:=fE.mp hfree g (kq.mpr hg)
    exact lz this
   have sndH:cy (cg st (Rm.gf mi d p.owner)) (mQ Pi d.num p.owner):=by
    have:=sndi.m (m:=Rm.gf mi d p.owner) (sndi.g.holds hd' hp' hph) (Rm.yF mi d p.owner) (sndi.o.hold sndi.g.up hd' p.owner);exact this
   have mkH:Mk CM CD H2 m Si (cg st (Rm.gf mi d p.owner)) (mQ Pi d.num p.owner):=by
    have e:(Rm.gf mi d p.owner).free=(FQ mi d p.owner).free/\(Rm.gf mi d p.owner).held=(FQ mi d p.owner).held:=⟨rfl,rfl⟩;have:=Mk.to (s:=cg st mi) (m':=Rm.gf mi d p.owner) mk2 (Rm.yF mi d p.owner) (by rw[Rm.x8];exact vo sndi.g.up hd' rfl)
    exact this
   have hqH:=fr2.gA _ _ hq;have hhpH:=fr2.keep _ _ hhpi hpi;have hdH:cT d p.owner∈(cg st (Rm.gf mi d p.owner)).market.deals:=Rm.IL hd p.owner;refine⟨_,rfl,_,rfl,fQ (cv.of hqH) (bj (j:=0) rfl) ?_⟩;refine⟨m,Si,cg st (Rm.gf mi d p.owner),_,cT d p.owner,rfl,sndH.fW,hdH,(sndH.g.size _ hdH).2.1,mkH,λH3 s3=>⟨_,rfl,?_⟩⟩;have ecomp:((aY (cT d p.owner).legs).all λo=>decide (dg (mQ Pi d.num p.owner) (cT d p.owner).num o=some true))=nh (cT d p.owner):=by
    rw[lu,Rm.Dg,fE];constructor
    .intro h5 o ho
     have:=lz (h5 o (fS.mpr ho));exact Rm.i3.2 ((sndH.look hdH).1 this)
    .intro h5 o ho
     exact dw ((sndH.look hdH).2 (Rm.i3.1 (h5 o (fS.mp ho))))
   rw[ecomp];have lower:=sndi.g.lower hnx;have hsome:Rm.cw mi=((Rm.cw (Rm.eU mi d p.owner)).1,Rm.kS d p.owner++(Rm.cw (Rm.eU mi d p.owner)).2):=sndi.g.Aq hnx;have hsl:(Rm.eU mi d p.owner).deals.length+(Rm.kS d p.owner).length=mi.deals.length:=Rm.Hv sndi.g hnx;have mkH3:=mkH.same s3;have fr3:=(fri.trans fr2).trans (Fr.dE s3);have hhp3:=s3 _ _ hhpH;have hq3:=s3 _ _ hqH;cases hc:nh (cT d p.owner)with
   |true=>
    refine fm ?_;obtain⟨A3,hmm3,_⟩:=vc mkH3;refine⟨_,rfl,m,_,_,rfl,hmm3,Sf _ _ _,_,rfl,fQ (cv.of hq3) (bj (j:=0) rfl) ?_⟩;refine⟨m,Si,cg st (Rm.gf mi d p.owner),_,cT d p.owner,rfl,sndH,hdH,hc,mkH3,λH4 S4 mk4 fr4=>?_⟩;have eM:Rm.eU mi d p.owner=m9 (Rm.gf mi d p.owner) (cT d p.owner):=by unfold Rm.eU;rw[ay hc]
    have eN:Rm.kS d p.owner=[(1,d.num)]:=by unfold Rm.kS;rw[ay hc]
    have mk4:Mk CM CD H4 m S4 (cg st (Rm.eU mi d p.owner)) (jk (mQ Pi d.num p.owner) d.num):=by rw[eM];exact mk4
    have snd4:cy (cg st (Rm.eU mi d p.owner)) (jk (mQ Pi d.num p.owner) d.num):=by
     have hdo:(m9 (Rm.gf mi d p.owner) (cT d p.owner)).deals=Rm.cutD (Rm.gf mi d p.owner).deals d.num:=Rm.IE _ _;rw[eM];exact sndH.m (sndH.g.Ge hdH hc) (Rm.KP _ _) (sndH.o.cut hdo)
    have hp4:=fr4.out hhp3 hpi;have hhp4:=fr4.keep _ _ hhp3 hpi;have hq4:=fr4.gA _ _ hq3;refine⟨_,rfl,.inl ⟨rfl,_,aj.of hhp4⟩,_,rfl,fQ (cv.of hq4) (bj (j:=0) rfl) ⟨(by show 2<=sizeLine;decide),λb hb=>?_⟩⟩
    have s5:ak H4 (upd H4 b (.lst [.int 1,nV d.num])):=ak.new hb;have hhp5:=s5 _ _ hhp4;refine⟨hp,b,_,_,rfl,rfl,hhp5,aR,sle _ (by rw[l5];have:=hlen;simp;omega),?_⟩
    have enews:c9 acc++[V.int 1,nV d.num]=c9 (acc++[(1,d.num)]):=by rw[sI];rfl
    rw[enews];have mk5:=mk4.same s5;have hmem5:∀x∈S4,x≠hp:=λx hx z=>hp4 (z▸hx);have mk6:Mk CM CD (upd (upd H4 b (.lst [.int 1,nV d.num])) hp (.lst (c9 (acc++[(1,d.num)])))) m S4 (cg st (Rm.eU mi d p.owner)) (jk (mQ Pi d.num p.owner) d.num):=mk5.keep λx hx o e=>by rw[aI (hmem5 x hx)];exact e
    have fr6:Fr H S (upd (upd H4 b (.lst [.int 1,nV d.num])) hp (.lst (c9 (acc++[(1,d.num)])))) S4:=by
     have f5:=(fr3.trans fr4).trans (Fr.dE s5);refine⟨λx o e n=>?_,λx xs e=>?_,f5.new⟩
     .rw[aI (cQ e hhp)];exact f5.keep x o e n
     .rw[aI (cQ e hhp)];exact f5.gA x xs e
    have hhp6:(upd (upd H4 b (.lst [.int 1,nV d.num])) hp (.lst (c9 (acc++[(1,d.num)])))) hp=some (.lst (c9 (acc++[(1,d.num)]))):=aR;generalize upd (upd H4 b (.lst [.int 1,nV d.num])) hp (.lst (c9 (acc++[(1,d.num)])))=H6 at mk6 fr6 hhp6;refine⟨_,rfl,m,S4,_,_,rfl,snd4,mk6,λH7 v s7 hv7=>?_⟩;refine⟨_,lower,Rm.eU mi d p.owner,_,S4,acc++[(1,d.num)],v,rfl,rfl,snd4,mk6.same s7,fr6.trans (Fr.dE s7),hp4,s7 _ _ hhp6,?_,?_,hv7⟩
    .rw[hall,hsome,eN];simp
    .rw[eN]at hsl;simp at hsl⊢;omega
   |false=>
    refine fV ?_;have eM:Rm.eU mi d p.owner=Rm.gf mi d p.owner:=by unfold Rm.eU;rw[hc];rfl
    have eN:Rm.kS d p.owner=[]:=by unfold Rm.kS;rw[hc];rfl
    refine⟨_,rfl,m,Si,_,_,rfl,sndH,mkH3,λH7 v s7 hv7=>?_⟩;refine⟨_,lower,Rm.eU mi d p.owner,_,Si,acc,v,rfl,rfl,by rw[eM];exact sndH,by rw[eM];exact mkH3.same s7,fr3.trans (Fr.dE s7),hpi,s7 _ _ hhp3,?_,?_,by rw[eM];exact hv7⟩
    .rw[hall,hsome,eN];simp
    .rw[eN]at hsl;simp at hsl;omega
def Aw(m:aL)(v:V):Prop:=match gE m with
 |none=>v=.bI
 |some d=>v=nV d.num
theorem cy.off(h:cy s P){d:aZ}(hd:d∈s.market.deals):cy (cg s (dv s.market d)) (jk P d.num):=h.m (h.g.off hd) (Rm.xP _ _) (h.o.cut (Rm.uB _ _))
def OU(CM CD:aa):Sp:=λvs H Q z=>∃(m:aa)(S:List aa)(s:aT)(P:List aS),vs=[.ref m]/\cy s P/\Mk CM CD H m S s P/\∀H' v,ak H H'->Aw s.market v->Q v H'
theorem Ww{kk:Nat}(D:Df Pr w K mg base be kk "greatest_on_ring" ["market"] (CF CM CD)):Df Pr w K mg base be kk "greatest_on_ring" ["market"] (OU CM CD):=D.imp λvs H Q E ⟨m,S,s,P,e,snd,mk,k⟩=>⟨m,S,s,P,e,snd.wf,mk,λH' v s' g=>k H' v s' (V6 snd g)⟩
abbrev Q7:List ae:=["market","happened","number"]
theorem IK:bX Q7 ["market"] (bb y3):=⟨rfl,rfl,rfl,by decide+kernel,rfl,by decide+kernel,by decide+kernel⟩
def mK(CM CD:aa):Sp:=λvs H Q z=>∃(m:aa)(S:List aa)(s:aT)(P:List aS),vs=[.ref m]/\cy s P/\Mk CM CD H m S s P/\
 ∀H' S' P' p,Mk CM CD H' m S' (cg s (dk s.market).1) P'->cy (cg s (dk s.market).1) P'->Fr H S H' S'->H p=none->p∉S'->H' p=some (.lst (c9 (dk s.market).2))->Q (.ref p) H'
theorem vz{H0:Hp}{m hp:aa}{S0 S:List aa}{vs us:List V}(mk:Mk CM CD H m S s P)(fr:Fr H0 S0 H S)(hh:H0 hp=none)(ho:hp∉S)(hv:H hp=some (.lst vs)):Mk CM CD (upd H hp (.lst us)) m S s P/\Fr H0 S0 (upd H hp (.lst us)) S/\(upd H hp (.lst us)) hp=some (.lst us):=⟨mk.keep λx hx o e=>by rw[aI (show x≠hp from λz=>ho (by rw[<-z];exact hx))];exact e,⟨λx o e n=>by rw[aI (cQ e hh)];exact fr.keep x o e n,λx xs e=>by rw[aI (cQ e hh)];exact fr.gA x xs e,fr.new⟩,aR⟩
theorem UJ(G:Gd K mg "settle" y3)(T:Tx K mg CM CD)(d_hps:Df Pr w K mg base be 4 "hold_parts" ["market"] (Iv CM CD))(d_gr:Df Pr w K mg base be 5 "greatest_on_ring" ["market"] (CF CM CD))(d_off:Mt Pr w K mg base be 2 CM "call_off" ["self","number"] (yo CM CD)):Df Pr w K mg base be 6 "settle" ["market"] (mK CM CD):=by
 obtain⟨f,fd,F,hm⟩:=G.ex;refine⟨f,fd,F.dn IK (λvs H Q E h=>?_) (λcdv A outer s H vs Q E hr h=>?_),hm,F.kp,F.binds (bn1 rfl)⟩
 .apply gM h;intro y y y y y;rfl
 .intro X0;apply gM h;intro m S st P zz;refine gy zz λsnd mk k=>?_
  have nd:=IK.nd;have d_gr:=Ww d_gr;have hr4:c6 4 _:=hr.mono (by decide)
  refine⟨_,aK (bW (i:=1) nd rfl (aV rfl) (bQ d_hps hr4 b0 (ai (pv 0) au))) (aK (bW (i:=2) nd rfl (aV rfl) (bQ d_gr hr b0 (ai (pv 0) au))) (aK (xQ jV (k4 (wK (pv 2))) (aK (cG (jz (pv 0) T.cM d_off (hr.mono (by decide)) b0 (ai (pv 2) au))) (aK (cG (gI gU lH lI jY (pv 1) (ai (cW (ai (fC T.PR) (ai (pv 2) au))) au))) (aK (cG (gI gU lH lI jY (pv 1) (ai (bQ d_hps hr4 b0 (ai (pv 0) au)) au))) (aX (bW (i:=2) nd rfl (aV rfl) (bQ d_gr hr b0 (ai (pv 0) au)))))))) (aX (bT (pv 1))))),?_⟩
  refine⟨_,rfl,m,S,st,P,rfl,snd,mk,λH1 S1 P1 hp mk1 snd1 fr1 hhp hpS hh1=>?_⟩;refine⟨_,rfl,m,S1,_,P1,rfl,snd1,mk1,λH2 v s2 hv=>?_⟩;have c5:=snd.g.c5;have hl0:=(bo.so _ (bK _) snd.g).1
  let W:IV:=λmm σ H'=>∃(c:aL)(Pi:List aS)(Si:List aa)(acc:News)(v:V),σ=[some (.ref m),some (.ref hp),some v]/\mm=c.deals.length/\cy (cg st c) Pi/\Mk CM CD H' m Si (cg st c) Pi/\Fr H S H' Si/\hp∉Si/\H' hp=some (.lst (c9 acc))/\dk st.market=((nP c).1,acc++(nP c).2)/\acc.length+c.deals.length<=16/\Aw c v
  refine⟨W,⟨_,(Rm.cw st.market).1,P1,S1,(Rm.cw st.market).2,v,rfl,rfl,snd1,mk1.same s2,fr1.trans (Fr.dE s2),hpS,s2 _ _ hh1,Mj snd.g,by omega,hv⟩,λmm σ H' pv=>?_⟩
  obtain⟨c,Pi,Si,acc,v,rfl,rfl,sndi,mki,fri,hpi,hhi,hset,hlen,hyv⟩:=pv;refine⟨_,rfl,_,rfl,?_⟩;unfold Aw at hyv;cases hy:gE c with
  |none=>
   rw[hy]at hyv;subst hyv;refine fV ⟨_,rfl,?_⟩;have et:nP c=(c,[]):=by unfold nP;rw[hy]
   rw[et]at hset;have e1:(dk st.market).1=c:=by rw[hset]
   have e2:(dk st.market).2=acc:=by rw[hset];simp
   exact k H' Si Pi hp (by rw[e1];exact mki) (by rw[e1];exact sndi) fri hhp hpi (by rw[e2];exact hhi)
  |some d=>
   rw[hy]at hyv;have hyv:v=nV d.num:=hyv;subst hyv;refine fm ?_;have hd:d∈(cg st c).market.deals:=Rm.p0 hy;obtain⟨A1,hmm,hmS⟩:=vc mki;refine⟨λσ' H''=>∃m',m'<c.deals.length/\W m' σ' H'',λσ' H'' z=>z,?_⟩;refine⟨_,rfl,m,_,_,rfl,hmm,Bk _ _ _,_,rfl,?_⟩;refine⟨m,Si,cg st c,Pi,d,rfl,sndi,hd,mki,λH3 S3 mk3 fr3=>?_⟩;have snd3:=sndi.off hd;have offl:(dv c d).deals.length+1=c.deals.length:=sndi.g.uE hd;have hh3:=fr3.keep _ _ hhi hpi;have hp3:=fr3.out hhi hpi;have fr3':=fri.trans fr3;refine⟨_,rfl,.inl ⟨rfl,_,aj.of hh3⟩,_,rfl,(by show 2<=sizeLine;decide),λb hb=>?_⟩
   have s4:ak H3 (upd H3 b (.lst [.int 2,nV d.num])):=ak.new hb;refine⟨hp,b,_,_,rfl,rfl,s4 _ _ hh3,aR,sle _ (by rw[l5];simp;omega),?_⟩
   have enews:c9 acc++[V.int 2,nV d.num]=c9 (acc++[(2,d.num)]):=by rw[sI];rfl
   rw[enews];obtain⟨mk5,fr5,hh5⟩:=vz (us:=c9 (acc++[(2,d.num)])) (mk3.same s4) (fr3'.trans (Fr.dE s4)) hhp hp3 (s4 _ _ hh3);generalize upd (upd H3 b (.lst [.int 2,nV d.num])) hp (.lst (c9 (acc++[(2,d.num)])))=H5 at mk5 fr5 hh5;refine⟨_,rfl,.inl ⟨rfl,_,aj.of hh5⟩,_,rfl,m,S3,cg (cg st c) (dv c d),jk Pi d.num,rfl,snd3,mk5,λH6 S6 P6 p6 mk6 snd6 fr6 hp6 hpS6 hh6=>?_⟩;have hlo:(Rm.cw (dv c d)).1.deals.length+(Rm.cw (dv c d)).2.length=(dv c d).deals.length:=(bo.so _ (bK _) snd3.g).1;have hh6':=fr6.keep _ _ hh5 hp3;have hp6':=fr6.out hh5 hp3;refine⟨hp,p6,_,_,rfl,rfl,hh6',hh6,sle _ (by rw[l5];show _+(c9 (Rm.cw (dv c d)).2).length<=_;rw[l5];simp;omega),?_⟩
   have enews2:c9 (acc++[(2,d.num)])++c9 (Rm.cw (dv c d)).2=c9 ((acc++[(2,d.num)])++(Rm.cw (dv c d)).2):=(sI _ _).symm;obtain⟨mk7,fr7,hh7⟩:=vz (us:=c9 (acc++[(2,d.num)])++c9 (Rm.cw (dv c d)).2) mk6 (fr5.trans fr6) hhp hp6' hh6';have hh7:=hh7.trans (cq (λz=>some (HO.lst z)) enews2);refine⟨_,rfl,m,S6,_,P6,rfl,snd6,mk7,λH8 v s8 hv8=>?_⟩;refine⟨_,?_,(Rm.cw (dv c d)).1,P6,S6,(acc++[(2,d.num)])++(Rm.cw (dv c d)).2,v,rfl,rfl,snd6,mk7.same s8,fr7.trans (Fr.dE s8),hp6',s8 _ _ hh7,?_,?_,hv8⟩
   .omega
   .rw[hset]
    have et:nP c=((dk (dv c d)).1,(2,d.num)::(dk (dv c d)).2):=by unfold nP;rw[hy]
    have es:=Mj (show bo _ _ _ (dv c d) from snd3.g);rw[et,es];simp
   .simp;omega
theorem const_comp(n:Nat):(cR n).filterMap (λz=>some (V.int 0))=(ig n 0).map nV:=by
 induction n with
 |zero=>rfl
 |succ n ih=>rw[pq,NP,ih,aag,bZ];rfl
def gY(gv:aa)(ps:List Nat)(rs:List aa)(F:Nat->List Nat):List (aa×HO):=(gv,.dK ((ps.zip rs).map λp=>(bG (p.1:Int),.ref p.2)))::(ps.zip rs).map λp=>bJ p.2 (F p.1)
theorem Wh{ps:List Nat}{rs:List aa}(hl:rs.length=ps.length)(hn:ps.Nodup)(ho:o∈ps):∃a L1 L2,(o,a)∈ps.zip rs/\ps.zip rs=L1++(o,a)::L2/\(∀p∈L1,p.1≠o)/\∀p∈L2,p.1≠o:=by
 induction ps generalizing rs with
 |nil=>cases ho
 |cons x r ih=>
  cases rs with
  |nil=>simp at hl
  |cons a rs=>
   rw[gC]at hn;rcases bM.mp ho with rfl|ho
   .exact⟨a,[],r.zip rs,by simp,rfl,λy h=>absurd h (by simp),λp hp z=>hn.1 (z▸(nu hp).1)⟩
   .obtain⟨b,L1,L2,h1,h2,h3,h4⟩:=ih (by simpa using hl) hn.2 ho
    refine⟨b,(x,a)::L1,L2,by simp[h1],by rw[FN,h2];rfl,λp hp=>?_,h4⟩
    rcases bM.mp hp with rfl|hp
    .exact λz=>hn.1 (by rw[show x=o from z];exact ho)
    .exact h3 p hp
abbrev KR:List ae:=["self","legs","gives","giver","amount","good","taker","owner","name"]
theorem K2:bX KR ["self","legs"] (bb u0):=⟨rfl,rfl,rfl,by decide+kernel,rfl,by decide+kernel,by decide+kernel⟩
structure ql(H:Hp)(p:aa)(ts:List aa)(ls:List bN):Prop where
 len:ts.length=ls.length
 lst:H p=some (.lst (ts.map V.ref))
 tup:∀(i:Nat)(t:aa)(l:bN),ts[i]? =some t->ls[i]? =some l->H t=some (.tup (gW l))
theorem ql.same{H':Hp}{p:aa}{ts:List aa}{ls:List bN}(h:ql H p ts ls)(s:ak H H'):ql H' p ts ls:=⟨h.len,s _ _ h.lst,λi t l a b=>s _ _ (h.tup i t l a b)⟩
def Bs(CM CD:aa):Sp:=λvs H Q z=>∃(m lg:aa)(ts:List aa)(ls:List bN)(s:aT)(P:List aS),vs=[.ref m,.ref lg]/\iM CM CD H m s P/\s.goods.length<=6/\ql H lg ts ls/\ls.length<=12/\(∀x∈ls,x.good<s.goods.length)/\
 ∀H' gv rs,ak H H'->rs.length=(aY ls).length->Hs H' (gY gv (aY ls) rs (cj s.goods.length ls))->(∀b∈(gY gv (aY ls) rs (cj s.goods.length ls)).map bg,H b=none)->Q (.ref gv) H'
theorem PM(ng:Nat)(ls:List bN)(o:Nat):(cj ng ls o).length=ng:=by unfold cj;simp
theorem Rl{ng:Nat}{ls:List bN}(h:o∉aY ls):cj ng ls o=ig ng 0:=by
 unfold cj;rw[List.eq_replicate_iff];refine⟨by simp,λx hx=>?_⟩
 obtain⟨g,y,rfl⟩:=bw.mp hx;exact Rm.Ek (λz=>h (fS.mpr z)) g
theorem Lm{ng:Nat}{ls:List bN}{x:bN}(h:x.from_≠o):cj ng (ls++[x]) o=cj ng ls o:=by
 unfold cj;refine i5 λg y=>?_;rw[Rm.qo,Rm.nD,aq (λz=>h z.1),Rm.r9];rfl
theorem Vl{ng:Nat}{ls:List bN}{x:bN}(hg:x.good<ng):(cj ng ls x.from_).set x.good (gives ls x.from_ x.good+x.n)=cj ng (ls++[x]) x.from_:=by
 unfold cj;refine EK λg=>?_;rw[List.getElem?_set,bz,bz,aA,sZ];by_cases e:x.good=g
 .subst e
  rw[ay rfl,ay hg,mn hg];show some _=some (gives (ls++[x]) x.from_ x.good);rw[Rm.qo,Rm.nD,ay ⟨rfl,rfl⟩,Rm.r9];rfl
 .rw[aq e]
  by_cases hg':g<ng
  .rw[mn hg']
   show some (gives ls x.from_ g)=some (gives (ls++[x]) x.from_ g);rw[Rm.qo,Rm.nD,aq (λz=>e z.2),Rm.r9];rfl
  .rw[nX (by simp;omega)];rfl
theorem Pb(l:List bN)(x:bN):aY (l++[x])=c4 (c4 (aY l) x.from_) x.to_:=by unfold aY;rw[sY];rfl
theorem LQ{ps:List Nat}{rs:List aa}(hl:rs.length=ps.length)(o:Nat):(dC ((ps.zip rs).map λp:Nat×aa=>((bG (p.1:Int):Key),V.ref p.2)) (bG (o:Int))).isSome=ps.contains o:=by
 rw[t5 (k:=λp:Nat×aa=>(bG (p.1:Int):Key)) (v:=λp=>V.ref p.2),pK];induction ps generalizing rs with
 |nil=>rfl
 |cons x r ih=>
  cases rs with
  |nil=>simp at hl
  |cons a rs=>
   rw[FN,lr,NQ];by_cases h:o=x
   .subst h;simp
   .rw[cU (λe=>h (by have:=lD e;omega)),show(o==x)=false by simpa using h,Np]
    exact ih (by simpa using hl)
theorem U1(G:Gm K CM "gives_of" "Market.gives_of" u0)(T:Tx K mg CM CD):Mt Pr w K mg base be 1 CM "gives_of" ["self","legs"] (Bs CM CD):=by
 obtain⟨f,fd,F,hm⟩:=G.ex;refine⟨f,fd,F.dn K2 (λvs H Q E h=>?_) (λcdv A outer s H vs Q E hr h=>?_),hm,F.binds (bn2 rfl)⟩
 .apply eT h;intro u u u u u u u;rfl
 .intro X0;apply eT h;intro m lg ts ls st P zz;refine pk zz λmk hg6 ll h12 hgood k=>?_
  have nd:=K2.nd;have hu:=ir hr;refine⟨_,aK (bW (i:=2) nd rfl (aV rfl) yB) (aK (g7 jV rfl (fH (pv 1)) (lS rfl (dA (bY (i:=3) nd rfl (aV rfl)) (dA (bY (i:=4) nd rfl (aV rfl)) (dA (bY (i:=5) nd rfl (aV rfl)) (dA (bY (i:=6) nd rfl (aV rfl)) ji))))) (aK (g7 jV rfl (WE (jl (ai (pv 3) (ai (pv 6) au)))) (bY (i:=7) nd rfl (aV rfl)) (aX (kO (k4 (rp hu (pv 7) (pv 2))) (aX (rR hu (pv 2) (pv 7) (fw rfl nd (fH (bx (pv 0) rfl)) (eI (N:=KR) (sc:=bb u0) (own:=[("name",8)]) (by decide+kernel)) (λu u u u u=>bY (i:=8) nd rfl (aV rfl) (.inr rfl)) (λu u u u u=>fU) (λu u u u u=>aQ)) rfl)) mF))) (aX (jg (iU hu (pv 2) (pv 3) (λu u=>rfl)) (pv 5) jo (pv 4) nR set_list)))) (aX (bT (pv 2)))),?_⟩
  intro gv hgv;have s0:ak H (upd H gv (.dK [])):=ak.new hgv;have hg0:(upd H gv (.dK [])) gv=some (.dK []):=aR;generalize upd H gv (.dK [])=H0 at s0 hg0;have ll0:=ll.same s0;refine⟨_,rfl,lg,rfl,⟨_,aj.of ll0.lst⟩,?_⟩
  let W:IV:=λi σ H'=>∃(v3 v4 v5 v6 v7:Option V)(rs:List aa),σ=[some (.ref m),some (.ref lg),some (.ref gv),v3,v4,v5,v6,v7,none]/\(∀b o,H b=some o->H' b=some o)/\rs.length=(aY (ls.take i)).length/\Hs H' (gY gv (aY (ls.take i)) rs (cj st.goods.length (ls.take i)))/\∀a∈rs,H a=none
  refine g0 (fJ (K:=K) (a:=lg) (xs:=ts.map V.ref)) (W)
   ⟨none,none,none,none,none,[],rfl,s0,rfl,⟨by simp[gY],λz hz=>?_⟩,λu z=>absurd z (by simp)⟩ (λi σ H' u ⟨g,d,Z,Y,X,U,S,z,M⟩=>aj.of (z _ _ ll.lst)) (λi σ H' x H'' hi pv y=>?_) (λσ H' pv=>?_)
  .have:z=(gv,HO.dK []):=by simpa[gY,aY]using hz
   subst this;exact hg0
  .apply eT pv;intro v3 v4 v5 v6 v7 rs zz;refine lP zz λkp rl hG rn=>?_
   obtain⟨rfl,hx⟩:=y;rw[bz]at hx;obtain⟨t,ht,rfl⟩:=di.mp hx;have hil:i<ls.length:=by rw[<-ll.len];exact(cN.mp ht).1
   obtain⟨x,hlx⟩:∃x,ls[i]? =some x:=⟨ls[i],bH hil⟩;have htup:=kp _ _ (ll.tup i t x ht hlx);have hxg:=hgood x (cZ hlx);refine⟨t,_,rfl,cv.of htup,rfl,_,_,rfl,_,_,rfl,_,_,rfl,_,_,rfl,rfl,?_⟩;refine⟨_,rfl,_,rfl,(by show 2<=sizeLine;decide),λt2 ht2=>⟨t2,rfl,⟨_,cv.of aR⟩,?_⟩⟩
   have kp2:∀b o,H b=some o->(upd H'' t2 (.tup [nV x.from_,nV x.to_])) b=some o:=λb o e=>(ak.new ht2) _ _ (kp b o e);have hG2:=hG.same (ak.new (o:=.tup [nV x.from_,nV x.to_]) ht2);have ht2':(upd H'' t2 (.tup [nV x.from_,nV x.to_])) t2=some (.tup [nV x.from_,nV x.to_]):=aR;generalize upd H'' t2 (.tup [nV x.from_,nV x.to_])=H2 at kp2 hG2 ht2';have plen:∀l:List bN,l.length<=12->(aY l).length<=24:=λl hl=>by have:=y8 l;omega
   have tk12:(ls.take i).length<=12:=by rw[jT];omega
   let W:IV:=λj σ H'=>∃(v7:Option V)(rs:List aa),σ=[some (.ref m),some (.ref lg),some (.ref gv),some (nV x.from_),some (nV x.n),some (nV x.good),some (nV x.to_),v7,none]/\(∀b o,H b=some o->H' b=some o)/\H' t2=some (.tup [nV x.from_,nV x.to_])/\rs.length=(([x.from_,x.to_].take j).foldl c4 (aY (ls.take i))).length/\Hs H' (gY gv (([x.from_,x.to_].take j).foldl c4 (aY (ls.take i))) rs (cj st.goods.length (ls.take i)))/\∀a∈rs,H a=none
   refine g0 (Ul (K:=K) (a:=t2) (xs:=[nV x.from_,nV x.to_])) (W)
    ⟨v7,rs,rfl,kp2,ht2',rl,hG2,rn⟩ (λj σ H' u ⟨g,d,Z,Y,z,X⟩=>cv.of z) (λj σ H' y H3 hj pv yy=>?_) (λσ H' pv=>?_)
   .apply fz pv;intro v7 rs zz;refine mI zz λkp3 ht3 rl3 hG3 rn3=>?_
    obtain⟨rfl,hy⟩:=yy;obtain⟨o,ho,rfl⟩:∃o,[x.from_,x.to_][j]? =some o/\y=nV o:=by
     match j,hy with
     |0,hy=>exact⟨x.from_,rfl,(dQ hy).symm⟩
     |1,hy=>exact⟨x.to_,rfl,(dQ hy).symm⟩
     |j+2,hy=>simp at hy
    have estep:([x.from_,x.to_].take (j+1)).foldl c4 (aY (ls.take i))=c4 (([x.from_,x.to_].take j).foldl c4 (aY (ls.take i))) o:=by rw[take_snoc ho,sY];rfl
    have hgv3:H3 gv=some (.dK (((([x.from_,x.to_].take j).foldl c4 (aY (ls.take i))).zip rs).map λp=>(bG (p.1:Int),.ref p.2))):=hG3.2 (gv,_) (by simp[gY])
    have ndp:(([x.from_,x.to_].take j).foldl c4 (aY (ls.take i))).Nodup:=by
     have:∀(l:List Nat)(a:List Nat),a.Nodup->(l.foldl c4 a).Nodup:=by
      intro l;induction l with
      |nil=>intro a h;exact h
      |cons z r ih=>intro a h;exact ih _ (AH h z)
     exact this _ _ (pZ _)
    have lenp:(([x.from_,x.to_].take j).foldl c4 (aY (ls.take i))).length<=26:=by
     have h1:∀(a:List Nat)(o:Nat),(c4 a o).length<=a.length+1:=λa o=>by unfold c4;split<;>simp
     have aux:∀(l:List Nat)(a:List Nat),(l.foldl c4 a).length<=a.length+l.length:=by
      intro l;induction l with
      |nil=>intro a;simp
      |cons z r ih=>intro a;rw[lj];have:=ih (c4 a z);have:=h1 a z;simp;omega
     have:=aux ([x.from_,x.to_].take j) (aY (ls.take i));have h2:([x.from_,x.to_].take j).length<=2:=by rw[jT];simp;omega
     have:=plen _ tk12;omega
    generalize hps:([x.from_,x.to_].take j).foldl c4 (aY (ls.take i))=ps at rl3 hG3 estep hgv3 ndp lenp;refine⟨_,rfl,_,rfl,gv,_,rfl,gX.k (k:=bG (o:Int)) hgv3,_,rfl,?_⟩;refine cJ (c:=¬o∈ps) (by rw[LQ rl3];by_cases z:o∈ps<;>simp[z]) (λh1=>?_) (λh1=>?_)
    .obtain⟨MA,ml,R⟩:=mk.same kp3
     refine⟨_,rfl,bp (bC R) T.cM T.kJ (mH _ _ _) ⟨MA.aG,rfl,⟨_,aj.of (lW R)⟩,λDd hD=>?_⟩⟩;refine fF (fJ (K:=K) (a:=MA.aG) (xs:=st.goods.map tV)) (λH4 s4=>aj.of (s4 _ _ (lW R))) (λu=>some (V.int 0)) (sl _ (by rw[aA];omega)) hD (λq H4 z H5 KY KN hq s4 yz ky kn=>?_) (λH4 s4 hd=>?_)
     .obtain⟨rfl,u⟩:=yz
      exact⟨rfl,fY (ky _ _ rfl (ak.refl _))⟩
     .rw[aA,const_comp]at hd
      have hgv4:=s4 _ _ hgv3;have knew:dC ((ps.zip rs).map λp:Nat×aa=>((bG (p.1:Int):Key),V.ref p.2)) (bG (o:Int))=none:=by
       have:=LQ rl3 o;rw[show ps.contains o=false by simpa using h1]at this
       exact aae.mp (by simpa using this)
      refine⟨_,rfl,_,rfl,gv,_,rfl,k6.k (k:=bG (o:Int)) hgv4 (sl _ (by rw[aA,tX,rl3,wC];omega)),?_⟩
      rw[uI _ knew];have eadd:c4 ps o=ps++[o]:=by unfold c4;rw[aq (by simpa using h1)]
      have gvD:gv≠Dd:=λz=>by rw[<-z,hgv3]at hD;cases hD
      have oN:o∉aY (ls.take i):=λz=>h1 (by
       rw[<-hps];have:∀(l:List Nat)(a:List Nat),o∈a->o∈l.foldl c4 a:=by
        intro l;induction l with
        |nil=>intro a h;exact h
        |cons z r ih=>intro a h;exact ih _ (Dz.mpr (.inl h))
       exact this _ _ z)
      refine⟨_,rs++[Dd],rfl,λb o' e=>?_,?_,?_,?_,λa ha=>?_⟩
      .rw[aI (cQ e hgv)];exact s4 _ _ (kp3 _ _ e)
      .have:t2≠gv:=gL ht3 hgv3 (λz=>nomatch z)
       rw[aI this];exact s4 _ _ ht3
      .rw[estep,eadd,bV,bV,rl3];rfl
      .rw[estep,eadd]
       have p1:Hs H4 ((gv,.dK ((ps.zip rs).map λp=>(bG (p.1:Int),.ref p.2)))::((ps.zip rs).map (λp=>bJ p.2 (cj st.goods.length (ls.take i) p.1))++[bJ Dd (cj st.goods.length (ls.take i) o)])):=by
        have hdd:=hG3.out hD;refine Hs.perm (L:=bJ Dd (cj st.goods.length (ls.take i) o)::gY gv ps rs (cj st.goods.length (ls.take i))) ⟨?_,?_⟩ ?_
        .rw[bS];exact gC.mpr ⟨hdd,hG3.1⟩
        .intro q hq
         rcases bM.mp hq with rfl|hq
         .show H4 Dd=some (.lst _)
          rw[hd,Rl oN]
         .exact s4 _ _ (hG3.2 q hq)
        .unfold gY
         refine(z6 _ _ _).trans (tW _ ?_);exact wB (l₁:=[bJ Dd _])
       have p2:=Hs.put (L1:=[]) (o':=.dK ((ps.zip rs).map (λp=>((bG (p.1:Int):Key),V.ref p.2))++[(bG (o:Int),V.ref Dd)])) p1;unfold gY;rw[wO rl3.symm];simp only[bZ,bS,i7];exact p2
      .rcases b6.mp ha with ha|ha
       .exact rn3 a ha
       .rw[de.mp ha];exact ak.free kp3 hD
    .have eadd:c4 ps o=ps:=by unfold c4;rw[ay (nk.mpr (i9.mp h1))]
     exact⟨_,rs,rfl,kp3,ht3,by rw[estep,eadd];exact rl3,by rw[estep,eadd];exact hG3,rn3⟩
   .apply fz pv;intro v7 rs zz;refine mI zz λkp3 ht3 rl3 hG3 rn3=>?_
    have eps:([x.from_,x.to_].take [nV x.from_,nV x.to_].length).foldl c4 (aY (ls.take i))=aY (ls.take (i+1)):=by rw[take_snoc hlx,Pb];rfl
    rw[eps]at rl3 hG3;have hmem:x.from_∈aY (ls.take (i+1)):=fS.mpr (Rm.xx.2 ⟨x,by rw[take_snoc hlx];simp,.inl rfl⟩)
    obtain⟨a,L1,L2,hz,ez,n1,n2⟩:=Wh rl3 (pZ _) hmem;have ha:H' a=some (.lst ((cj st.goods.length (ls.take i) x.from_).map nV)):=hG3.2 (bJ a (cj st.goods.length (ls.take i) x.from_)) (b8 _ (bw.mpr ⟨(x.from_,a),hz,rfl⟩));have hgv3:H' gv=some (.dK (((aY (ls.take (i+1))).zip rs).map λp=>(bG (p.1:Int),.ref p.2))):=hG3.2 (gv,_) (by simp[gY])
    have hval:dC (((aY (ls.take (i+1))).zip rs).map λp:Nat×aa=>((bG (p.1:Int):Key),V.ref p.2)) (bG (x.from_:Int))=some (.ref a):=by
     refine yM (k:=λp:Nat×aa=>(bG (p.1:Int):Key)) (v:=λp=>V.ref p.2) (x:=(x.from_,a)) ?_ hz;have e3:=NU (l₁:=aY (ls.take (i+1))) (l₂:=rs) (by rw[rl3];exact bK _)
     have:(((aY (ls.take (i+1))).zip rs).map λp:Nat×aa=>(bG (p.1:Int):Key))=(aY (ls.take (i+1))).map λ(n:Nat)=>(bG (n:Int):Key):=by
      conv=>rhs;rw[<-e3,bU]
      rfl
     rw[this];exact z8 _ (λa b h e=>h (by have:=lD e;omega)) (pZ _)
    have hget:gX H' gv (nV x.from_) (some (.ref a)):=by have:=gX.k (k:=bG (x.from_:Int)) hgv3;rw[hval]at this;exact this
    have hcell:((cj st.goods.length (ls.take i) x.from_).map nV)[x.good]? =some (nV (gives (ls.take i) x.from_ x.good)):=by unfold cj;rw[bU,bz,mn hxg];rfl
    refine⟨_,rfl,_,rfl,gv,_,rfl,hget,_,rfl,jj (aj.of ha) hcell ⟨_,rfl,_,_,rfl,rfl,a,_,_,x.good,rfl,rfl,ha,sM (by rw[aA,PM];exact hxg),?_⟩⟩
    refine⟨_,_,_,_,_,rs,rfl,λb o e=>?_,rl3,?_,rn3⟩
    .have haN:H a=none:=rn3 a (nu hz).2
     rw[aI (cQ e haN)];exact kp3 b o e
    .have erow:FT ((cj st.goods.length (ls.take i) x.from_).map nV) x.good (V.int ((gives (ls.take i) x.from_ x.good:Int)+(x.n:Int)))=(cj st.goods.length (ls.take (i+1)) x.from_).map nV:=by rw[take_snoc hlx,<-Vl hxg,wD];rfl
     show Hs (upd H' a (.lst (FT ((cj st.goods.length (ls.take i) x.from_).map nV) x.good (V.int ((gives (ls.take i) x.from_ x.good:Int)+(x.n:Int)))))) _;rw[erow];unfold gY at hG3⊢;have er:((aY (ls.take (i+1))).zip rs).map (λp=>bJ p.2 (cj st.goods.length (ls.take i) p.1))=L1.map (λp=>bJ p.2 (cj st.goods.length (ls.take (i+1)) p.1))++bJ a (cj st.goods.length (ls.take i) x.from_)::L2.map (λp=>bJ p.2 (cj st.goods.length (ls.take (i+1)) p.1)):=by
      rw[ez,bZ,bS]
      congr 1
      .refine i5 λp hp=>?_
       rw[take_snoc hlx,Lm (eW (n1 p hp))]
      .congr 1
       refine i5 λp hp=>?_;rw[take_snoc hlx,Lm (eW (n2 p hp))]
     have er2:((aY (ls.take (i+1))).zip rs).map (λp=>bJ p.2 (cj st.goods.length (ls.take (i+1)) p.1))=L1.map (λp=>bJ p.2 (cj st.goods.length (ls.take (i+1)) p.1))++bJ a (cj st.goods.length (ls.take (i+1)) x.from_)::L2.map (λp=>bJ p.2 (cj st.goods.length (ls.take (i+1)) p.1)):=by rw[ez,bZ,bS]
     rw[er]at hG3;rw[er2];exact Hs.put (L1:=(gv,_)::L1.map (λp=>bJ p.2 (cj st.goods.length (ls.take (i+1)) p.1))) hG3
  .apply eT pv;intro v3 v4 v5 v6 v7 rs zz;refine lP zz λkp rl hG rn=>?_
   rw[aA,ll.len,jv]at rl hG;refine⟨_,rfl,k H' gv rs kp rl hG λb hb=>?_⟩;unfold gY at hb;rw[bS]at hb;rcases bM.mp hb with rfl|hb
   .exact hgv
   .rw[bU]at hb
    obtain⟨p,hp,rfl⟩:=bw.mp hb;exact rn _ (nu hp).2
abbrev Ju:List ae:=["self","number","part","standing"]
theorem Kf:bX Ju ["self","number"] (bb t4):=⟨rfl,rfl,rfl,by decide+kernel,rfl,by decide+kernel,by decide+kernel⟩
def fG(P:List aS)(n:Nat):List aS:=P.filter λx=>x.2.1==n
def Bq(CM CD:aa):Sp:=λvs H Q z=>∃(m:aa)(n:Nat)(s:aT)(P:List aS)(A:MA),vs=[.ref m,nV n]/\P.length<=1000/\Rs H (aE CM CD m A s P)/\H A.aP=some (.dT (b5 P))/\
 ∀(H':Hp)(p:aa)(ts:List aa),ak H H'->ts.length=(fG P n).length->H p=none->H' p=some (.lst (ts.map V.ref))->(∀(i:Nat)(t:aa)(x:aS),ts[i]? =some t->(fG P n)[i]? =some x->H' t=some (.tup [nV x.2.2.1,gk x.2.2.2]))->Q (.ref p) H'
theorem Ua(G:Gm K CM "parts_of" "Market.parts_of" t4)(T:Tx K mg CM CD):Mt Pr w K mg base be 1 CM "parts_of" ["self","number"] (Bq CM CD):=by
 obtain⟨f,fd,F,hm⟩:=G.ex;refine⟨f,fd,F.dn Kf (λvs H Q E h=>?_) (λcdv A outer s H vs Q E hr h=>?_),hm,F.binds (bn2 rfl)⟩
 .apply mz h;intro u u u u u u;rfl
 .intro X0;apply mz h;intro m n st P MA zz;refine lP zz λhPl R hP k=>?_
  have nd:=Kf.nd;refine⟨_,aX (bT (uk (fw rfl nd (HG (bx (pv 0) rfl)) (eI (N:=Ju) (sc:=bb t4) (own:=[("part",2),("standing",3)]) (by decide+kernel)) (λu u u u u=>vd (K:=K) 2 rfl rfl (dA (bY (i:=2) nd rfl (aV rfl) (.inr rfl)) (dA (bY (i:=3) nd rfl (aV rfl) (.inr rfl)) ji))) (λu u u u u=>sf (df iX (bh (yV K rfl) (pv 2) aQ (λu u=>rfl)) (pv 1) (c7 _))) (λu u u u u=>jl (ai (bh (yV K rfl) (pv 2) aQ (λu u=>rfl)) (ai (pv 3) au)))))),?_⟩
  refine⟨MA.aP,.dT (b5 P),hP,lQ dy,λod=>?_⟩;have R0:=R.lock hP dy od;generalize hH0:upd H MA.aP (.bu od (.dT (b5 P)))=H0 at R0;have hP0:H0 MA.aP=some (.bu od (.dT (b5 P))):=by rw[<-hH0];exact aR
  have fresh:∀b,H0 b=none->H b=none:=λb hb=>by
   cases q:H b with
   |none=>rfl
   |some o=>
    by_cases z:b=MA.aP
    .rw[z,hP0]at hb;cases hb
    .rw[<-hH0,aI z,q]at hb;cases hb
  refine⟨_,rfl,bp (bC R0) T.cM T.jw (j2 _ _ _) ⟨MA.aP,od,b5 P,rfl,hP0,λDd hDd=>?_⟩⟩;have kl:(b5 P).length=P.length:=by unfold b5;rw[aA]
  refine rY Jb (λi H'=>ak H0 H'/\∃ts:List aa,ts.length=(fG (P.take i) n).length/\H' Dd=some (.lst (ts.map V.ref))/\∀(j:Nat)(t:aa)(x:aS),ts[j]? =some t->(fG (P.take i) n)[j]? =some x->H' t=some (.tup [nV x.2.2.1,gk x.2.2.2]))
   ⟨ak.new hDd,[],rfl,aR,λj t x h=>by simp at h⟩ (λi H' u z=>z.1 _ _ hP0) (λi H' x H'' hi pv y=>?_) (λH' pv=>?_)
  .obtain⟨s1,ts,tl,hd,ht⟩:=pv
   obtain⟨Tt,q,key,v,hk,hq,rfl,hT,rfl⟩:=y;unfold b5 at hk;rw[bz]at hk;obtain⟨x,hx,e⟩:=di.mp hk;injection e with e1 e2
   subst e1 e2;have s2:ak H' (upd H' Tt (.tup [.ref q,gk x.2.2.2])):=ak.new hT;have hq2:=s2 _ _ hq;refine⟨Tt,_,rfl,cv.of aR,rfl,_,_,rfl,_,_,rfl,rfl,rfl,?_⟩;generalize upd H' Tt (.tup [.ref q,gk x.2.2.2])=H2 at s2 hq2;have tk:fG (P.take (i+1)) n=if x.2.1=n then fG (P.take i) n++[x]else fG (P.take i) n:=by
    unfold fG;rw[take_snoc hx,aad,fZ,List.filter_nil];by_cases c:x.2.1=n
    .rw[ay (by simpa using c),ay c]
    .rw[aq (by simpa using c),aq c,oo]
   refine⟨_,rfl,fQ (cv.of hq2) (bj (j:=0) rfl) ⟨_,rfl,rfl,_,rfl,?_⟩⟩;refine cJ (c:=x.2.1=n) (jr.mpr ⟨λz=>by have:=V.int.inj z;omega,λz=>by rw[z];rfl⟩) (λh1=>?_) (λh1=>?_)
   .refine⟨_,rfl,fQ (cv.of hq2) (bj (j:=1) rfl) ⟨_,rfl,(by show 2<=sizeLine;decide),λt ht2=>?_⟩⟩
    have s3:ak H2 (upd H2 t (.tup [nV x.2.2.1,gk x.2.2.2])):=ak.new ht2;have hdd:t≠Dd:=λz=>by rw[z,s2 _ _ hd]at ht2;cases ht2
    refine⟨ts.map V.ref,s3 _ _ (s2 _ _ hd),sl _ (by rw[aA,tl];have:=tp (λx:aS=>x.2.1==n) (P.take i);rw[jT]at this;show(fG (P.take i) n).length<=_;unfold fG;omega),λb o e=>?_,ts++[t],?_,?_,λj t' x' hj hx'=>?_⟩
    .rw[aI (cQ e hDd)];exact s3 _ _ (s2 _ _ (s1 _ _ e))
    .rw[tk,ay h1,bV,bV,tl];rfl
    .rw[aR,bZ];rfl
    .rw[tk,ay h1]at hx'
     by_cases c:j<ts.length
     .rw[Nc c]at hj
      rw[Nc (by omega)]at hx'
      have h5:=ht j t' x' hj hx';have:t'≠Dd:=λz=>by rw[z,hd]at h5;cases h5
      rw[aI this];exact s3 _ _ (s2 _ _ h5)
     .have hj':j=ts.length:=by
       have:=(cN.mp hj).1;rw[bV]at this;simp at this;omega
      subst hj';have e1:t=t':=by simpa using hj
      have e2:x=x':=by rw[tl]at hx';simpa using hx'
      subst e1 e2;rw[aI hdd];exact aR
   .refine⟨s1.trans s2,ts,by rw[tk,aq h1];exact tl,s2 _ _ hd,λj t x' hj hx'=>?_⟩
    rw[tk,aq h1]at hx';exact s2 _ _ (ht j t x' hj hx')
  .obtain⟨s1,ts,tl,hd,ht⟩:=pv
   rw[kl,jv]at tl ht;have hDP:Dd≠MA.aP:=λz=>by rw[z,hP0]at hDd;cases hDd
   refine⟨s1 _ _ hP0,k _ Dd ts (ak.unlock (od:=od) hP (by rw[hH0];exact s1)) tl (fresh _ hDd) (by rw[aI hDP];exact hd) λi t x h1 h2=>?_⟩
   have h5:=ht i t x h1 h2;have:t≠MA.aP:=gL h5 (s1 _ _ hP0) (λz=>nomatch z);rw[aI this];exact h5
theorem Su:bX ["self","number","legs","last_tick","gives"] ["self","number","legs","last_tick","gives"] (bb vt):=⟨rfl,rfl,rfl,by decide+kernel,rfl,by decide+kernel,by decide+kernel⟩
def BE(CD:aa):Sp:=λvs H Q z=>∃(p dx:aa)(a b c d:V),vs=[.ref p,a,b,c,d]/\H p=some (.ins CD dx [])/\∀H',H' p=some (.ins CD dx [("number",a),("legs",b),("last_tick",c),("gives",d)])->(∀x o,H x=some o->x≠p->H' x=some o)->Q .bI H'
theorem UG{f:aa}{fd:fP}(F:jL K "__init__" "Deal.__init__" vt f fd)(T:Tx K mg CM CD):eO Pr w K mg base be 1 f fd ["self","number","legs","last_tick","gives"] (BE CD):=by
 refine F.dn Su (λvs H Q E h=>?_) (λcdv A outer s H vs Q E hr h=>?_)
 .apply eT h;intro z z z z z z z;rfl
 .intro X0;apply eT h;intro p dx a b c d zz;refine jx zz λhp k=>?_
  refine⟨_,aK (jm (pv 0) (pv 1) rfl) (aK (jm (pv 0) (pv 2) rfl) (aK (jm (pv 0) (pv 3) rfl) (aX (jm (pv 0) (pv 4) rfl)))),?_⟩;refine⟨_,rfl,_,rfl,p,CD,dx,_,rfl,hp,T.cD,T.my,(by decide),?_⟩
  refine⟨_,rfl,_,rfl,p,CD,dx,_,rfl,aR,T.cD,T.nQ,(by show 1<1000;decide),?_⟩
  refine⟨_,rfl,_,rfl,p,CD,dx,_,rfl,aR,T.cD,T.A7,(by show 2<1000;decide),?_⟩
  refine⟨_,rfl,_,rfl,p,CD,dx,_,rfl,aR,T.cD,T.iu,(by show 3<1000;decide),?_⟩
  refine k _ aR λx o e n=>?_;rw[aI n,aI n,aI n,aI n];exact e
abbrev XO:List ae:=["self","legs","ticks","deal"]
theorem Lf:bX XO ["self","legs","ticks"] (bb xj):=⟨rfl,rfl,rfl,by decide+kernel,rfl,by decide+kernel,by decide+kernel⟩
def Ed(s:aT)(ls:List bN)(k:Nat):aZ:={num:=s.next,legs:=ls,until_:=s.now+k,parts:=[]}
def oP(s:aT)(ls:List bN)(k:Nat):aT:={s with market:={s.market with deals:=s.market.deals++[Ed s ls k]},next:=s.next+1}
def Ka(CM CD:aa):Sp:=λvs H Q z=>∃(m lg:aa)(S:List aa)(ts:List aa)(ls:List bN)(k:Nat)(s:aT)(P:List aS),vs=[.ref m,.ref lg,nV k]/\cy s P/\s.goods.length=s.market.goods/\Mk CM CD H m S s P/\Hs H (fD lg ts ls)/\(∀b∈(fD lg ts ls).map bg,b∉S)/\ts.length=ls.length/\ls.length<=12/\(∀x∈ls,x.good<s.goods.length)/\s.market.deals.length<16/\
 ∀(H':Hp)(a:aa)(S':List aa),Mk CM CD H' m S' (oP s ls k) P->(∃D:DA,D.a=a/\ek D=cx (Ed s ls k)/\oV D/\Rs H' (cE CD s.market.goods D)/\H' D.gv=some (.dK (cz D)))->Fr H (S++(fD lg ts ls).map bg) H' S'->Q (.ref a) H'
theorem C6(A:MA)(a b:Nat):(b7 A a b).lookup ("gives_of":ae)=none:=by rfl
theorem Qu(G:Gi K CD "Deal.__init__" vt)(T:Tx K mg CM CD):r0 Pr w K mg base be 1 CD ["self","number","legs","last_tick","gives"] (BE CD):=by
 obtain⟨f,fd,F,M⟩:=G.ex;exact⟨f,fd,UG F T,M,F.binds λz z z z z z us hl=>match us,hl with|[_,_,_,_,_],_=>rfl⟩
def mV(A:MA)(D:DA):MA:={A with ds:=A.ds++[D]}
theorem SR(G:Gm K CM "add_deal" "Market.add_deal" xj)(T:Tx K mg CM CD)(d_deal:r0 Pr w K mg base be 1 CD ["self","number","legs","last_tick","gives"] (BE CD))(iu:Mt Pr w K mg base be 1 CM "gives_of" ["self","legs"] (Bs CM CD)):Mt Pr w K mg base be 3 CM "add_deal" ["self","legs","ticks"] (Ka CM CD):=by
 obtain⟨f,fd,F,hm⟩:=G.ex;refine⟨f,fd,F.dn Lf (λvs H Q E h=>?_) (λcdv A outer s H vs Q E hr h=>?_),hm,F.binds (bn3 rfl)⟩
 .apply xw h;intro _ _ _ _ _ _ _ _ _;rfl
 .intro X0;apply xw h;intro m lg S ts ls tk st P zz;refine sH zz λsnd hgl mk hleg hdis tsl l12 hgd zz=>jx zz λhlt k=>?_
  have nd:=Lf.nd;have hu:=ir hr;refine⟨_,aK (bW (i:=3) nd rfl (aV rfl) (QH d_deal hr T.mD b0 (ai (bx (pv 0) rfl) (ai (pv 1) (ai (eG mx (bx (pv 0) rfl) (pv 2)) (ai (jz (pv 0) T.cM iu (hr.mono (by decide)) b0 (ai (pv 1) au)) au)))))) (aK (rR hu (bx (pv 0) rfl) (bx (pv 3) rfl) (pv 3) rfl) (aK (JL (pv 0) aQ Ia) (aX (bT (pv 3))))),?_⟩
  obtain⟨MA,ml,hs,rfl⟩:=id mk;have R:=hs.rs;have ll:ql H lg ts ls:=⟨tsl,hleg.2 (lg,_) (by simp[fD]),λi t l h1 h2=>hleg.2 (t,.tup (gW l)) (b8 _ (bw.mpr ⟨(t,l),cZ (i:=i) (by rw[mj];exact⟨h1,h2⟩),rfl⟩))⟩
  have g6:st.goods.length<=6:=by rw[hgl];exact snd.goods
  refine⟨_,rfl,m,CM,MA.dm,_,_,rfl,bC R,T.cM,T.AF,Je _ _ _,_,rfl,_,rfl,bp (bC R) T.cM T.rE (vx _ _ _) ⟨_,rfl,_,_,rfl,rfl,_,rfl,m,MA.dm,_,rfl,bC R,C6 _ _ _,_,rfl,m,lg,ts,ls,st,P,rfl,mk.rd,g6,ll,l12,hgd,λH1 gv rs s1 rl hG hGn=>?_⟩⟩;intro x dx hx hdx hne;have x1:∀b o,H1 b=some o->b≠x:=λb o e=>cQ e hx;refine⟨x,dx,_,_,_,_,rfl,aR,λH3 hx3 k3=>?_⟩;have kp3:∀b o,H1 b=some o->H3 b=some o:=λb o e=>k3 b o (by rw[aI (x1 b o e),aI (cQ e hdx)];exact e) (x1 b o e)
  refine⟨rfl,?_⟩
  let D:DA:=⟨x,dx,lg,gv,ts,rs,st.next,st.now+tk,ls⟩
  have hA:Hs H (aE CM CD m MA st P++fD lg ts ls):=hs.app hleg hdis;have hB:Hs H1 ((aE CM CD m MA st P++fD lg ts ls)++gY gv (aY ls) rs (cj st.goods.length ls)):=(hA.same s1).app hG λc hc=>hA.out (hGn c hc);have hC:Hs H3 ((x,HO.ins CD dx [("number",nV st.next),("legs",.ref lg),("last_tick",.int ((st.now:Int)+(tk:Int))),("gives",.ref gv)])::((aE CM CD m MA st P++fD lg ts ls)++gY gv (aY ls) rs (cj st.goods.length ls))):=by
   refine⟨?_,λp hp=>?_⟩
   .rw[bS];exact gC.mpr ⟨hB.out hx,hB.1⟩
   .rcases bM.mp hp with rfl|hp
    .exact hx3
    .exact kp3 _ _ (hB.2 p hp)
  have hD:Hs H3 (aE CM CD m MA st P++cE CD st.market.goods D):=by
   refine hC.perm ?_;have e1:cE CD st.market.goods D=(x,HO.ins CD dx [("number",nV st.next),("legs",.ref lg),("last_tick",.int ((st.now:Int)+(tk:Int))),("gives",.ref gv)])::(gv,.dK (((aY ls).zip rs).map λp=>(bG (p.1:Int),.ref p.2)))::(fD lg ts ls++((aY ls).zip rs).map λp=>bJ p.2 (cj st.goods.length ls p.1)):=by rw[hgl];rfl
   rw[e1];refine List.Perm.trans ?_ aah.symm;refine tW _ ?_;rw[nT];exact z9 _ aah
  have hmN:∀E∈MA.ds,(E.num:Int)≠(st.next:Int):=λE hE=>by
   obtain⟨d,hd,e⟩:=K8 ml hE;have:=(snd.g.num d hd).2;have:E.num=d.num:=cq bg e;omega
  have hd3:H3 MA.aD=some (.dK (bF MA)):=hD.2 (MA.aD,.dK (bF MA)) (fq _ (eZ (by simp[cf])))
  have hm3:H3 m=some (.ins CM MA.dm (b7 MA st.now st.next)):=hD.2 (m,.ins CM MA.dm (b7 MA st.now st.next)) (fq _ (eZ (by simp[cf])))
  have hdl:(bF MA).length<sizeLine:=sl _ (by unfold bF;rw[aA,<-aA (f:=ek),ml.ds,aA];omega)
  have enew:putK (bF MA) (bG (st.next:Int)) (V.ref x)=bF (mV MA D):=by rw[uI _ (Mb hmN)];unfold bF mV;rw[bZ];rfl
  refine⟨_,rfl,_,rfl,bp hm3 T.cM T.hU (ip _ _ _) ⟨_,rfl,bp hx3 T.cD T.my rfl ⟨MA.aD,_,rfl,k6.k (k:=bG (st.next:Int)) hd3 hdl,?_⟩⟩⟩;rw[enew];have ea:aE CM CD m MA st P++cE CD st.market.goods D=[(m,.ins CM MA.dm (b7 MA st.now st.next))]++(MA.aD,.dK (bF MA))::([(MA.aP,.dT (b5 P)),bJ MA.aM st.made,bJ MA.aB st.burned,(MA.aO,.lst (st.owners.map tV)),(MA.aG,.lst (st.goods.map tV)),(MA.aF,.lst (MA.fr.map V.ref)),(MA.aH,.lst (MA.hd.map V.ref))]++(rows MA.fr st.market.free++(rows MA.hd st.market.held++(MA.ds.flatMap (cE CD st.market.goods)++cE CD st.market.goods D)))):=by unfold aE cf;simp
  rw[ea]at hD;have hE:=hD.put (o':=.dK (bF (mV MA D)));have hF:=Hs.put (L1:=[]) (o':=.ins CM MA.dm (b7 MA st.now (st.next+1))) (show Hs _ ([]++(m,.ins CM MA.dm (b7 MA st.now st.next))::_) from hE);have eb:aE CM CD m (mV MA D) (oP st ls tk) P=[]++(m,.ins CM MA.dm (b7 MA st.now (st.next+1)))::([]++(MA.aD,.dK (bF (mV MA D)))::([(MA.aP,.dT (b5 P)),bJ MA.aM st.made,bJ MA.aB st.burned,(MA.aO,.lst (st.owners.map tV)),(MA.aG,.lst (st.goods.map tV)),(MA.aF,.lst (MA.fr.map V.ref)),(MA.aH,.lst (MA.hd.map V.ref))]++(rows MA.fr st.market.free++(rows MA.hd st.market.held++(MA.ds.flatMap (cE CD st.market.goods)++cE CD st.market.goods D))))):=by unfold aE cf mV oP;simp;rfl
  have hm4:(upd H3 MA.aD (.dK (bF (mV MA D)))) m=some (.ins CM MA.dm (b7 MA st.now st.next)):=hE.2 (m,_) (by simp)
  refine⟨_,rfl,m,CM,MA.dm,_,_,rfl,hm4,T.cM,T.AF,Je _ _ _,_,_,rfl,rfl,MA.dm,_,hm4,(by show 10<1000;decide),_,rfl,?_⟩
  have epn:b9 "next_number" (V.int ((st.next:Int)+1)) (b7 MA st.now st.next)=b7 MA st.now (st.next+1):=Og MA st.now st.next (st.next+1);rw[epn];have hT:Hs (upd (upd H3 MA.aD (.dK (bF (mV MA D)))) m (.ins CM MA.dm (b7 MA st.now (st.next+1)))) (aE CM CD m (mV MA D) (oP st ls tk) P):=by rw[eb];exact hF
  have ml':eY (mV MA D) (oP st ls tk):=by
   refine⟨ml.fr,ml.hd,?_,λE hE=>?_⟩
   .show(MA.ds++[D]).map ek=(st.market.deals++[Ed st ls tk]).map cx
    rw[bZ,bZ,ml.ds];rfl
   .rcases b6.mp hE with hE|hE
    .exact ml.dl E hE
    .rw[de.mp hE];exact⟨tsl,rl⟩
  have inS:∀y∈cf CM m MA st P,y.1∈(aE CM CD m MA st P).map bg:=λy hy=>bw.mpr ⟨y,eZ hy,rfl⟩;have mS:m∈(aE CM CD m MA st P).map bg:=inS (m,.ins CM MA.dm (b7 MA st.now st.next)) (by simp[cf])
  have dS:MA.aD∈(aE CM CD m MA st P).map bg:=inS (MA.aD,.dK (bF MA)) (by simp[cf])
  refine k _ x _ ⟨_,ml',hT,rfl⟩ ⟨D,rfl,rfl,⟨tsl,rl⟩,?_,hT.2 (D.gv,.dK (cz D)) (cP _ (cP _ (cP _ (lp.mpr ⟨D,(by show D∈MA.ds++[D];simp),by simp[cE]⟩))))⟩ ⟨λb o e n=>?_,λb xs e=>?_,λb hb=>?_⟩
  .exact iq (D:=D) hT.rs (by show D∈MA.ds++[D];simp)
  .rw[b6,i8]at n
   rw[aI (λz=>n.1 (by rw[z];exact mS)),aI (λz=>n.1 (by rw[z];exact dS))]
   exact kp3 _ _ (s1 _ _ e)
  .have e3:=kp3 _ _ (s1 _ _ e)
   rw[aI (gL e3 hm3 (λz=>nomatch z)),aI (gL e3 hd3 (λz=>nomatch z))];exact e3
  .rw[eb]at hb
   have hb':b∈(aE CM CD m MA st P++cE CD st.market.goods D).map bg:=by
    rw[ea];simpa using hb
   rw[bZ,b6]at hb';rcases hb' with hb'|hb'
   .exact .inl (fq _ hb')
   .have hfree:∀c,H1 c=none->H c=none:=λc hc=>by
     cases q:H c with
     |none=>rfl
     |some o=>rw[s1 _ _ q]at hc;cases hc
    unfold cE at hb';rw[bS,bS,bZ]at hb';rcases bM.mp hb' with rfl|hb'
    .exact .inr (hfree _ hx)
    .rcases bM.mp hb' with rfl|hb'
     .exact .inr (hGn _ (by simp[gY]))
     .rcases b6.mp hb' with hb'|hb'
      .exact .inl (cP _ hb')
      .refine .inr (hGn _ ?_)
       unfold gY;rw[bS,hgl];exact b8 _ hb'
def UU:eV:={kind:=.function,names:=[(".0",.local),("owner",.local),("self",.free)],isGenerator:=false,isCoroutine:=false}
abbrev C4:List ae:=["self","owner","good"]
theorem LF:bX C4 ["self"] (bb sO):=⟨rfl,rfl,rfl,by decide+kernel,rfl,by decide+kernel,by decide+kernel⟩
def j1(p:aa)(rs:List aa)(a b:Nat):List (aa×HO):=(p,.lst (rs.map V.ref))::rows rs (ig a (ig b 0))
def Gj(CM:aa):Sp:=λvs H Q z=>∃(m dm aO aG:aa)(fs:List (ae×V))(os gs:List V),vs=[.ref m]/\H m=some (.ins CM dm fs)/\fs.lookup ("owners":ae)=some (V.ref aO)/\fs.lookup ("goods":ae)=some (V.ref aG)/\H aO=some (.lst os)/\H aG=some (.lst gs)/\os.length<=8/\gs.length<=6/\
 ∀(H':Hp)(p:aa)(rs:List aa),ak H H'->rs.length=os.length->Hs H' (j1 p rs os.length gs.length)->(∀b∈(j1 p rs os.length gs.length).map bg,H b=none)->Q (.ref p) H'
theorem Kx{rs:List aa}{n:Nat}{r:List Nat}(h:rs.length=n):rows (rs++[a]) (ig (n+1) r)=rows rs (ig n r)++[bJ a r]:=by
 unfold rows;rw[aag,aai (by rw[Zb];exact h),bZ];rfl
theorem V3(G:Gm K CM "nothing" "Market.nothing" sO)(T:Tx K mg CM CD):Mt Pr w K mg base be 1 CM "nothing" ["self"] (Gj CM):=by
 obtain⟨f,fd,F,hm⟩:=G.ex;refine⟨f,fd,F.dn LF (λvs H Q E h=>?_) (λcdv A outer s H vs Q E hr h=>?_),hm,F.binds (bn1 rfl)⟩
 .apply mB h;intro v v v v v v v v;rfl
 .intro X0;apply mB h;intro m dm aO aG fs os gs zz;refine uU zz λhmm lo lg hO hG o8 g6 k=>?_
  have nd:=LF.nd;refine⟨_,aX (bT (fw rfl nd (fH (bx (pv 0) rfl)) (eI (N:=C4) (sc:=bb sO) (own:=[("owner",1)]) (by decide+kernel)) (λv v v v v=>bY (i:=1) nd rfl (aV rfl) (.inr rfl)) (λv v v v v=>fU) (λv v v v v=>fw rfl nd (WC K rfl (oO K rfl (pv 0) rfl)) (eI (N:=C4) (sc:=L2.mL UU (bb sO)) (own:=[("good",2)]) (by decide+kernel)) (λv v v v v=>bY (i:=2) nd rfl (aV rfl) (.inr rfl)) (λv v v v v=>fU) (λv v v v v=>aQ)))),?_⟩
  refine⟨_,rfl,bp hmm T.cM T.m8 lo ⟨aO,rfl,⟨_,aj.of hO⟩,λDd hDd=>?_⟩⟩;refine rY (fJ (K:=K) (a:=aO) (xs:=os)) (λi H'=>ak H H'/\∃rs:List aa,rs.length=i/\Hs H' (j1 Dd rs i gs.length)/\∀b∈(j1 Dd rs i gs.length).map bg,H b=none)
   ⟨ak.new hDd,[],rfl,⟨by simp[j1,rows],λz hz=>?_⟩,λb hb=>?_⟩ (λi H' v z=>aj.of (z.1 _ _ hO)) (λi H' x H'' hi pv y=>?_) (λH' pv=>?_)
  .have:z=(Dd,HO.lst []):=by simpa[j1,rows]using hz
   subst this;exact aR
  .have:b=Dd:=by simpa[j1,rows]using hb
   subst this;exact hDd
  .obtain⟨s1,rs,rl,hz,hn⟩:=pv
   obtain⟨rfl,hx⟩:=y;refine⟨rfl,fY ?_⟩;refine⟨_,rfl,bp (s1 _ _ hmm) T.cM T.kJ lg ⟨aG,rfl,⟨_,aj.of (s1 _ _ hG)⟩,λD2 hD2=>?_⟩⟩;refine fF (fJ (K:=K) (a:=aG) (xs:=gs)) (λH4 s4=>aj.of (s4 _ _ (s1 _ _ hG))) (λv=>some (V.int 0)) (sl _ (by omega)) hD2 (λq H4 z H5 KY KN hq s4 yz ky kn=>?_) (λH4 s4 hd=>?_)
   .obtain⟨rfl,v⟩:=yz
    exact⟨rfl,fY (ky _ _ rfl (ak.refl _))⟩
   .rw[const_comp]at hd
    have hz4:=hz.same s4;have hDd4:H4 Dd=some (.lst (rs.map V.ref)):=hz4.2 (Dd,_) (by simp[j1])
    have dN:=hz.out hD2;refine⟨_,hDd4,sl _ (by rw[aA];omega),λb o e=>?_,rs++[D2],by rw[bV,rl];rfl,?_,λb hb=>?_⟩
    .rw[aI (cQ e hDd)];exact s4 _ _ (s1 _ _ e)
    .have p1:Hs H4 ((Dd,.lst (rs.map V.ref))::(rows rs (ig i (ig gs.length 0))++[bJ D2 (ig gs.length 0)])):=by
      refine Hs.perm (L:=bJ D2 (ig gs.length 0)::j1 Dd rs i gs.length) ⟨?_,λq hq=>?_⟩ ?_
      .rw[bS];exact gC.mpr ⟨dN,hz.1⟩
      .rcases bM.mp hq with rfl|hq
       .exact hd
       .exact hz4.2 q hq
      .unfold j1
       exact(z6 _ _ _).trans (tW _ (wB (l₁:=[bJ D2 _])))
     have p2:=Hs.put (L1:=[]) (o':=.lst (rs.map V.ref++[V.ref D2])) p1;unfold j1;rw[Kx rl,bZ];exact p2
    .unfold j1 at hb
     rw[Kx rl,bS]at hb;rcases bM.mp hb with rfl|hb
     .exact hDd
     .rw[bZ]at hb
      rcases b6.mp hb with hb|hb
      .exact hn b (by unfold j1;rw[bS];exact b8 _ hb)
      .have:b=D2:=by simpa[bJ]using hb
       subst this;exact ak.free s1 hD2
  .obtain⟨s1,rs,rl,hz,hn⟩:=pv
   exact k _ _ rs s1 rl hz hn
structure Bg(CM dm:aa)(H:Hp)(m aO aG:aa)(H':Hp)(fs:List (ae×V))(L:List (aa×HO)):Prop where
 hs:Hs H' ((m,.ins CM dm fs)::L)
 kp:∀b o,H b=some o->b≠m->H' b=some o
 nw:∀b∈L.map bg,b=aO\/b=aG\/H b=none
section
variable{dm:aa}{H' H'':Hp}{m aO aG:aa}{fs fs':List (ae×V)}{L L2:List (aa×HO)}
theorem Bg.here(B:Bg CM dm H m aO aG H' fs L):H' m=some (.ins CM dm fs):=B.hs.2 (m,_) (gF ..)
theorem Bg.put(B:Bg CM dm H m aO aG H' fs L):Bg CM dm H m aO aG (upd H' m (.ins CM dm fs')) fs' L:=⟨Hs.put (L1:=[]) B.hs,λb o e n=>by rw[aI n];exact B.kp b o e n,B.nw⟩
theorem Bg.add(B:Bg CM dm H m aO aG H' fs L)(s:ak H' H'')(h2:Hs H'' L2)(hn:∀b∈L2.map bg,H' b=none):Bg CM dm H m aO aG H'' fs (L++L2):=by
 refine⟨(B.hs.same s).app h2 λc hc=>B.hs.out (hn c hc),λb o e n=>s _ _ (B.kp b o e n),λb hb=>?_⟩;rw[bZ]at hb;rcases b6.mp hb with hb|hb
 .exact B.nw b hb
 .right;right
  have h1:=hn b hb;cases q:H b with
  |none=>rfl
  |some o=>
   have:b≠m:=λz=>by rw[z,B.here]at h1;cases h1
   rw[B.kp b o q this]at h1;cases h1
theorem Bg.xy(B:Bg CM dm H m aO aG H' fs L){o:HO}(s:ak H' H'')(h:H'' a=some o)(hn:H' a=none):Bg CM dm H m aO aG H'' fs (L++[(a,o)]):=B.add s ⟨by simp,λp hp=>by rw[de.mp hp];exact h⟩ λb hb=>by
 have:b=a:=by simpa using hb
 rw[this];exact hn
end
theorem Jo{α:Type}(m o g f h M B D P:α)(R1 R2:List α):(m::((((((([o,g]++f::R1)++h::R2)++[M])++[B])++[D])++[P]))).Perm ([m,D,P,M,B,o,g,f,h]++(R1++(R2++[]))):=by
 classical
 refine aaj.mpr λx=>?_;simp only[aak,N0,List.count_nil];omega
structure Ey(fs:List (ae×V)):Prop where
 len:fs.length<=10
 no:fs.lookup ("nothing":ae)=none
 fin:∀a b c d e f g h i j:V,b9 "parts" j (b9 "deals" i (b9 "next_number" h (b9 "tick" g (b9 "burned" f (b9 "made" e (b9 "held" d (b9 "free" c (b9 "goods" b (b9 "owners" a fs)))))))))=([("owners",a),("goods",b),("free",c),("held",d),("made",e),("burned",f),("tick",g),("next_number",h),("deals",i),("parts",j)]:List (ae×V))
theorem OL:Ey []:=⟨by decide,rfl,λz z z z z z z z z z=>rfl⟩
theorem Vn(A:MA)(a b:Nat):Ey (b7 A a b):=⟨by show 10<=10;decide,rfl,λz z z z z z z z z z=>rfl⟩
theorem mY(f:ae)(v:V):∀fs:List (ae×V),(b9 f v fs).length<=fs.length+1
 |[]=>by simp[b9]
 |(g,x)::r=>by
  unfold b9;split
  .simp
  .have:=mY f v r;simp;omega
abbrev D8:List ae:=["self","owners","goods","name"]
theorem GQ:bX D8 ["self","owners","goods"] (bb rV):=⟨rfl,rfl,rfl,by decide+kernel,rfl,by decide+kernel,by decide+kernel⟩
def A9(CM CD:aa):Sp:=λvs H Q z=>∃(m dm aO aG:aa)(fs:List (ae×V))(os gs:List Text),vs=[.ref m,.ref aO,.ref aG]/\H m=some (.ins CM dm fs)/\Ey fs/\H aO=some (.lst (os.map tV))/\H aG=some (.lst (gs.map tV))/\aO≠aG/\os.length<=8/\gs.length<=6/\
 ∀(H':Hp)(S':List aa),Mk CM CD H' m S' (iQ os gs) []->(∀b o,H b=some o->b≠m->H' b=some o)->(∀b∈S',b=m\/b=aO\/b=aG\/H b=none)->Q .bI H'
theorem zeros{α:Type}(l:List α):(l.map λz=>(0:Nat))=ig l.length 0:=by rw[aal]
theorem WO(os gs:List Text):(os.map λz=>gs.map λz=>(0:Nat))=ig os.length (ig gs.length 0):=by rw[aal,zeros]
theorem O4(G:Gm K CM "begin" "Market.begin" rV)(T:Tx K mg CM CD)(d_no:Mt Pr w K mg base be 1 CM "nothing" ["self"] (Gj CM)):Mt Pr w K mg base be 2 CM "begin" ["self","owners","goods"] (A9 CM CD):=by
 obtain⟨f,fd,F,hm⟩:=G.ex;refine⟨f,fd,F.dn GQ (λvs H Q E h=>?_) (λcdv A outer s H vs Q E hr h=>?_),hm,F.binds (bn3 rfl)⟩
 .apply mB h;intro y y y y y y y y;rfl
 .intro X0;apply mB h;intro m dm aO aG fs os gs zz;refine uU zz λhmm ok hO hG hne o8 g6 k=>?_
  have nd:=GQ.nd;refine⟨_,aK (jm (pv 0) (pv 1) rfl) (aK (jm (pv 0) (pv 2) rfl) (aK (jm (pv 0) (JB (pv 0) T.cM d_no hr b0) rfl) (aK (jm (pv 0) (JB (pv 0) T.cM d_no hr b0) rfl) (aK (jm (pv 0) (fw rfl nd (fH (pv 2)) (eI (N:=D8) (sc:=bb rV) (own:=[("name",3)]) (by decide+kernel)) (λy y y y y=>bY (i:=3) nd rfl (aV rfl) (.inr rfl)) (λy y y y y=>fU) (λy y y y y=>aQ)) rfl) (aK (jm (pv 0) (fw rfl nd (fH (pv 2)) (eI (N:=D8) (sc:=bb rV) (own:=[("name",3)]) (by decide+kernel)) (λy y y y y=>bY (i:=3) nd rfl (aV rfl) (.inr rfl)) (λy y y y y=>fU) (λy y y y y=>aQ)) rfl) (aK (jm (pv 0) aQ rfl) (aK (jm (pv 0) aQ rfl) (aK (jm (pv 0) yB rfl) (aX (jm (pv 0) VV rfl)))))))))),?_⟩
  have mO:m≠aO:=gL hmm hO (λz=>nomatch z);have mG:m≠aG:=gL hmm hG (λz=>nomatch z);have B0:Bg CM dm H m aO aG H fs [(aO,.lst (os.map tV)),(aG,.lst (gs.map tV))]:=by
   refine⟨⟨?_,λp hp=>?_⟩,λy y e y=>e,λb hb=>?_⟩
   .simp[mO,mG,hne]
   .simp only[bM,MG,or_false]at hp
    rcases hp with rfl|rfl|rfl
    .exact hmm
    .exact hO
    .exact hG
   .simp only[bS,i7,bM,MG,or_false]at hb
    rcases hb with rfl|rfl
    .exact .inl rfl
    .exact .inr (.inl rfl)
  have len0:=ok.len;have fB:=ok.no;have fin0:=ok.fin (.ref aO) (.ref aG);refine⟨_,rfl,_,rfl,m,CM,dm,_,rfl,B0.here,T.cM,T.m8,(by omega),?_⟩
  have B1:=B0.put (fs':=b9 "owners" (.ref aO) fs);have jf:=mY "owners" (.ref aO) fs;have no1:(b9 "owners" (.ref aO) fs).lookup ("nothing":ae)=none:=by rw[mW,aq (by decide)];exact fB
  have o1:(b9 "owners" (.ref aO) fs).lookup ("owners":ae)=some (V.ref aO):=by rw[mW,ay rfl]
  generalize b9 "owners" (.ref aO) fs=f1 at B1 jf no1 o1 fin0;generalize upd H m (.ins CM dm f1)=H1 at B1;refine⟨_,rfl,_,rfl,m,CM,dm,_,rfl,B1.here,T.cM,T.kJ,(by omega),?_⟩
  have B2:=B1.put (fs':=b9 "goods" (.ref aG) f1);have uw:=mY "goods" (.ref aG) f1;have no2:(b9 "goods" (.ref aG) f1).lookup ("nothing":ae)=none:=by rw[mW,aq (by decide)];exact no1
  have o2:(b9 "goods" (.ref aG) f1).lookup ("owners":ae)=some (V.ref aO):=by rw[mW,aq (by decide)];exact o1
  have g2:(b9 "goods" (.ref aG) f1).lookup ("goods":ae)=some (V.ref aG):=by rw[mW,ay rfl]
  generalize b9 "goods" (.ref aG) f1=f2 at B2 uw no2 o2 g2 fin0;generalize upd H1 m (.ins CM dm f2)=H2 at B2;have hO2:H2 aO=some (.lst (os.map tV)):=B2.kp _ _ hO mO.symm;have hG2:H2 aG=some (.lst (gs.map tV)):=B2.kp _ _ hG mG.symm;refine⟨_,rfl,m,dm,_,rfl,B2.here,no2,m,dm,aO,aG,f2,_,_,rfl,B2.here,o2,g2,hO2,hG2,(by rw[aA];exact o8),(by rw[aA];exact g6),λH3 aF fr s3 fl hz3 hn3=>?_⟩
  have B3:=B2.add s3 hz3 hn3;refine⟨_,rfl,m,CM,dm,_,rfl,B3.here,T.cM,T.jN,(by omega),?_⟩
  have B4:=B3.put (fs':=b9 "free" (.ref aF) f2);have DP:=mY "free" (.ref aF) f2;have no4:(b9 "free" (.ref aF) f2).lookup ("nothing":ae)=none:=by rw[mW,aq (by decide)];exact no2
  have o4:(b9 "free" (.ref aF) f2).lookup ("owners":ae)=some (V.ref aO):=by rw[mW,aq (by decide)];exact o2
  have g4:(b9 "free" (.ref aF) f2).lookup ("goods":ae)=some (V.ref aG):=by rw[mW,aq (by decide)];exact g2
  have fin4:=fin0 (.ref aF);generalize b9 "free" (.ref aF) f2=f4 at B4 DP no4 o4 g4 fin4;generalize upd H3 m (.ins CM dm f4)=H4 at B4;have hO4:H4 aO=some (.lst (os.map tV)):=B4.kp _ _ hO mO.symm;have hG4:H4 aG=some (.lst (gs.map tV)):=B4.kp _ _ hG mG.symm;refine⟨_,rfl,m,dm,_,rfl,B4.here,no4,m,dm,aO,aG,f4,_,_,rfl,B4.here,o4,g4,hO4,hG4,(by rw[aA];exact o8),(by rw[aA];exact g6),λH5 aH hd s5 hl hz5 hn5=>?_⟩
  have B5:=B4.add s5 hz5 hn5;refine⟨_,rfl,m,CM,dm,_,rfl,B5.here,T.cM,T.rH,(by omega),?_⟩
  have B6:=B5.put (fs':=b9 "held" (.ref aH) f4);have len6:=mY "held" (.ref aH) f4;have fin6:=fin4 (.ref aH);generalize b9 "held" (.ref aH) f4=f6 at B6 len6 fin6;generalize upd H5 m (.ins CM dm f6)=H6 at B6;have hG6:H6 aG=some (.lst (gs.map tV)):=B6.kp _ _ hG mG.symm;refine⟨_,rfl,aG,rfl,⟨_,aj.of hG6⟩,λaM haM=>?_⟩;refine fF (fJ (K:=K) (a:=aG) (xs:=gs.map tV)) (λH' s'=>aj.of (s' _ _ hG6)) (λy=>some (V.int 0)) (sl _ (by rw[aA];omega)) haM (λq H' z H'' KY KN hq s' yz ky kn=>?_) (λH7 s7 hd7=>?_)
  .obtain⟨rfl,y⟩:=yz
   exact⟨rfl,fY (ky _ _ rfl (ak.refl _))⟩
  rw[aA,const_comp]at hd7;have B7:=B6.xy s7 hd7 haM;refine⟨_,rfl,m,CM,dm,_,rfl,B7.here,T.cM,T.yY,(by omega),?_⟩
  have B8:=B7.put (fs':=b9 "made" (.ref aM) f6);have len8:=mY "made" (.ref aM) f6;have fin8:=fin6 (.ref aM);generalize b9 "made" (.ref aM) f6=f8 at B8 len8 fin8;generalize upd H7 m (.ins CM dm f8)=H8 at B8;have hG8:H8 aG=some (.lst (gs.map tV)):=B8.kp _ _ hG mG.symm;refine⟨_,rfl,aG,rfl,⟨_,aj.of hG8⟩,λaB haB=>?_⟩;refine fF (fJ (K:=K) (a:=aG) (xs:=gs.map tV)) (λH' s'=>aj.of (s' _ _ hG8)) (λy=>some (V.int 0)) (sl _ (by rw[aA];omega)) haB (λq H' z H'' KY KN hq s' yz ky kn=>?_) (λH9 s9 hd9=>?_)
  .obtain⟨rfl,y⟩:=yz
   exact⟨rfl,fY (ky _ _ rfl (ak.refl _))⟩
  rw[aA,const_comp]at hd9;have B9:=B8.xy s9 hd9 haB;refine⟨_,rfl,m,CM,dm,_,rfl,B9.here,T.cM,T.Eb,(by omega),?_⟩
  have Ba:=B9.put (fs':=b9 "burned" (.ref aB) f8);have lena:=mY "burned" (.ref aB) f8;have fina:=fin8 (.ref aB) (.int 0) (.int 1);generalize b9 "burned" (.ref aB) f8=fa at Ba lena fina;generalize upd H9 m (.ins CM dm fa)=Ha at Ba;refine⟨_,rfl,m,CM,dm,_,rfl,Ba.here,T.cM,T.rE,(by omega),?_⟩
  have Bb:=Ba.put (fs':=b9 "tick" (.int 0) fa);have lenb:=mY "tick" (.int 0) fa;generalize b9 "tick" (.int 0) fa=fb at Bb lenb fina;generalize upd Ha m (.ins CM dm fb)=Hb at Bb;refine⟨_,rfl,m,CM,dm,_,rfl,Bb.here,T.cM,T.AF,(by omega),?_⟩
  have Bc:=Bb.put (fs':=b9 "next_number" (.int 1) fb);have lenc:=mY "next_number" (.int 1) fb;generalize b9 "next_number" (.int 1) fb=fc at Bc lenc fina;generalize upd Hb m (.ins CM dm fc)=Hc at Bc;intro aD haD;have Bd:=Bc.xy (ak.new (o:=.dK []) haD) aR haD;refine⟨_,rfl,m,CM,dm,_,rfl,Bd.here,T.cM,T.hU,(by omega),?_⟩
  have Be:=Bd.put (fs':=b9 "deals" (.ref aD) fc);have lene:=mY "deals" (.ref aD) fc;have fine_:=fina (.ref aD);generalize b9 "deals" (.ref aD) fc=fe at Be lene fine_;generalize upd (upd Hc aD (.dK [])) m (.ins CM dm fe)=He at Be;intro aP haP;have Bf:=Be.xy (ak.new (o:=.dT []) haP) aR haP;refine⟨_,rfl,m,CM,dm,_,rfl,Bf.here,T.cM,T.jw,(by omega),?_⟩
  have Bz:=Bf.put (fs':=b9 "parts" (.ref aP) fe);rw[fine_ (.ref aP)]at Bz⊢
  let A:MA:=⟨dm,aO,aG,aF,aH,aM,aB,aD,aP,fr,hd,[]⟩
  rw[aA,aA]at hz3 hz5;have hT:=Bz.hs;have e0:aE CM CD m A (iQ os gs) []=[(m,.ins CM dm [("owners",V.ref aO),("goods",V.ref aG),("free",V.ref aF),("held",V.ref aH),("made",V.ref aM),("burned",V.ref aB),("tick",V.int 0),("next_number",V.int 1),("deals",V.ref aD),("parts",V.ref aP)]),(aD,.dK []),(aP,.dT []),(aM,.lst ((ig gs.length 0).map nV)),(aB,.lst ((ig gs.length 0).map nV)),(aO,.lst (os.map tV)),(aG,.lst (gs.map tV)),(aF,.lst (fr.map V.ref)),(aH,.lst (hd.map V.ref))]++(rows fr (ig os.length (ig gs.length 0))++(rows hd (ig os.length (ig gs.length 0))++[])):=by
   unfold aE cf iQ;dsimp only;rw[WO,zeros];rfl
  rw[aA,aA]at hT;have hT3:=hT.perm (Jo _ _ _ _ _ _ _ _ _ _ _);have hT2:=e0▸hT3;refine k _ _ ⟨A,⟨?_,?_,rfl,λD hD=>absurd hD (by simp[A])⟩,hT2,rfl⟩ Bz.kp λb hb=>?_
  .show fr.length=(os.map λy=>_).length
   rw[fl,aA,aA]
  .show hd.length=(os.map λy=>_).length
   rw[hl,aA,aA]
  .rw[e0]at hb
   rw[aA,aA]at Bz;have:=((Jo _ _ _ _ _ _ _ _ _ _ _).map bg).mem_iff.mpr hb;rw[bS]at this;rcases bM.mp this with h|h
   .exact .inl h
   .exact .inr (Bz.nw b h)
structure rT(s:aT)(P:List aS):Prop where
 g:Rm.iK s
 o:Ord s.market P
theorem rT.sound(h:rT s P):cy s P:=⟨h.g.m,h.o,by rw[h.g.goods];exact h.g.names.goods,h.g.names.owners⟩
theorem OV:bX ["self"] ["self"] (bb yR):=⟨rfl,rfl,rfl,by decide+kernel,rfl,by decide+kernel,by decide+kernel⟩
def Hf(CM CD:aa):Sp:=λvs H Q z=>∃(p dx:aa),vs=[.ref p]/\H p=some (.ins CM dx [])/\∀(H':Hp)(S':List aa),Mk CM CD H' p S' vN []->(∀b o,H b=some o->b≠p->H' b=some o)->(∀b∈S',b=p\/H b=none)->Q .bI H'
theorem TR(G:Gi K CM "Market.__init__" yR)(T:Tx K mg CM CD)(d_be:Mt Pr w K mg base be 2 CM "begin" ["self","owners","goods"] (A9 CM CD)):r0 Pr w K mg base be 3 CM ["self"] (Hf CM CD):=by
 obtain⟨f,fd,F,M⟩:=G.ex;refine⟨f,fd,F.dn OV (λvs H Q E h=>?_) (λcdv A outer s H vs Q E hr h=>?_),M,F.binds (bn1 rfl)⟩
 .obtain⟨y,y,rfl,y⟩:=h;rfl
 .intro X0;apply fz h;intro p dx zz;refine jx zz λhp k=>?_
  refine⟨_,aX (cG (jz (pv 0) T.cM d_be hr b0 (ai (cW au) (ai (cW au) au)))),?_⟩;refine⟨_,rfl,p,dx,_,rfl,hp,rfl,gp _,λaO hO=>⟨gp _,λaG hG=>?_⟩⟩;have s1:ak H (upd (upd H aO (.lst [])) aG (.lst [])):=(ak.new hO).trans (ak.new hG);have hne:aO≠aG:=λz=>by rw[<-z,aR]at hG;cases hG
  have hG0:H aG=none:=(ak.new hO).free hG;refine⟨p,dx,aO,aG,[],[],[],rfl,s1 _ _ hp,OL,by rw[aI hne];exact aR,aR,hne,by decide,by decide,λH' S' mk kp nw=>k H' S' mk (λb o e n=>kp b o (s1 _ _ e) n) λb hb=>?_⟩
  rcases nw b hb with z|z|z|z
  .exact .inl z
  .rw[z];exact .inr hO
  .rw[z];exact .inr hG0
  .right
   cases q:H b with
   |none=>rfl
   |some o=>rw[s1 _ _ q]at z;cases z
theorem TY:bX ["number","least","most"] ["number","least","most"] (bb wN):=⟨rfl,rfl,rfl,by decide+kernel,rfl,by decide+kernel,by decide+kernel⟩
def vG(E1:aa):Sp:=λvs H Q E=>∃(n lo hi:Int),vs=[.int n,.int lo,.int hi]/\(nr n lo hi=true->Q .bI H)/\(nr n lo hi=false->E (.ref E1) none H)
theorem Wp(G:Gd K mg "check_range" wN)(T:Tx K mg CM CD)(X:Ex K mg E1 E2 E3 E4 E5):Df Pr w K mg base (bR Pr w) 1 "check_range" ["number","least","most"] (vG E1):=by
 obtain⟨f,fd,F,hm⟩:=G.ex;refine⟨f,fd,F.eP TY (λvs H Q E h=>?_) (λcdv A outer s H vs Q E hr h=>?_),hm,F.kp,F.binds (bn3 rfl)⟩
 .apply kP h;intro z z z z;rfl
 .intro X0;apply kP h;intro n lo hi zz;refine jx zz λk1 k2=>?_
  refine⟨_,aX (kO (vi (yu mT mT (pv 1) (pv 0) (pv 2))) (aX (je rfl X.m1 X.x1)) mF),?_⟩;refine y4 (i:=lo) (j:=n) (k:=hi) (λR r=>⟨_,rfl,r⟩) (λR r=>⟨_,rfl,r⟩) (λR r=>⟨_,rfl,r⟩) ?_;by_cases h1:lo<=n/\n<=hi
  .rw[dw h1]
   exact fV (k1 (dw h1))
  .rw[cU h1]
   exact fm (k2 (cU h1))
theorem XC:bX ["market","owner"] ["market","owner"] (bb zh):=⟨rfl,rfl,rfl,by decide+kernel,rfl,by decide+kernel,by decide+kernel⟩
def qw(CM CD E1:aa):Sp:=λvs H Q E=>∃(m:aa)(o:Int)(s:aT)(P:List aS),vs=[.ref m,.int o]/\iM CM CD H m s P/\s.owners.length<=8/\(nW s o=true->Q .bI H)/\(nW s o=false->E (.ref E1) none H)
theorem OP(G:Gd K mg "check_owner" zh)(T:Tx K mg CM CD)(d_rg:Df Pr w K mg base (bR Pr w) 1 "check_range" ["number","least","most"] (vG E1)):Df Pr w K mg base (bR Pr w) 2 "check_owner" ["market","owner"] (qw CM CD E1):=by
 obtain⟨f,fd,F,hm⟩:=G.ex;refine⟨f,fd,F.eP XC (λvs H Q E h=>?_) (λcdv A outer s H vs Q E hr h=>?_),hm,F.kp,F.binds (bn2 rfl)⟩
 .apply gM h;intro z z z z z;rfl
 .intro X0;apply gM h;intro m o st P zz;refine lP zz λmk o8 k1 k2=>?_
  obtain⟨MA,ml,R⟩:=mk;refine⟨_,aX (cG (bQ d_rg hr eJ (ai (pv 1) (ai aQ (ai (eG uC (dh iA rfl T.fK f9 (ai (bx (pv 0) rfl) au)) aQ) au))))),?_⟩;refine⟨_,rfl,_,rfl,bp (bC R) T.cM T.m8 (pd _ _ _) ⟨MA.aO,_,rfl,.inl (aj.of (o6 R)),_,_,rfl,rfl,_,_,_,rfl,?_⟩⟩;rw[aA];exact⟨k1,k2⟩
theorem Qt:bX ["market","owner","good","amount"] ["market","owner","good","amount"] (bb x9):=⟨rfl,rfl,rfl,by decide+kernel,rfl,by decide+kernel,by decide+kernel⟩
def yQ(CM CD E1:aa):Sp:=λvs H Q E=>∃(m:aa)(o g n:Int)(s:aT)(P:List aS),vs=[.ref m,.int o,.int g,.int n]/\iM CM CD H m s P/\s.owners.length<=8/\(nW s o=true->zw s g=true->nr n 1 FU=true->Q .bI H)/\(nW s o=false\/zw s g=false\/nr n 1 FU=false->E (.ref E1) none H)
theorem Vx(G:Gd K mg "check_amount" x9)(T:Tx K mg CM CD)(d_rg:Df Pr w K mg base (bR Pr w) 1 "check_range" ["number","least","most"] (vG E1))(d_ow:Df Pr w K mg base (bR Pr w) 2 "check_owner" ["market","owner"] (qw CM CD E1)):Df Pr w K mg base (bR Pr w) 3 "check_amount" ["market","owner","good","amount"] (yQ CM CD E1):=by
 obtain⟨f,fd,F,hm⟩:=G.ex;refine⟨f,fd,F.eP Qt (λvs H Q E h=>?_) (λcdv A outer s H vs Q E hr h=>?_),hm,F.kp,F.binds (bn4 rfl)⟩
 .apply eT h;intro z z z z z z z;rfl
 .intro X0;apply eT h;intro m o g n st P zz;refine lP zz λmk o8 k1 k2=>?_
  have hr1:c6 1 _:=hr.mono (by decide)
  refine⟨_,aK (cG (bQ d_ow hr eJ (ai (pv 0) (ai (pv 1) au)))) (aK (cG (bQ d_rg hr1 eJ (ai (pv 2) (ai aQ (ai (eG uC (dh iA rfl T.fK f9 (ai (bx (pv 0) rfl) au)) aQ) au))))) (aX (cG (bQ d_rg hr1 eJ (ai (pv 3) (ai aQ (ai (fC T.F4) au))))))),?_⟩;refine⟨_,rfl,_,rfl,m,o,st,P,rfl,mk,o8,λh1=>?_,λh1=>k2 (.inl h1)⟩;obtain⟨MA,ml,R⟩:=id mk;refine⟨_,rfl,_,rfl,bp (bC R) T.cM T.kJ (mH _ _ _) ⟨MA.aG,_,rfl,.inl (aj.of (lW R)),_,_,rfl,rfl,_,_,_,rfl,?_⟩⟩;rw[aA];refine⟨λh2=>?_,λh2=>k2 (.inr (.inl h2))⟩;refine⟨_,rfl,_,_,_,rfl,λh3=>k1 h1 h2 h3,λh3=>k2 (.inr (.inr h3))⟩
theorem SD:bX ["market","owner","good","amount"] ["market","owner","good","amount"] (bb xa):=⟨rfl,rfl,rfl,by decide+kernel,rfl,by decide+kernel,by decide+kernel⟩
def Cy(CM CD E4:aa):Sp:=λvs H Q E=>∃(m:aa)(o g:Nat)(n:Int)(s:aT)(P:List aS),vs=[.ref m,nV o,nV g,.int n]/\iM CM CD H m s P/\dJ s/\o<s.owners.length/\g<s.market.goods/\(¬((amount s.market.free o g:Nat):Int)<n->Q .bI H)/\(((amount s.market.free o g:Nat):Int)<n->E (.ref E4) none H)
theorem Vw(G:Gd K mg "check_free" xa)(T:Tx K mg CM CD)(X:Ex K mg E1 E2 E3 E4 E5):Df Pr w K mg base (bR Pr w) 1 "check_free" ["market","owner","good","amount"] (Cy CM CD E4):=by
 obtain⟨f,fd,F,hm⟩:=G.ex;refine⟨f,fd,F.eP SD (λvs H Q E h=>?_) (λcdv A outer s H vs Q E hr h=>?_),hm,F.kp,F.binds (bn4 rfl)⟩
 .apply eT h;intro z z z z z z z;rfl
 .intro X0;apply eT h;intro m o g n st P zz;refine pk zz λmk ft ho hg k1 k2=>?_
  obtain⟨MA,ml,R⟩:=id mk;obtain⟨r,hr',rl,ra⟩:=ft.row ho;have hl:o<MA.fr.length:=by rw[ml.fr];exact(cN.mp hr').1
  have hrg:r[g]? =some (amount st.market.free o g):=by rw[<-ra g,eA,bH (show g<r.length by rw[rl];exact hg)];rfl
  have fA:=rm R (bH hl) hr';refine⟨_,aX (kO (df vA (bh bO (bh bO (bx (pv 0) rfl) (pv 1) (λz z=>rfl)) (pv 2) (λz z=>rfl)) (pv 3) (c7 _)) (aX (je rfl X.m4 X.x4)) mF),?_⟩;refine⟨_,rfl,bp (bC R) T.cM T.jN (k8 _ _ _) ⟨_,rfl,bL (aj.of (jA R)) (bj (by rw[bz,bH hl];rfl)) ⟨_,rfl,bL (aj.of fA) (bj (by rw[bz,hrg];rfl)) ⟨_,rfl,_,_,rfl,rfl,_,rfl,?_⟩⟩⟩⟩
  exact cJ rfl k2 k1
theorem OZ:bX ["market","number"] ["market","number"] (bb wQ):=⟨rfl,rfl,rfl,by decide+kernel,rfl,by decide+kernel,by decide+kernel⟩
def oG(CM CD E3:aa):Sp:=λvs H Q E=>∃(m:aa)(n:Int)(s:aT)(P:List aS),vs=[.ref m,.int n]/\iM CM CD H m s P/\cy s P/\(∀d,ku s n=some d->Q .bI H)/\(ku s n=none->E (.ref E3) none H)
theorem Ry(h:cy s P){d:aZ}(hd:d∈s.market.deals):ku s (d.num:Int)=some d:=by
 have:=h.g.num d hd;unfold ku;rw[aq (by omega)]
 exact Rm.yn h.g.up hd
theorem XW(G:Gd K mg "check_deal" wQ)(T:Tx K mg CM CD)(X:Ex K mg E1 E2 E3 E4 E5):Df Pr w K mg base (bR Pr w) 1 "check_deal" ["market","number"] (oG CM CD E3):=by
 obtain⟨f,fd,F,hm⟩:=G.ex;refine⟨f,fd,F.eP OZ (λvs H Q E h=>?_) (λcdv A outer s H vs Q E hr h=>?_),hm,F.kp,F.binds (bn2 rfl)⟩
 .apply gM h;intro z z z z z;rfl
 .intro X0;apply gM h;intro m n st P zz;refine lP zz λmk snd k1 k2=>?_
  obtain⟨MA,ml,R⟩:=id mk;have hu:=ir hr;refine⟨_,aX (kO (k4 (rp hu (pv 1) (bx (pv 0) rfl))) (aX (je rfl X.m3 X.x3)) mF),?_⟩;refine⟨_,rfl,_,rfl,bp (bC R) T.cM T.hU (ip _ _ _) ⟨MA.aD,_,rfl,(zf R).get (bG n),_,rfl,?_⟩⟩;cases hd:ku st n with
  |some d=>
   obtain⟨h1,h2⟩:=Rm.j8 hd;obtain⟨D,hD,e⟩:=AR ml h1;have en:(D.num:Int)=n:=by rw[<-h2];exact cq (λx=>((bg x:Nat):Int)) e
   rw[<-en,xS (qB ml snd.g.up) hD];exact fV (k1 d hd)
  |none=>
   have:dC (bF MA) (bG n)=none:=Mb λD hD e=>by
    obtain⟨d,h1,e2⟩:=K8 ml hD;have e3:D.num=d.num:=cq bg e2;rw[<-e,e3,Ry snd h1]at hd;cases hd
   rw[this];exact fm (k2 hd)
theorem QM(l:List aZ)(d:aZ)(x:aL×News):Rm.iz (l++[d]) x=(dv (Rm.iz l x).1 d,(Rm.iz l x).2++[(3,d.num)]):=by
 unfold Rm.iz;rw[sY];rfl
abbrev JS:List ae:=["market","overdue","happened","number","deal"]
theorem Kv:bX JS ["market"] (bb ub):=⟨rfl,rfl,rfl,by decide+kernel,rfl,by decide+kernel,by decide+kernel⟩
def qi(s:aT):aL:=(dk (gR s.now s.market).1).1
def sT(s:aT):News:=(gR s.now s.market).2++(dk (gR s.now s.market).1).2
def KG(CM CD:aa):Sp:=λvs H Q z=>∃(m:aa)(S:List aa)(s:aT)(P:List aS),vs=[.ref m]/\cy s P/\Rm.jM s.market/\Mk CM CD H m S s P/\
 ∀H' S' P' p,Mk CM CD H' m S' (cg s (qi s)) P'->cy (cg s (qi s)) P'->Fr H S H' S'->H p=none->p∉S'->H' p=some (.lst (c9 (sT s)))->Q (.ref p) H'
theorem T7(G:Gd K mg "end_overdue" ub)(T:Tx K mg CM CD)(d_settle:Df Pr w K mg base be 6 "settle" ["market"] (mK CM CD))(d_off:Mt Pr w K mg base be 2 CM "call_off" ["self","number"] (yo CM CD)):Df Pr w K mg base be 7 "end_overdue" ["market"] (KG CM CD):=by
 obtain⟨f,fd,F,hm⟩:=G.ex;refine⟨f,fd,F.dn Kv (λvs H Q E h=>?_) (λcdv A outer s H vs Q E hr h=>?_),hm,F.kp,F.binds (bn1 rfl)⟩
 .apply gM h;intro v v v v v;rfl
 .intro X0;apply gM h;intro m S st P zz;refine lP zz λsnd calm mk k=>?_
  have nd:=Kv.nd;refine⟨_,aK (vm (wL (i:=1) rfl nd rfl rfl rfl (BB (bx (pv 0) rfl)) (eI (N:=JS) (sc:=bb ub) (own:=[("deal",4)]) (by decide+kernel)) (λv v v v v=>bY (i:=4) nd rfl (aV rfl) (.inr rfl)) (λv v v v v=>sf (df vA (oO K rfl (pv 4) rfl) (oO K rfl (pv 0) rfl) (c7 _))) (λv v v v v=>oO K rfl (pv 4) rfl))) (aK (bW (i:=2) nd rfl (aV rfl) (cW au)) (aK (g7 jV rfl (fH (pv 1)) (bY (i:=3) nd rfl (aV rfl)) (aK (cG (jz (pv 0) T.cM d_off (hr.mono (by decide)) b0 (ai (pv 3) au))) (aX (cG (gI gU lH lI jY (pv 2) (ai (cW (ai (fC T.WH) (ai (pv 3) au))) au)))))) (eR (df qz (dh iA rfl T.fK f9 (ai (pv 1) au)) aQ (c7 _)) (aX (cG (gI gU lH lI jY (pv 2) (ai (bQ d_settle hr b0 (ai (pv 0) au)) au)))) (aX (bT (pv 2)))))),?_⟩
  have c5:=snd.g.c5;obtain⟨MA,ml,hs,eS⟩:=id mk;have dlen:MA.ds.length=st.market.deals.length:=by have:=cq wb ml.ds;simpa using this
  have hDk:H MA.aD=some (.dK (bF MA)):=hs.2 (MA.aD,.dK (bF MA)) (eZ (by simp[cf]))
  refine⟨MA.aD,.dK (bF MA),hDk,lQ dy,λod=>?_⟩;have R0:=hs.rs.lock hDk dy od;generalize hH0:upd H MA.aD (.bu od (.dK (bF MA)))=H0 at R0;have hDf:H0 MA.aD=some (.bu od (.dK (bF MA))):=by rw[<-hH0];exact aR
  refine⟨_,rfl,bp (bC R0) T.cM T.hU (ip _ _ _) ⟨MA.aD,od,bF MA,rfl,hDf,λov hov=>?_⟩⟩;have hov0:H ov=none:=by
   cases q:H ov with
   |none=>rfl
   |some o=>
    by_cases z:ov=MA.aD
    .rw[z,hDf]at hov;cases hov
    .rw[<-hH0,aI z,q]at hov;cases hov
  have kl:(bF MA).length=MA.ds.length:=by unfold bF;rw[aA]
  refine fF Eo (λH' s'=>s' _ _ hDf) (λi=>(MA.ds[i]?).bind λD=>if decide (D.until_<st.now)=true then some (nV D.num)else none) (sl _ (by omega)) hov (λi H' x H'' KY KN hi s' y ky kn=>?_) (λH1 s1 hd1=>?_)
  .obtain⟨rfl,key,hk⟩:=y
   unfold bF at hk;rw[bz]at hk;obtain⟨D,hD,e⟩:=di.mp hk;injection e with e1 e2
   subst e2;have R':=R0.same s';have RD:=iq R' (cZ hD);refine⟨rfl,_,rfl,bp (fk RD) T.cD T.A7 (HU D) ⟨_,rfl,bp (bC R') T.cM T.rE (vx _ _ _) ⟨_,_,rfl,rfl,_,rfl,?_⟩⟩⟩;refine cJ (c:=D.until_<st.now) (jr.mpr (by omega)) (λh1=>?_) (λh1=>?_)
   .exact⟨_,rfl,bp (fk RD) T.cD T.my (oX D) (ky _ _ (by rw[hD];show(if _ then _ else _)=_;rw[ay (dw h1)]) (ak.refl _))⟩
   .exact kn _ (by rw[hD];show(if _ then _ else _)=_;rw[aq (by simpa using h1)]) (ak.refl _)
  rw[kl,Eu,Gc]at hd1;have eds:((MA.ds.filter λD=>decide (D.until_<st.now)).map λD=>nV D.num)=(st.market.deals.filter λd=>decide (d.until_<st.now)).map λd=>nV d.num:=by
   have e1:((MA.ds.filter λD=>decide (D.until_<st.now)).map λD=>nV D.num)=((MA.ds.map ek).filter λr=>decide (r.2.2<st.now)).map λr=>nV r.1:=by rw[tw,bU];rfl
   have e2:((st.market.deals.filter λd=>decide (d.until_<st.now)).map λd=>nV d.num)=((st.market.deals.map cx).filter λr=>decide (r.2.2<st.now)).map λr=>nV r.1:=by rw[tw,bU];rfl
   rw[e1,e2,ml.ds]
  rw[eds]at hd1;generalize hds:(st.market.deals.filter λd=>decide (d.until_<st.now))=ds at hd1;have dsIn:∀d∈ds,d∈st.market.deals:=λd hd=>by rw[<-hds]at hd;exact(dG.mp hd).1
  have dsUp:Rm.Up ds:=by rw[<-hds];exact qE lq snd.g.up
  have dsLen:ds.length<=16:=by have:=tp (λd:aZ=>decide (d.until_<st.now)) st.market.deals;rw[hds]at this;omega
  have eover:gR st.now st.market=Rm.iz ds (st.market,[]):=by rw[Rm.AB,hds]
  have s2:ak H (upd H1 MA.aD (.dK (bF MA))):=ak.unlock (od:=od) hDk (by rw[hH0];exact s1)
  have ovD:ov≠MA.aD:=λz=>by rw[z,hDk]at hov0;cases hov0
  have hov2:(upd H1 MA.aD (.dK (bF MA))) ov=some (.lst (ds.map λd=>nV d.num)):=by rw[aI ovD];exact hd1
  refine⟨s1 _ _ hDf,?_⟩;generalize upd H1 MA.aD (.dK (bF MA))=H2 at s2 hov2;refine⟨gp _,λhp hhp=>?_⟩;have s3:ak H2 (upd H2 hp (.lst [])):=ak.new hhp;have hhp3:(upd H2 hp (.lst [])) hp=some (.lst []):=aR;have hhp0:H hp=none:=s2.free hhp;have hov3:=s3 _ _ hov2;have hpS:hp∉S:=mk.out hhp0;have ovS:ov∉S:=mk.out hov0;have hop:ov≠hp:=λz=>by rw[<-z,hov2]at hhp;cases hhp
  have mk3:=mk.same (s2.trans s3);have fr3:Fr H S (upd H2 hp (.lst [])) S:=Fr.dE (s2.trans s3);generalize upd H2 hp (.lst [])=H3 at s3 hhp3 hov3 mk3 fr3;refine⟨_,rfl,ov,rfl,⟨_,aj.of hov3⟩,?_⟩;refine g0 (fJ (K:=K) (a:=ov) (xs:=ds.map λd=>nV d.num)) (λi σ H'=>∃(v3:Option V)(Si:List aa)(Pi:List aS),σ=[some (.ref m),some (.ref ov),some (.ref hp),v3,none]/\cy (cg st (Rm.iz (ds.take i) (st.market,[])).1) Pi/\Mk CM CD H' m Si (cg st (Rm.iz (ds.take i) (st.market,[])).1) Pi/\Fr H S H' Si/\hp∉Si/\ov∉Si/\H' hp=some (.lst (c9 (Rm.iz (ds.take i) (st.market,[])).2))/\H' ov=some (.lst (ds.map λd=>nV d.num))/\(Rm.iz (ds.take i) (st.market,[])).2.length=i/\∀(j:Nat)(d:aZ),i<=j->ds[j]? =some d->d∈(Rm.iz (ds.take i) (st.market,[])).1.deals)
   ⟨none,S,P,rfl,snd,mk3,fr3,hpS,ovS,hhp3,hov3,rfl,λj d v h=>dsIn d (cZ h)⟩ (λi σ H' v ⟨u,t,p,n,l,Z,Y,X,W,U,z,R⟩=>aj.of z) (λi σ H' x H'' hi pv y=>?_) (λσ H' pv=>?_)
  .apply kP pv;intro v3 Si Pi zz;refine sH zz λsndi mki fri hpi ovi hhi hovi leni hin=>?_
   obtain⟨rfl,hx⟩:=y;rw[bz]at hx;obtain⟨d,hid,rfl⟩:=di.mp hx;have hd:=hin i d (bK _) hid;have hil:i<ds.length:=(cN.mp hid).1;rw[take_snoc hid,QM];generalize hc:Rm.iz (ds.take i) (st.market,[])=c at sndi mki hhi leni hin hd;obtain⟨A1,hmm,hmS⟩:=vc mki;refine⟨_,rfl,m,_,_,rfl,hmm,Bk _ _ _,_,rfl,?_⟩;refine⟨m,Si,cg st c.1,Pi,d,rfl,sndi,hd,mki,λH4 S4 mk4 fr4=>?_⟩;have snd4:=sndi.off hd;have hh4:=fr4.keep _ _ hhi hpi;have hp4:=fr4.out hhi hpi;have ho4:=fr4.keep _ _ hovi ovi;have op4:=fr4.out hovi ovi;have fr4':=fri.trans fr4;refine⟨_,rfl,.inl ⟨rfl,_,aj.of hh4⟩,_,rfl,(by show 2<=sizeLine;decide),λb hb=>?_⟩
   have s5:ak H4 (upd H4 b (.lst [.int 3,nV d.num])):=ak.new hb;refine⟨hp,b,_,_,rfl,rfl,s5 _ _ hh4,aR,sle _ (by rw[l5];simp;omega),?_⟩
   have enews:c9 c.2++[V.int 3,nV d.num]=c9 (c.2++[(3,d.num)]):=by rw[sI];rfl
   rw[enews];obtain⟨mk5,fr5,hh5⟩:=vz (us:=c9 (c.2++[(3,d.num)])) (mk4.same s5) (fr4'.trans (Fr.dE s5)) hhp0 hp4 (s5 _ _ hh4);refine⟨_,S4,jk Pi d.num,rfl,snd4,mk5,fr5,hp4,op4,hh5,?_,?_,λj d' hj hj'=>?_⟩
   .rw[aI hop];exact s5 _ _ ho4
   .rw[bV,leni];rfl
   .have h1:=hin j d' (by omega) hj'
    show d'∈(dv c.1 d).deals;rw[Rm.uB,Rm.kh];refine⟨h1,λz=>?_⟩;have:=(Rm.uY _).mp dsUp;have ndn:(ds.map (·.num)).Nodup:=this.imp (λh=>dM h);have e1:(ds.map (·.num))[i]? =some d.num:=by rw[bz,hid];rfl
    have e2:(ds.map (·.num))[j]? =some d.num:=by rw[bz,hj',<-z];rfl
    have:=CV ndn e1 e2;omega
  .apply kP pv;intro v3 Si Pi zz;refine sH zz λsndi mki fri hpi ovi hhi hovi leni hin=>?_
   rw[aA,jv]at sndi mki hhi leni;rw[<-eover]at sndi mki hhi leni;refine⟨_,rfl,ov,_,rfl,.inl (aj.of hovi),_,_,rfl,rfl,_,rfl,?_⟩;rw[aA];refine cJ (c:=ds≠[]) (by cases ds<;>simp) (λh1=>?_) (λh1=>?_)
   .refine⟨_,rfl,.inl ⟨rfl,_,aj.of hhi⟩,_,rfl,m,Si,_,Pi,rfl,sndi,mki,λH6 S6 P6 p6 mk6 snd6 fr6 hp6 hpS6 hh6=>?_⟩
    have hh6':=fr6.keep _ _ hhi hpi;have hp6':=fr6.out hhi hpi;have hsl:(dk (gR st.now st.market).1).1.deals.length+(dk (gR st.now st.market).1).2.length<=(gR st.now st.market).1.deals.length:=sndi.g.wW.2.2.1;have h16:(gR st.now st.market).1.deals.length<=16:=sndi.g.c5;refine⟨hp,p6,_,_,rfl,rfl,hh6',hh6,sle _ (by rw[l5];show _+(c9 (dk (gR st.now st.market).1).2).length<=_;rw[l5];omega),?_⟩
    obtain⟨mk7,fr7,hh7⟩:=vz (us:=c9 (gR st.now st.market).2++c9 (dk (gR st.now st.market).1).2) mk6 (fri.trans fr6) hhp0 hp6' hh6';refine⟨_,rfl,k _ S6 P6 hp mk7 snd6 fr7 hhp0 hp6' ?_⟩;exact hh7.trans (cq (λz=>some (HO.lst z)) (sI _ _).symm)
   .have h1:ds=[]:=i9.mp h1
    have eo:gR st.now st.market=(st.market,[]):=Rm.Wv (by rw[hds];exact h1)
    have e1:qi st=st.market:=by unfold qi;rw[eo,calm.settled]
    have e2:sT st=[]:=by unfold sT;rw[eo,calm.settled];rfl
    rw[eo]at sndi mki hhi;refine⟨_,rfl,k _ Si Pi hp (by rw[e1];exact mki) (by rw[e1];exact sndi) fri hhp0 hpi (by rw[e2];exact hhi)⟩
def iJ(as:List aa)(b:List (List Int)):List (aa×HO):=(as.zip b).map λp=>(p.1,HO.lst (p.2.map V.int))
def da(p:aa)(rs:List aa)(b:List (List Int)):List (aa×HO):=(p,.lst (rs.map V.ref))::iJ rs b
theorem Bi:∀{as:List aa}{b:List (List Int)}{o:Nat}{a:aa}{r:List Int},as[o]? =some a->b[o]? =some r->∃L1 L2,iJ as b=L1++(a,HO.lst (r.map V.int))::L2/\∀r',iJ as (b.set o r')=L1++(a,HO.lst (r'.map V.int))::L2
 |[],_,o,a,r,h,_=>by simp at h
 |_::_,[],o,a,r,_,h=>by simp at h
 |x::as,y::b,0,a,r,h1,h2=>by
  have e1:x=a:=by simpa using h1
  have e2:y=r:=by simpa using h2
  subst e1 e2;exact⟨[],iJ as b,rfl,λr'=>rfl⟩
 |x::as,y::b,o+1,a,r,h1,h2=>by
  obtain⟨L1,L2,e1,e2⟩:=Bi (as:=as) (b:=b) (o:=o) (a:=a) (r:=r) (by simpa using h1) (by simpa using h2)
  refine⟨(x,HO.lst (y.map V.int))::L1,L2,?_,λr'=>?_⟩
  .show _::iJ as b=_
   rw[e1];rfl
  .show _::iJ as (b.set o r')=_
   rw[e2];rfl
theorem Cz:∀{as:List aa}{b:List (List Int)},as.length=b.length->(iJ as b).map bg=as
 |[],[],_=>rfl
 |[],_::_,h=>by simp at h
 |_::_,[],h=>by simp at h
 |x::as,y::b,h=>by
  show x::(iJ as b).map bg=x::as;rw[Cz (by simpa using h)]
theorem HW{p:aa}{rs:List aa}{b c:List (List Int)}(h:rs.length=b.length)(h2:c.length=b.length):(da p rs c).map bg=(da p rs b).map bg:=by
 unfold da;rw[bS,bS,Cz (h.trans h2.symm),Cz h]
theorem Ip{p:aa}{rs:List aa}{b:List (List Int)}{no ng:Nat}(sh:j0 no ng b)(rl:rs.length=no)(hs:Hs H (da p rs b)){g:Nat}(ho:o<no)(hg:g<ng)(f:Int->Int):∃a vs,(rs.map V.ref)[o]? =some (V.ref a)/\a∈(da p rs b).map bg/\H a=some (.lst vs)/\vs[g]? =some (V.int (gj b o g))/\jn vs.length (g:Int)=some g/\Hs (upd H a (.lst (vs.set g (V.int (f (gj b o g)))))) (da p rs (mC b o g f)):=by
 obtain⟨r,e1,e2⟩:=Rm.ve sh ho hg;have hl:o<rs.length:=by rw[rl];exact ho
 obtain⟨L1,L2,q1,q2⟩:=Bi (bH hl) e1;have ea:da p rs b=((p,.lst (rs.map V.ref))::L1)++(rs[o],HO.lst (r.map V.int))::L2:=by unfold da;rw[q1];rfl
 have ec:mC b o g f=b.set o (r.set g (f (gj b o g))):=by
  unfold mC;rw[nL _ e1,nL f e2]
 have eb:da p rs (mC b o g f)=((p,.lst (rs.map V.ref))::L1)++(rs[o],HO.lst ((r.set g (f (gj b o g))).map V.int))::L2:=by unfold da;rw[ec,q2];rfl
 refine⟨rs[o],r.map V.int,by rw[bz,bH hl];rfl,by rw[ea];simp,?_,by rw[bz,e2];rfl,sM (by rw[aA];exact(cN.mp e2).1),?_⟩
 .exact hs.2 (rs[o],HO.lst (r.map V.int)) (by rw[ea];simp)
 .rw[eb]
  rw[ea]at hs;have:=hs.put (o':=HO.lst ((r.set g (f (gj b o g))).map V.int));rw[wD]at this⊢;exact this
abbrev Gy:List ae:=["market","legs","left","giver","amount","good","taker","amounts"]
theorem Gp:bX Gy ["market","legs"] (bb ux):=⟨rfl,rfl,rfl,by decide+kernel,rfl,by decide+kernel,by decide+kernel⟩
def Cp(CM CD:aa):Sp:=λvs H Q z=>∃(m lg:aa)(ts:List aa)(ls:List bN)(s:aT)(P:List aS),vs=[.ref m,.ref lg]/\iM CM CD H m s P/\dJ s/\ql H lg ts ls/\ls.length<=12/\Rm.j7 s.owners.length s.market.goods ls/\
 ∀(H':Hp)(p:aa)(rs:List aa),ak H H'->rs.length=s.owners.length->Hs H' (da p rs (xK (dY s.market.free) ls))->(∀b∈(da p rs (xK (dY s.market.free) ls)).map bg,H b=none)->Q (.ref p) H'
theorem XX(G:Gd K mg "left_by_exchange" ux)(T:Tx K mg CM CD):Df Pr w K mg base be 1 "left_by_exchange" ["market","legs"] (Cp CM CD):=by
 obtain⟨f,fd,F,hm⟩:=G.ex;refine⟨f,fd,F.dn Gp (λvs H Q E h=>?_) (λcdv A outer s H vs Q E hr h=>?_),hm,F.kp,F.binds (bn2 rfl)⟩
 .apply eT h;intro v v v v v v v;rfl
 .intro X0;apply eT h;intro m lg ts ls st P zz;refine pk zz λmk ft ll l12 lok k=>?_
  have nd:=Gp.nd;refine⟨_,aK (wL (i:=2) rfl nd rfl rfl rfl (fH (bx (pv 0) rfl)) (eI (N:=Gy) (sc:=bb ux) (own:=[("amounts",7)]) (by decide+kernel)) (λv v v v v=>bY (i:=7) nd rfl (aV rfl) (.inr rfl)) (λv v v v v=>fU) (λv v v v v=>uT (PH K rfl) rfl T.AI NX (ai (pv 7) au))) (aK (g7 jV rfl (fH (pv 1)) (lS rfl (dA (bY (i:=3) nd rfl (aV rfl)) (dA (bY (i:=4) nd rfl (aV rfl)) (dA (bY (i:=5) nd rfl (aV rfl)) (dA (bY (i:=6) nd rfl (aV rfl)) ji))))) (aK (jg (bh bO (pv 2) (pv 3) (λv v=>rfl)) (pv 5) jo (pv 4) rM set_list) (aX (jg (bh bO (pv 2) (pv 6) (λv v=>rfl)) (pv 5) jo (pv 4) nR set_list)))) (aX (bT (pv 2)))),?_⟩
  obtain⟨MA,ml,R⟩:=id mk;have frl:MA.fr.length=st.owners.length:=ml.fr.trans ft.free.len;have o8:=ft.owners;refine⟨_,rfl,bp (bC R) T.cM T.jN (k8 _ _ _) ⟨MA.aF,rfl,⟨_,aj.of (jA R)⟩,λDd hDd=>?_⟩⟩;refine rY (fJ (K:=K) (a:=MA.aF) (xs:=MA.fr.map V.ref)) (λi H'=>ak H H'/\∃rs:List aa,rs.length=i/\Hs H' (da Dd rs (dY (st.market.free.take i)))/\∀b∈(da Dd rs (dY (st.market.free.take i))).map bg,H b=none)
   ⟨ak.new hDd,[],rfl,⟨by simp[da,iJ],λz hz=>?_⟩,λb hb=>?_⟩ (λi H' v z=>aj.of (z.1 _ _ (jA R))) (λi H' x H'' hi pv y=>?_) (λH' pv=>?_)
  .have:z=(Dd,HO.lst []):=by simpa[da,iJ]using hz
   subst this;exact aR
  .have:b=Dd:=by simpa[da,iJ]using hb
   subst this;exact hDd
  .obtain⟨s1,rs,rl,hz,hn⟩:=pv
   obtain⟨rfl,hx⟩:=y;rw[bz]at hx;obtain⟨a,ha,rfl⟩:=di.mp hx;have hil:i<st.market.free.length:=by rw[<-ml.fr];exact(cN.mp ha).1
   obtain⟨r,hr'⟩:∃r,st.market.free[i]? =some r:=⟨_,bH hil⟩;have fA:=s1 _ _ (rm R ha hr');refine⟨rfl,fY ⟨_,rfl,a,_,rfl,.inl (aj.of fA),λD2 hD2=>?_⟩⟩;have s2:ak H'' (upd H'' D2 (.lst (r.map nV))):=ak.new hD2;have hz4:=hz.same s2;have hDd4:=hz4.2 (Dd,.lst (rs.map V.ref)) (by simp[da])
   have dN:=hz.out hD2;have erow:iJ (rs++[D2]) (dY (st.market.free.take (i+1)))=iJ rs (dY (st.market.free.take i))++[(D2,HO.lst (r.map nV))]:=by
    unfold iJ dY;rw[take_snoc hr',bZ,aai (by rw[aA,jT,rl];omega),bZ]
    show _=_++_;simp[nV,bU]
   refine⟨_,hDd4,sl _ (by rw[aA];have:=ft.free.len;omega),λb o e=>?_,rs++[D2],by rw[bV,rl];rfl,?_,λb hb=>?_⟩
   .rw[aI (cQ e hDd)];exact s2 _ _ (s1 _ _ e)
   .have p1:Hs (upd H'' D2 (.lst (r.map nV))) ((Dd,.lst (rs.map V.ref))::(iJ rs (dY (st.market.free.take i))++[(D2,HO.lst (r.map nV))])):=by
     refine Hs.perm (L:=(D2,HO.lst (r.map nV))::da Dd rs (dY (st.market.free.take i))) (hz.new hD2) ?_;unfold da;exact(z6 _ _ _).trans (tW _ (wB (l₁:=[(D2,HO.lst (r.map nV))])))
    have p2:=Hs.put (L1:=[]) (o':=.lst (rs.map V.ref++[V.ref D2])) p1;unfold da;rw[erow,bZ];exact p2
   .unfold da at hb
    rw[erow,bS]at hb;rcases bM.mp hb with rfl|hb
    .exact hDd
    .rw[bZ]at hb
     rcases b6.mp hb with hb|hb
     .exact hn b (by unfold da;rw[bS];exact b8 _ hb)
     .have:b=D2:=by simpa using hb
      subst this;exact ak.free s1 hD2
  .obtain⟨s1,rs,rl,hz,hn⟩:=pv
   rw[aA,ml.fr,jv]at hz hn;rw[aA,frl]at rl;have sh0:=Rm.sk ft.free;have ll1:=ll.same s1;refine⟨_,rfl,lg,rfl,⟨_,aj.of ll1.lst⟩,?_⟩;have lokT:∀i,Rm.j7 st.owners.length st.market.goods (ls.take i):=λi=>⟨λx hx=>lok.lM x (tZ hx),λx hx=>lok.lN x (tZ hx),λx hx=>lok.jK x (tZ hx)⟩;have shT:∀i,j0 st.owners.length st.market.goods (xK (dY st.market.free) (ls.take i)):=λi=>(Rm.sJ _ sh0 (lokT i)).1;have fst:∀i,(da Dd rs (xK (dY st.market.free) (ls.take i))).map bg=(da Dd rs (dY st.market.free)).map bg:=λi=>HW (rl.trans sh0.len.symm) ((shT i).len.trans sh0.len.symm)
   let W:IV:=λi σ H'=>∃v3 v4 v5 v6:Option V,σ=[some (.ref m),some (.ref lg),some (.ref Dd),v3,v4,v5,v6,none]/\ak H H'/\Hs H' (da Dd rs (xK (dY st.market.free) (ls.take i)))
   refine g0 (fJ (K:=K) (a:=lg) (xs:=ts.map V.ref)) (W)
    ⟨none,none,none,none,rfl,s1,hz⟩ (λi σ H' v ⟨u,q,p,l,j,z,g⟩=>aj.of (ll.same z).lst) (λi σ H' x H'' hi pv y=>?_) (λσ H' pv=>?_)
   .apply gM pv;intro v3 v4 v5 v6 zz;refine jx zz λs2 hX=>?_
    obtain⟨rfl,hx⟩:=y;rw[bz]at hx;obtain⟨t,ht,rfl⟩:=di.mp hx;have hil:i<ls.length:=by rw[<-ll.len];exact(cN.mp ht).1
    obtain⟨x,hlx⟩:∃x,ls[i]? =some x:=⟨ls[i],bH hil⟩;have hmx:=cZ hlx;have htup:=s2 _ _ (ll.tup i t x ht hlx);refine⟨t,_,rfl,cv.of htup,rfl,_,_,rfl,_,_,rfl,_,_,rfl,_,_,rfl,rfl,?_⟩;obtain⟨a,vs,ha,ham,hav,hvg,hix,hY⟩:=Ip (shT i) rl hX (lok.lM x hmx) (lok.jK x hmx) (λz=>z - (x.n:Int));have hDd1:=hX.2 (Dd,.lst (rs.map V.ref)) (by simp[da])
    refine⟨_,rfl,_,rfl,bL (aj.of hDd1) (bj ha) ⟨_,rfl,jj (aj.of hav) hvg ⟨_,rfl,_,_,rfl,rfl,a,_,_,x.good,rfl,rfl,hav,hix,?_⟩⟩⟩;have aN:H a=none:=by rw[fst i]at ham;exact hn a ham
    have s3:ak H (upd H'' a (.lst (vs.set x.good (V.int (gj (xK (dY st.market.free) (ls.take i)) x.from_ x.good - (x.n:Int)))))):=λb o e=>by rw[aI (cQ e aN)];exact s2 _ _ e
    generalize upd H'' a (.lst (vs.set x.good (V.int (gj (xK (dY st.market.free) (ls.take i)) x.from_ x.good - (x.n:Int)))))=H3 at hY s3;have sh1:=Rm.AY (shT i) x.from_ x.good λz=>z - (x.n:Int);obtain⟨a2,vs2,ha2,ham2,hav2,hvg2,hix2,hZ⟩:=Ip sh1 rl hY (lok.lN x hmx) (lok.jK x hmx) (λz=>z+(x.n:Int));have hDd2:=hY.2 (Dd,.lst (rs.map V.ref)) (by simp[da])
    refine⟨_,rfl,_,rfl,bL (aj.of hDd2) (bj ha2) ⟨_,rfl,jj (aj.of hav2) hvg2 ⟨_,rfl,_,_,rfl,rfl,a2,_,_,x.good,rfl,rfl,hav2,hix2,?_⟩⟩⟩;have aN2:H a2=none:=by rw[HW (rl.trans sh0.len.symm) (sh1.len.trans sh0.len.symm)]at ham2;exact hn a2 ham2
    refine⟨_,_,_,_,rfl,λb o e=>by rw[aI (cQ e aN2)];exact s3 _ _ e,?_⟩
    rw[take_snoc hlx,Rm.VM];exact hZ
   .apply gM pv;intro v3 v4 v5 v6 zz;refine jx zz λs2 hX=>?_
    rw[aA,ll.len]at hX;have hf:=fst ls.length;rw[jv]at hX hf;exact⟨_,rfl,k _ Dd rs s2 rl hX λb hb=>hn b (by rw[<-hf];exact hb)⟩
abbrev HJ:List ae:=["left","amounts"]
theorem L8:bX HJ ["left"] (bb ue):=⟨rfl,rfl,rfl,by decide+kernel,rfl,by decide+kernel,by decide+kernel⟩
def AJ:Sp:=λvs H Q z=>∃(p:aa)(rs:List aa)(b:List (List Int))(no ng:Nat),vs=[.ref p]/\Rm.j0 no ng b/\rs.length=no/\no<=8/\0<ng/\Hs H (da p rs b)/\∀H',ak H H'->Q (.bl (Rm.rZ b)) H'
theorem Sq(G:Gd K mg "can_be_made" ue)(T:Tx K mg CM CD):Df Pr w K mg base be 1 "can_be_made" ["left"] AJ:=by
 obtain⟨f,fd,F,hm⟩:=G.ex;refine⟨f,fd,F.dn L8 (λvs H Q E h=>?_) (λcdv A outer s H vs Q E hr h=>?_),hm,F.kp,F.binds (bn1 rfl)⟩
 .apply mz h;intro v v v v v v;rfl
 .intro X0;apply mz h;intro p rs b no ng zz;refine pk zz λsh rl no8 ng0 hX k=>?_
  have nd:=L8.nd;refine⟨_,aX (bT (dh (u9 rfl) rfl T.vb z5 (ai (fw rfl nd (fH (pv 0)) (eI (N:=HJ) (sc:=bb ue) (own:=[("amounts",1)]) (by decide+kernel)) (λv v v v v=>bY (i:=1) nd rfl (aV rfl) (.inr rfl)) (λv v v v v=>fU) (λv v v v v=>oU LC (dh (QP K rfl rfl) rfl T.La ZZ (ai (pv 1) au)) aQ (c7 _))) au))),?_⟩
  have hp:=hX.2 (p,.lst (rs.map V.ref)) (by simp[da])
  refine⟨_,rfl,p,rfl,⟨_,aj.of hp⟩,λD hD=>?_⟩;refine fF (fJ (K:=K) (a:=p) (xs:=rs.map V.ref)) (λH' s'=>aj.of (s' _ _ hp)) (λi=>(b[i]?).map λr=>V.bl (r.all λz=>decide (0<=z))) (sl _ (by rw[aA];omega)) hD (λi H' x H'' KY KN hi s' y ky kn=>?_) (λH1 s1 hd=>?_)
  .obtain⟨rfl,hx⟩:=y
   rw[bz]at hx;obtain⟨a,ha,rfl⟩:=di.mp hx;have hil:i<b.length:=by rw[sh.len,<-rl];exact(cN.mp ha).1
   obtain⟨r,hr'⟩:∃r,b[i]? =some r:=⟨_,bH hil⟩
   have fA:H'' a=some (.lst (r.map V.int)):=s' _ _ (hX.2 (a,.lst (r.map V.int)) (by
    unfold da;refine b8 _ ?_;obtain⟨L1,L2,e,v⟩:=Bi ha hr'
    rw[e];simp))
   have hlen:0<r.length:=by rw[sh.row r (cZ hr')];exact ng0
   refine⟨rfl,fY ⟨_,rfl,a,r,rfl,aj.of fA,hlen,λM hM hmin=>⟨_,_,rfl,rfl,ky _ _ ?_ (ak.refl _)⟩⟩⟩;rw[hr'];show some (V.bl (r.all λz=>decide (0<=z)))=some (V.bl (decide (0<=M)))
   congr 2
   by_cases c:0<=M
   .rw[dw c]
    exact fE.mpr λz hz=>dw (Int.le_trans c (hmin z hz))
   .rw[cU c]
    refine vJ.mpr λq=>c (lz (fE.mp q M hM))
  .have e1:(rs.map V.ref).length=b.length:=by rw[aA,rl,sh.len]
   rw[e1,jX]at hd;refine⟨D,b.map λr=>r.all λz=>decide (0<=z),rfl,aj.of (by rw[hd,bU];rfl),?_⟩
   have e2:((b.map λr=>r.all λz=>decide (0<=z)).all id)=Rm.rZ b:=by unfold Rm.rZ;rw[pF];rfl
   rw[e2];exact k _ s1
structure Rep(CM CD:aa)(ex:Nat->aa)(s:aT)(P:List aS)(c:cu)(H:Hp)(m:aa)(S:List aa)(Q:VK)(E:XK):Prop where
 yes:∀(H':Hp)(S':List aa)(P':List aS)(p:aa),Mk CM CD H' m S' (step s c).1 P'->Ord (step s c).1.market P'->Fr H S H' S'->(∀b o,H b=some o->b∉S->b≠p)->H' p=some (.lst ((step s c).2.map V.int))->Q (.ref p) H'
 no:∀(k:Nat)(H':Hp)(S':List aa),1<=k->k<=5->step s c=eX s k->Mk CM CD H' m S' s P->Fr H S H' S'->E (.ref (ex k)) none H'
def d5(CM CD:aa)(ex:Nat->aa)(cl:List Int->Text->Option cu):Sp:=λvs H Q E=>∃(m nb tx:aa)(S:List aa)(s:aT)(P:List aS)(ns:List Int)(t:Text)(c:cu),vs=[.ref m,.ref nb,.ref tx]/\cl ns t=some c/\rT s P/\Mk CM CD H m S s P/\H nb=some (.lst (ns.map V.int))/\H tx=some (.lst (t.map nV))/\nb∉S/\tx∉S/\t.length<=600/\Rep CM CD ex s P c H m S Q E
abbrev cH:List ae:=["market","numbers","text"]
def o7(f:Text->cu):List Int->Text->Option cu
 |[],t=>some (f t)
 |_,_=>none
def oJ(f:Int->Text->cu):List Int->Text->Option cu
 |[a],t=>some (f a t)
 |_,_=>none
def xX(f:Int->Int->Text->cu):List Int->Text->Option cu
 |[a,b],t=>some (f a b t)
 |_,_=>none
def Av(f:Int->Int->Int->Text->cu):List Int->Text->Option cu
 |[a,b,c],t=>some (f a b c t)
 |_,_=>none
def JH(f:Int->Int->Int->Int->Text->cu):List Int->Text->Option cu
 |[a,b,c,d],t=>some (f a b c d t)
 |_,_=>none
theorem gJ{cl:List Int->Text->Option cu}(vs:List V)(H:Hp)(Q:VK)(E:XK)(h:d5 CM CD ex cl vs H Q E):vs.length=cH.length:=by apply Jm h;intro z z z z z z z z z z;rfl
def oK(CM CD:aa)(ex:Nat->aa)(H:Hp)(Q:VK)(E:XK)(G:List V->Prop)(ns:List Int)(t:Text)(c:cu):Prop:=∀m nb tx S s P,rT s P->Mk CM CD H m S s P->H nb=some (.lst (ns.map V.int))->H tx=some (.lst (t.map nV))->nb∉S->tx∉S->t.length<=600->Rep CM CD ex s P c H m S Q E->G [.ref m,.ref nb,.ref tx]
theorem oa{cl:List Int->Text->Option cu}{vs:List V}{Q:VK}{E:XK}(h:d5 CM CD ex cl vs H Q E)(k:∀ns t c,cl ns t=some c->oK CM CD ex H Q E G ns t c):G vs:=by
 apply Jm h;intro m nb tx S s P ns t c zz;refine sH zz λhc a1 a2 a3 a4 a5 a6 a7 a8=>?_;exact k ns t c hc m nb tx S s P a1 a2 a3 a4 a5 a6 a7 a8
theorem qt{f:Text->cu}{vs:List V}{Q:VK}{E:XK}(h:d5 CM CD ex (o7 f) vs H Q E)(k:∀t,oK CM CD ex H Q E G [] t (f t)):G vs:=oa h λns t z e=>match ns,e with|[],e=>dQ e▸k t
theorem qh{f:Int->Text->cu}{vs:List V}{Q:VK}{E:XK}(h:d5 CM CD ex (oJ f) vs H Q E)(k:∀x t,oK CM CD ex H Q E G [x] t (f x t)):G vs:=oa h λns t z e=>match ns,e with|[x],e=>dQ e▸k x t
theorem BY{f:Int->Int->Text->cu}{vs:List V}{Q:VK}{E:XK}(h:d5 CM CD ex (xX f) vs H Q E)(k:∀x y t,oK CM CD ex H Q E G [x,y] t (f x y t)):G vs:=oa h λns t z e=>match ns,e with|[x,y],e=>dQ e▸k x y t
theorem Ky{f:Int->Int->Int->Text->cu}{vs:List V}{Q:VK}{E:XK}(h:d5 CM CD ex (Av f) vs H Q E)(k:∀x y z t,oK CM CD ex H Q E G [x,y,z] t (f x y z t)):G vs:=oa h λns t w e=>match ns,e with|[x,y,z],e=>dQ e▸k x y z t
theorem V4{f:Int->Int->Int->Int->Text->cu}{vs:List V}{Q:VK}{E:XK}(h:d5 CM CD ex (JH f) vs H Q E)(k:∀x y z u t,oK CM CD ex H Q E G [x,y,z,u] t (f x y z u t)):G vs:=oa h λns t w e=>match ns,e with|[x,y,z,u],e=>dQ e▸k x y z u t
section
variable{H1:Hp}{m:aa}{S S1:List aa}{s1:aT}{P1:List aS}{c:cu}{Q:VK}{E:XK}{A:MA}
theorem Rep.fB(r:Rep CM CD ex s P c H m S Q E)(mk:Mk CM CD H m S s P)(k:Nat)(h1:1<=k)(h5:k<=5)(e:step s c=eX s k):E (.ref (ex k)) none H:=r.no k H S h1 h5 e mk Fr.refl
theorem Rep.qa(r:Rep CM CD ex s P c H m S Q E)(mk:Mk CM CD H m S s P)(k:Nat)(h1:1<=k)(h5:k<=5)(e:step s c=eX s k){H':Hp}(sm:ak H H'):E (.ref (ex k)) none H':=r.no k H' S h1 h5 e (mk.same sm) (Fr.dE sm)
theorem Rep.new(r:Rep CM CD ex s P c H m S Q E){H':Hp}{S':List aa}{P':List aS}{q:aa}{vs:List V}(mk:Mk CM CD H' m S' (step s c).1 P')(o:Ord (step s c).1.market P')(fr:Fr H S H' S')(hq:H' q=none)(e:vs=(step s c).2.map V.int):Q (.ref q) (upd H' q (.lst vs)):=by
 subst e;have sm:ak H' (upd H' q (.lst ((step s c).2.map V.int))):=ak.new hq;refine r.yes _ S' P' q (mk.same sm) o (fr.trans (Fr.dE sm)) (λb o hb hn=>?_) aR;exact cQ (fr.keep b o hb hn) hq
theorem qd(r:Rep CM CD ex s P c H m S Q E)(e:step s c=(cg s1 (dk s1.market).1,0::nq (dk s1.market).2))(snd:cy s1 P1)(mk:Mk CM CD H1 m S1 s1 P1)(fr:Fr H S H1 S1){z:aa}(hz:H1 z=none):mK CM CD [.ref m] (upd H1 z (.lst [.int 0])) (λv H2=>Jz (.ref z) v H2 Q) E0:=by
 have sm:ak H1 (upd H1 z (.lst [.int 0])):=ak.new hz;refine⟨m,S1,s1,P1,rfl,snd,mk.same sm,λH2 S2 P2 p mk2 snd2 fr2 hp hpS hh=>?_⟩;have h16:=snd.g.c5;have hsl:=snd.g.wW.2.2.1;refine⟨z,p,_,_,rfl,rfl,fr2.keep _ _ aR (mk.out hz),hh,sle _ (by rw[l5];simp;omega),λq hq=>?_⟩
 refine r.new (S':=S2) (P':=P2) (by rw[e];exact mk2) (by rw[e];exact snd2.o) ((fr.trans (Fr.dE sm)).trans fr2) hq ?_
 rw[e];rfl
theorem T4(hs:Hs H (aE CM CD m A s P))(r:List Nat):Hs (upd H A.aM (.lst (r.map nV))) (aE CM CD m A {s with made:=r} P):=by
 have ea (s:aT):aE CM CD m A s P=[(m,.ins CM A.dm (b7 A s.now s.next)),(A.aD,.dK (bF A)),(A.aP,.dT (b5 P))]++(A.aM,HO.lst (s.made.map nV))::([bJ A.aB s.burned,(A.aO,.lst (s.owners.map tV)),(A.aG,.lst (s.goods.map tV)),(A.aF,.lst (A.fr.map V.ref)),(A.aH,.lst (A.hd.map V.ref))]++(rows A.fr s.market.free++(rows A.hd s.market.held++A.ds.flatMap (cE CD s.market.goods)))):=by unfold aE cf bJ;simp
 rw[ea]at hs⊢;exact hs.put
theorem T2(hs:Hs H (aE CM CD m A s P))(r:List Nat):Hs (upd H A.aB (.lst (r.map nV))) (aE CM CD m A {s with burned:=r} P):=by
 have ea (s:aT):aE CM CD m A s P=[(m,.ins CM A.dm (b7 A s.now s.next)),(A.aD,.dK (bF A)),(A.aP,.dT (b5 P)),bJ A.aM s.made]++(A.aB,HO.lst (s.burned.map nV))::([(A.aO,.lst (s.owners.map tV)),(A.aG,.lst (s.goods.map tV)),(A.aF,.lst (A.fr.map V.ref)),(A.aH,.lst (A.hd.map V.ref))]++(rows A.fr s.market.free++(rows A.hd s.market.held++A.ds.flatMap (cE CD s.market.goods)))):=by unfold aE cf bJ;simp
 rw[ea]at hs⊢;exact hs.put
theorem qf{x:aa×HO}(h:x∈cf CM m A s P):x.1∈(aE CM CD m A s P).map bg:=bw.mpr ⟨x,eZ h,rfl⟩
end
theorem K1{z:Int}(h:0<=z):∃n:Nat,z=(n:Int):=⟨z.toNat,by omega⟩
theorem oY{o:Int}(h:nW s o=true):∃k:Nat,o=(k:Int)/\k<s.owners.length:=by
 obtain⟨h1,h2⟩:=Rm.iK.isOwner (s:=s) (o:=o) (by rw[h];decide)
 exact⟨o.toNat,by omega,h2⟩
theorem DE{o:Int}(h:zw s o=true):∃k:Nat,o=(k:Int)/\k<s.goods.length:=by
 obtain⟨h1,h2⟩:=Rm.iK.isGood (s:=s) (g:=o) (by rw[h];decide)
 exact⟨o.toNat,by omega,h2⟩
theorem Ad{n:Int}(h:nr n 1 FU=true):∃k:Nat,n=(k:Int)/\1<=k:=by
 have:=lz h;exact⟨n.toNat,by omega,by omega⟩
theorem wY{a b c:Bool}(ha:a=true)(hb:b=true)(hc:c=true):¬(a=false\/b=false\/c=false):=by simp[ha,hb,hc]
abbrev A5:List Int->Text->Option cu:=Av λo g n z=>(.make o g n)
abbrev CB:List Int->Text->Option cu:=Av λo g n z=>(.burn o g n)
abbrev Iy:List ae:=["market","numbers","text","owner","good","amount"]
theorem Hm:bX Iy cH (bb yD):=⟨rfl,rfl,rfl,by decide+kernel,rfl,by decide+kernel,by decide+kernel⟩
theorem Wy(G:Gd K mg "answer_make" yD)(T:Tx K mg CM CD)(X:Ex K mg E1 E2 E3 E4 E5)(d_amt:Df Pr w K mg base (bR Pr w) 3 "check_amount" ["market","owner","good","amount"] (yQ CM CD E1))(d_settle:Df Pr w K mg base be 6 "settle" ["market"] (mK CM CD)):Df Pr w K mg base (bR Pr w) 7 "answer_make" cH (d5 CM CD (exc E1 E2 E3 E4 E5) A5):=by
 obtain⟨f,fd,F,hm⟩:=G.ex;refine⟨f,fd,F.eP Hm gJ (λcdv A outer s H vs Q E hr h=>?_),hm,F.kp,F.binds (bn3 rfl)⟩
 .intro X0;apply Ky h;intro o g n t m nb tx S st P lv mk hnb htx nbS txS t600 rep
  have nd:=Hm.nd;have snd:=lv.sound;have ft:=snd.fW;refine⟨_,aK (bW (i:=3) nd rfl (aV rfl) (bh bO (pv 1) aQ (λy y=>rfl))) (aK (bW (i:=4) nd rfl (aV rfl) (bh bO (pv 1) aQ (λy y=>rfl))) (aK (bW (i:=5) nd rfl (aV rfl) (bh bO (pv 1) aQ (λy y=>rfl))) (aK (cG (bQ d_amt (hr.mono (by decide)) eJ (ai (pv 0) (ai (pv 3) (ai (pv 4) (ai (pv 5) au)))))) (eR (df qz (eG mx (bh bO (bx (pv 0) rfl) (pv 4) (λy y=>rfl)) (pv 5)) (fC T.F4) (c7 _)) (aX (je rfl X.m5 X.x5)) (aK (jg (bx (pv 0) rfl) (pv 4) jo (pv 5) nR set_list) (aK (jg (bh bO (bx (pv 0) rfl) (pv 3) (λy y=>rfl)) (pv 4) jo (pv 5) nR set_list) (aX (bT (eG j3 (cW (ai aQ au)) (bQ d_settle hr b0 (ai (pv 0) au))))))))))),?_⟩
  refine⟨_,rfl,bL (aj.of hnb) (bj (j:=0) rfl) ?_⟩;refine⟨_,rfl,bL (aj.of hnb) (bj (j:=1) rfl) ?_⟩;refine⟨_,rfl,bL (aj.of hnb) (bj (j:=2) rfl) ?_⟩;refine⟨_,rfl,_,rfl,_,rfl,_,rfl,m,o,g,n,st,P,rfl,mk.rd,snd.owners,λh1 h2 h3=>?_,λh=>rep.fB mk 1 (by decide) (by decide) (ay h)⟩
  obtain⟨o,rfl,ho⟩:=oY h1;obtain⟨g,rfl,hg⟩:=DE h2;obtain⟨n,rfl,hn⟩:=Ad h3;obtain⟨MA,ml,hs,rfl⟩:=id mk;have R:=hs.rs;have hgm:g<st.made.length:=by rw[lv.g.made];exact hg
  have hgm':g<st.market.goods:=by rw[lv.g.goods];exact hg
  have e0:(rj ((g:Nat):Int))=g:=ij g;have hmg:st.made[g]? =some (st.made.getD g 0):=by rw[eA,bH hgm];rfl
  refine⟨_,rfl,bp (bC R) T.cM T.yY (Co _ _ _) ⟨_,rfl,bL (aj.of (t9 R)) (bj (by rw[bz,hmg];rfl)) ⟨_,rfl,_,_,rfl,rfl,_,_,rfl,rfl,_,rfl,?_⟩⟩⟩
  refine cJ (c:=FU<((st.made.getD g 0:Nat):Int)+(n:Int)) rfl (λh4=>?_) (λh4=>?_)
  .refine rep.fB mk 5 (by decide) (by decide) ?_
   show(if _ then _ else _)=_;rw[aq (wY h1 h2 h3),e0,ay h4]
  .refine⟨_,rfl,bp (bC R) T.cM T.yY (Co _ _ _) ⟨_,rfl,jj (aj.of (t9 R)) (by rw[bz,hmg];rfl) ⟨_,rfl,_,_,rfl,rfl,MA.aM,_,_,g,rfl,rfl,t9 R,sM (by rw[aA];exact hgm),?_⟩⟩⟩
   have h5:=T4 hs (st.made.modify g λx=>x+n);have em:FT (st.made.map nV) g (V.int (((st.made.getD g 0:Nat):Int)+(n:Int)))=(st.made.modify g λx=>x+n).map nV:=by rw[nL _ hmg,wD];rfl
   rw[em];have fr1:Fr H ((aE CM CD m MA st P).map bg) (upd H MA.aM (.lst ((st.made.modify g λx=>x+n).map nV))) ((aE CM CD m MA st P).map bg):=Fr.gu (t9 R) (λxs z=>nomatch z) (qf (x:=bJ MA.aM st.made) (by simp[cf]))
   generalize upd H MA.aM (.lst ((st.made.modify g λx=>x+n).map nV))=H1 at h5 fr1;have ml1:eY MA {st with made:=st.made.modify g λx=>x+n}:=⟨ml.fr,ml.hd,ml.ds,ml.dl⟩
   have ft1:dJ {st with made:=st.made.modify g λx=>x+n}:=⟨ft.free,ft.held,ft.goods,ft.owners,ft.up,ft.c5⟩
   obtain⟨a,vs,ha,hav,hvg,hix,h6⟩:=qb ml1 (iV h5) ft1 (o:=o) (g:=g) ho hgm' (λx=>x+n);have R1:=h5.rs;refine⟨_,rfl,bp (bC R1) T.cM T.jN (k8 _ _ _) ⟨_,rfl,bL (aj.of (jA R1)) (bj (j:=o) (by rw[bz,ha];rfl)) ⟨_,rfl,jj (aj.of hav) hvg ⟨_,rfl,_,_,rfl,rfl,a,_,_,g,rfl,rfl,hav,hix,?_⟩⟩⟩⟩
   have sh:Rm.Shape st.owners.length st.market.goods (iP st.market.free o g n):=Rm.qm ft.free o g n;have h7:=mX h6;have fr2:=fr1.trans (Fr.gu (o':=.lst (vs.set g (V.int (((amount st.market.free o g:Nat):Int)+(n:Int))))) hav (λxs z=>nomatch z) (qC (CM:=CM) (CD:=CD) (m:=m) (P:=P) ml ft ho ha))
   let s1:aT:={st with made:=st.made.modify g λx=>x+n,market:={st.market with free:=iP st.market.free o g n}}
   have snd1:cy s1 P:=⟨snd.g.freed sh,snd.o.same rfl,snd.goods,snd.owners⟩;have mk1:Mk CM CD (upd H1 a (.lst (vs.set g (V.int (((amount st.market.free o g:Nat):Int)+(n:Int)))))) m ((aE CM CD m MA st P).map bg) s1 P:=⟨MA,⟨ml.fr.trans (sh.len.trans ft.free.len.symm).symm,ml.hd,ml.ds,ml.dl⟩,h7,(sL ml (sh.len.trans ft.free.len.symm) rfl).symm⟩;refine⟨by decide,λz hz=>⟨_,rfl,qd rep ?_ snd1 mk1 fr2 hz⟩⟩
   show(if _ then _ else _)=_;rw[aq (wY h1 h2 h3),e0,aq h4];rfl
theorem JR:bX Iy cH (bb xg):=⟨rfl,rfl,rfl,by decide+kernel,rfl,by decide+kernel,by decide+kernel⟩
theorem QK(G:Gd K mg "answer_burn" xg)(T:Tx K mg CM CD)(X:Ex K mg E1 E2 E3 E4 E5)(d_amt:Df Pr w K mg base (bR Pr w) 3 "check_amount" ["market","owner","good","amount"] (yQ CM CD E1))(d_free:Df Pr w K mg base (bR Pr w) 1 "check_free" ["market","owner","good","amount"] (Cy CM CD E4))(d_settle:Df Pr w K mg base be 6 "settle" ["market"] (mK CM CD)):Df Pr w K mg base (bR Pr w) 7 "answer_burn" cH (d5 CM CD (exc E1 E2 E3 E4 E5) CB):=by
 obtain⟨f,fd,F,hm⟩:=G.ex;refine⟨f,fd,F.eP JR gJ (λcdv A outer s H vs Q E hr h=>?_),hm,F.kp,F.binds (bn3 rfl)⟩
 .intro X0;apply Ky h;intro o g n t m nb tx S st P lv mk hnb htx nbS txS t600 rep
  have nd:=JR.nd;have snd:=lv.sound;have ft:=snd.fW;refine⟨_,aK (bW (i:=3) nd rfl (aV rfl) (bh bO (pv 1) aQ (λy y=>rfl))) (aK (bW (i:=4) nd rfl (aV rfl) (bh bO (pv 1) aQ (λy y=>rfl))) (aK (bW (i:=5) nd rfl (aV rfl) (bh bO (pv 1) aQ (λy y=>rfl))) (aK (cG (bQ d_amt (hr.mono (by decide)) eJ (ai (pv 0) (ai (pv 3) (ai (pv 4) (ai (pv 5) au)))))) (aK (cG (bQ d_free (hr.mono (by decide)) eJ (ai (pv 0) (ai (pv 3) (ai (pv 4) (ai (pv 5) au)))))) (aK (jg (bx (pv 0) rfl) (pv 4) jo (pv 5) nR set_list) (aK (jg (bh bO (bx (pv 0) rfl) (pv 3) (λy y=>rfl)) (pv 4) jo (pv 5) rM set_list) (aX (bT (eG j3 (cW (ai aQ au)) (bQ d_settle hr b0 (ai (pv 0) au))))))))))),?_⟩
  refine⟨_,rfl,bL (aj.of hnb) (bj (j:=0) rfl) ?_⟩;refine⟨_,rfl,bL (aj.of hnb) (bj (j:=1) rfl) ?_⟩;refine⟨_,rfl,bL (aj.of hnb) (bj (j:=2) rfl) ?_⟩;refine⟨_,rfl,_,rfl,_,rfl,_,rfl,m,o,g,n,st,P,rfl,mk.rd,snd.owners,λh1 h2 h3=>?_,λh=>rep.fB mk 1 (by decide) (by decide) (ay h)⟩
  obtain⟨o,rfl,ho⟩:=oY h1;obtain⟨g,rfl,hg⟩:=DE h2;obtain⟨n,rfl,hn⟩:=Ad h3;have hgm':g<st.market.goods:=by rw[lv.g.goods];exact hg
  have e0:(rj ((g:Nat):Int))=g:=ij g;have e1:(rj ((o:Nat):Int))=o:=ij o;refine⟨_,rfl,_,rfl,_,rfl,_,rfl,m,o,g,n,st,P,rfl,mk.rd,ft,ho,hgm',λh4=>?_,λh4=>rep.fB mk 4 (by decide) (by decide) ?_⟩
  rotate_left
  .show(if _ then _ else _)=_
   rw[aq (wY h1 h2 h3),e0,e1,ay h4]
  obtain⟨MA,ml,hs,rfl⟩:=id mk;have R:=hs.rs;have hgm:g<st.burned.length:=by rw[lv.g.burned];exact hg
  have hmg:st.burned[g]? =some (st.burned.getD g 0):=by rw[eA,bH hgm];rfl
  refine⟨_,rfl,bp (bC R) T.cM T.Eb (Ga _ _ _) ⟨_,rfl,jj (aj.of (yT R)) (by rw[bz,hmg];rfl) ⟨_,rfl,_,_,rfl,rfl,MA.aB,_,_,g,rfl,rfl,yT R,sM (by rw[aA];exact hgm),?_⟩⟩⟩
  have h5:=T2 hs (st.burned.modify g λx=>x+n);have em:FT (st.burned.map nV) g (V.int (((st.burned.getD g 0:Nat):Int)+(n:Int)))=(st.burned.modify g λx=>x+n).map nV:=by rw[nL _ hmg,wD];rfl
  rw[em];have fr1:Fr H ((aE CM CD m MA st P).map bg) (upd H MA.aB (.lst ((st.burned.modify g λx=>x+n).map nV))) ((aE CM CD m MA st P).map bg):=Fr.gu (yT R) (λxs z=>nomatch z) (qf (x:=bJ MA.aB st.burned) (by simp[cf]))
  generalize upd H MA.aB (.lst ((st.burned.modify g λx=>x+n).map nV))=H1 at h5 fr1;have ml1:eY MA {st with burned:=st.burned.modify g λx=>x+n}:=⟨ml.fr,ml.hd,ml.ds,ml.dl⟩
  have ft1:dJ {st with burned:=st.burned.modify g λx=>x+n}:=⟨ft.free,ft.held,ft.goods,ft.owners,ft.up,ft.c5⟩
  obtain⟨a,vs,ha,hav,hvg,hix,h6⟩:=qb ml1 (iV h5) ft1 (o:=o) (g:=g) ho hgm' (λx=>x - n);have R1:=h5.rs;refine⟨_,rfl,bp (bC R1) T.cM T.jN (k8 _ _ _) ⟨_,rfl,bL (aj.of (jA R1)) (bj (j:=o) (by rw[bz,ha];rfl)) ⟨_,rfl,jj (aj.of hav) hvg ⟨_,rfl,_,_,rfl,rfl,a,_,_,g,rfl,rfl,hav,hix,?_⟩⟩⟩⟩
  have esub:((amount st.market.free o g:Nat):Int) - (n:Int)=((amount st.market.free o g - n:Nat):Int):=by omega
  have sh:Rm.Shape st.owners.length st.market.goods (fL st.market.free o g n):=Rm.pU ft.free o g n
  let s1:aT:={st with burned:=st.burned.modify g λx=>x+n,market:={st.market with free:=fL st.market.free o g n}}
  have h7:Hs (upd H1 a (.lst (vs.set g (V.int (((amount st.market.free o g:Nat):Int) - (n:Int)))))) (aE CM CD m MA s1 P):=by rw[esub];exact mX h6
  have fr2:=fr1.trans (Fr.gu (o':=.lst (vs.set g (V.int (((amount st.market.free o g:Nat):Int) - (n:Int))))) hav (λxs z=>nomatch z) (qC (CM:=CM) (CD:=CD) (m:=m) (P:=P) ml ft ho ha));have snd1:cy s1 P:=⟨snd.g.freed sh,snd.o.same rfl,snd.goods,snd.owners⟩;have mk1:Mk CM CD (upd H1 a (.lst (vs.set g (V.int (((amount st.market.free o g:Nat):Int) - (n:Int)))))) m ((aE CM CD m MA st P).map bg) s1 P:=⟨MA,⟨ml.fr.trans (sh.len.trans ft.free.len.symm).symm,ml.hd,ml.ds,ml.dl⟩,h7,(sL ml (sh.len.trans ft.free.len.symm) rfl).symm⟩;refine⟨by decide,λz hz=>⟨_,rfl,qd rep ?_ snd1 mk1 fr2 hz⟩⟩
  show(if _ then _ else _)=_;rw[aq (wY h1 h2 h3),e0,e1,aq h4];rfl
theorem LO{a b c d:Bool}(ha:a=true)(hb:b=true)(hc:c=true)(hd:d=true):¬(a=false\/b=false\/c=false\/d=false):=by simp[ha,hb,hc,hd]
theorem GI(s:aT)(d:Int):step s (.cancel d)=match ku s d with
 |none=>eX s 3
 |some x=>pE s (dv s.market x) [] []:=rfl
theorem Bv(s:aT)(d o:Int):step s (.withdraw d o)=if nW s o=false then eX s 1 else match ku s d with
 |none=>eX s 3
 |some x=>(match x.parts.find? λp=>p.owner==o.toNat with
  |none=>eX s 4
  |some p=>pE s (nc (if p.held=true then d7 s.market x p.owner else s.market) {x with parts:=x.parts.filter λq=>q.owner !=o.toNat}) [] []):=rfl
theorem Kd(s:aT)(d o:Int):step s (.agree d o)=if nW s o=false then eX s 1 else match ku s d with
 |none=>eX s 3
 |some x=>if(dj x.legs).contains o.toNat=false\/(x.parts.any λp=>p.owner==o.toNat)=true then eX s 4
  else pE {s with since:=s.since+1} (nc s.market {x with parts:=x.parts++[{owner:=o.toNat,since:=s.since,held:=false}]}) [] []:=rfl
abbrev Cg:List Int->Text->Option cu:=JH λa b g n z=>(.move a b g n)
abbrev To:List ae:=["market","numbers","text","giver","taker","good","amount"]
theorem Ij:bX To cH (bb y1):=⟨rfl,rfl,rfl,by decide+kernel,rfl,by decide+kernel,by decide+kernel⟩
theorem Oe(G:Gd K mg "answer_move" y1)(T:Tx K mg CM CD)(X:Ex K mg E1 E2 E3 E4 E5)(d_amt:Df Pr w K mg base (bR Pr w) 3 "check_amount" ["market","owner","good","amount"] (yQ CM CD E1))(d_own:Df Pr w K mg base (bR Pr w) 2 "check_owner" ["market","owner"] (qw CM CD E1))(d_free:Df Pr w K mg base (bR Pr w) 1 "check_free" ["market","owner","good","amount"] (Cy CM CD E4))(d_settle:Df Pr w K mg base be 6 "settle" ["market"] (mK CM CD)):Df Pr w K mg base (bR Pr w) 7 "answer_move" cH (d5 CM CD (exc E1 E2 E3 E4 E5) Cg):=by
 obtain⟨f,fd,F,hm⟩:=G.ex;refine⟨f,fd,F.eP Ij gJ (λcdv A outer s H vs Q E hr h=>?_),hm,F.kp,F.binds (bn3 rfl)⟩
 .intro X0;apply V4 h;intro o b g n t m nb tx S st P lv mk hnb htx nbS txS t600 rep
  have nd:=Ij.nd;have snd:=lv.sound;have ft:=snd.fW;refine⟨_,aK (bW (i:=3) nd rfl (aV rfl) (bh bO (pv 1) aQ (λy y=>rfl))) (aK (bW (i:=4) nd rfl (aV rfl) (bh bO (pv 1) aQ (λy y=>rfl))) (aK (bW (i:=5) nd rfl (aV rfl) (bh bO (pv 1) aQ (λy y=>rfl))) (aK (bW (i:=6) nd rfl (aV rfl) (bh bO (pv 1) aQ (λy y=>rfl))) (aK (cG (bQ d_amt (hr.mono (by decide)) eJ (ai (pv 0) (ai (pv 3) (ai (pv 5) (ai (pv 6) au)))))) (aK (cG (bQ d_own (hr.mono (by decide)) eJ (ai (pv 0) (ai (pv 4) au)))) (aK (cG (bQ d_free (hr.mono (by decide)) eJ (ai (pv 0) (ai (pv 3) (ai (pv 5) (ai (pv 6) au)))))) (aK (jg (bh bO (bx (pv 0) rfl) (pv 3) (λy y=>rfl)) (pv 5) jo (pv 6) rM set_list) (aK (jg (bh bO (bx (pv 0) rfl) (pv 4) (λy y=>rfl)) (pv 5) jo (pv 6) nR set_list) (aX (bT (eG j3 (cW (ai aQ au)) (bQ d_settle hr b0 (ai (pv 0) au))))))))))))),?_⟩
  refine⟨_,rfl,bL (aj.of hnb) (bj (j:=0) rfl) ?_⟩;refine⟨_,rfl,bL (aj.of hnb) (bj (j:=1) rfl) ?_⟩;refine⟨_,rfl,bL (aj.of hnb) (bj (j:=2) rfl) ?_⟩;refine⟨_,rfl,bL (aj.of hnb) (bj (j:=3) rfl) ?_⟩;refine⟨_,rfl,_,rfl,_,rfl,_,rfl,m,o,g,n,st,P,rfl,mk.rd,snd.owners,λh1 h2 h3=>?_,λh=>rep.fB mk 1 (by decide) (by decide) (ay ?_)⟩
  rotate_left
  .rcases h with h|h|h
   .exact .inl h
   .exact .inr (.inr (.inl h))
   .exact .inr (.inr (.inr h))
  refine⟨_,rfl,_,rfl,m,b,st,P,rfl,mk.rd,snd.owners,λhb=>?_,λh=>rep.fB mk 1 (by decide) (by decide) (ay (.inr (.inl h)))⟩
  obtain⟨o,rfl,ho⟩:=oY h1;obtain⟨b,rfl,hbo⟩:=oY hb;obtain⟨g,rfl,hg⟩:=DE h2;obtain⟨n,rfl,hn⟩:=Ad h3;have hgm':g<st.market.goods:=by rw[lv.g.goods];exact hg
  have e0:(rj ((g:Nat):Int))=g:=ij g;have e1:(rj ((o:Nat):Int))=o:=ij o;refine⟨_,rfl,_,rfl,_,rfl,_,rfl,m,o,g,n,st,P,rfl,mk.rd,ft,ho,hgm',λh4=>?_,λh4=>rep.fB mk 4 (by decide) (by decide) ?_⟩
  rotate_left
  .show(if _ then _ else _)=_
   rw[aq (LO h1 hb h2 h3),e0,e1,ay h4]
  obtain⟨MA,ml,hs,rfl⟩:=id mk;have R:=hs.rs;obtain⟨a,vs,ha,hav,hvg,hix,h6⟩:=qb ml (iV hs) ft (o:=o) (g:=g) ho hgm' (λx=>x - n);refine⟨_,rfl,bp (bC R) T.cM T.jN (k8 _ _ _) ⟨_,rfl,bL (aj.of (jA R)) (bj (j:=o) (by rw[bz,ha];rfl)) ⟨_,rfl,jj (aj.of hav) hvg ⟨_,rfl,_,_,rfl,rfl,a,_,_,g,rfl,rfl,hav,hix,?_⟩⟩⟩⟩
  have esub:((amount st.market.free o g:Nat):Int) - (n:Int)=((amount st.market.free o g - n:Nat):Int):=by omega
  have sh:Rm.Shape st.owners.length st.market.goods (fL st.market.free o g n):=Rm.pU ft.free o g n;have h7:Hs (upd H a (.lst (vs.set g (V.int (((amount st.market.free o g:Nat):Int) - (n:Int)))))) (aE CM CD m MA (cK st (fL st.market.free o g n) st.market.held) P):=by rw[esub];exact mX h6
  have fr2:Fr H ((aE CM CD m MA st P).map bg) (upd H a (.lst (vs.set g (V.int (((amount st.market.free o g:Nat):Int) - (n:Int)))))) ((aE CM CD m MA st P).map bg):=Fr.gu hav (λxs z=>nomatch z) (qC (CM:=CM) (CD:=CD) (m:=m) (P:=P) ml ft ho ha);generalize upd H a (.lst (vs.set g (V.int (((amount st.market.free o g:Nat):Int) - (n:Int)))))=H1 at h7 fr2;have ml1:eY MA (cK st (fL st.market.free o g n) st.market.held):=ml.fh (sh.len.trans ft.free.len.symm) rfl;have ft1:dJ (cK st (fL st.market.free o g n) st.market.held):=ft.fh sh ft.held;obtain⟨a2,vs2,ha2,hav2,hvg2,hix2,h8⟩:=qb ml1 (iV h7) ft1 (o:=b) (g:=g) hbo hgm' (λx=>x+n);have R1:=h7.rs;refine⟨_,rfl,bp (bC R1) T.cM T.jN (k8 _ _ _) ⟨_,rfl,bL (aj.of (jA R1)) (bj (j:=b) (by rw[bz,ha2];rfl)) ⟨_,rfl,jj (aj.of hav2) hvg2 ⟨_,rfl,_,_,rfl,rfl,a2,_,_,g,rfl,rfl,hav2,hix2,?_⟩⟩⟩⟩
  have sh2:Rm.Shape st.owners.length st.market.goods (iP (fL st.market.free o g n) b g n):=Rm.qm sh b g n
  let s1:aT:={st with market:={st.market with free:=iP (fL st.market.free o g n) b g n}}
  have h9:Hs (upd H1 a2 (.lst (vs2.set g (V.int (((amount (fL st.market.free o g n) b g:Nat):Int)+(n:Int)))))) (aE CM CD m MA s1 P):=mX h8;have fr3:=fr2.trans (Fr.gu (o':=.lst (vs2.set g (V.int (((amount (fL st.market.free o g n) b g:Nat):Int)+(n:Int))))) hav2 (λxs z=>nomatch z) (qC (CM:=CM) (CD:=CD) (m:=m) (P:=P) ml ft hbo ha2));have snd1:cy s1 P:=⟨snd.g.freed sh2,snd.o.same rfl,snd.goods,snd.owners⟩;have mk1:Mk CM CD (upd H1 a2 (.lst (vs2.set g (V.int (((amount (fL st.market.free o g n) b g:Nat):Int)+(n:Int)))))) m ((aE CM CD m MA st P).map bg) s1 P:=⟨MA,⟨ml.fr.trans (sh2.len.trans ft.free.len.symm).symm,ml.hd,ml.ds,ml.dl⟩,h9,(sL ml (sh2.len.trans ft.free.len.symm) rfl).symm⟩;refine⟨by decide,λz hz=>⟨_,rfl,qd rep ?_ snd1 mk1 fr3 hz⟩⟩
  show(if _ then _ else _)=_;rw[aq (LO h1 hb h2 h3),e0,e1,aq h4];rfl
abbrev AW:List Int->Text->Option cu:=oJ λd z=>(.cancel d)
theorem R9:bX cH cH (bb xf):=⟨rfl,rfl,rfl,by decide+kernel,rfl,by decide+kernel,by decide+kernel⟩
theorem Tv(G:Gd K mg "answer_cancel" xf)(T:Tx K mg CM CD)(X:Ex K mg E1 E2 E3 E4 E5)(d_deal:Df Pr w K mg base (bR Pr w) 1 "check_deal" ["market","number"] (oG CM CD E3))(d_off:Mt Pr w K mg base be 2 CM "call_off" ["self","number"] (yo CM CD))(d_settle:Df Pr w K mg base be 6 "settle" ["market"] (mK CM CD)):Df Pr w K mg base (bR Pr w) 7 "answer_cancel" cH (d5 CM CD (exc E1 E2 E3 E4 E5) AW):=by
 obtain⟨f,fd,F,hm⟩:=G.ex;refine⟨f,fd,F.eP R9 gJ (λcdv A outer s H vs Q E hr h=>?_),hm,F.kp,F.binds (bn3 rfl)⟩
 .intro X0;apply qh h;intro n t m nb tx S st P lv mk hnb htx nbS txS t600 rep
  have snd:=lv.sound;refine⟨_,aK (cG (bQ d_deal (hr.mono (by decide)) eJ (ai (pv 0) (ai (bh bO (pv 1) aQ (λy y=>rfl)) au)))) (aK (cG (jz (pv 0) T.cM d_off (hr.mono (by decide)) b0 (ai (bh bO (pv 1) aQ (λy y=>rfl)) au))) (aX (bT (eG j3 (cW (ai aQ au)) (bQ d_settle hr b0 (ai (pv 0) au)))))),?_⟩
  refine⟨_,rfl,_,rfl,bL (aj.of hnb) (bj (j:=0) rfl) ⟨m,n,st,P,rfl,mk.rd,snd,λd hd=>?_,λhd=>rep.fB mk 3 (by decide) (by decide) (by rw[GI,hd])⟩⟩
  obtain⟨hd1,rfl⟩:=Rm.j8 hd;obtain⟨A1,hmm,hmS⟩:=vc mk;refine⟨_,rfl,m,_,_,rfl,hmm,Bk _ _ _,_,rfl,bL (aj.of hnb) (bj (j:=0) rfl) ?_⟩;refine⟨m,S,st,P,d,rfl,snd,hd1,mk,λH1 S1 mk1 fr1=>?_⟩;refine⟨by decide,λz hz=>⟨_,rfl,qd rep ?_ (snd.off hd1) mk1 fr1 hz⟩⟩
  rw[GI,hd];rfl
abbrev Dj:List Int->Text->Option cu:=xX λd o z=>(.withdraw d o)
abbrev DZ:List Int->Text->Option cu:=xX λd o z=>(.agree d o)
abbrev GH:List ae:=["market","numbers","text","number","owner"]
theorem Le:bX GH cH (bb yU):=⟨rfl,rfl,rfl,by decide+kernel,rfl,by decide+kernel,by decide+kernel⟩
theorem Oc(G:Gd K mg "answer_withdraw" yU)(T:Tx K mg CM CD)(X:Ex K mg E1 E2 E3 E4 E5)(d_own:Df Pr w K mg base (bR Pr w) 2 "check_owner" ["market","owner"] (qw CM CD E1))(d_deal:Df Pr w K mg base (bR Pr w) 1 "check_deal" ["market","number"] (oG CM CD E3))(d_drop:Mt Pr w K mg base be 1 CM "drop_part" ["self","number","owner"] (BN CM CD))(d_settle:Df Pr w K mg base be 6 "settle" ["market"] (mK CM CD)):Df Pr w K mg base (bR Pr w) 7 "answer_withdraw" cH (d5 CM CD (exc E1 E2 E3 E4 E5) Dj):=by
 obtain⟨f,fd,F,hm⟩:=G.ex;refine⟨f,fd,F.eP Le gJ (λcdv A outer s H vs Q E hr h=>?_),hm,F.kp,F.binds (bn3 rfl)⟩
 .intro X0;apply BY h;intro n o t m nb tx S st P lv mk hnb htx nbS txS t600 rep
  have snd:=lv.sound;have nd:=Le.nd;have hu:=ir hr;refine⟨_,aK (bW (i:=3) nd rfl (aV rfl) (bh bO (pv 1) aQ (λy y=>rfl))) (aK (bW (i:=4) nd rfl (aV rfl) (bh bO (pv 1) aQ (λy y=>rfl))) (aK (cG (bQ d_own (hr.mono (by decide)) eJ (ai (pv 0) (ai (pv 4) au)))) (aK (cG (bQ d_deal (hr.mono (by decide)) eJ (ai (pv 0) (ai (pv 3) au)))) (eR (k4 (rp hu (jl (ai (pv 3) (ai (pv 4) au))) (bx (pv 0) rfl))) (aX (je rfl X.m4 X.x4)) (aK (cG (jz (pv 0) T.cM d_drop (hr.mono (by decide)) b0 (ai (pv 3) (ai (pv 4) au)))) (aX (bT (eG j3 (cW (ai aQ au)) (bQ d_settle hr b0 (ai (pv 0) au)))))))))),?_⟩
  refine⟨_,rfl,bL (aj.of hnb) (bj (j:=0) rfl) ?_⟩;refine⟨_,rfl,bL (aj.of hnb) (bj (j:=1) rfl) ?_⟩;refine⟨_,rfl,_,rfl,m,o,st,P,rfl,mk.rd,snd.owners,λh1=>?_,λh=>rep.fB mk 1 (by decide) (by decide) (ay h)⟩
  refine⟨_,rfl,_,rfl,m,n,st,P,rfl,mk.rd,snd,λd hd=>?_,λhd=>rep.fB mk 3 (by decide) (by decide) (by rw[Bv,aq (by rw[h1];decide),hd])⟩
  obtain⟨hd1,rfl⟩:=Rm.j8 hd;obtain⟨o,rfl,ho⟩:=oY h1;have e1:(rj ((o:Nat):Int))=o:=ij o;refine⟨_,rfl,_,rfl,(by show 2<=sizeLine;decide),λtt ht=>?_⟩
  have s2:ak H (upd H tt (.tup [V.int (d.num:Int),V.int (o:Int)])):=ak.new ht;have mk2:=mk.same s2;have htt:(upd H tt (.tup [V.int (d.num:Int),V.int (o:Int)])) tt=some (.tup [V.int (d.num:Int),V.int (o:Int)]):=aR;obtain⟨MB,mlB,hsB,eS⟩:=id mk2;have RB:=hsB.rs;refine⟨_,rfl,bp (bC RB) T.cM T.jw (j2 _ _ _) ⟨MB.aP,_,rfl,(ki RB).pX (k:=dc d.num o) aR,_,rfl,?_⟩⟩;rw[lV,pK];generalize upd H tt (.tup [V.int (d.num:Int),V.int (o:Int)])=H2 at s2 mk2 htt RB hsB;cases hpl:dg P d.num o with
  |none=>
   refine fm (rep.qa mk 4 (by decide) (by decide) ?_ s2)
   rw[Bv,aq (by rw[h1];decide),hd,e1]
   have:(d.parts.find? λp=>p.owner==o)=none:=FP.mpr λp hp z=>by
    have:=(snd.look hd1 (o:=o) (b:=p.held)).2 ⟨p,hp,by simpa using z,rfl⟩
    rw[hpl]at this;cases this
   show(match d.parts.find? λp=>p.owner==o with|none=>_|some p=>_)=_
   rw[this]
  |some b=>
   obtain⟨p,hp,rfl,rfl⟩:=(snd.look hd1).1 hpl;have hfind:(d.parts.find? λq=>q.owner==p.owner)=some p:=by
    cases hq:d.parts.find? λq=>q.owner==p.owner with
    |none=>exact absurd (FP.mp hq p hp) (by simp)
    |some q=>
     have h2:=zu hq;rw[Rm.Af (snd.g.owners d hd1) (zt hq) hp (by simpa using h2)]
   refine fV ⟨_,rfl,m,MB.dm,_,rfl,bC RB,K3 _ _ _,_,rfl,_,rfl,m,S,st,P,d,p.owner,p.held,rfl,snd.fW,hd1,fS.mpr (snd.g.g9 d hd1 p hp),ho,hpl,λhb g hg=>?_,mk2,λH3 mk3 fr3=>?_⟩
   .have:=snd.g.rO hd1 (o:=p.owner) (g:=g) ho hg
    unfold Rm.cX at this;rw[ay (Rm.i3.2 ⟨p,hp,rfl,hb⟩)]at this;exact this
   .have gd:=snd.g.drops hd1 hp
    have edl:(Rm.gh st.market d p).deals=Rm.putD st.market.deals {d with parts:=d.parts.filter λq=>q.owner !=p.owner}:=by
     unfold Rm.gh;rw[Rm.Ef];cases p.held
     .rfl
     .rw[ay rfl,(Rm.D7 _ _ _).2]
    have egd:(Rm.gh st.market d p).goods=st.market.goods:=by
     unfold Rm.gh;cases p.held
     .rfl
     .exact(Rm.D7 _ _ _).1
    have o1:Ord (Rm.gh st.market d p) (k7 P d.num p.owner):=snd.o.drop snd.g.up hd1 p.owner edl;have snd1:cy (cg st (Rm.gh st.market d p)) (k7 P d.num p.owner):=snd.m gd egd o1;have mk4:Mk CM CD H3 m S (cg st (Rm.gh st.market d p)) (k7 P d.num p.owner):=by
     refine Mk.to ?_ egd ?_
     .have e2:mL st d p.owner p.held=cK st (Rm.gh st.market d p).free (Rm.gh st.market d p).held:=by
       unfold mL Rm.gh nc;cases p.held<;>rfl
      rw[<-e2];exact mk3
     .rw[edl];exact vo snd.g.up hd1 rfl
    refine⟨by decide,λz hz=>⟨_,rfl,qd rep ?_ snd1 mk4 ((Fr.dE s2).trans fr3) hz⟩⟩
    rw[Bv,aq (by rw[h1];decide),hd,e1]
    show(match d.parts.find? λq=>q.owner==p.owner with|none=>_|some p=>_)=_
    rw[hfind];rfl
theorem ID:bX GH cH (bb yE):=⟨rfl,rfl,rfl,by decide+kernel,rfl,by decide+kernel,by decide+kernel⟩
theorem TZ(G:Gd K mg "answer_agree" yE)(T:Tx K mg CM CD)(X:Ex K mg E1 E2 E3 E4 E5)(d_own:Df Pr w K mg base (bR Pr w) 2 "check_owner" ["market","owner"] (qw CM CD E1))(d_deal:Df Pr w K mg base (bR Pr w) 1 "check_deal" ["market","number"] (oG CM CD E3))(d_settle:Df Pr w K mg base be 6 "settle" ["market"] (mK CM CD)):Df Pr w K mg base (bR Pr w) 7 "answer_agree" cH (d5 CM CD (exc E1 E2 E3 E4 E5) DZ):=by
 obtain⟨f,fd,F,hm⟩:=G.ex;refine⟨f,fd,F.eP ID gJ (λcdv A outer s H vs Q E hr h=>?_),hm,F.kp,F.binds (bn3 rfl)⟩
 .intro X0;apply BY h;intro n o t m nb tx S st P lv mk hnb htx nbS txS t600 rep
  have snd:=lv.sound;have nd:=ID.nd;have hu:=ir hr;refine⟨_,aK (bW (i:=3) nd rfl (aV rfl) (bh bO (pv 1) aQ (λy y=>rfl))) (aK (bW (i:=4) nd rfl (aV rfl) (bh bO (pv 1) aQ (λy y=>rfl))) (aK (cG (bQ d_own (hr.mono (by decide)) eJ (ai (pv 0) (ai (pv 4) au)))) (aK (cG (bQ d_deal (hr.mono (by decide)) eJ (ai (pv 0) (ai (pv 3) au)))) (eR (PW.pt (oZ (k4 (rp hu (pv 4) (bx (iU hu (bx (pv 0) rfl) (pv 3) (λy y=>rfl)) rfl))) (sC (k4 (L0 hu (jl (ai (pv 3) (ai (pv 4) au))) (bx (pv 0) rfl)))))) (aX (je rfl X.m4 X.x4)) (aK (rR hu (bx (pv 0) rfl) (jl (ai (pv 3) (ai (pv 4) au))) (fC T.Cw) rfl) (aX (bT (eG j3 (cW (ai aQ au)) (bQ d_settle hr b0 (ai (pv 0) au)))))))))),?_⟩
  refine⟨_,rfl,bL (aj.of hnb) (bj (j:=0) rfl) ?_⟩;refine⟨_,rfl,bL (aj.of hnb) (bj (j:=1) rfl) ?_⟩;refine⟨_,rfl,_,rfl,m,o,st,P,rfl,mk.rd,snd.owners,λh1=>?_,λh=>rep.fB mk 1 (by decide) (by decide) (ay h)⟩
  refine⟨_,rfl,_,rfl,m,n,st,P,rfl,mk.rd,snd,λd hd=>?_,λhd=>rep.fB mk 3 (by decide) (by decide) (by rw[Kd,aq (by rw[h1];decide),hd])⟩
  obtain⟨hd1,rfl⟩:=Rm.j8 hd;obtain⟨o,rfl,ho⟩:=oY h1;have e1:(rj ((o:Nat):Int))=o:=ij o;obtain⟨MA,ml,hs,rfl⟩:=id mk;have R:=hs.rs;obtain⟨D,hD,eD,hget,hdr⟩:=lR ml R snd.g.up hd1;have dl:=ml.dl D hD;have el:D.legs=d.legs:=cq (λx=>x.2.1) eD;have RD:=iq R hD;have est:step st (.agree (d.num:Int) (o:Int))=if(dj d.legs).contains o=false\/(d.parts.any λp=>p.owner==o)=true then eX st 4 else pE {st with since:=st.since+1} (nc st.market {d with parts:=d.parts++[{owner:=o,since:=st.since,held:=false}]}) [] []:=by rw[Kd,aq (by rw[h1];decide),hd,e1]
  refine⟨_,rfl,_,rfl,bp (bC R) T.cM T.hU (ip _ _ _) ⟨_,rfl,MA.aD,_,rfl,hget,bp (fk RD) T.cD T.iu (kj D) ⟨D.gv,_,rfl,(qu RD).get (bG (o:Int)),_,rfl,?_⟩⟩⟩;refine cJ (c:=¬o∈dj d.legs) ?_ (λh2=>?_) (λh2=>?_)
  .by_cases z:o∈dj d.legs
   .obtain⟨ra,hra⟩:=si dl (o:=o) (by rw[el];exact fS.mpr z)
    rw[rW dl hra];simp[z]
   .rw[Jp λq hq e=>z (by rw[el]at hq;have:q=o:=(by omega);subst this;exact fS.mp hq)];simp[z]
  .refine rep.fB mk 4 (by decide) (by decide) ?_
   rw[est,ay (.inl (by simpa using h2))]
  .have hpar:o∈dj d.legs:=i9.mp h2
   have hcon:(dj d.legs).contains o=true:=nk.mpr hpar;refine⟨_,rfl,_,rfl,(by show 2<=sizeLine;decide),λtt ht=>?_⟩
   have s2:ak H (upd H tt (.tup [V.int (d.num:Int),V.int (o:Int)])):=ak.new ht;have R2:=R.same s2;refine⟨_,rfl,bp (bC R2) T.cM T.jw (j2 _ _ _) ⟨MA.aP,_,rfl,(ki R2).pX (k:=dc d.num o) aR,_,rfl,?_⟩⟩;rw[lV,pK];generalize upd H tt (.tup [V.int (d.num:Int),V.int (o:Int)])=H2 at s2 R2;have hany:(d.parts.any λp=>p.owner==o)=(dg P d.num o).isSome:=by
    cases hpl:dg P d.num o with
    |none=>
     refine vJ.mpr λz=>?_;obtain⟨p,hp,e⟩:=vI.mp z;have:=(snd.look hd1 (o:=o) (b:=p.held)).2 ⟨p,hp,by simpa using e,rfl⟩
     rw[hpl]at this;cases this
    |some b=>
     obtain⟨p,hp,e,y⟩:=(snd.look hd1).1 hpl;exact vI.mpr ⟨p,hp,by simpa using e⟩
   cases hpl:dg P d.num o with
   |some b=>
    refine fm (rep.qa mk 4 (by decide) (by decide) ?_ s2)
    rw[est,ay (.inr (by rw[hany,hpl];rfl))]
   |none=>
    have hno:¬∃p∈d.parts,p.owner=o:=λ⟨p,hp,e⟩=>by
     have:=(snd.look hd1 (o:=o) (b:=p.held)).2 ⟨p,hp,e,rfl⟩;rw[hpl]at this;cases this
    have hs2:=hs.same s2;refine fV ⟨_,rfl,bp (bC R2) T.cM T.jw (j2 _ _ _) ⟨_,rfl,_,rfl,(by show 2<=sizeLine;decide),λt3 ht3=>?_⟩⟩
    have s3:ak H2 (upd H2 t3 (.tup [V.int (d.num:Int),V.int (o:Int)])):=ak.new ht3;have hs3:=hs2.same s3;have hP3:(upd H2 t3 (.tup [V.int (d.num:Int),V.int (o:Int)])) MA.aP=some (.dT (b5 P)):=rA (iV hs3);refine⟨MA.aP,_,rfl,k6.t (k:=dc d.num o) hP3 aR (sl _ (by unfold b5;rw[aA];have:=xl snd;omega)),?_⟩
    have eput:putK (b5 P) (dc d.num o) (V.int 0)=b5 (P++[(st.since,d.num,o,false)]):=by
     rw[uI _ (by rw[lV,hpl];rfl)]
     unfold b5;rw[bZ];rfl
    rw[eput];have h4:=yd (iV hs3) (P++[(st.since,d.num,o,false)]);have fr4:=((Fr.dE (S:=(aE CM CD m MA st P).map bg) s2).trans (Fr.dE s3)).trans (Fr.gu (o':=.dT (b5 (P++[(st.since,d.num,o,false)]))) hP3 (λxs z=>nomatch z) (qf (x:=(MA.aP,.dT (b5 P))) (by simp[cf])))
    let s1:aT:={st with since:=st.since+1,market:=nc st.market {d with parts:=d.parts++[{owner:=o,since:=st.since,held:=false}]}}
    have snd1:cy s1 (P++[(st.since,d.num,o,false)]):=⟨snd.g.IH hd1 hpar hno,snd.o.agree snd.g.up hd1 snd.g.km o,snd.goods,snd.owners⟩;refine⟨by decide,λz hz=>⟨_,rfl,qd (s1:=s1) rep ?_ snd1 ⟨MA,⟨ml.fr,ml.hd,ml.ds.trans ?_,ml.dl⟩,mX h4,sU _⟩ fr4 hz⟩⟩
    .rw[est,aq (by rw[hcon,hany,hpl];simp)]
     rfl
    .exact(vo (e:={d with parts:=d.parts++[{owner:=o,since:=st.since,held:=false}]}) snd.g.up hd1 rfl).symm
theorem F8(s:aT)(t:Text):step s (.market t)=match tm t with
 | .error _=>eX s 2
 | .ok x=>fN (iQ x.1 x.2) [(x.1.length:Int),(x.2.length:Int)]:=rfl
theorem IC(s:aT)(k:Int)(t:Text):step s (.deal k t)=if nr k 0 1000=false then eX s 1 else match ly s.owners s.goods t with
 | .error _=>eX s 2
 | .ok l=>if EJ<=s.market.deals.length then eX s 5 else fN (oP s l k.toNat) [(s.next:Int),((dj l).length:Int)]:=rfl
theorem r6(h:Rm.iK s):gx s.owners s.goods:=⟨λx hx=>h.names.name x (fq _ hx),λx hx=>h.names.name x (cP _ hx)⟩
abbrev Bu:List Int->Text->Option cu:=o7 λt=>(.market t)
abbrev Te:List ae:=["market","numbers","text","names"]
theorem Jw:bX Te cH (bb yS):=⟨rfl,rfl,rfl,by decide+kernel,rfl,by decide+kernel,by decide+kernel⟩
theorem W8(G:Gd K mg "answer_market" yS)(T:Tx K mg CM CD)(d_read:Df Pr w K mg base (bR Pr w) 3 "read_market" ["row"] (LL K E2))(d_be:Mt Pr w K mg base be 2 CM "begin" ["self","owners","goods"] (A9 CM CD)):Df Pr w K mg base (bR Pr w) 4 "answer_market" cH (d5 CM CD (exc E1 E2 E3 E4 E5) Bu):=by
 obtain⟨f,fd,F,hm⟩:=G.ex;refine⟨f,fd,F.eP Jw gJ (λcdv A outer s H vs Q E hr h=>?_),hm,F.kp,F.binds (bn3 rfl)⟩
 .intro X0;apply qt h;intro t m nb tx S st P lv mk hnb htx nbS txS t600 rep
  have nd:=Jw.nd;refine⟨_,aK (bW (i:=3) nd rfl (aV rfl) (bQ d_read hr eJ (ai (pv 2) au))) (aK (cG (jz (pv 0) T.cM d_be (hr.mono (by decide)) b0 (ai (bh iy (pv 3) aQ (λ_ _=>rfl)) (ai (bh iy (pv 3) aQ (λ_ _=>rfl)) au)))) (aX (bT (cW (ai aQ (ai (dh iA rfl T.fK f9 (ai (bx (pv 0) rfl) au)) (ai (dh iA rfl T.fK f9 (ai (bx (pv 0) rfl) au)) au))))))),?_⟩
  refine⟨_,rfl,tx,t,rfl,aj.of htx,by omega,?_⟩
  cases hrm:tm t with
  |error e=>exact λH' s'=>rep.qa mk 2 (by decide) (by decide) (by rw[F8,hrm]) s'
  |ok y=>
   intro H1 p ao ag s1 hao hag hne hp ho hg;have nm:=Rm.Kl hrm;have mk1:=mk.same s1;obtain⟨MA,ml,hs,eS⟩:=id mk1;have R:=hs.rs;have hmS:m∈S:=by rw[eS];exact qf (x:=(m,.ins CM MA.dm (b7 MA st.now st.next))) (by simp[cf])
   refine⟨_,rfl,m,MA.dm,_,rfl,bC R,by rfl,_,rfl,fQ (cv.of hp) (bj (j:=0) rfl) ⟨_,rfl,fQ (cv.of hp) (bj (j:=1) rfl) ?_⟩⟩
   refine⟨m,MA.dm,ao,ag,_,y.1,y.2,rfl,bC R,Vn _ _ _,ho,hg,hne,nm.owners,nm.goods,λH2 S2 mk2 kp nw=>?_⟩;have est:step st (.market t)=fN (iQ y.1 y.2) [(y.1.length:Int),(y.2.length:Int)]:=by rw[F8,hrm]
   have fr2:Fr H S H2 S2:=by
    refine⟨λb o e n=>kp b o (s1 _ _ e) (λz=>n (by rw[z];exact hmS)),λb xs e=>kp b _ (s1 _ _ e) (gL (s1 _ _ e) (bC R) (λz=>nomatch z)),λb hb=>?_⟩
    rcases nw b hb with z|z|z|z
    .exact .inl (by rw[z];exact hmS)
    .exact .inr (by rw[z];exact hao)
    .exact .inr (by rw[z];exact hag)
    .exact .inr (s1.free z)
   obtain⟨MB,mlB,hsB,eB⟩:=id mk2;have RB:=hsB.rs;refine⟨_,rfl,bp (bC RB) T.cM T.m8 (pd _ _ _) ⟨MB.aO,_,rfl,.inl (aj.of (o6 RB)),_,rfl,bp (bC RB) T.cM T.kJ (mH _ _ _) ⟨MB.aG,_,rfl,.inl (aj.of (lW RB)),(by show 3<=sizeLine;decide),λq hq=>?_⟩⟩⟩
   refine rep.new (S':=S2) (P':=[]) (by rw[est];exact mk2) (by rw[est];exact Ord.nil rfl) fr2 hq ?_
   rw[est];show[V.int 0,V.int (((y.1.map tV).length:Nat):Int),V.int (((y.2.map tV).length:Nat):Int)]=[V.int 0,V.int _,V.int _];rw[aA,aA]
abbrev Au:List Int->Text->Option cu:=oJ λk t=>(.deal k t)
abbrev W7:List ae:=["market","numbers","text","legs","deal"]
theorem GY:bX W7 cH (bb yc):=⟨rfl,rfl,rfl,by decide+kernel,rfl,by decide+kernel,by decide+kernel⟩
theorem Vc(A:MA)(a b:Nat):(b7 A a b).lookup ("add_deal":ae)=none:=by rfl
theorem XY{H1:Hp}{S X:List aa}(s:ak H H1)(h:∀b∈X,H b=none):Fr H S H1 (S++X):=⟨λb o e z=>s b o e,λb xs e=>s _ _ e,λb hb=>by
 rcases b6.mp hb with hb|hb
 .exact .inl hb
 .exact .inr (h b hb)⟩
theorem Uv(G:Gd K mg "answer_deal" yc)(T:Tx K mg CM CD)(X:Ex K mg E1 E2 E3 E4 E5)(d_rg:Df Pr w K mg base (bR Pr w) 1 "check_range" ["number","least","most"] (vG E1))(nQ:Df Pr w K mg base (bR Pr w) 4 "read_legs" ["row","owners","goods"] (xr K E2))(d_add:Mt Pr w K mg base be 3 CM "add_deal" ["self","legs","ticks"] (Ka CM CD)):Df Pr w K mg base (bR Pr w) 5 "answer_deal" cH (d5 CM CD (exc E1 E2 E3 E4 E5) Au):=by
 obtain⟨f,fd,F,hm⟩:=G.ex;refine⟨f,fd,F.eP GY gJ (λcdv A outer s H vs Q E hr h=>?_),hm,F.kp,F.binds (bn3 rfl)⟩
 .intro X0;apply qh h;intro k t m nb tx S st P lv mk hnb htx nbS txS t600 rep
  have nd:=GY.nd;have snd:=lv.sound;refine⟨_,aK (cG (bQ d_rg (hr.mono (by decide)) eJ (ai (bh bO (pv 1) aQ (λ_ _=>rfl)) (ai aQ (ai (fC T.Qo) au))))) (aK (bW (i:=3) nd rfl (aV rfl) (bQ nQ hr eJ (ai (pv 2) (ai (bx (pv 0) rfl) (ai (bx (pv 0) rfl) au))))) (eR (df LC (dh xV rfl T.fK f9 (ai (bx (pv 0) rfl) au)) (fC T.Yd) (c7 _)) (aX (je rfl X.m5 X.x5)) (aK (bW (i:=4) nd rfl (aV rfl) (jz (pv 0) T.cM d_add (hr.mono (by decide)) b0 (ai (pv 3) (ai (bh bO (pv 1) aQ (λ_ _=>rfl)) au)))) (aX (bT (cW (ai aQ (ai (bx (pv 4) rfl) (ai (dh xV rfl T.fK f9 (ai (bx (pv 4) rfl) au)) au))))))))),?_⟩
  refine⟨_,rfl,bL (aj.of hnb) (bj (j:=0) rfl) ⟨k,_,_,rfl,λh1=>?_,λh1=>rep.fB mk 1 (by decide) (by decide) (ay h1)⟩⟩
  obtain⟨MA,ml,hs,eS⟩:=id mk;have R:=hs.rs;refine⟨_,rfl,_,rfl,bp (bC R) T.cM T.m8 (pd _ _ _) ⟨_,rfl,bp (bC R) T.cM T.kJ (mH _ _ _) ?_⟩⟩;refine⟨tx,MA.aO,MA.aG,t,st.owners,st.goods,rfl,aj.of htx,aj.of (o6 R),aj.of (lW R),by omega,r6 lv.g,?_⟩
  have e0:¬nr k 0 1000=false:=by rw[h1];decide
  cases hrl:ly st.owners st.goods t with
  |error e=>exact λH' s'=>rep.qa mk 2 (by decide) (by decide) (by rw[IC,aq e0,hrl]) s'
  |ok ls=>
   intro H1 lg ts s1 tsl hleg hlN;obtain⟨lok,hne,l12,hn⟩:=Rm.yH hrl;have mk1:=mk.same s1;have hs1:=hs.same s1;have R1:=hs1.rs;have est:step st (.deal k t)=if EJ<=st.market.deals.length then eX st 5 else fN (oP st ls k.toNat) [(st.next:Int),((dj ls).length:Int)]:=by rw[IC,aq e0,hrl]
   have dlen:(bF MA).length=st.market.deals.length:=by unfold bF;rw[aA];have:=cq wb ml.ds;simpa using this
   have hDk:H1 MA.aD=some (.dK (bF MA)):=hs1.2 (MA.aD,.dK (bF MA)) (eZ (by simp[cf]))
   refine⟨_,rfl,bp (bC R1) T.cM T.hU (ip _ _ _) ⟨MA.aD,_,rfl,hDk,_,_,rfl,rfl,_,rfl,?_⟩⟩;refine cJ (c:=EJ<=st.market.deals.length) (jr.mpr (by rw[dlen];show(16:Int)<=_↔16<=_;omega)) (λh2=>?_) (λh2=>?_)
   .exact rep.qa mk 5 (by decide) (by decide) (by rw[est,ay h2]) s1
   .rw[aq h2]at est
    obtain⟨kk,rfl⟩:=K1 (lz h1).1;rw[ij]at est;have h16:st.market.deals.length<16:=by have:¬16<=st.market.deals.length:=h2;omega
    refine⟨_,rfl,m,MA.dm,_,rfl,bC R1,Vc _ _ _,_,rfl,_,rfl,bL (aj.of (s1 _ _ hnb)) (bj (j:=0) rfl) ?_⟩;refine⟨m,lg,S,ts,ls,kk,st,P,rfl,snd,lv.g.goods.symm,mk1,hleg,λb hb=>mk.out (hlN b hb),tsl,l12,lok.jK,h16,λH2 a S2 mk2 hD fr2=>?_⟩;obtain⟨D,rfl,eD,dl,RD,hgv⟩:=hD;have fr3:=(XY (S:=S) s1 hlN).trans fr2;refine⟨_,rfl,bp (fk RD) T.cD T.my (oX D) ⟨_,rfl,bp (fk RD) T.cD T.iu (kj D) ⟨D.gv,_,rfl,hgv,(by show 3<=sizeLine;decide),λq hq=>?_⟩⟩⟩
    have snd2:Ord (oP st ls kk).market P:=snd.o.add rfl;refine rep.new (S':=S2) (P':=P) (by rw[est];exact mk2) (by rw[est];exact snd2) fr3 hq ?_
    rw[est];have e1:D.num=st.next:=cq bg eD;have e2:D.legs=ls:=cq (λx=>x.2.1) eD;have e3:(cz D).length=(dj ls).length:=by
     unfold cz;rw[aA,tX,dl.rs,wC,e2,DT]
    rw[e3];show[V.int 0,V.int (D.num:Int),V.int _]=[V.int 0,V.int _,V.int _];rw[e1]
theorem G5(s:aT)(t:Text):step s (.swap t)=match ly s.owners s.goods t with
 | .error _=>eX s 2
 | .ok l=>if nY s.market.free s.goods.length l=false then eX s 4
  else pE s {s.market with free:=me s.market.free s.goods.length l} [] []:=rfl
theorem GC(s:aT)(k:Int):step s (.tick k)=if nr k 1 100=false then eX s 1 else if aam<(s.now:Int)+k then eX s 5 else fN {s with market:=(dU k.toNat s.now s.market).1,now:=s.now+k.toNat} (((s.now:Int)+k)::nq (dU k.toNat s.now s.market).2):=rfl
theorem Q0(as:List aa)(b:List (List Nat)):iJ as (dY b)=rows as b:=by
 unfold iJ rows dY bJ;rw[List.zip_map_right,bU];refine i5 λp z=>?_;show(p.1,HO.lst ((p.2.map λ(n:Nat)=>(n:Int)).map V.int))=(p.1,HO.lst (p.2.map nV));rw[bU];rfl
theorem Lc{α:Type}(M h p:α)(T R RX:List α):((M::(T++(h::R)))++(p::RX)).Perm (M::(T++p::h::(RX++R))):=by
 classical
 refine aaj.mpr λx=>?_;simp only[aak,N0];omega
theorem Gu:∀(i now:Nat)(m:aL),dU (i+1) now m=((Rm.iw (now+i) (dU i now m).1).1,(dU i now m).2++(Rm.iw (now+i) (dU i now m).1).2)
 |0,now,m=>by
  rw[Rm.xI];show((Rm.iw now m).1,(Rm.iw now m).2++[])=((Rm.iw now m).1,[]++(Rm.iw now m).2);rw[oo,wy]
 |i+1,now,m=>by
  rw[Rm.xI,Gu i (now+1),Rm.xI];have:now+1+i=now+(i+1):=by omega
  rw[this];simp
theorem Px{m:aa}{A:MA}{p:aa}{rs:List aa}{b:List (List Nat)}(hs:Hs H (aE CM CD m A s P))(hx:Hs H (da p rs (dY b)))(hd:∀c∈(da p rs (dY b)).map bg,c∉(aE CM CD m A s P).map bg):Hs (upd H m (.ins CM A.dm (b7 {A with aF:=p} s.now s.next))) (aE CM CD m {A with aF:=p,fr:=rs} {s with market:={s.market with free:=b}} P)/\(∀c∈(aE CM CD m {A with aF:=p,fr:=rs} {s with market:={s.market with free:=b}} P).map bg,c∈(aE CM CD m A s P).map bg\/c∈(da p rs (dY b)).map bg):=by
 have h1:=hs.app hx hd;have ea:aE CM CD m A s P++da p rs (dY b)=((m,.ins CM A.dm (b7 A s.now s.next))::([(A.aD,.dK (bF A)),(A.aP,.dT (b5 P)),bJ A.aM s.made,bJ A.aB s.burned,(A.aO,.lst (s.owners.map tV)),(A.aG,.lst (s.goods.map tV))]++((A.aF,.lst (A.fr.map V.ref))::(A.aH,.lst (A.hd.map V.ref))::(rows A.fr s.market.free++(rows A.hd s.market.held++A.ds.flatMap (cE CD s.market.goods))))))++((p,.lst (rs.map V.ref))::rows rs b):=by unfold aE cf da;rw[Q0];simp
 have eb:aE CM CD m {A with aF:=p,fr:=rs} {s with market:={s.market with free:=b}} P=(m,.ins CM A.dm (b7 {A with aF:=p} s.now s.next))::([(A.aD,.dK (bF A)),(A.aP,.dT (b5 P)),bJ A.aM s.made,bJ A.aB s.burned,(A.aO,.lst (s.owners.map tV)),(A.aG,.lst (s.goods.map tV))]++(p,.lst (rs.map V.ref))::(A.aH,.lst (A.hd.map V.ref))::(rows rs b++(rows A.hd s.market.held++A.ds.flatMap (cE CD s.market.goods)))):=by unfold aE cf;simp;exact⟨rfl,rfl⟩
 have sub:(((m,HO.ins CM A.dm (b7 A s.now s.next))::([(A.aD,.dK (bF A)),(A.aP,.dT (b5 P)),bJ A.aM s.made,bJ A.aB s.burned,(A.aO,.lst (s.owners.map tV)),(A.aG,.lst (s.goods.map tV))]++((A.aH,.lst (A.hd.map V.ref))::(rows A.hd s.market.held++A.ds.flatMap (cE CD s.market.goods)))))++((p,.lst (rs.map V.ref))::rows rs b)).Sublist (aE CM CD m A s P++da p rs (dY b)):=by
  rw[ea];exact qD (NY _ (qD (tY _) (abj _ (NY _ (FR _ _))))) (tY _)
 have h2:=(h1.sub sub).perm (Lc _ _ _ _ _ _);have h3:=Hs.put (L1:=[]) (o':=.ins CM A.dm (b7 {A with aF:=p} s.now s.next)) h2
 refine⟨by rw[eb];exact h3,λc hc=>?_⟩
 rw[eb]at hc;have:c∈(aE CM CD m A s P++da p rs (dY b)).map bg:=(sub.map bg).subset (((Lc _ _ _ _ _ _).map bg).mem_iff.mpr hc);rw[bZ]at this;exact b6.mp this
abbrev AK:List Int->Text->Option cu:=o7 λt=>(.swap t)
abbrev U5:List ae:=["market","numbers","text","legs","left"]
theorem G6:bX U5 cH (bb xJ):=⟨rfl,rfl,rfl,by decide+kernel,rfl,by decide+kernel,by decide+kernel⟩
theorem KW{lg:aa}{ts:List aa}{ls:List bN}(tsl:ts.length=ls.length)(hleg:Hs H (fD lg ts ls)):ql H lg ts ls:=⟨tsl,hleg.2 (lg,_) (by simp[fD]),λi t l h1 h2=>hleg.2 (t,.tup (gW l)) (b8 _ (bw.mpr ⟨(t,l),cZ (i:=i) (by rw[mj];exact⟨h1,h2⟩),rfl⟩))⟩
theorem UO(G:Gd K mg "answer_swap" xJ)(T:Tx K mg CM CD)(X:Ex K mg E1 E2 E3 E4 E5)(nQ:Df Pr w K mg base (bR Pr w) 4 "read_legs" ["row","owners","goods"] (xr K E2))(d_left:Df Pr w K mg base be 1 "left_by_exchange" ["market","legs"] (Cp CM CD))(d_can:Df Pr w K mg base be 1 "can_be_made" ["left"] AJ)(d_settle:Df Pr w K mg base be 6 "settle" ["market"] (mK CM CD)):Df Pr w K mg base (bR Pr w) 7 "answer_swap" cH (d5 CM CD (exc E1 E2 E3 E4 E5) AK):=by
 obtain⟨f,fd,F,hm⟩:=G.ex;refine⟨f,fd,F.eP G6 gJ (λcdv A outer s H vs Q E hr h=>?_),hm,F.kp,F.binds (bn3 rfl)⟩
 .intro X0;apply qt h;intro t m nb tx S st P lv mk hnb htx nbS txS t600 rep
  have nd:=G6.nd;have snd:=lv.sound;have ft:=snd.fW;refine⟨_,aK (bW (i:=3) nd rfl (aV rfl) (bQ nQ (hr.mono (by decide)) eJ (ai (pv 2) (ai (bx (pv 0) rfl) (ai (bx (pv 0) rfl) au))))) (aK (bW (i:=4) nd rfl (aV rfl) (bQ d_left (hr.mono (by decide)) b0 (ai (pv 0) (ai (pv 3) au)))) (eR (vi (nO (bQ d_can (hr.mono (by decide)) b0 (ai (pv 4) au)))) (aX (je rfl X.m4 X.x4)) (aK (jm (pv 0) (pv 4) rfl) (aX (bT (eG j3 (cW (ai aQ au)) (bQ d_settle hr b0 (ai (pv 0) au)))))))),?_⟩
  obtain⟨MA,ml,hs,eS⟩:=id mk;have R:=hs.rs;refine⟨_,rfl,_,rfl,bp (bC R) T.cM T.m8 (pd _ _ _) ⟨_,rfl,bp (bC R) T.cM T.kJ (mH _ _ _) ?_⟩⟩;refine⟨tx,MA.aO,MA.aG,t,st.owners,st.goods,rfl,aj.of htx,aj.of (o6 R),aj.of (lW R),by omega,r6 lv.g,?_⟩
  cases hrl:ly st.owners st.goods t with
  |error e=>exact λH' s'=>rep.qa mk 2 (by decide) (by decide) (by rw[G5,hrl]) s'
  |ok ls=>
   intro H1 lg ts s1 tsl hleg hlN;obtain⟨lok,hne,l12,hn⟩:=Rm.yH hrl;rw[<-lv.g.goods]at lok;have ng0:0<st.market.goods:=yK lok hne;have est:step st (.swap t)=if nY st.market.free st.market.goods ls=false then eX st 4 else pE st {st.market with free:=me st.market.free st.market.goods ls} [] []:=by rw[G5,hrl,<-lv.g.goods]
   have mk1:=mk.same s1;refine⟨_,rfl,_,rfl,m,lg,ts,ls,st,P,rfl,mk1.rd,ft,KW tsl hleg,l12,lok,λH2 p rs s2 rl hX hXn=>?_⟩;have sh0:=(Rm.sJ ls (Rm.sk ft.free) lok).1;refine⟨_,rfl,p,rs,_,_,_,rfl,sh0,rl,ft.owners,ng0,hX,λH3 s3=>?_⟩;refine⟨_,rfl,?_⟩;rw[<-Rm.Ae ft.free lok];have s13:=(s1.trans s2).trans s3;cases hc:nY st.market.free st.market.goods ls with
   |false=>exact fm (rep.qa mk 4 (by decide) (by decide) (by rw[est,ay hc]) s13)
   |true=>
    rw[aq (by rw[hc];decide)]at est
    have hs3:=hs.same s13;have hX3:=hX.same s3;rw[<-Rm.Th ft.free lok hc]at hX3 hXn;refine fV ⟨_,rfl,_,rfl,m,CM,MA.dm,_,rfl,bC hs3.rs,T.cM,T.jN,(by show 10<1000;decide),?_⟩
    rw[QV];have hN:∀b∈(da p rs (dY (me st.market.free st.market.goods ls))).map bg,H b=none:=λb hb=>s1.free (hXn b hb);obtain⟨h4,h5⟩:=Px hs3 hX3 λc hc=>hs.out (hN c hc);have sh:=Rm.Di ft.free ls
    let s1':aT:={st with market:={st.market with free:=me st.market.free st.market.goods ls}}
    have snd1:cy s1' P:=⟨snd.g.freed sh,snd.o.same rfl,snd.goods,snd.owners⟩;have hmS:m∈S:=by rw[eS];exact qf (x:=(m,.ins CM MA.dm (b7 MA st.now st.next))) (by simp[cf])
    refine⟨by decide,λz hz=>⟨_,rfl,qd (s1:=s1') (S1:=(aE CM CD m {MA with aF:=p,fr:=rs} s1' P).map bg) rep (by rw[est];rfl) snd1 ⟨{MA with aF:=p,fr:=rs},⟨rl.trans sh.len.symm,ml.hd,ml.ds,ml.dl⟩,h4,rfl⟩ ?_ hz⟩⟩
    refine⟨λb o e n=>?_,λb xs e=>?_,λb hb=>?_⟩
    .rw[aI (λz=>n (by rw[z];exact hmS))];exact s13 _ _ e
    .rw[aI (gL e (bC R) (λz=>nomatch z))];exact s13 _ _ e
    .rcases h5 b hb with q|q
     .exact .inl (by rw[eS];exact q)
     .exact .inr (hN b q)
abbrev Bx:List Int->Text->Option cu:=oJ λk z=>(.tick k)
abbrev TM:List ae:=["market","numbers","text","happened","step"]
theorem GW:bX TM cH (bb wM):=⟨rfl,rfl,rfl,by decide+kernel,rfl,by decide+kernel,by decide+kernel⟩
def ka(s:aT)(i:Nat):aT:={s with market:=(dU i s.now s.market).1,now:=s.now+i}
theorem VB(G:Gd K mg "answer_tick" wM)(T:Tx K mg CM CD)(X:Ex K mg E1 E2 E3 E4 E5)(d_rg:Df Pr w K mg base (bR Pr w) 1 "check_range" ["number","least","most"] (vG E1))(d_over:Df Pr w K mg base be 7 "end_overdue" ["market"] (KG CM CD)):Df Pr w K mg base (bR Pr w) 8 "answer_tick" cH (d5 CM CD (exc E1 E2 E3 E4 E5) Bx):=by
 obtain⟨f,fd,F,hm⟩:=G.ex;refine⟨f,fd,F.eP GW gJ (λcdv A outer s H vs Q E hr h=>?_),hm,F.kp,F.binds (bn3 rfl)⟩
 .intro X0;apply qh h;intro k t m nb tx S st P lv mk hnb htx nbS txS t600 rep
  have nd:=GW.nd;have snd:=lv.sound;refine⟨_,aK (cG (bQ d_rg (hr.mono (by decide)) eJ (ai (bh bO (pv 1) aQ (λ_ _=>rfl)) (ai aQ (ai (fC T.SN) au))))) (eR (df qz (eG mx (bx (pv 0) rfl) (bh bO (pv 1) aQ (λ_ _=>rfl))) (fC T.QU) (c7 _)) (aX (je rfl X.m5 X.x5)) (aK (bW (i:=3) nd rfl (aV rfl) (cW au)) (aK (g7 rh rfl (JI rfl T.Ht (ai (bh bO (pv 1) aQ (λ_ _=>rfl)) au)) (bY (i:=4) nd rfl (aV rfl)) (aK (JL (pv 0) aQ Ia) (aX (cG (gI gU lH lI jY (pv 3) (ai (bQ d_over hr b0 (ai (pv 0) au)) au)))))) (aX (bT (eG j3 (cW (ai aQ (ai (bx (pv 0) rfl) au))) (pv 3))))))),?_⟩
  refine⟨_,rfl,bL (aj.of hnb) (bj (j:=0) rfl) ⟨k,_,_,rfl,λh1=>?_,λh1=>rep.fB mk 1 (by decide) (by decide) (ay h1)⟩⟩
  have e0:¬nr k 1 100=false:=by rw[h1];decide
  have hk:=lz h1;obtain⟨kk,rfl⟩:=K1 (show 0<=k by omega)
  obtain⟨MA,ml,hs,eS⟩:=id mk;have R:=hs.rs;refine⟨_,rfl,bp (bC R) T.cM T.rE (vx _ _ _) ⟨_,rfl,bL (aj.of hnb) (bj (j:=0) rfl) ⟨_,_,rfl,rfl,_,_,rfl,rfl,_,rfl,?_⟩⟩⟩;refine cJ (c:=aam<(st.now:Int)+(kk:Int)) rfl (λh2=>rep.fB mk 5 (by decide) (by decide) (by rw[GC,aq e0,ay h2])) (λh2=>?_)
  have est:step st (.tick (kk:Int))=fN (ka st kk) (((st.now:Int)+(kk:Int))::nq (dU kk st.now st.market).2):=by rw[GC,aq e0,aq h2,ij];rfl
  refine⟨gp _,λhp hhp=>?_⟩;have s1:ak H (upd H hp (.lst [])):=ak.new hhp;have hhp1:(upd H hp (.lst [])) hp=some (.lst []):=aR;have hpS:hp∉S:=mk.out hhp;have mk1:=mk.same s1;have fr1:Fr H S (upd H hp (.lst [])) S:=Fr.dE s1;have hnb1:=s1 _ _ hnb;generalize upd H hp (.lst [])=H1 at s1 hhp1 mk1 fr1 hnb1;refine⟨_,rfl,bL (aj.of hnb1) (bj (j:=0) rfl) ⟨_,rfl,(by omega),(by omega),?_⟩⟩
  rw[ij];have good:∀i,bo st.owners.length st.next st.since (dU i st.now st.market).1/\Rm.jM (dU i st.now st.market).1/\(dU i st.now st.market).1.goods=st.market.goods/\(dU i st.now st.market).1.deals.length+(dU i st.now st.market).2.length<=st.market.deals.length:=λi=>bo.Es i st.now snd.g lv.g.calm;have c5:=snd.g.c5
  let W:IV:=λi σ H'=>∃(v4:Option V)(Si:List aa)(Pi:List aS),σ=[some (.ref m),some (.ref nb),some (.ref tx),some (.ref hp),v4]/\Mk CM CD H' m Si (ka st i) Pi/\cy (ka st i) Pi/\Fr H S H' Si/\hp∉Si/\H' hp=some (.lst (c9 (dU i st.now st.market).2))
  refine g0 J8 (W)
   ⟨none,S,P,rfl,mk1,snd,fr1,hpS,hhp1⟩ (λ_ _ _ _ _=>dy) (λi σ H' x H'' hi pv y=>?_) (λσ H' pv=>?_)
  .apply kP pv;intro v4 Si Pi zz;refine mI zz λmki sndi fri hpi hhi=>?_
   obtain⟨rfl,rfl⟩:=y;obtain⟨MB,mlB,hsB,eB⟩:=id mki;have RB:=hsB.rs;have hmB:=bC RB;refine⟨_,rfl,m,CM,MB.dm,_,_,rfl,hmB,T.cM,T.rE,vx _ _ _,_,_,rfl,rfl,MB.dm,_,hmB,(by show 10<1000;decide),?_⟩
   have ept:b9 "tick" (V.int (((ka st i).now:Int)+1)) (b7 MB (ka st i).now (ka st i).next)=b7 MB (st.now+(i+1)) st.next:=Wa MB (st.now+i) st.next (st.now+(i+1))
   rw[ept]
   let s2:aT:={st with market:=(dU i st.now st.market).1,now:=st.now+(i+1)}
   have h2':Hs (upd H'' m (.ins CM MB.dm (b7 MB (st.now+(i+1)) st.next))) (aE CM CD m MB s2 Pi):=Hs.put (L1:=[]) (o:=.ins CM MB.dm (b7 MB (ka st i).now (ka st i).next)) hsB
   have hmS:m∈Si:=by rw[eB];exact qf (x:=(m,.ins CM MB.dm (b7 MB (ka st i).now (ka st i).next))) (by simp[cf])
   have fr2:=fri.trans (Fr.gu (o':=.ins CM MB.dm (b7 MB (st.now+(i+1)) st.next)) hmB (λxs z=>nomatch z) hmS);have hpm:hp≠m:=λz=>hpi (by rw[z];exact hmS)
   have hh2:(upd H'' m (.ins CM MB.dm (b7 MB (st.now+(i+1)) st.next))) hp=some (.lst (c9 (dU i st.now st.market).2)):=by rw[aI hpm];exact hhi
   have mk2:Mk CM CD (upd H'' m (.ins CM MB.dm (b7 MB (st.now+(i+1)) st.next))) m Si s2 Pi:=⟨MB,⟨mlB.fr,mlB.hd,mlB.ds,mlB.dl⟩,h2',eB⟩;have snd2:cy s2 Pi:=⟨sndi.g,sndi.o,sndi.goods,sndi.owners⟩;generalize upd H'' m (.ins CM MB.dm (b7 MB (st.now+(i+1)) st.next))=H2 at fr2 hh2 mk2;refine⟨_,rfl,.inl ⟨rfl,_,aj.of hh2⟩,_,rfl,m,Si,s2,Pi,rfl,snd2,(good i).2.1,mk2,λH3 S3 P3 p3 mk3 snd3 fr3 hp3 hpS3 hh3=>?_⟩;have hh3':=fr3.keep _ _ hh2 hpi;have hp3':=fr3.out hh2 hpi;have en:sT s2=(Rm.iw (st.now+i) (dU i st.now st.market).1).2:=rfl;have em:qi s2=(Rm.iw (st.now+i) (dU i st.now st.market).1).1:=rfl;have esn:=Gu i st.now st.market;have e2:(dU (i+1) st.now st.market).2=(dU i st.now st.market).2++sT s2:=by rw[esn];rfl
   have e1:(dU (i+1) st.now st.market).1=qi s2:=by rw[esn];rfl
   have ln:=(good (i+1)).2.2.2;rw[e2,bV]at ln;refine⟨hp,p3,_,_,rfl,rfl,hh3',hh3,sle _ (by rw[l5,l5];omega),?_⟩
   obtain⟨mk4,fr4,hh4⟩:=vz (us:=c9 (dU i st.now st.market).2++c9 (sT s2)) mk3 (fr2.trans fr3) hhp hp3' hh3';have es:ka st (i+1)=cg s2 (qi s2):=by unfold ka;rw[e1];rfl
   refine⟨_,S3,P3,rfl,by rw[es];exact mk4,by rw[es];exact snd3,fr4,hp3',?_⟩
   rw[hh4,e2,sI]
  .apply kP pv;intro v4 Si Pi zz;refine mI zz λmki sndi fri hpi hhi=>?_
   obtain⟨MB,mlB,hsB,eB⟩:=id mki;have RB:=hsB.rs;refine⟨_,rfl,bp (bC RB) T.cM T.rE (vx _ _ _) ⟨(by show 2<=sizeLine;decide),λz hz=>?_⟩⟩
   have s5:ak H' (upd H' z (.lst [.int 0,nV (ka st kk).now])):=ak.new hz;have ln:=(good kk).2.2.2;refine⟨_,rfl,z,hp,_,_,rfl,rfl,aR,s5 _ _ hhi,sle _ (by rw[l5];simp;omega),λq hq=>?_⟩
   refine rep.new (S':=Si) (P':=Pi) (by rw[est];exact mki.same s5) (by rw[est];exact sndi.o) (fri.trans (Fr.dE s5)) hq ?_
   rw[est];rfl
theorem JT(s:aT)(d:Int):step s (.parts d)=match ku s d with
 |none=>eX s 3
 |some x=>fN s (x.parts.flatMap λp=>[(p.owner:Int),if p.held=true then 1 else 0]):=rfl
theorem KL(s:aT)(d:Int):step s (.legs d)=match ku s d with
 |none=>eX s 3
 |some x=>fN s (Vbwsaj.ints (x.legs.flatMap (tu s.owners s.goods))):=rfl
theorem JA(s:aT)(d:Int):step s (.could d)=match ku s d with
 |none=>eX s 3
 |some x=>fN s [if((dj x.legs).all λo=>jq (iG s.market x) x o)=true then 1 else 0]:=rfl
theorem Gb(s:aT)(d o:Int):step s (.lacks d o)=if nW s o=false then eX s 1 else match ku s d with
 |none=>eX s 3
 |some x=>if(dj x.legs).contains o.toNat=false then eX s 4 else fN s ((cR s.goods.length).map λg=>if(x.parts.any λp=>p.owner==o.toNat&&p.held)=true then 0 else((gives x.legs o.toNat g - amount s.market.free o.toNat g:Nat):Int)):=rfl
section
variable{m:aa}{S:List aa}{c:cu}{Q:VK}{E:XK}
theorem Rep.own(r:Rep CM CD ex s P c H m S Q E)(mk:Mk CM CD H m S s P)(o:Ord s.market P){l:List Int}(e:step s c=fN s l){H':Hp}(sm:ak H H')(ha:H a=none)(h:H' a=some (.lst (V.int 0::l.map V.int))):Q (.ref a) H':=r.yes H' S P a (by rw[e];exact mk.same sm) (by rw[e];exact o) (Fr.dE sm) (λb o hb z=>cQ hb ha) (by rw[e];exact h)
end
theorem GB(snd:cy s P){d:aZ}(hd:d∈s.market.deals)(o:Nat):(d.parts.any λp=>p.owner==o&&p.held)=decide (dg P d.num o=some true):=by
 by_cases c:dg P d.num o=some true
 .rw[dw c]
  obtain⟨p,hp,e1,e2⟩:=(snd.look hd).1 c;exact vI.mpr ⟨p,hp,by simp[e1,e2]⟩
 .rw[cU c]
  refine vJ.mpr λz=>c ?_;obtain⟨p,hp,e⟩:=vI.mp z;rw[ib]at e;exact(snd.look hd).2 ⟨p,hp,by simpa using e.1,e.2⟩
abbrev Cq:List Int->Text->Option cu:=oJ λo z=>(.account o)
abbrev Ye:List ae:=["market","numbers","text","answer","free","held"]
theorem JW:bX Ye cH (bb zk):=⟨rfl,rfl,rfl,by decide+kernel,rfl,by decide+kernel,by decide+kernel⟩
def sD(s:aT)(o i:Nat):List Int:=(cR i).flatMap λg=>[(amount s.market.free o g:Int),(amount s.market.held o g:Int)]
theorem Hn(s:aT)(o:Nat):∀i,(sD s o i).length=2*i
 |0=>rfl
 |i+1=>by
  have:=Hn s o i;unfold sD at this⊢;rw[pq,md,bV,this];simp;omega
theorem Po(G:Gd K mg "answer_account" zk)(T:Tx K mg CM CD)(d_own:Df Pr w K mg base (bR Pr w) 2 "check_owner" ["market","owner"] (qw CM CD E1)):Df Pr w K mg base (bR Pr w) 3 "answer_account" cH (d5 CM CD (exc E1 E2 E3 E4 E5) Cq):=by
 obtain⟨f,fd,F,hm⟩:=G.ex;refine⟨f,fd,F.eP JW gJ (λcdv A outer s H vs Q E hr h=>?_),hm,F.kp,F.binds (bn3 rfl)⟩
 .intro X0;apply qh h;intro o t m nb tx S st P lv mk hnb htx nbS txS t600 rep
  have nd:=JW.nd;have snd:=lv.sound;have ft:=snd.fW;refine⟨_,aK (cG (bQ d_own hr eJ (ai (pv 0) (ai (bh bO (pv 1) aQ (λv v=>rfl)) au)))) (aK (bW (i:=3) nd rfl (aV rfl) (cW (ai aQ au))) (aK (g7 rh rfl (A0 rfl T.Ai (ai (bh bO (bx (pv 0) rfl) (bh bO (pv 1) aQ (λv v=>rfl)) (λv v=>rfl)) (ai (bh bO (bx (pv 0) rfl) (bh bO (pv 1) aQ (λv v=>rfl)) (λv v=>rfl)) au))) (lS rfl (dA (bY (i:=4) nd rfl (aV rfl)) (dA (bY (i:=5) nd rfl (aV rfl)) ji))) (aX (cG (gI gU lH lI jY (pv 3) (ai (cW (ai (pv 4) (ai (pv 5) au))) au))))) (aX (bT (pv 3))))),?_⟩;refine⟨_,rfl,_,rfl,bL (aj.of hnb) (bj (j:=0) rfl) ⟨m,o,st,P,rfl,mk.rd,snd.owners,λh1=>?_,λh1=>rep.fB mk 1 (by decide) (by decide) (ay h1)⟩⟩
  obtain⟨o,rfl,ho⟩:=oY h1;refine⟨by decide,λa ha=>?_⟩
  have s1:ak H (upd H a (.lst [.int 0])):=ak.new ha;have ha1:(upd H a (.lst [.int 0])) a=some (.lst [.int 0]):=aR;generalize upd H a (.lst [.int 0])=H1 at s1 ha1;obtain⟨MA,ml,hs,eS⟩:=id mk;have R:=hs.rs;have R1:=R.same s1;obtain⟨r1,hr1,rl1,ra1⟩:=ft.row ho;obtain⟨r2,hr2,rl2,ra2⟩:=ft.fA ho;have hl1:o<MA.fr.length:=by rw[ml.fr];exact(cN.mp hr1).1
  have hl2:o<MA.hd.length:=by rw[ml.hd];exact(cN.mp hr2).1
  have row1:=rm R (bH hl1) hr1;have row2:=CS R (bH hl2) hr2;refine⟨_,rfl,bp (bC R1) T.cM T.jN (k8 _ _ _) ⟨_,rfl,bL (aj.of (s1 _ _ hnb)) (bj (j:=0) rfl) (bL (aj.of (jA R1)) (bj (by rw[bz,bH hl1];rfl)) ?_)⟩⟩
  refine⟨_,rfl,bp (bC R1) T.cM T.rH (uW _ _ _) ⟨_,rfl,bL (aj.of (s1 _ _ hnb)) (bj (j:=0) rfl) (bL (aj.of (sP R1)) (bj (by rw[bz,bH hl2];rfl)) ?_)⟩⟩
  refine⟨MA.fr[o],MA.hd[o],_,_,rfl,aj.of (s1 _ _ row1),aj.of (s1 _ _ row2),?_⟩
  let W:IV:=λi σ H'=>∃v4 v5:Option V,σ=[some (.ref m),some (.ref nb),some (.ref tx),some (.ref a),v4,v5]/\ak H H'/\H' a=some (.lst (V.int 0::(sD st o i).map V.int))/\i<=st.market.goods
  refine g0 (Dk (K:=K) (n:=st.market.goods) (by rw[aA];exact rl1) (by rw[aA];exact rl2)) (W)
   ⟨none,none,rfl,s1,ha1,gp _⟩ (λi σ H' v ⟨u,r,q,z,p,l⟩=>⟨aj.of (z _ _ row1),aj.of (z _ _ row2)⟩) (λi σ H' x H'' hi pv y=>?_) (λσ H' pv=>?_)
  .apply fz pv;intro v4 v5 zz;refine gy zz λs2 ha2 hle=>?_
   obtain⟨tt,x,y,rfl,htt,rfl,hx,hy⟩:=y;have g1:r1[i]? =some (amount st.market.free o i):=by rw[<-ra1 i,eA,bH (show i<r1.length by rw[rl1];exact hi)];rfl
   have g2:r2[i]? =some (amount st.market.held o i):=by rw[<-ra2 i,eA,bH (show i<r2.length by rw[rl2];exact hi)];rfl
   rw[bz,g1]at hx;rw[bz,g2]at hy;cases hx;cases hy;refine⟨tt,_,rfl,cv.of aR,rfl,_,_,rfl,_,_,rfl,rfl,?_⟩;have s3:ak H' (upd H' tt (.tup [nV (amount st.market.free o i),nV (amount st.market.held o i)])):=ak.new htt;have ha3:=s3 _ _ ha2;refine⟨_,rfl,.inl ⟨rfl,_,aj.of ha3⟩,_,rfl,_,rfl,(by show 2<=sizeLine;decide),λb hb=>?_⟩
   have s4:ak (upd H' tt (.tup [nV (amount st.market.free o i),nV (amount st.market.held o i)])) (upd (upd H' tt (.tup [nV (amount st.market.free o i),nV (amount st.market.held o i)])) b (.lst [nV (amount st.market.free o i),nV (amount st.market.held o i)])):=ak.new hb;refine⟨a,b,_,_,rfl,rfl,s4 _ _ ha3,aR,sle _ (by have g6:=ft.goods;have:=Hn st o i;simp;omega),?_⟩
   refine⟨_,_,rfl,λb' o' e=>by rw[aI (cQ e ha)];exact s4 _ _ (s3 _ _ (s2 _ _ e)),?_,hi⟩
   rw[aR]
   congr 2
   have:sD st o (i+1)=sD st o i++[(amount st.market.free o i:Int),(amount st.market.held o i:Int)]:=by unfold sD;rw[pq,md];rfl
   rw[this,bZ];rfl
  .apply fz pv;intro v4 v5 zz;refine gy zz λs2 ha2 hle=>?_
   refine⟨_,rfl,rep.own mk lv.o ?_ s2 ha ha2⟩;show(if _ then _ else _)=_;rw[aq (by rw[h1];decide),ij,<-lv.g.goods]
   rfl
abbrev Dq:List Int->Text->Option cu:=oJ λd z=>(.parts d)
abbrev Qx:List ae:=["market","numbers","text","answer","owner","standing"]
theorem K9:bX Qx cH (bb ym):=⟨rfl,rfl,rfl,by decide+kernel,rfl,by decide+kernel,by decide+kernel⟩
def j9(l:List aS):List Int:=l.flatMap λx=>[(x.2.2.1:Int),if x.2.2.2=true then 1 else 0]
theorem W1(l:List aS):(j9 l).length=2*l.length:=by
 unfold j9;induction l with
 |nil=>rfl
 |cons x r ih=>rw[gQ,bV,ih];simp;omega
theorem Kr(A:MA)(a b:Nat):(b7 A a b).lookup ("parts_of":ae)=none:=by rfl
theorem XR(G:Gd K mg "answer_parts" ym)(T:Tx K mg CM CD)(d_deal:Df Pr w K mg base (bR Pr w) 1 "check_deal" ["market","number"] (oG CM CD E3))(d_po:Mt Pr w K mg base be 1 CM "parts_of" ["self","number"] (Bq CM CD)):Df Pr w K mg base (bR Pr w) 2 "answer_parts" cH (d5 CM CD (exc E1 E2 E3 E4 E5) Dq):=by
 obtain⟨f,fd,F,hm⟩:=G.ex;refine⟨f,fd,F.eP K9 gJ (λcdv A outer s H vs Q E hr h=>?_),hm,F.kp,F.binds (bn3 rfl)⟩
 .intro X0;apply qh h;intro n t m nb tx S st P lv mk hnb htx nbS txS t600 rep
  have nd:=K9.nd;have snd:=lv.sound;refine⟨_,aK (cG (bQ d_deal hr eJ (ai (pv 0) (ai (bh bO (pv 1) aQ (λv v=>rfl)) au)))) (aK (bW (i:=3) nd rfl (aV rfl) (cW (ai aQ au))) (aK (g7 rh rfl (fH (jz (pv 0) T.cM d_po hr b0 (ai (bh bO (pv 1) aQ (λv v=>rfl)) au))) (lS rfl (dA (bY (i:=4) nd rfl (aV rfl)) (dA (bY (i:=5) nd rfl (aV rfl)) ji))) (aX (cG (gI gU lH lI jY (pv 3) (ai (cW (ai (pv 4) (ai (D3 (df iX (pv 5) (fC T.pS) (c7 _)) aQ aQ) au))) au))))) (aX (bT (pv 3))))),?_⟩;refine⟨_,rfl,_,rfl,bL (aj.of hnb) (bj (j:=0) rfl) ⟨m,n,st,P,rfl,mk.rd,snd,λd hd=>?_,λhd=>rep.fB mk 3 (by decide) (by decide) (by rw[JT,hd])⟩⟩
  obtain⟨hd1,rfl⟩:=Rm.j8 hd;refine⟨by decide,λa ha=>?_⟩
  have s1:ak H (upd H a (.lst [.int 0])):=ak.new ha;have ha1:(upd H a (.lst [.int 0])) a=some (.lst [.int 0]):=aR;generalize upd H a (.lst [.int 0])=H1 at s1 ha1;obtain⟨MA,ml,hs,eS⟩:=id mk;have hs1:=hs.same s1;have R1:=hs1.rs;refine⟨_,rfl,m,MA.dm,_,rfl,bC R1,Kr _ _ _,_,rfl,bL (aj.of (s1 _ _ hnb)) (bj (j:=0) rfl) ?_⟩;have ol:=xl snd;refine⟨m,d.num,st,P,MA,rfl,ol,R1,rA (iV hs1),λH2 p ts s2 tl hp1 hp2 htup=>?_⟩;have ha2:=s2 _ _ ha1;have s12:=s1.trans s2;have epo:fG P d.num=d.parts.map λp=>(p.since,d.num,p.owner,p.held):=Rm.Hx snd.o hd1 (λe he q=>snd.g.up.inj he hd1 q) (snd.g.jW d hd1);have pl:(fG P d.num).length<=1000:=fi (tp _ _) ol;refine⟨p,rfl,⟨_,aj.of hp2⟩,?_⟩
  let W:IV:=λi σ H'=>∃v4 v5:Option V,σ=[some (.ref m),some (.ref nb),some (.ref tx),some (.ref a),v4,v5]/\ak H H'/\(∀b o,b≠a->H2 b=some o->H' b=some o)/\H' a=some (.lst (V.int 0::(j9 ((fG P d.num).take i)).map V.int))
  refine g0 (fJ (K:=K) (a:=p) (xs:=ts.map V.ref)) (W)
   ⟨none,none,rfl,s12,λv v v e=>e,ha2⟩ (λi σ H' v ⟨u,r,k,c,z,Z⟩=>aj.of (z _ _ (λq=>by rw[q,ha1]at hp1;cases hp1) hp2)) (λi σ H' x H'' hi pv y=>?_) (λσ H' pv=>?_)
  .apply fz pv;intro v4 v5 zz;refine gy zz λs3 kp ha3=>?_
   obtain⟨rfl,hx⟩:=y;rw[bz]at hx;obtain⟨tt,ht,rfl⟩:=di.mp hx;have hil:i<(fG P d.num).length:=by rw[<-tl];exact(cN.mp ht).1
   obtain⟨x,hlx⟩:∃x,(fG P d.num)[i]? =some x:=⟨_,bH hil⟩;have ht2:=htup i tt x ht hlx;have tta:tt≠a:=gL ht2 ha2 (λz=>nomatch z);have ht3:=kp _ _ tta ht2;refine⟨tt,_,rfl,cv.of ht3,rfl,_,_,rfl,_,_,rfl,rfl,?_⟩;refine⟨_,rfl,.inl ⟨rfl,_,aj.of ha3⟩,_,rfl,?_⟩;have fin:∀(z:Int),z=(if x.2.2.2=true then 1 else 0)->∀b,H'' b=none->ak H'' (upd H'' b (.lst [nV x.2.2.1,V.int z]))/\(∀b' o',H b'=some o'->upd (upd H'' b (.lst [nV x.2.2.1,V.int z])) a (.lst (V.int 0::(j9 ((fG P d.num).take i)).map V.int++[nV x.2.2.1,V.int z])) b'=some o')/\(∀b' o',b'≠a->H2 b'=some o'->upd (upd H'' b (.lst [nV x.2.2.1,V.int z])) a (.lst (V.int 0::(j9 ((fG P d.num).take i)).map V.int++[nV x.2.2.1,V.int z])) b'=some o')/\(V.int 0::(j9 ((fG P d.num).take i)).map V.int++[nV x.2.2.1,V.int z])=V.int 0::(j9 ((fG P d.num).take (i+1))).map V.int:=λz hz b hb=>by
    refine⟨ak.new hb,λb' o' e=>by rw[aI (cQ e ha)];exact(ak.new hb) _ _ (s3 _ _ e),λb' o' n e=>by rw[aI n];exact(ak.new hb) _ _ (kp _ _ n e),?_⟩
    have:j9 ((fG P d.num).take (i+1))=j9 ((fG P d.num).take i)++[(x.2.2.1:Int),z]:=by unfold j9;rw[take_snoc hlx,md,hz];simp
    rw[this,bZ];rfl
   have hlen:(V.int 0::(j9 ((fG P d.num).take i)).map V.int).length+2<=sizeLine:=sle _ (by rw[cY,aA,W1,jT];omega)
   refine⟨_,rfl,?_⟩;cases hx4:x.2.2.2 with
   |true=>
    refine⟨rfl,_,rfl,fm ⟨by show 2<=sizeLine;decide,λb hb=>?_⟩⟩
    obtain⟨q1,q2,q3,q4⟩:=fin 1 (by rw[hx4];rfl) b hb
    exact⟨a,b,_,_,rfl,rfl,q1 _ _ ha3,aR,hlen,_,_,rfl,q2,q3,by rw[aR,q4]⟩
   |false=>
    refine⟨rfl,_,rfl,fV ⟨by show 2<=sizeLine;decide,λb hb=>?_⟩⟩
    obtain⟨q1,q2,q3,q4⟩:=fin 0 (by rw[hx4];rfl) b hb
    exact⟨a,b,_,_,rfl,rfl,q1 _ _ ha3,aR,hlen,_,_,rfl,q2,q3,by rw[aR,q4]⟩
  .apply fz pv;intro v4 v5 zz;refine gy zz λs3 kp ha3=>?_
   rw[aA,tl,jv]at ha3;refine⟨_,rfl,rep.own mk lv.o (l:=j9 (fG P d.num)) ?_ s3 ha ha3⟩;rw[JT,hd,epo];unfold j9;rw[NZ]
abbrev D4:List Int->Text->Option cu:=xX λd o z=>(.lacks d o)
abbrev Wn:List ae:=["market","numbers","text","number","owner","deal"]
theorem Kc:bX Wn cH (bb yf):=⟨rfl,rfl,rfl,by decide+kernel,rfl,by decide+kernel,by decide+kernel⟩
theorem Xg(G:Gd K mg "answer_lacks" yf)(T:Tx K mg CM CD)(X:Ex K mg E1 E2 E3 E4 E5)(d_own:Df Pr w K mg base (bR Pr w) 2 "check_owner" ["market","owner"] (qw CM CD E1))(d_deal:Df Pr w K mg base (bR Pr w) 1 "check_deal" ["market","number"] (oG CM CD E3))(d_lacks:Df Pr w K mg base be 1 "lacks_of" ["market","deal","owner"] (xn CM CD)):Df Pr w K mg base (bR Pr w) 3 "answer_lacks" cH (d5 CM CD (exc E1 E2 E3 E4 E5) D4):=by
 obtain⟨f,fd,F,hm⟩:=G.ex;refine⟨f,fd,F.eP Kc gJ (λcdv A outer s H vs Q E hr h=>?_),hm,F.kp,F.binds (bn3 rfl)⟩
 .intro X0;apply BY h;intro n o t m nb tx S st P lv mk hnb htx nbS txS t600 rep
  have nd:=Kc.nd;have snd:=lv.sound;have hu:=ir hr;refine⟨_,aK (bW (i:=3) nd rfl (aV rfl) (bh bO (pv 1) aQ (λy y=>rfl))) (aK (bW (i:=4) nd rfl (aV rfl) (bh bO (pv 1) aQ (λy y=>rfl))) (aK (cG (bQ d_own hr eJ (ai (pv 0) (ai (pv 4) au)))) (aK (cG (bQ d_deal (hr.mono (by decide)) eJ (ai (pv 0) (ai (pv 3) au)))) (aK (bW (i:=5) nd rfl (aV rfl) (iU hu (bx (pv 0) rfl) (pv 3) (λy y=>rfl))) (eR (k4 (rp hu (pv 4) (bx (pv 5) rfl))) (aX (je rfl X.m4 X.x4)) (aX (bT (eG j3 (cW (ai aQ au)) (bQ d_lacks (hr.mono (by decide)) b0 (ai (pv 0) (ai (pv 5) (ai (pv 4) au)))))))))))),?_⟩
  refine⟨_,rfl,bL (aj.of hnb) (bj (j:=0) rfl) ?_⟩;refine⟨_,rfl,bL (aj.of hnb) (bj (j:=1) rfl) ?_⟩;refine⟨_,rfl,_,rfl,m,o,st,P,rfl,mk.rd,snd.owners,λh1=>?_,λh=>rep.fB mk 1 (by decide) (by decide) (ay h)⟩
  refine⟨_,rfl,_,rfl,m,n,st,P,rfl,mk.rd,snd,λd hd=>?_,λhd=>rep.fB mk 3 (by decide) (by decide) (by rw[Gb,aq (by rw[h1];decide),hd])⟩
  obtain⟨hd1,rfl⟩:=Rm.j8 hd;obtain⟨o,rfl,ho⟩:=oY h1;have e1:(rj ((o:Nat):Int))=o:=ij o;obtain⟨MA,ml,hs,eS⟩:=id mk;have R:=hs.rs;obtain⟨D,hD,eD,hget,hdr⟩:=lR ml R snd.g.up hd1;have dl:=ml.dl D hD;have el:D.legs=d.legs:=cq (λx=>x.2.1) eD;have RD:=iq R hD;have est:step st (.lacks (d.num:Int) (o:Int))=if(dj d.legs).contains o=false then eX st 4 else fN st ((cR st.goods.length).map λg=>if(d.parts.any λp=>p.owner==o&&p.held)=true then 0 else((gives d.legs o g - amount st.market.free o g:Nat):Int)):=by rw[Gb,aq (by rw[h1];decide),hd,e1]
  refine⟨_,rfl,bp (bC R) T.cM T.hU (ip _ _ _) ⟨_,rfl,MA.aD,_,rfl,hget,?_⟩⟩;refine⟨_,rfl,_,rfl,bp (fk RD) T.cD T.iu (kj D) ⟨D.gv,_,rfl,(qu RD).get (bG (o:Int)),_,rfl,?_⟩⟩;refine cJ (c:=¬o∈dj d.legs) ?_ (λh2=>?_) (λh2=>?_)
  .by_cases z:o∈dj d.legs
   .obtain⟨ra,hra⟩:=si dl (o:=o) (by rw[el];exact fS.mpr z)
    rw[rW dl hra];simp[z]
   .rw[Jp λq hq e=>z (by rw[el]at hq;have:q=o:=(by omega);subst this;exact fS.mp hq)];simp[z]
  .exact rep.fB mk 4 (by decide) (by decide) (by rw[est,ay (by simpa using h2)])
  .have hpar:o∈dj d.legs:=i9.mp h2
   rw[aq (by rw[nk.mpr hpar];decide)]at est
   refine⟨by decide,λz hz=>?_⟩
   have s1:ak H (upd H z (.lst [.int 0])):=ak.new hz;have hz1:(upd H z (.lst [.int 0])) z=some (.lst [.int 0]):=aR;refine⟨_,rfl,_,rfl,_,rfl,m,D.a,o,st,P,cx d,rfl,snd.fW,mk.rd.same s1,DR.same ⟨D,rfl,eD,dl,RD⟩ s1,fS.mpr hpar,ho,λH2 p s2 hp hl=>?_⟩;refine⟨z,p,_,_,rfl,rfl,s2 _ _ hz1,hl,sle _ (by have g6:=snd.goods;unfold jG;simp;omega),λq hq=>?_⟩
   refine rep.new (S':=S) (P':=P) (by rw[est];exact mk.same (s1.trans s2)) (by rw[est];exact lv.o) (Fr.dE (s1.trans s2)) hq ?_
   rw[est];show V.int 0::(jG st P d.num d.legs o).map nV=V.int 0::iH V.int _
   congr 1
   unfold jG;rw[bU,bU,<-lv.g.goods];refine i5 λg y=>?_;show V.int ((fI st P d.num d.legs o g:Nat):Int)=V.int (if _ then _ else _);unfold fI;rw[GB snd hd1];by_cases c:dg P d.num o=some true
   .rw[ay c,ay (dw c)];rfl
   .rw[aq c,aq (by simpa using c)]
theorem J2(s:aT)(t:Text):step s (.read t)=match ly s.owners s.goods t with
 | .error e=>fN s [0,(e:Int)]
 | .ok l=>fN s [1,(l.length:Int),((dj l).length:Int),if nY s.market.free s.goods.length l=true then 1 else 0]:=rfl
theorem WU(snd:cy s P){d:aZ}(hd:d∈s.market.deals):((aY d.legs).all λo=>iZ s P d.num d.legs o)=((dj d.legs).all λo=>jq (iG s.market d) d o):=by
 have pt:∀o,iZ s P d.num d.legs o=jq (iG s.market d) d o:=λo=>by
  obtain⟨z,eg,z,ef,z⟩:=Rm.DC snd.g hd;unfold iZ jq;rw[eg,lu,fE,fE];refine forall_congr' λg=>imp_congr_right λhg=>?_;rw[kr,kr,ef o g (kq.mp hg)];unfold fI Rm.cX Rm.gc;rw[GB snd hd];by_cases c:dg P d.num o=some true
  .rw[ay c,ay (dw c)];omega
  .rw[aq c,aq (by simpa using c)];omega
 rw[lu,fE,fE];constructor
 .intro q o ho;rw[<-pt];exact q o (fS.mpr ho)
 .intro q o ho;rw[pt];exact q o (fS.mp ho)
theorem P7(os gs:List Text)(x:bN):tu os gs x=j6 os gs x++[10]:=by unfold tu j6;simp
theorem ints_map(l:List Nat):(Vbwsaj.ints l).map V.int=l.map nV:=by unfold Vbwsaj.ints;rw[bU];rfl
abbrev Cm:List Int->Text->Option cu:=oJ λd z=>(.could d)
abbrev Mf:List ae:=["market","numbers","text","deal","owner"]
theorem G9:bX Mf cH (bb uf):=⟨rfl,rfl,rfl,by decide+kernel,rfl,by decide+kernel,by decide+kernel⟩
theorem S8(G:Gd K mg "answer_could" uf)(T:Tx K mg CM CD)(d_deal:Df Pr w K mg base (bR Pr w) 1 "check_deal" ["market","number"] (oG CM CD E3))(d_ln:Df Pr w K mg base be 2 "lacks_nothing" ["market","deal","owner"] (AD CM CD)):Df Pr w K mg base (bR Pr w) 3 "answer_could" cH (d5 CM CD (exc E1 E2 E3 E4 E5) Cm):=by
 obtain⟨f,fd,F,hm⟩:=G.ex;refine⟨f,fd,F.eP G9 gJ (λcdv A outer s H vs Q E hr h=>?_),hm,F.kp,F.binds (bn3 rfl)⟩
 .intro X0;apply qh h;intro n t m nb tx S st P lv mk hnb htx nbS txS t600 rep
  have nd:=G9.nd;have snd:=lv.sound;have hu:=ir hr;refine⟨_,aK (cG (bQ d_deal (hr.mono (by decide)) eJ (ai (pv 0) (ai (bh bO (pv 1) aQ (λu u=>rfl)) au)))) (aK (bW (i:=3) nd rfl (tU rfl) (iU hu (bx (pv 0) rfl) (bh bO (pv 1) aQ (λu u=>rfl)) (λu u=>rfl))) (aX (bT (cW (ai aQ (ai (D3 (nO (dh (u9 rfl) rfl T.vb z5 (ai (uk (fw rfl nd (u7 (bx (pv 3) rfl)) (eI (N:=Mf) (sc:=bb uf) (own:=[("owner",4)]) (by decide+kernel)) (λu u u u u=>bY (i:=4) nd rfl (aV rfl) (.inr rfl)) (λu u u u u=>fU) (λu u u u u=>bQ d_ln hr b0 (ai (pv 0) (ai (pv 3) (ai (pv 4) au)))))) au))) aQ aQ) au)))))),?_⟩
  refine⟨_,rfl,_,rfl,bL (aj.of hnb) (bj (j:=0) rfl) ⟨m,n,st,P,rfl,mk.rd,snd,λd hd=>?_,λhd=>rep.fB mk 3 (by decide) (by decide) (by rw[JA,hd])⟩⟩
  obtain⟨hd1,rfl⟩:=Rm.j8 hd;obtain⟨MA,ml,hs,eS⟩:=id mk;have R:=hs.rs;obtain⟨D,hD,eD,hget,hdr⟩:=lR ml R snd.g.up hd1;have dl:=ml.dl D hD;have el:D.legs=d.legs:=cq (λx=>x.2.1) eD;refine⟨_,rfl,bp (bC R) T.cM T.hU (ip _ _ _) ⟨_,rfl,bL (aj.of hnb) (bj (j:=0) rfl) ⟨MA.aD,_,rfl,hget,?_⟩⟩⟩;have hG:=uV hs hD;refine⟨D.gv,.dK (cz D),hG,lQ dy,λod=>?_⟩;have R0:Rs (upd H D.gv (.bu od (.dK (cz D)))) (aE CM CD m MA st P):=R.lock hG dy od;generalize hH0:upd H D.gv (.bu od (.dK (cz D)))=H0 at R0;have hG0:H0 D.gv=some (.bu od (.dK (cz D))):=by rw[<-hH0];exact aR
  have RD0:=iq R0 hD;have l12:=(snd.g.size d hd1).2.1;have ng0:=yK (snd.g.legs d hd1) (snd.g.size d hd1).1;refine⟨_,rfl,bp (fk RD0) T.cD T.iu (kj D) ⟨D.gv,od,rfl,.inl ⟨cz D,hG0,λDd hDd=>?_⟩⟩⟩;refine fF t7 (λH2 s2=>s2 _ _ hG0) (λi=>((aY d.legs)[i]?).map λo=>V.bl (iZ st P d.num d.legs o)) (sl _ (by rw[oT dl,el];have:=y8 d.legs;omega)) hDd (λi H2 x H' KY KN hi s2 y ky kn=>?_) (λH2 s2 hd2=>?_)
  .obtain⟨rfl,key,v,hk,rfl⟩:=y
   obtain⟨o,hio,rfl⟩:=wR dl hk;rw[el]at hio;have hom:=cZ hio;refine⟨rfl,fY ⟨_,rfl,_,rfl,_,rfl,m,D.a,o,st,P,cx d,rfl,snd.fW,⟨MA,ml,R0.same s2⟩,⟨D,rfl,eD,dl,RD0.same s2⟩,hom,Rm.wV (snd.g.legs d hd1) o (fS.mp hom),ng0,λH3 s3=>ky _ _ (by rw[hio];rfl) s3⟩⟩
  .have hDg:Dd≠D.gv:=λz=>by rw[z,hG0]at hDd;cases hDd
   have sm:=ak.unlock (od:=od) hG (by rw[hH0];exact s2)
   refine⟨s2 _ _ hG0,Dd,(aY d.legs).map λo=>iZ st P d.num d.legs o,rfl,aj.of (by rw[aI hDg,hd2,oT dl,el,jX,bU];rfl),_,rfl,?_⟩
   rw[pF];have e1:((aY d.legs).all (id∘λo=>iZ st P d.num d.legs o))=((dj d.legs).all λo=>jq (iG st.market d) d o):=WU snd hd1;rw[e1];have est:step st (.could (d.num:Int))=fN st [if((dj d.legs).all λo=>jq (iG st.market d) d o)=true then 1 else 0]:=by rw[JA,hd]
   cases hc:((dj d.legs).all λo=>jq (iG st.market d) d o)with
   |true=>
    rw[hc]at est;refine fm ⟨by show 2<=sizeLine;decide,λq hq=>rep.new (S':=S) (P':=P) (by rw[est];exact mk.same sm) (by rw[est];exact lv.o) (Fr.dE sm) hq (by rw[est];rfl)⟩
   |false=>
    rw[hc]at est;refine fV ⟨by show 2<=sizeLine;decide,λq hq=>rep.new (S':=S) (P':=P) (by rw[est];exact mk.same sm) (by rw[est];exact lv.o) (Fr.dE sm) hq (by rw[est];rfl)⟩
abbrev BV:List Int->Text->Option cu:=oJ λd z=>(.legs d)
abbrev Kb:List ae:=["market","numbers","text","legs","leg"]
theorem Ig:bX Kb cH (bb uh):=⟨rfl,rfl,rfl,by decide+kernel,rfl,by decide+kernel,by decide+kernel⟩
theorem Vd{os gs:List Text}(hn:gx os gs){l:bN}(h1:l.from_<os.length)(h2:l.to_<os.length)(h3:l.good<gs.length)(h4:l.n<10^9):(j6 os gs l).length<=100:=by
 have gl (i:Nat) (h:i<os.length):(os.getD i []).length<=8:=by
  refine rF (hn.o _ ?_);rw[eA,bH h];exact fo h
 have gl2:(gs.getD l.good []).length<=8:=by
  refine rF (hn.g _ ?_);rw[eA,bH h3];exact fo h3
 have a:=gl _ h1;have b:=gl _ h2;have c:=Dr h4;have e1:(ck " gives ").length=7:=by decide
 have e2:(ck " to ").length=4:=by decide
 unfold j6;simp only[bV,cY,e1,e2];omega
theorem Oo(G:Gd K mg "answer_legs" uh)(T:Tx K mg CM CD)(d_deal:Df Pr w K mg base (bR Pr w) 1 "check_deal" ["market","number"] (oG CM CD E3))(d_text:Df Pr w K mg base be 1 "text_of_leg" ["leg","owners","goods"] (LJ K))(d_row:Df Pr w K mg base be 1 "row_of" ["lines"] (DB K)):Df Pr w K mg base (bR Pr w) 2 "answer_legs" cH (d5 CM CD (exc E1 E2 E3 E4 E5) BV):=by
 obtain⟨f,fd,F,hm⟩:=G.ex;refine⟨f,fd,F.eP Ig gJ (λcdv A outer s H vs Q E hr h=>?_),hm,F.kp,F.binds (bn3 rfl)⟩
 .intro X0;apply qh h;intro n t m nb tx S st P lv mk hnb htx nbS txS t600 rep
  have nd:=Ig.nd;have snd:=lv.sound;have hu:=ir hr;refine⟨_,aK (cG (bQ d_deal hr eJ (ai (pv 0) (ai (bh bO (pv 1) aQ (λv v=>rfl)) au)))) (aK (bW (i:=3) nd rfl (aV rfl) (bx (iU hu (bx (pv 0) rfl) (bh bO (pv 1) aQ (λv v=>rfl)) (λv v=>rfl)) rfl)) (aX (bT (eG j3 (cW (ai aQ au)) (bQ d_row hr b0 (ai (fw rfl nd (fH (pv 3)) (eI (N:=Kb) (sc:=bb uh) (own:=[("leg",4)]) (by decide+kernel)) (λv v v v v=>bY (i:=4) nd rfl (aV rfl) (.inr rfl)) (λv v v v v=>fU) (λv v v v v=>bQ d_text hr b0 (ai (pv 4) (ai (oO K rfl (pv 0) rfl) (ai (oO K rfl (pv 0) rfl) au))))) au)))))),?_⟩
  refine⟨_,rfl,_,rfl,bL (aj.of hnb) (bj (j:=0) rfl) ⟨m,n,st,P,rfl,mk.rd,snd,λd hd=>?_,λhd=>rep.fB mk 3 (by decide) (by decide) (by rw[KL,hd])⟩⟩
  obtain⟨hd1,rfl⟩:=Rm.j8 hd;obtain⟨MA,ml,hs,eS⟩:=id mk;have R:=hs.rs;obtain⟨D,hD,eD,hget,hdr⟩:=lR ml R snd.g.up hd1;have dl:=ml.dl D hD;have el:D.legs=d.legs:=cq (λx=>x.2.1) eD;have RD:=iq R hD;have l12:=(snd.g.size d hd1).2.1;have hnn:=(snd.g.size d hd1).2.2;have lok:=snd.g.legs d hd1;rw[lv.g.goods]at lok;have nok:=r6 lv.g;refine⟨_,rfl,bp (bC R) T.cM T.hU (ip _ _ _) ⟨_,rfl,bL (aj.of hnb) (bj (j:=0) rfl) ⟨MA.aD,_,rfl,hget,bp (fk RD) T.cD T.nQ (Lu D) ?_⟩⟩⟩;refine⟨by decide,λz hz=>?_⟩
  have s1:ak H (upd H z (.lst [.int 0])):=ak.new hz;have hz1:(upd H z (.lst [.int 0])) z=some (.lst [.int 0]):=aR;generalize upd H z (.lst [.int 0])=H1 at s1 hz1;have R1:=R.same s1;have RD1:=RD.same s1;refine⟨_,rfl,D.lg,rfl,⟨_,aj.of (yi RD1)⟩,λDd hDd=>?_⟩;have tl:D.ts.length=d.legs.length:=by rw[dl.ts,el]
  refine fF (fJ (K:=K) (a:=D.lg) (xs:=D.ts.map V.ref)) (λH2 s2=>aj.of (s2 _ _ (yi RD1))) (λi=>(d.legs[i]?).map λl=>tV (j6 st.owners st.goods l)) (sl _ (by rw[aA];omega)) hDd (λi H2 x H' KY KN hi s2 y ky kn=>?_) (λH2 s2 hd2=>?_)
  .obtain⟨rfl,hx⟩:=y
   rw[bz]at hx;obtain⟨a,ha,rfl⟩:=di.mp hx;have hil:i<d.legs.length:=by rw[<-tl];exact(cN.mp ha).1
   obtain⟨x,hlx⟩:∃x,d.legs[i]? =some x:=⟨_,bH hil⟩;have hmx:=cZ hlx;have ht:=GJ (RD1.same s2) ha (by rw[el];exact hlx)
   have R2:=R1.same s2;have hxn:=(hnn x hmx).2;refine⟨rfl,fY ⟨_,rfl,_,rfl,bp (bC R2) T.cM T.m8 (pd _ _ _) ⟨_,rfl,bp (bC R2) T.cM T.kJ (mH _ _ _) ⟨a,MA.aO,MA.aG,x,st.owners,st.goods,rfl,cv.of ht,aj.of (o6 R2),aj.of (lW R2),nok,lok.lM x hmx,lok.lN x hmx,lok.jK x hmx,by omega,λH3 s3=>ky _ _ (by rw[hlx];rfl) s3⟩⟩⟩⟩
  .rw[aA,tl,jX]at hd2
   have e2:(d.legs.map λl=>tV (j6 st.owners st.goods l))=(d.legs.map λl=>j6 st.owners st.goods l).map tV:=by rw[bU];rfl
   rw[e2]at hd2;have hall:∀y∈(d.legs.map λl=>j6 st.owners st.goods l),y.length<=100:=λy hy=>by
    obtain⟨x,hmx,rfl⟩:=bw.mp hy;have hxn:=(hnn x hmx).2;exact Vd nok (lok.lM x hmx) (lok.lN x hmx) (lok.jK x hmx) (by omega)
   refine⟨Dd,_,rfl,aj.of hd2,by rw[aA];omega,hall,λH3 p s3 hp hl=>?_⟩
   have rl:=xi _ hall;rw[aA]at rl;refine⟨z,p,_,_,rfl,rfl,s3 _ _ (s2 _ _ hz1),hl,sle _ (by rw[aA];simp;omega),λq hq=>?_⟩
   have sm:=(s1.trans s2).trans s3;have est:step st (.legs (d.num:Int))=fN st (Vbwsaj.ints (d.legs.flatMap (tu st.owners st.goods))):=by rw[KL,hd]
   refine rep.new (S':=S) (P':=P) (by rw[est];exact mk.same sm) (by rw[est];exact lv.o) (Fr.dE sm) hq ?_
   rw[est];show V.int 0::(hW (d.legs.map λl=>j6 st.owners st.goods l)).map nV=V.int 0::iH V.int (Vbwsaj.ints _);have er:hW (d.legs.map λl=>j6 st.owners st.goods l)=d.legs.flatMap (tu st.owners st.goods):=by
    unfold hW;rw[NZ]
    congr 1
    funext x;exact(P7 _ _ x).symm
   rw[ints_map,er]
abbrev AE:List Int->Text->Option cu:=o7 λz=>.names
theorem XF:bX cH cH (bb zm):=⟨rfl,rfl,rfl,by decide+kernel,rfl,by decide+kernel,by decide+kernel⟩
theorem PX(G:Gd K mg "answer_names" zm)(T:Tx K mg CM CD)(d_row:Df Pr w K mg base be 1 "row_of" ["lines"] (DB K)):Df Pr w K mg base (bR Pr w) 2 "answer_names" cH (d5 CM CD (exc E1 E2 E3 E4 E5) AE):=by
 obtain⟨f,fd,F,hm⟩:=G.ex;refine⟨f,fd,F.eP XF gJ (λcdv A outer s H vs Q E hr h=>?_),hm,F.kp,F.binds (bn3 rfl)⟩
 .intro X0;apply qt h;intro t m nb tx S st P lv mk hnb htx nbS txS t600 rep
  have snd:=lv.sound;have o8:=lv.g.names.owners;have g6:=lv.g.names.goods;refine⟨_,aX (bT (eG j3 (cW (ai aQ au)) (bQ d_row hr b0 (ai (eG j3 (eG j3 (bx (pv 0) rfl) (cW (ai gz au))) (bx (pv 0) rfl)) au)))),?_⟩;refine⟨by decide,λz hz=>?_⟩
  have s1:ak H (upd H z (.lst [.int 0])):=ak.new hz;have hz1:(upd H z (.lst [.int 0])) z=some (.lst [.int 0]):=aR;generalize upd H z (.lst [.int 0])=H1 at s1 hz1;obtain⟨MA,ml,hs,eS⟩:=id mk;have R1:=hs.rs.same s1;refine⟨_,rfl,bp (bC R1) T.cM T.m8 (pd _ _ _) ⟨by decide,λb hb=>?_⟩⟩
  have s2:ak H1 (upd H1 b (.lst [V.str ""])):=ak.new hb;have hb2:(upd H1 b (.lst [V.str ""])) b=some (.lst [V.str ""]):=aR;generalize upd H1 b (.lst [V.str ""])=H2 at s2 hb2;have R2:=R1.same s2;refine⟨MA.aO,b,_,_,rfl,rfl,o6 R2,hb2,sle _ (by rw[aA];simp;omega),λq hq=>?_⟩
  have s3:ak H2 (upd H2 q (.lst (st.owners.map tV++[V.str ""]))):=ak.new hq;have hq3:(upd H2 q (.lst (st.owners.map tV++[V.str ""]))) q=some (.lst (st.owners.map tV++[V.str ""])):=aR;generalize upd H2 q (.lst (st.owners.map tV++[V.str ""]))=H3 at s3 hq3;have R3:=R2.same s3;refine⟨_,rfl,bp (bC R3) T.cM T.kJ (mH _ _ _) ⟨q,MA.aG,_,_,rfl,rfl,hq3,lW R3,sle _ (by rw[bV,aA,aA];simp;omega),λp hp=>?_⟩⟩
  have el:st.owners.map tV++[V.str ""]++st.goods.map tV=(st.owners++[[]]++st.goods).map tV:=by rw[bZ,bZ,BF];rfl
  rw[el];have s4:ak H3 (upd H3 p (.lst ((st.owners++[[]]++st.goods).map tV))):=ak.new hp;have hall:∀x∈st.owners++[[]]++st.goods,x.length<=100:=λx hx=>by
   have nok:=r6 lv.g;simp only[b6,de]at hx;rcases hx with(hx|hx)|hx
   .have:=rF (nok.o x hx);omega
   .rw[hx];simp
   .have:=rF (nok.g x hx);omega
  refine⟨p,_,rfl,aj.of aR,by simp;omega,hall,λH5 p5 s5 hp5 hl5=>?_⟩
  have sm:=(((s1.trans s2).trans s3).trans s4).trans s5;have rl:=xi _ hall;refine⟨z,p5,_,_,rfl,rfl,s5 _ _ (s4 _ _ (s3 _ _ (s2 _ _ hz1))),hl5,sle _ (by rw[aA];simp at rl⊢;omega),λq2 hq2=>?_⟩
  have est:step st .names=fN st (Vbwsaj.ints (st.owners.flatMap (λt=>t++[10])++(10::st.goods.flatMap λt=>t++[10]))):=rfl;refine rep.new (S':=S) (P':=P) (by rw[est];exact mk.same sm) (by rw[est];exact lv.o) (Fr.dE sm) hq2 ?_
  rw[est];show V.int 0::_=V.int 0::iH V.int (Vbwsaj.ints _);rw[ints_map]
  congr 2
  unfold hW;rw[md,md];simp
abbrev DH:List Int->Text->Option cu:=o7 λt=>(.read t)
abbrev OK:List ae:=["market","numbers","text","wrong","legs","could"]
theorem KO:bX OK cH (bb wU):=⟨rfl,rfl,rfl,by decide+kernel,rfl,by decide+kernel,by decide+kernel⟩
theorem PK(G:Gd K mg "answer_read" wU)(T:Tx K mg CM CD)(d_wrong:Df Pr w K mg base be 3 "wrong_line_of_legs" ["row","owners","goods"] (El K))(nQ:Df Pr w K mg base (bR Pr w) 4 "read_legs" ["row","owners","goods"] (xr K E2))(d_left:Df Pr w K mg base be 1 "left_by_exchange" ["market","legs"] (Cp CM CD))(d_can:Df Pr w K mg base be 1 "can_be_made" ["left"] AJ)(iu:Mt Pr w K mg base be 1 CM "gives_of" ["self","legs"] (Bs CM CD)):Df Pr w K mg base (bR Pr w) 5 "answer_read" cH (d5 CM CD (exc E1 E2 E3 E4 E5) DH):=by
 obtain⟨f,fd,F,hm⟩:=G.ex;refine⟨f,fd,F.eP KO gJ (λcdv A outer s H vs Q E hr h=>?_),hm,F.kp,F.binds (bn3 rfl)⟩
 .intro X0;apply qt h;intro t m nb tx S st P lv mk hnb htx nbS txS t600 rep
  have nd:=KO.nd;have snd:=lv.sound;have ft:=snd.fW;have hr1:c6 1 _:=hr.mono (by decide)
  refine⟨_,aK (bW (i:=3) nd rfl (aV rfl) (bQ d_wrong (hr.mono (by decide)) b0 (ai (pv 2) (ai (bx (pv 0) rfl) (ai (bx (pv 0) rfl) au))))) (eR (k4 (wK (pv 3))) (aX (bT (cW (ai aQ (ai aQ (ai (pv 3) au)))))) (aK (bW (i:=4) nd rfl (aV rfl) (bQ nQ hr eJ (ai (pv 2) (ai (bx (pv 0) rfl) (ai (bx (pv 0) rfl) au))))) (aK (bW (i:=5) nd rfl (aV rfl) (D3 (nO (bQ d_can hr1 b0 (ai (bQ d_left hr1 b0 (ai (pv 0) (ai (pv 4) au))) au))) aQ aQ)) (aX (bT (cW (ai aQ (ai aQ (ai (dh iA rfl T.fK f9 (ai (pv 4) au)) (ai (dh xV rfl T.fK f9 (ai (jz (pv 0) T.cM iu hr1 b0 (ai (pv 4) au)) au)) (ai (pv 5) au))))))))))),?_⟩
  obtain⟨MA,ml,hs,eS⟩:=id mk;have R:=hs.rs;refine⟨_,rfl,_,rfl,bp (bC R) T.cM T.m8 (pd _ _ _) ⟨_,rfl,bp (bC R) T.cM T.kJ (mH _ _ _) ?_⟩⟩;refine⟨tx,MA.aO,MA.aG,t,st.owners,st.goods,rfl,aj.of htx,aj.of (o6 R),aj.of (lW R),by omega,r6 lv.g,λH1 s1=>?_⟩
  refine⟨_,rfl,_,rfl,?_⟩;have hs1:=hs.same s1;have R1:=hs1.rs;unfold p8;cases hrl:ly st.owners st.goods t with
  |error e=>
   have est:step st (.read t)=fN st [0,(e:Int)]:=by rw[J2,hrl]
   refine fm ⟨_,rfl,by show 3<=sizeLine;decide,λq hq=>rep.new (S':=S) (P':=P) (by rw[est];exact mk.same s1) (by rw[est];exact lv.o) (Fr.dE s1) hq (by rw[est];rfl)⟩
  |ok ls=>
   refine fV ⟨_,rfl,_,rfl,bp (bC R1) T.cM T.m8 (pd _ _ _) ⟨_,rfl,bp (bC R1) T.cM T.kJ (mH _ _ _) ?_⟩⟩;refine⟨tx,MA.aO,MA.aG,t,st.owners,st.goods,rfl,aj.of (s1 _ _ htx),aj.of (o6 R1),aj.of (lW R1),by omega,r6 lv.g,?_⟩
   rw[hrl];intro H2 lg ts s2 tsl hleg hlN;obtain⟨lok,hne,l12,hn⟩:=Rm.yH hrl;have hgd:=lok.jK;rw[<-lv.g.goods]at lok;have ng0:0<st.market.goods:=yK lok hne;have ll:=KW tsl hleg;have s12:=s1.trans s2;refine⟨_,rfl,_,rfl,m,lg,ts,ls,st,P,rfl,(mk.same s12).rd,ft,ll,l12,lok,λH3 p rs s3 rl hX hXn=>?_⟩;have sh0:=(Rm.sJ ls (Rm.sk ft.free) lok).1;refine⟨p,rs,_,_,_,rfl,sh0,rl,ft.owners,ng0,hX,λH4 s4=>?_⟩;refine⟨_,rfl,?_⟩;rw[<-Rm.Ae ft.free lok];have s34:=s3.trans s4;have s14:=s12.trans s34;have ll4:=ll.same s34;have mk4:=mk.same s14;have g6:st.goods.length<=6:=lv.g.names.goods;have hs4:=hs.same s14;have est:step st (.read t)=fN st [1,(ls.length:Int),((dj ls).length:Int),if nY st.market.free st.market.goods ls=true then 1 else 0]:=by rw[J2,hrl,<-lv.g.goods]
   have fin:∀(z:Int),z=(if nY st.market.free st.market.goods ls=true then 1 else 0)->∀(H5:Hp)(rs5:List aa),ak H4 H5->rs5.length=(aY ls).length->∀q,H5 q=none->Q (.ref q) (upd H5 q (.lst [V.int 0,V.int 1,V.int (((ts.map V.ref).length:Nat):Int),V.int (((((aY ls).zip rs5).map λp=>((bG (p.1:Int):Key),V.ref p.2)).length:Nat):Int),V.int z])):=λz hz H5 rs5 s5 rl5 q hq=>by
    have sm:=s14.trans s5;refine rep.new (S':=S) (P':=P) (by rw[est];exact mk.same sm) (by rw[est];exact lv.o) (Fr.dE sm) hq ?_
    rw[est,hz,aA,aA,tX,rl5,wC,DT,tsl];rfl
   cases hc:nY st.market.free st.market.goods ls with
   |true=>
    refine fm ⟨_,rfl,lg,_,rfl,.inl (aj.of ll4.lst),_,rfl,m,MA.dm,_,rfl,bC hs4.rs,C6 _ _ _,_,rfl,m,lg,ts,ls,st,P,rfl,mk4.rd,g6,ll4,l12,hgd,λH5 gv rs5 s5 rl5 hG5 hN5=>?_⟩;refine⟨gv,_,rfl,hG5.2 (gv,_) (by simp[gY]),_,rfl,by show 5<=sizeLine;decide,λq hq=>fin 1 (by rw[hc];rfl) H5 rs5 s5 rl5 q hq⟩
   |false=>
    refine fV ⟨_,rfl,lg,_,rfl,.inl (aj.of ll4.lst),_,rfl,m,MA.dm,_,rfl,bC hs4.rs,C6 _ _ _,_,rfl,m,lg,ts,ls,st,P,rfl,mk4.rd,g6,ll4,l12,hgd,λH5 gv rs5 s5 rl5 hG5 hN5=>?_⟩;refine⟨gv,_,rfl,hG5.2 (gv,_) (by simp[gY]),_,rfl,by show 5<=sizeLine;decide,λq hq=>fin 0 (by rw[hc];rfl) H5 rs5 s5 rl5 q hq⟩
def eL(es:List (Nat×Nat)):List Int:=es.flatMap λe=>[(e.1:Int),(e.2:Int)]
theorem WX(es:List (Nat×Nat)):(eL es).length=2*es.length:=by
 unfold eL;induction es with
 |nil=>rfl
 |cons x r ih=>rw[gQ,bV,ih];simp;omega
theorem Oj(a b:List (Nat×Nat)):eL (a++b)=eL a++eL b:=by unfold eL;rw[md]
theorem sum_nat(l:List Nat):(l.map λ(n:Nat)=>(n:Int)).sum=((gP l:Nat):Int):=by
 induction l with
 |nil=>rfl
 |cons x r ih=>rw[bS,FL,ih,Rm.jh];omega
abbrev C3:List Int->Text->Option cu:=o7 λz=>.waits
abbrev Sn:List ae:=["market","numbers","text","answer","number","others","other"]
theorem Mo:bX Sn cH (bb yr):=⟨rfl,rfl,rfl,by decide+kernel,rfl,by decide+kernel,by decide+kernel⟩
theorem Vm(G:Gd K mg "answer_waits" yr)(T:Tx K mg CM CD)(d_aw:Df Pr w K mg base be 4 "all_waits" ["market"] (Bj CM CD)):Df Pr w K mg base (bR Pr w) 5 "answer_waits" cH (d5 CM CD (exc E1 E2 E3 E4 E5) C3):=by
 obtain⟨f,fd,F,hm⟩:=G.ex;refine⟨f,fd,F.eP Mo gJ (λcdv A outer s H vs Q E hr h=>?_),hm,F.kp,F.binds (bn3 rfl)⟩
 .intro X0;apply qt h;intro t m nb tx S st P lv mk hnb htx nbS txS t600 rep
  have nd:=Mo.nd;have snd:=lv.sound;refine⟨_,aK (bW (i:=3) nd rfl (aV rfl) (cW (ai aQ au))) (aK (g7 rh rfl (HL (Vs (bQ d_aw hr b0 (ai (pv 0) au)))) (lS rfl (dA (bY (i:=4) nd rfl (aV rfl)) (dA (bY (i:=5) nd rfl (aV rfl)) ji))) (aX (g7 rh rfl (fH (pv 5)) (bY (i:=6) nd rfl (aV rfl)) (aX (cG (gI gU lH lI jY (pv 3) (ai (cW (ai (pv 4) (ai (pv 6) au))) au))))))) (aX (bT (pv 3)))),?_⟩;refine⟨by decide,λa ha=>?_⟩
  have s1:ak H (upd H a (.lst [.int 0])):=ak.new ha;have ha1:(upd H a (.lst [.int 0])) a=some (.lst [.int 0]):=aR;generalize upd H a (.lst [.int 0])=H1 at s1 ha1;refine⟨_,rfl,m,S,st,P,rfl,snd.wf,mk.same s1,λH2 p as s2 al hw hwN=>?_⟩;have wok:=Gq snd.wf;have eE:=Ku snd;generalize cF st P=ws at al hw hwN wok eE;have hp2:H2 p=some (.dK (dq as ws)):=hw.2 (p,.dK (dq as ws)) (by simp[g8])
  refine⟨p,_,rfl,hp2,lQ dy,λod=>?_⟩;have hpN:H1 p=none:=hwN p (by simp[g8])
  have pa:p≠a:=λz=>by rw[z,ha1]at hpN;cases hpN
  have ha2:=s2 _ _ ha1;have hpf:(upd H2 p (.bu od (.dK (dq as ws)))) p=some (.bu od (.dK (dq as ws))):=aR;have haf:(upd H2 p (.bu od (.dK (dq as ws)))) a=some (.lst [.int 0]):=by rw[aI pa.symm];exact ha2
  have smf:ak H (upd H2 p (.bu od (.dK (dq as ws)))):=λb o e=>by
   have e1:=s1 _ _ e;rw[aI (cQ e1 hpN)];exact s2 _ _ e1
  have kl:(dq as ws).length=ws.length:=by unfold dq;rw[aA,tX,al,wC]
  have rowf:∀(i:Nat)(x:aa)(q:Nat×List Nat),as[i]? =some x->ws[i]? =some q->(upd H2 p (.bu od (.dK (dq as ws)))) x=some (.lst (q.2.map nV))/\x≠a:=λi x q h1 h2=>by
   have hm:bJ x q.2∈(as.zip ws).map λq=>bJ q.1 q.2.2:=bw.mpr ⟨(x,q),cZ (i:=i) (by rw[mj];exact⟨h1,h2⟩),rfl⟩
   have hx:H2 x=some (.lst (q.2.map nV)):=hw.2 (bJ x q.2) (b8 _ hm);have hxN:H1 x=none:=hwN x (bw.mpr ⟨bJ x q.2,b8 _ hm,rfl⟩);refine⟨?_,λz=>by rw[z,ha1]at hxN;cases hxN⟩
   rw[aI (gL hx hp2 (λz=>nomatch z))];exact hx
  generalize upd H2 p (.bu od (.dK (dq as ws)))=H3 at hpf haf smf rowf;have blen:∀i,(dI (ws.take i)).length<=256:=λi=>by
   have:=Rm.lO (λq:Nat×List Nat=>q.2.map λy=>(q.1,y)) 16 (ws.take i) (λq hq=>by rw[aA];exact wok.row q (tZ hq))
   have h2:=wok.c5;unfold dI;rw[jT]at this;have:16*min i ws.length<=256:=by omega
   omega
  refine⟨p,od,dq as ws,rfl,hpf,?_⟩
  let W:IV:=λi σ H'=>∃v4 v5 v6:Option V,σ=[some (.ref m),some (.ref nb),some (.ref tx),some (.ref a),v4,v5,v6]/\ak H H'/\(∀b o,b≠a->H3 b=some o->H' b=some o)/\H' a=some (.lst (V.int 0::(eL (dI (ws.take i))).map V.int))
  refine g0 FZ (W)
   ⟨none,none,none,rfl,smf,λu u u e=>e,haf⟩ (λi σ H' u ⟨r,k,g,d,c,z,Z⟩=>z _ _ pa hpf) (λi σ H' x H'' hi pv y=>?_) (λσ H' pv=>?_)
  .apply kP pv;intro v4 v5 v6 zz;refine gy zz λs3 kp ha3=>?_
   obtain⟨tt,key,v,hk,rfl,htt,rfl⟩:=y;unfold dq at hk;rw[bz]at hk;obtain⟨z,hz,e⟩:=di.mp hk;rw[mj]at hz;obtain⟨x,q⟩:=z;injection e with e1 e2
   subst e1 e2;obtain⟨fA,hxa⟩:=rowf i x q hz.1 hz.2;have hqm:=cZ hz.2;have s4:ak H' (upd H' tt (.tup [kV (bG (q.1:Int)),V.ref x])):=ak.new htt;have ha4:=s4 _ _ ha3;have hrow4:=s4 _ _ (kp _ _ hxa fA);refine⟨tt,_,rfl,cv.of aR,rfl,_,_,rfl,_,_,rfl,rfl,?_⟩;generalize upd H' tt (.tup [kV (bG (q.1:Int)),V.ref x])=H4 at s4 ha4 hrow4;refine⟨_,rfl,x,rfl,⟨_,aj.of hrow4⟩,?_⟩;have q16:=wok.row q hqm;have enext:dI (ws.take (i+1))=dI (ws.take i)++q.2.map λy=>(q.1,y):=by unfold dI;rw[take_snoc hz.2,md];simp
   have bl:=blen i
   let W:IV:=λj σ H'=>∃v6:Option V,σ=[some (.ref m),some (.ref nb),some (.ref tx),some (.ref a),some (nV q.1),some (.ref x),v6]/\ak H H'/\(∀b o,b≠a->H4 b=some o->H' b=some o)/\H' a=some (.lst (V.int 0::(eL (dI (ws.take i)++(q.2.take j).map λy=>(q.1,y))).map V.int))
   refine g0 (fJ (K:=K) (a:=x) (xs:=q.2.map nV)) (W)
    ⟨v6,rfl,s3.trans s4,λu u u e=>e,by rw[tT,i7,oo];exact ha4⟩ (λj σ H' u ⟨r,k,g,z,d⟩=>aj.of (z _ _ hxa hrow4)) (λj σ H' y H5 hj pv yy=>?_) (λσ H' pv=>?_)
   .apply xR pv;intro v6 zz;refine gy zz λs5 kp5 ha5=>?_
    obtain⟨rfl,hy⟩:=yy;rw[bz]at hy;obtain⟨y,hy',rfl⟩:=di.mp hy;refine⟨_,rfl,.inl ⟨rfl,_,aj.of ha5⟩,_,rfl,_,rfl,(by show 2<=sizeLine;decide),λb hb=>?_⟩
    have s6:ak H5 (upd H5 b (.lst [nV q.1,nV y])):=ak.new hb;refine⟨a,b,_,_,rfl,rfl,s6 _ _ ha5,aR,sle _ (by rw[cY,aA,WX,bV,aA,jT];simp;omega),?_⟩
    refine⟨_,rfl,λb' o' e=>by rw[aI (cQ e ha)];exact s6 _ _ (s5 _ _ e),λb' o' n e=>by rw[aI n];exact s6 _ _ (kp5 _ _ n e),?_⟩
    rw[aR]
    congr 2
    have:eL (dI (ws.take i)++(q.2.take (j+1)).map λy=>(q.1,y))=eL (dI (ws.take i)++(q.2.take j).map λy=>(q.1,y))++[(q.1:Int),(y:Int)]:=by rw[take_snoc hy',bZ,<-nT,Oj];rfl
    rw[this,bZ];rfl
   .apply xR pv;intro v6 zz;refine gy zz λs5 kp5 ha5=>?_
    rw[aA,jv,<-enext]at ha5;exact⟨_,_,_,rfl,s5,λb o n e=>kp5 b o n (s4 _ _ (kp b o n e)),ha5⟩
  .apply kP pv;intro v4 v5 v6 zz;refine gy zz λs3 kp ha3=>?_
   rw[kl,jv,eE]at ha3;exact⟨_,rfl,rep.own mk lv.o (l:=eL (gS st.market)) rfl s3 ha ha3⟩
abbrev BZ:List Int->Text->Option cu:=o7 λz=>.books
abbrev Em:List ae:=["market","numbers","text","answer","good","free","held","amounts"]
theorem Mh:bX Em cH (bb se):=⟨rfl,rfl,rfl,by decide+kernel,rfl,by decide+kernel,by decide+kernel⟩
def oz(s:aT)(i:Nat):List Nat:=(cR i).flatMap λg=>[s.made.getD g 0,s.burned.getD g 0,mf s.market.free g,mf s.market.held g]
theorem Kg(s:aT):∀i,(oz s i).length=4*i
 |0=>rfl
 |i+1=>by
  have:=Kg s i;unfold oz at this⊢;rw[pq,md,bV,this];simp;omega
theorem Sd(G:Gd K mg "answer_books" se)(T:Tx K mg CM CD):Df Pr w K mg base (bR Pr w) 1 "answer_books" cH (d5 CM CD (exc E1 E2 E3 E4 E5) BZ):=by
 obtain⟨f,fd,F,hm⟩:=G.ex;refine⟨f,fd,F.eP Mh gJ (λcdv A outer s H vs Q E hr h=>?_),hm,F.kp,F.binds (bn3 rfl)⟩
 .intro X0;apply qt h;intro t m nb tx S st P lv mk hnb htx nbS txS t600 rep
  have nd:=Mh.nd;have snd:=lv.sound;have ft:=snd.fW;refine⟨_,aK (bW (i:=3) nd rfl (aV rfl) (cW (ai aQ au))) (aK (g7 rh rfl (JI rfl T.Ht (ai (dh iA rfl T.fK f9 (ai (bx (pv 0) rfl) au)) au)) (bY (i:=4) nd rfl (tU rfl)) (aK (bW (i:=5) nd rfl (aV rfl) (dh (Lp rfl) rfl T.FX aan (ai (fw rfl nd (fH (bx (pv 0) rfl)) (eI (N:=Em) (sc:=bb se) (own:=[("amounts",7)]) (by decide+kernel)) (λv v v v v=>bY (i:=7) nd rfl (aV rfl) (.inr rfl)) (λv v v v v=>fU) (λv v v v v=>bh (Lj K rfl) (pv 7) (pv 4) (λv v=>rfl))) au))) (aK (bW (i:=6) nd rfl (aV rfl) (dh (Lp rfl) rfl T.FX aan (ai (fw rfl nd (fH (bx (pv 0) rfl)) (eI (N:=Em) (sc:=bb se) (own:=[("amounts",7)]) (by decide+kernel)) (λv v v v v=>bY (i:=7) nd rfl (aV rfl) (.inr rfl)) (λv v v v v=>fU) (λv v v v v=>bh (Lj K rfl) (pv 7) (pv 4) (λv v=>rfl))) au))) (aX (cG (gI gU lH lI jY (pv 3) (ai (cW (ai (bh bO (bx (pv 0) rfl) (pv 4) (λv v=>rfl)) (ai (bh bO (bx (pv 0) rfl) (pv 4) (λv v=>rfl)) (ai (pv 5) (ai (pv 6) au))))) au))))))) (aX (bT (pv 3)))),?_⟩
  refine⟨by decide,λa ha=>?_⟩
  have s1:ak H (upd H a (.lst [.int 0])):=ak.new ha;have ha1:(upd H a (.lst [.int 0])) a=some (.lst [.int 0]):=aR;generalize upd H a (.lst [.int 0])=H1 at s1 ha1;obtain⟨MA,ml,hs,eS⟩:=id mk;have R:=hs.rs;have R1:=R.same s1;have g6:=lv.g.names.goods;have o8:=ft.owners;refine⟨_,rfl,bp (bC R1) T.cM T.kJ (mH _ _ _) ⟨MA.aG,_,rfl,.inl (aj.of (lW R1)),_,rfl,(by rw[aA];omega),(by rw[aA];omega),?_⟩⟩
  rw[aA,ij];have colF:∀(i g:Nat)(x:aa),g<st.market.goods->MA.fr[i]? =some x->∃r,st.market.free[i]? =some r/\H x=some (.lst (r.map nV))/\r[g]? =some (r.getD g 0):=λi g x hg hx=>by
   have hil:i<st.market.free.length:=by rw[<-ml.fr];exact(cN.mp hx).1
   refine⟨_,bH hil,rm R hx (bH hil),?_⟩;have:=ft.free.row _ (fo hil);rw[eA,bH (by omega)];rfl
  have colH:∀(i g:Nat)(x:aa),g<st.market.goods->MA.hd[i]? =some x->∃r,st.market.held[i]? =some r/\H x=some (.lst (r.map nV))/\r[g]? =some (r.getD g 0):=λi g x hg hx=>by
   have hil:i<st.market.held.length:=by rw[<-ml.hd];exact(cN.mp hx).1
   refine⟨_,bH hil,CS R hx (bH hil),?_⟩;have:=ft.held.row _ (fo hil);rw[eA,bH (by omega)];rfl
  have fl:=ft.free.len;have hl:=ft.held.len;have mfr:=ml.fr;have mhd:=ml.hd
  let W:IV:=λi σ H'=>∃v4 v5 v6:Option V,σ=[some (.ref m),some (.ref nb),some (.ref tx),some (.ref a),v4,v5,v6,none]/\ak H H'/\H' a=some (.lst (V.int 0::(oz st i).map nV))
  refine g0 J8 (W)
   ⟨none,none,none,rfl,s1,ha1⟩ (λv v v v v=>dy) (λi σ H' x H'' hi pv y=>?_) (λσ H' pv=>?_)
  .apply kP pv;intro v4 v5 v6 zz;refine jx zz λs2 ha2=>?_
   obtain⟨rfl,rfl⟩:=y;have e0:(0:Int)+(i:Int)=(i:Int):=by omega
   rw[e0];have hig:i<st.market.goods:=by rw[lv.g.goods];exact hi
   have R2:=R.same s2;refine⟨_,rfl,bp (bC R2) T.cM T.jN (k8 _ _ _) ⟨MA.aF,rfl,⟨_,aj.of (jA R2)⟩,λD1 hD1=>?_⟩⟩;refine fF (fJ (K:=K) (a:=MA.aF) (xs:=MA.fr.map V.ref)) (λH4 s4=>aj.of (s4 _ _ (jA R2))) (λj=>(st.market.free[j]?).map λr=>nV (r.getD i 0)) (sl _ (by rw[aA];omega)) hD1 (λj H4 z H5 KY KN hj s4 yz ky kn=>?_) (λH3 s3 hd3=>?_)
   .obtain⟨rfl,hz⟩:=yz
    rw[bz]at hz;obtain⟨x,hx,rfl⟩:=di.mp hz;obtain⟨r,hr1,hr2,hr3⟩:=colF j i x hig hx;exact⟨rfl,fY ⟨_,rfl,_,rfl,bL (aj.of (s4 _ _ (s2 _ _ hr2))) (bj (by rw[bz,hr3];rfl)) (ky _ _ (by rw[hr1];rfl) (ak.refl _))⟩⟩
   rw[aA,mfr,jX]at hd3;have eF:(st.market.free.map λr=>nV (r.getD i 0))=(st.market.free.map λr=>((r.getD i 0:Nat):Int)).map V.int:=by rw[bU];rfl
   rw[eF]at hd3;refine⟨D1,_,rfl,aj.of hd3,?_⟩;have R3:=R2.same s3;refine⟨_,rfl,bp (bC R3) T.cM T.rH (uW _ _ _) ⟨MA.aH,rfl,⟨_,aj.of (sP R3)⟩,λD2 hD2=>?_⟩⟩;refine fF (fJ (K:=K) (a:=MA.aH) (xs:=MA.hd.map V.ref)) (λH4 s4=>aj.of (s4 _ _ (sP R3))) (λj=>(st.market.held[j]?).map λr=>nV (r.getD i 0)) (sl _ (by rw[aA];omega)) hD2 (λj H4 z H5 KY KN hj s4 yz ky kn=>?_) (λH4 s4 hd4=>?_)
   .obtain⟨rfl,hz⟩:=yz
    rw[bz]at hz;obtain⟨x,hx,rfl⟩:=di.mp hz;obtain⟨r,hr1,hr2,hr3⟩:=colH j i x hig hx;exact⟨rfl,fY ⟨_,rfl,_,rfl,bL (aj.of (s4 _ _ (s3 _ _ (s2 _ _ hr2)))) (bj (by rw[bz,hr3];rfl)) (ky _ _ (by rw[hr1];rfl) (ak.refl _))⟩⟩
   rw[aA,mhd,jX]at hd4;have eH:(st.market.held.map λr=>nV (r.getD i 0))=(st.market.held.map λr=>((r.getD i 0:Nat):Int)).map V.int:=by rw[bU];rfl
   rw[eH]at hd4;refine⟨D2,_,rfl,aj.of hd4,?_⟩;have sumF:(st.market.free.map λr=>((r.getD i 0:Nat):Int)).sum=((mf st.market.free i:Nat):Int):=by unfold mf;rw[<-sum_nat,bU];rfl
   have sumH:(st.market.held.map λr=>((r.getD i 0:Nat):Int)).sum=((mf st.market.held i:Nat):Int):=by unfold mf;rw[<-sum_nat,bU];rfl
   rw[sumF,sumH];have R4:=R3.same s4;have s24:=s3.trans s4;have ha4:=s24 _ _ ha2;have gm:st.made[i]? =some (st.made.getD i 0):=by rw[eA,bH (by rw[lv.g.made];exact hi)];rfl
   have gb:st.burned[i]? =some (st.burned.getD i 0):=by rw[eA,bH (by rw[lv.g.burned];exact hi)];rfl
   refine⟨_,rfl,.inl ⟨rfl,_,aj.of ha4⟩,_,rfl,bp (bC R4) T.cM T.yY (Co _ _ _) ⟨_,rfl,bL (aj.of (t9 R4)) (bj (by rw[bz,gm];rfl)) ?_⟩⟩
   refine⟨_,rfl,bp (bC R4) T.cM T.Eb (Ga _ _ _) ⟨_,rfl,bL (aj.of (yT R4)) (bj (by rw[bz,gb];rfl)) ?_⟩⟩
   refine⟨_,rfl,_,rfl,(by show 4<=sizeLine;decide),λb hb=>?_⟩
   have s5:ak H4 (upd H4 b (.lst [nV (st.made.getD i 0),nV (st.burned.getD i 0),nV (mf st.market.free i),nV (mf st.market.held i)])):=ak.new hb;refine⟨a,b,_,_,rfl,rfl,s5 _ _ ha4,aR,sle _ (by rw[cY,aA,Kg];simp;omega),?_⟩
   refine⟨_,_,_,rfl,λb' o' e=>by rw[aI (cQ e ha)];exact s5 _ _ (s24 _ _ (s2 _ _ e)),?_⟩
   rw[aR]
   congr 2
   have:oz st (i+1)=oz st i++[st.made.getD i 0,st.burned.getD i 0,mf st.market.free i,mf st.market.held i]:=by unfold oz;rw[pq,md];rfl
   rw[this,bZ];rfl
  .apply kP pv;intro v4 v5 v6 zz;refine jx zz λs2 ha2=>?_
   refine⟨_,rfl,rep.own mk lv.o (l:=Vbwsaj.ints (oz st st.goods.length)) ?_ s2 ha (by rw[ha2,ints_map])⟩
   show fN st _=fN st _
   congr 1
   unfold oz Vbwsaj.ints;rw[aao]
def DQ(d:aZ):List Nat:=[d.num,d.until_,(dj d.legs).length,d.parts.length,(d.parts.filter λp=>p.held).length]
def pj(l:List aZ):List Nat:=l.flatMap DQ
theorem Tp(l:List aZ):(pj l).length=5*l.length:=by
 unfold pj;induction l with
 |nil=>rfl
 |cons x r ih=>rw[gQ,bV,ih];simp[DQ];omega
theorem Wb(l:List i6):(l.map λp=>(if p.held=true then(1:Int)else 0)).count 1=(l.filter λp=>p.held).length:=by
 induction l with
 |nil=>rfl
 |cons x r ih=>
  rw[bS,N0,ih,fZ];cases x.held<;>simp
abbrev Cu:List Int->Text->Option cu:=o7 λz=>.deals
abbrev Ld:List ae:=["market","numbers","text","answer","deal","standings","owner","standing"]
theorem Jl:bX Ld cH (bb uN):=⟨rfl,rfl,rfl,by decide+kernel,rfl,by decide+kernel,by decide+kernel⟩
theorem O1(G:Gd K mg "answer_deals" uN)(T:Tx K mg CM CD)(d_po:Mt Pr w K mg base be 1 CM "parts_of" ["self","number"] (Bq CM CD)):Df Pr w K mg base (bR Pr w) 2 "answer_deals" cH (d5 CM CD (exc E1 E2 E3 E4 E5) Cu):=by
 obtain⟨f,fd,F,hm⟩:=G.ex;refine⟨f,fd,F.eP Jl gJ (λcdv A outer s H vs Q E hr h=>?_),hm,F.kp,F.binds (bn3 rfl)⟩
 .intro X0;apply qt h;intro t m nb tx S st P lv mk hnb htx nbS txS t600 rep
  have nd:=Jl.nd;have snd:=lv.sound;refine⟨_,aK (bW (i:=3) nd rfl (aV rfl) (cW (ai aQ au))) (aK (vm (g7 rh rfl (BB (bx (pv 0) rfl)) (bY (i:=4) nd rfl (aV rfl)) (aK (wL (i:=5) rfl nd rfl rfl rfl (fH (jz (pv 0) T.cM d_po hr b0 (ai (bx (pv 4) rfl) au))) (eI (N:=Ld) (sc:=bb uN) (own:=[("owner",6),("standing",7)]) (by decide+kernel)) (λv v v v v=>vd (K:=K) 2 rfl rfl (dA (bY (i:=6) nd rfl (aV rfl) (.inr rfl)) (dA (bY (i:=7) nd rfl (aV rfl) (.inr rfl)) ji))) (λv v v v v=>fU) (λv v v v v=>pv 7)) (aX (cG (gI gU lH lI jY (pv 3) (ai (cW (ai (bx (pv 4) rfl) (ai (bx (pv 4) rfl) (ai (dh xV rfl T.fK f9 (ai (bx (pv 4) rfl) au)) (ai (dh iA rfl T.fK f9 (ai (pv 5) au)) (ai (gI gU PySem.F.slot_list_count PySem.F.type_list_count Pp (pv 5) (ai (fC T.pS) au)) au)))))) au))))))) (aX (bT (pv 3)))),?_⟩
  refine⟨by decide,λa ha=>?_⟩
  have s1:ak H (upd H a (.lst [.int 0])):=ak.new ha;have ha1:(upd H a (.lst [.int 0])) a=some (.lst [.int 0]):=aR;generalize upd H a (.lst [.int 0])=H1 at s1 ha1;obtain⟨MA,ml,hs,eS⟩:=id mk;have hs1:=hs.same s1;have hDk:H1 MA.aD=some (.dK (bF MA)):=hs1.2 (MA.aD,.dK (bF MA)) (eZ (by simp[cf]))
  have dlen:=GS ml;have c5:=snd.g.c5;have ol:=xl snd;refine⟨MA.aD,.dK (bF MA),hDk,lQ dy,λod=>?_⟩;have R0:=hs1.rs.lock hDk dy od;generalize hH0:upd H1 MA.aD (.bu od (.dK (bF MA)))=H0 at R0;have hDf:H0 MA.aD=some (.bu od (.dK (bF MA))):=by rw[<-hH0];exact aR
  have aD:a≠MA.aD:=gL ha1 hDk (λz=>nomatch z);have ha0:H0 a=some (.lst [.int 0]):=by rw[<-hH0,aI aD];exact ha1
  have gvx:∀D∈MA.ds,H0 D.gv=some (.dK (cz D)):=λD hD=>by
   have ne:D.gv≠MA.aD:=by
    have:=Cb (x:=(MA.aD,HO.dK (bF MA))) (y:=(D.gv,HO.dK (cz D))) hs1.1 (by simp[cf]) (cP _ (cP _ (lp.mpr ⟨D,hD,by simp[cE]⟩)))
    exact λz=>this z.symm
   rw[<-hH0,aI ne];exact uV hs1 hD
  have hP0:H0 MA.aP=some (.dT (b5 P)):=by
   have e:=rA (iV hs1);rw[<-hH0,aI (gL e hDk (λz=>nomatch z))];exact e
  refine⟨_,rfl,bp (bC R0) T.cM T.hU (ip _ _ _) ⟨MA.aD,od,bF MA,rfl,hDf,?_⟩⟩;have kl:(bF MA).length=st.market.deals.length:=by unfold bF;rw[aA,dlen]
  have aO:∀b,b∈(aE CM CD m MA st P).map bg->b≠a:=λb hb z=>by
   obtain⟨o,e⟩:=hs.has hb;rw[z,ha]at e;cases e
  have keepR:∀{H':Hp},(∀b o,b≠a->H0 b=some o->H' b=some o)->Rs H' (aE CM CD m MA st P):=λ{H'} kp p hp=>by
   have hne:=aO p.1 (bw.mpr ⟨p,hp,rfl⟩);rcases R0 p hp with h|⟨h1,ob,h2⟩
   .exact .inl (kp _ _ hne h)
   .exact .inr ⟨h1,ob,kp _ _ hne h2⟩
  let W:IV:=λi σ H'=>∃v4 v5:Option V,σ=[some (.ref m),some (.ref nb),some (.ref tx),some (.ref a),v4,v5,none,none]/\(∀b o,b≠a->H0 b=some o->H' b=some o)/\H' a=some (.lst (V.int 0::(pj (st.market.deals.take i)).map nV))
  refine g0 Eo (W)
   ⟨none,none,rfl,λv v v e=>e,ha0⟩ (λi σ H' v ⟨u,r,k,z,c⟩=>z _ _ aD.symm hDf) (λi σ H' x H'' hi pv y=>?_) (λσ H' pv=>?_)
  .apply fz pv;intro v4 v5 zz;refine jx zz λkp ha2=>?_
   obtain⟨rfl,key,hk⟩:=y;unfold bF at hk;rw[bz]at hk;obtain⟨D,hD,e⟩:=di.mp hk;injection e with e1 e2
   subst e2;obtain⟨d,hdi,eD⟩:=Dt ml hD;have hDm:=cZ hD;have hd1:=cZ hdi;have dl:=ml.dl D hDm;have el:D.legs=d.legs:=cq (λx=>x.2.1) eD;have en:D.num=d.num:=cq bg eD;have eu:D.until_=d.until_:=cq (λx=>x.2.2) eD;have R2:=keepR kp;have RD2:=iq R2 hDm;have inm:∀b o,b∈(aE CM CD m MA st P).map bg->H0 b=some o->H'' b=some o:=λb o hb e=>kp b o (aO b hb) e;have hP2:H'' MA.aP=some (.dT (b5 P)):=inm _ _ (qf (x:=(MA.aP,.dT (b5 P))) (by simp[cf])) hP0
   have hgv2:H'' D.gv=some (.dK (cz D)):=inm _ _ (bw.mpr ⟨(D.gv,.dK (cz D)),cP _ (cP _ (cP _ (lp.mpr ⟨D,hDm,by simp[cE]⟩))),rfl⟩) (gvx D hDm)
   refine⟨_,rfl,m,MA.dm,_,rfl,bC R2,Kr _ _ _,_,rfl,bp (fk RD2) T.cD T.my (oX D) ?_⟩;refine⟨m,D.num,st,P,MA,rfl,ol,R2,hP2,λH3 p ts s3 tl hp1 hp2 htup=>?_⟩;have epo:fG P D.num=d.parts.map λp=>(p.since,d.num,p.owner,p.held):=by rw[en];exact Rm.Hx snd.o hd1 (λe he q=>snd.g.up.inj he hd1 q) (snd.g.jW d hd1)
   rw[epo]at tl htup;rw[aA]at tl;have pl:d.parts.length<=8:=fi (Rm.Hy snd.g hd1) snd.owners;refine⟨p,rfl,⟨_,aj.of hp2⟩,λDd hDd=>?_⟩;refine fF (fJ (K:=K) (a:=p) (xs:=ts.map V.ref)) (λH4 s4=>aj.of (s4 _ _ hp2)) (λj=>(d.parts[j]?).map λq=>gk q.held) (sl _ (by rw[aA];omega)) hDd (λj H4 z H5 KY KN hj s4 yz ky kn=>?_) (λH4 s4 hd4=>?_)
   .obtain⟨rfl,hz⟩:=yz
    rw[bz]at hz;obtain⟨tt,ht,rfl⟩:=di.mp hz;have hjl:j<d.parts.length:=by rw[<-tl];exact(cN.mp ht).1
    obtain⟨q,hq⟩:∃q,d.parts[j]? =some q:=⟨_,bH hjl⟩;have htt:=s4 _ _ (htup j tt (q.since,d.num,q.owner,q.held) ht (by rw[bz,hq];rfl))
    exact⟨tt,_,rfl,cv.of htt,rfl,_,_,rfl,_,_,rfl,rfl,rfl,fY ⟨_,rfl,ky _ _ (by rw[hq];rfl) (ak.refl _)⟩⟩
   rw[aA,tl,jX]at hd4;have eh:(d.parts.map λq=>gk q.held)=(d.parts.map λp=>(if p.held=true then(1:Int)else 0)).map V.int:=by rw[bU];rfl
   rw[eh]at hd4;have s34:=s3.trans s4;have ha4:=s34 _ _ ha2;have RD4:=RD2.same s34;refine⟨_,rfl,.inl ⟨rfl,_,aj.of ha4⟩,_,rfl,bp (fk RD4) T.cD T.my (oX D) ⟨_,rfl,bp (fk RD4) T.cD T.A7 (HU D) ⟨_,rfl,bp (fk RD4) T.cD T.iu (kj D) ⟨D.gv,_,rfl,s34 _ _ hgv2,?_⟩⟩⟩⟩;refine⟨_,rfl,Dd,_,rfl,.inl (aj.of hd4),_,rfl,.inl ⟨rfl,_,aj.of hd4⟩,Dd,_,_,rfl,rfl,aj.of hd4,(by show 5<=sizeLine;decide),λb hb=>?_⟩
   rw[Wb,aA,aA,oT dl,el,DT];have s5:ak H4 (upd H4 b (.lst [nV D.num,nV D.until_,nV (dj d.legs).length,nV d.parts.length,nV (d.parts.filter λp=>p.held).length])):=ak.new hb;have tkl:(st.market.deals.take i).length<=16:=by rw[jT];omega
   refine⟨a,b,_,_,rfl,rfl,s5 _ _ ha4,aR,sle _ (by rw[cY,aA,Tp];simp;omega),?_⟩
   refine⟨_,_,rfl,λb' o' n e=>by rw[aI n];exact s5 _ _ (s34 _ _ (kp _ _ n e)),?_⟩
   rw[aR]
   congr 2
   have:pj (st.market.deals.take (i+1))=pj (st.market.deals.take i)++DQ d:=by unfold pj;rw[take_snoc hdi,md];simp
   rw[this,bZ,en,eu];rfl
  .apply fz pv;intro v4 v5 zz;refine jx zz λkp ha2=>?_
   rw[kl,jv]at ha2;refine⟨kp _ _ aD.symm hDf,?_⟩;have sm:ak H (upd H' MA.aD (.dK (bF MA))):=λb o e=>by
    have e1:=s1 _ _ e;by_cases z:b=MA.aD
    .subst z;rw[hDk]at e1;cases e1;exact aR
    .rw[aI z]
     refine kp _ _ (cQ e ha) ?_;rw[<-hH0,aI z];exact e1
   refine⟨_,rfl,rep.own mk lv.o (l:=Vbwsaj.ints (pj st.market.deals)) ?_ sm ha (by rw[aI aD,ha2,ints_map])⟩
   show fN st _=fN st _
   congr 1
   unfold pj Vbwsaj.ints;rw[aao];rfl
def cls:List (List Int->Text->Option cu):=[Bu,A5,CB,Au,DZ,Dj,AW,AK,Bx,Cq,Cu,Dq,BV,C3,BZ,Cm,DH,Cg,AE,D4]
def uK:List (Nat×Nat):=[(0,1),(3,0),(3,0),(1,1),(2,0),(2,0),(1,0),(0,1),(1,0),(1,0),(0,0),(1,0),(1,0),(0,0),(0,0),(1,0),(0,1),(4,0),(0,0),(2,0)]
structure Row(P:bA)(w:bB)(K:aU)(mg:ae->Option af)(base:a9)(CM CD:aa)(ex:Nat->aa)(r:aa)(n t:Nat)(cl:List Int->Text->Option cu):Prop where
 ex:∃f fd,kT K r [.ref f,nV n,nV t]/\eO P w K mg base (bR P w) 8 f fd cH (d5 CM CD ex cl)/\qQ K (.ref f)=true/\Binds K fd cH []
theorem Row.of{P:bA}{r f:aa}{n t k:Nat}{cl:List Int->Text->Option cu}{x:ae}(kt:kT K r [.ref f,nV n,nV t])(hf:mg x=some (.ref f))(D:Df P w K mg base (bR P w) k x cH (d5 CM CD ex cl))(hk:k<=8):Row P w K mg base CM CD ex r n t cl:=by
 obtain⟨f',fd,F,hm,hkp,hb⟩:=D.ex;rw[hf]at hm;cases hm;exact⟨f,fd,kt,F.mono hk,hkp,hb⟩
structure Cs(P:bA)(w:bB)(K:aU)(mg:ae->Option af)(base:a9)(CM CD:aa)(ex:Nat->aa)(cA:aa)(rs:List aa):Prop where
 m:mg "CALLS"=some (.ref cA)
 top:kT K cA (rs.map V.ref)
 len:rs.length=20
 row:∀(i:Nat)(r:aa),rs[i]? =some r->∃n t cl,uK[i]? =some (n,t)/\cls[i]? =some cl/\Row P w K mg base CM CD ex r n t cl
abbrev uv:List ae:=["market","call","numbers","text"]
theorem Pc:bX uv uv (bb uz):=⟨rfl,rfl,rfl,by decide+kernel,rfl,by decide+kernel,by decide+kernel⟩
def Ik(CM CD:aa):Sp:=λvs H Q z=>∃(m nb tx:aa)(S:List aa)(s:aT)(P:List aS)(i:Nat)(cl:List Int->Text->Option cu)(ns:List Int)(t:Text)(c:cu),vs=[.ref m,.int (i:Int),.ref nb,.ref tx]/\cls[i]? =some cl/\cl ns t=some c/\rT s P/\Mk CM CD H m S s P/\H nb=some (.lst (ns.map V.int))/\H tx=some (.lst (t.map nV))/\nb∉S/\tx∉S/\t.length<=600/\
 ∀(H':Hp)(S':List aa)(P':List aS)(p:aa),Mk CM CD H' m S' (step s c).1 P'->Ord (step s c).1.market P'->Fr H S H' S'->(∀b o,H b=some o->b∉S->b≠p)->H' p=some (.lst ((step s c).2.map V.int))->Q (.ref p) H'
theorem QO{cA:aa}{rs:List aa}(G:Gd K mg "answer_or_refusal" uz)(T:Tx K mg CM CD)(X:Ex K mg E1 E2 E3 E4 E5)(C:Cs Pr w K mg base CM CD (exc E1 E2 E3 E4 E5) cA rs):Df Pr w K mg base be 9 "answer_or_refusal" uv (Ik CM CD):=by
 obtain⟨f,fd,F,hm⟩:=G.ex;refine⟨f,fd,F.dn Pc (λvs H Q E h=>?_) (λcdv A outer s H vs Q E hr h=>?_),hm,F.kp,F.binds (bn4 rfl)⟩
 .obtain⟨y,y,y,y,y,y,y,y,y,y,y,rfl,y⟩:=h;rfl
 .intro X0;refine gK λG0 hG0=>?_;obtain⟨m,nb,tx,S,st,P,i,cl,ns,t,c,rfl,hi,hcl,lv,mk,hnb,htx,nbS,txS,t600,k⟩:=h;refine hG0 ?_
  have hil:i<rs.length:=by rw[C.len];exact(cN.mp hi).1
  obtain⟨r,hr'⟩:∃r,rs[i]? =some r:=⟨_,bH hil⟩;obtain⟨n,tt,cl',hsh,hcl',ro⟩:=C.row i r hr';rw[hi]at hcl';cases hcl';obtain⟨fa,fd',kt,FO,hkp,hb⟩:=ro.ex;refine⟨_,aX (O6 (Et:=λc' d' H'=>∃(q:Nat)(S':List aa),1<=q/\q<=5/\c'=.ref (exc E1 E2 E3 E4 E5 q)/\step st c=eX st q/\Mk CM CD H' m S' st P/\Fr H S H' S') ⟨rfl,rfl,rfl⟩ (λpn Exc pass=>aX (bT (QG (gw be Pr w K mg base uv "answer_or_refusal" (bb uz) f cdv A outer s H E).rP rfl rfl rfl rfl rfl rfl (bh (yV K rfl) (bh (yV K rfl) (BG C.m) (pv 1) (λy y=>rfl)) aQ (λy y=>rfl)) (ai (pv 0) (ai (pv 2) (ai (pv 3) au))) pass)))),?_⟩;refine⟨?_,?_⟩
  .refine⟨_,rfl,fQ C.top.sq (bj (by rw[bz,hr'];rfl)) (fQ kt.sq (bj (j:=0) rfl) ⟨8,fa,fd',cH,d5 CM CD (exc E1 E2 E3 E4 E5) cl,rfl,FO,hr,hkp,hb,?_⟩)⟩
   refine⟨_,rfl,_,rfl,_,rfl,m,nb,tx,S,st,P,ns,t,c,rfl,hcl,lv,mk,hnb,htx,nbS,txS,t600,⟨k,λq H' S' h1 h5 e mk' fr'=>⟨q,S',h1,h5,rfl,e,mk',fr'⟩⟩⟩
  .rintro c' d' H' ⟨q,S',h1,h5,rfl,e,mk',fr'⟩
   have fin:∀z,H' z=none->Q (.ref z) (upd H' z (.lst [V.int (-(q:Int))])):=λz hz=>by
    have sm:ak H' (upd H' z (.lst [V.int (-(q:Int))])):=ak.new hz;refine k _ S' P z (by rw[e];exact mk'.same sm) (by rw[e];exact lv.o) (fr'.trans (Fr.dE sm)) (λb o hb hn=>cQ (fr'.keep b o hb hn) hz) (by rw[e];exact aR)
   match q,h1,h5,fin with
   |1,_,_,fin=>exact⟨E1,_,rfl,.hit rfl X.m1 X.V0 rfl (λea=>aX (bT (cW (ai (mZ mE aQ) au)))),λσ'=>⟨_,rfl,by show 1<=sizeLine;decide,fin⟩⟩
   |2,_,_,fin=>exact⟨E2,_,rfl,.skip rfl X.m1 X.Yh rfl (.hit rfl X.m2 X.O7 rfl (λea=>aX (bT (cW (ai (mZ mE aQ) au))))),λσ'=>⟨_,rfl,by show 1<=sizeLine;decide,fin⟩⟩
   |3,_,_,fin=>exact⟨E3,_,rfl,.skip rfl X.m1 X.Xi rfl (.skip rfl X.m2 X.Bp rfl (.hit rfl X.m3 X.N3 rfl (λea=>aX (bT (cW (ai (mZ mE aQ) au)))))),λσ'=>⟨_,rfl,by show 1<=sizeLine;decide,fin⟩⟩
   |4,_,_,fin=>exact⟨E4,_,rfl,.skip rfl X.m1 X.Pq rfl (.skip rfl X.m2 X.Sa rfl (.skip rfl X.m3 X.WI rfl (.hit rfl X.m4 X.Vg rfl (λea=>aX (bT (cW (ai (mZ mE aQ) au))))))),λσ'=>⟨_,rfl,by show 1<=sizeLine;decide,fin⟩⟩
   |5,_,_,fin=>exact⟨E5,_,rfl,.skip rfl X.m1 X.Qa rfl (.skip rfl X.m2 X.Sm rfl (.skip rfl X.m3 X.UI rfl (.skip rfl X.m4 X.Xw rfl (.hit rfl X.m5 X.PB rfl (λea=>aX (bT (cW (ai (mZ mE aQ) au)))))))),λσ'=>⟨_,rfl,by show 1<=sizeLine;decide,fin⟩⟩
   |q+6,_,h5,_=>omega
theorem So{l:List Int}{c:cu}(h:Rm.Flat l c):∃(i:Nat)(cl:List Int->Text->Option cu)(ns:List Int),cls[i]? =some cl/\((uK[i]? =some (ns.length,0)/\l=(i:Int)::ns/\cl ns []=some c)\/(uK[i]? =some (ns.length,1)/\∃t:List Int,tz 600 t=true/\l=(i:Int)::(ns++(t.length:Int)::t)/\cl ns (nZ t)=some c)):=by
 cases h with
 |market h=>exact⟨0,Bu,[],rfl,.inr ⟨rfl,_,h,rfl,rfl⟩⟩
 |make h=>exact⟨1,A5,[_,_,_],rfl,.inl ⟨rfl,rfl,rfl⟩⟩
 |burn h=>exact⟨2,CB,[_,_,_],rfl,.inl ⟨rfl,rfl,rfl⟩⟩
 |deal h=>exact⟨3,Au,[_],rfl,.inr ⟨rfl,_,(z4.mp h).2,rfl,rfl⟩⟩
 |agree h=>exact⟨4,DZ,[_,_],rfl,.inl ⟨rfl,rfl,rfl⟩⟩
 |withdraw h=>exact⟨5,Dj,[_,_],rfl,.inl ⟨rfl,rfl,rfl⟩⟩
 |cancel h=>exact⟨6,AW,[_],rfl,.inl ⟨rfl,rfl,rfl⟩⟩
 |swap h=>exact⟨7,AK,[],rfl,.inr ⟨rfl,_,h,rfl,rfl⟩⟩
 |tick h=>exact⟨8,Bx,[_],rfl,.inl ⟨rfl,rfl,rfl⟩⟩
 |account h=>exact⟨9,Cq,[_],rfl,.inl ⟨rfl,rfl,rfl⟩⟩
 |deals=>exact⟨10,Cu,[],rfl,.inl ⟨rfl,rfl,rfl⟩⟩
 |parts h=>exact⟨11,Dq,[_],rfl,.inl ⟨rfl,rfl,rfl⟩⟩
 |legs h=>exact⟨12,BV,[_],rfl,.inl ⟨rfl,rfl,rfl⟩⟩
 |waits=>exact⟨13,C3,[],rfl,.inl ⟨rfl,rfl,rfl⟩⟩
 |books=>exact⟨14,BZ,[],rfl,.inl ⟨rfl,rfl,rfl⟩⟩
 |could h=>exact⟨15,Cm,[_],rfl,.inl ⟨rfl,rfl,rfl⟩⟩
 |read h=>exact⟨16,DH,[],rfl,.inr ⟨rfl,_,h,rfl,rfl⟩⟩
 |move h=>exact⟨17,Cg,[_,_,_,_],rfl,.inl ⟨rfl,rfl,rfl⟩⟩
 |names=>exact⟨18,AE,[],rfl,.inl ⟨rfl,rfl,rfl⟩⟩
 |lacks h=>exact⟨19,D4,[_,_],rfl,.inl ⟨rfl,rfl,rfl⟩⟩
theorem BS{xs a b c:List V}(e:xs=a++(b++c)){lo hi:Int}(h1:lo=(a.length:Int))(h2:hi=(a.length:Int)+(b.length:Int)):d3 xs (some lo) (some hi)=b:=by
 subst e;have h3:hi=((a.length+b.length:Nat):Int):=by omega
 rw[h1,h3];unfold d3;rw[HT.Mn,HT.Mn];have e1:min a.length (a++(b++c)).length=a.length:=by rw[bV];omega
 have e2:min (a.length+b.length) (a++(b++c)).length=a.length+b.length:=by rw[bV,bV];omega
 rw[e1,e2,List.drop_left,show a.length+b.length - a.length=b.length by omega,List.take_left]
theorem Q5{t:List Int}(h:∀z∈t,0<=z/\z<=255):t.map V.int=(nZ t).map nV:=by
 unfold nZ;rw[bU];refine i5 λz hz=>?_;show V.int z=V.int ((z.toNat:Nat):Int);rw[Int.toNat_of_nonneg (h z hz).1]
abbrev Um:List ae:=["calls","market","told","place","call","text_at","numbers","text","answer"]
theorem Gz:bX Um ["calls"] (bb wJ):=⟨rfl,rfl,rfl,by decide+kernel,rfl,by decide+kernel,by decide+kernel⟩
def yg(K:aU):Sp:=λvs H Q z=>∃(a:aa)(l:List Int),vs=[.ref a]/\aj K H a (l.map V.int)/\MN l=true/\∀(H':Hp)(p:aa),H' p=some (.lst ((MO l).map V.int))->Q (.ref p) H'
theorem Sx{cA:aa}{rs:List aa}{f:aa}{fd:fP}(F:jL K "answers" "answers" wJ f fd)(T:Tx K mg CM CD)(C:Cs Pr w K mg base CM CD (exc E1 E2 E3 E4 E5) cA rs)(d_market:r0 Pr w K mg base be 3 CM ["self"] (Hf CM CD))(d_aor:Df Pr w K mg base be 9 "answer_or_refusal" uv (Ik CM CD)):eO Pr w K mg base be 10 f fd ["calls"] (yg K):=by
 refine F.dn Gz (λvs H Q E h=>?_) (λcdv A outer s H vs Q E hr h=>?_)
 .obtain⟨y,y,rfl,y⟩:=h;rfl
 .intro X0;apply fz h;intro a l zz;refine gy zz λha hask k=>?_
  obtain⟨ds,Fl,y,d300,etold⟩:=Rm.PU hask;have nd:=Gz.nd;refine⟨_,aK (bW (i:=1) nd rfl (aV rfl) (Qe d_market (hr.mono (by decide)) T.mM b0)) (aK (bW (i:=2) nd rfl (aV rfl) (cW au)) (aK (bW (i:=3) nd rfl (aV rfl) aQ) (aK (xQ jV (df vA (pv 3) (dh iA rfl T.fK f9 (ai (pv 0) au)) (c7 _)) (aK (bW (i:=4) nd rfl (aV rfl) (bh bO (pv 0) (pv 3) (λy y=>rfl))) (aK (bW (i:=5) nd rfl (aV rfl) (eG mx (eG mx (pv 3) aQ) (bh iy (bh iy (BG C.m) (pv 4) (λy y=>rfl)) aQ (λy y=>rfl)))) (aK (bW (i:=6) nd rfl (aV rfl) (uq uR (pv 0) (qk (eG mx (pv 3) aQ)) (qk (pv 5)))) (aK (bW (i:=7) nd rfl (aV rfl) (cW au)) (aK (bW (i:=3) nd rfl (aV rfl) (pv 5)) (eR (df iX (bh iy (bh iy (BG C.m) (pv 4) (λy y=>rfl)) aQ (λy y=>rfl)) aQ (c7 _)) (aK (bW (i:=3) nd rfl (aV rfl) (eG mx (eG mx (pv 5) aQ) (bh bO (pv 0) (pv 5) (λy y=>rfl)))) (aX (bW (i:=7) nd rfl (aV rfl) (uq uR (pv 0) (qk (eG mx (pv 5) aQ)) (qk (pv 3)))))) (aK (bW (i:=8) nd rfl (aV rfl) (bQ d_aor hr b0 (ai (pv 1) (ai (pv 4) (ai (pv 6) (ai (pv 7) au)))))) (aK (cG (gI gU NR NS DS (pv 2) (ai (dh iA rfl T.fK f9 (ai (pv 8) au)) au))) (aX (cG (gI gU lH lI jY (pv 2) (ai (pv 8) au))))))))))))) (aX (bT (pv 2)))))),?_⟩
  intro m dm hmN hdN hmd;refine⟨m,dm,rfl,aR,λH1 S1 mk1 kp1 nw1=>⟨rfl,?_⟩⟩;have s1:ak H H1:=ak.made hmN hdN kp1;have n1:∀b∈S1,H b=none:=λb hb=>by
   rcases nw1 b hb with z|z
   .rw[z];exact hmN
   .have hb1:b≠m:=λq=>by rw[q,aR]at z;cases z
    rw[aI hb1]at z;have hb2:b≠dm:=λq=>by rw[q,aR]at z;cases z
    rw[aI hb2]at z;exact z
  refine⟨gp _,λtd htd=>?_⟩;have s2:ak H1 (upd H1 td (.lst [])):=ak.new htd;have tdN:H td=none:=s1.free htd;have tdS1:td∉S1:=mk1.out htd
  let W:IV:=λmm σ H'=>∃(pre rest:List Int)(cs:List cu)(s:aT)(P:List aS)(S:List aa)(told:List Int)(v4 v5 v6 v7 v8:Option V),σ=[some (.ref a),some (.ref m),some (.ref td),some (.int (pre.length:Int)),v4,v5,v6,v7,v8]/\mm=cs.length/\l=pre++rest/\Rm.Flats rest cs/\rT s P/\Mk CM CD H' m S s P/\ak H H'/\(∀b∈S,H b=none)/\td∉S/\H' td=some (.lst (told.map V.int))/\Rm.p7 vN ds=told++Rm.p7 s cs/\told.length+1001*cs.length<=300300
  refine⟨W,⟨_,[],l,ds,vN,[],S1,[],none,none,none,none,none,rfl,rfl,rfl,Fl,⟨Rm.Xe,Ord.nil rfl⟩,mk1.same s2,s1.trans s2,n1,tdS1,aR,rfl,by simp;omega⟩,λmm σ H2 pv=>?_⟩
  obtain⟨pre,rest,cs,s,P,S,told,v4,v5,v6,v7,v8,rfl,rfl,el,hF,lv,mk,sm,sN,tdS,htd2,htold,hlen⟩:=pv;refine⟨_,rfl,_,rfl,a,_,rfl,.inl (sm.seq ha),_,_,rfl,rfl,_,rfl,?_⟩;rw[aA];cases hF with
  |nil=>
   rw[oo]at el;rw[el,cU (by omega)]
   refine fV ⟨_,rfl,k _ td ?_⟩;rw[htd2,etold,htold];show _=some (HO.lst ((told++[]).map V.int));rw[oo]
  |@cons l1 r1 c cs hc tF=>
   have kept:=Rm.SE (λn h=>Dr (by omega)) lv.g c
   have klen:(step s c).2.length<=1000:=kept.2;have hlen':told.length+1001*(cs.length+1)<=300300:=hlen;obtain⟨i,cl,ns,hcls,hsh⟩:=So hc;have hil:i<rs.length:=by rw[C.len];exact(cN.mp hcls).1
   obtain⟨r,hr'⟩:∃r,rs[i]? =some r:=⟨_,bH hil⟩;obtain⟨n,tt,cl',hsh',hcl',ro⟩:=C.row i r hr';obtain⟨fa,fd',kt,y⟩:=ro.ex;have l1ne:0<l1.length:=by rcases hsh with⟨_,e,_⟩|⟨_,t,_,e,_⟩<;>rw[e]<;>simp
   have lpos:pre.length<l.length:=by rw[el,bV,bV];omega
   rw[dw (by omega)]
   refine fm ?_;refine⟨λσ' H''=>∃m',m'<(c::cs).length/\W m' σ' H'',λσ' H'' z=>z,?_⟩;have hl0:l[pre.length]? =some (i:Int):=by rcases hsh with⟨_,e,_⟩|⟨_,t,_,e,_⟩<;>rw[el,e]<;>simp
   refine⟨_,rfl,_,rfl,bL (sm.seq ha) (bj (by rw[bz,hl0];rfl)) ?_⟩
   refine⟨_,rfl,_,_,rfl,rfl,_,rfl,fQ C.top.sq (bj (by rw[bz,hr'];rfl)) (fQ kt.sq (bj (j:=1) rfl) ⟨_,_,rfl,rfl,?_⟩)⟩
   refine⟨_,rfl,_,rfl,_,_,rfl,rfl,_,rfl,_,rfl,_,rfl,a,_,rfl,sm.seq ha,λnb hnbN=>?_⟩;rcases hsh with⟨hs0,e1,hcl⟩|⟨hs0,t,htx,e1,hcl⟩
   .rw[hs0]at hsh'
    cases hsh';have ecut:d3 (l.map V.int) (some ((pre.length:Int)+1)) (some ((pre.length:Int)+1+(ns.length:Int)))=ns.map V.int:=by
     refine BS (a:=(pre++[(i:Int)]).map V.int) (b:=ns.map V.int) (c:=r1.map V.int) ?_ (by simp only[aA,bV,cY,ma];omega) (by simp only[aA,bV,cY,ma];omega)
     rw[el,e1,<-bZ,<-bZ];simp
    have hnb3:(upd H2 nb (.lst (d3 (l.map V.int) (some ((pre.length:Int)+1)) (some ((pre.length:Int)+1+(ns.length:Int)))))) nb=some (.lst (ns.map V.int)):=by rw[aR,ecut]
    have s3:ak H2 (upd H2 nb (.lst (d3 (l.map V.int) (some ((pre.length:Int)+1)) (some ((pre.length:Int)+1+(ns.length:Int)))))):=ak.new hnbN;refine⟨gp _,λtx htxN=>?_⟩;have s4:ak (upd H2 nb (.lst (d3 (l.map V.int) (some ((pre.length:Int)+1)) (some ((pre.length:Int)+1+(ns.length:Int)))))) (upd (upd H2 nb (.lst (d3 (l.map V.int) (some ((pre.length:Int)+1)) (some ((pre.length:Int)+1+(ns.length:Int)))))) tx (.lst [])):=ak.new htxN;have s34:=s3.trans s4;have hnb4:=s4 _ _ hnb3;have htx4:(upd (upd H2 nb (.lst (d3 (l.map V.int) (some ((pre.length:Int)+1)) (some ((pre.length:Int)+1+(ns.length:Int)))))) tx (.lst [])) tx=some (.lst (([]:Text).map nV)):=aR;have txS:=(mk.same s3).out htxN;generalize upd (upd H2 nb (.lst (d3 (l.map V.int) (some ((pre.length:Int)+1)) (some ((pre.length:Int)+1+(ns.length:Int)))))) tx (.lst [])=H4 at s34 hnb4 htx4;refine⟨_,rfl,?_⟩;refine⟨_,rfl,fQ C.top.sq (bj (by rw[bz,hr'];rfl)) (fQ kt.sq (bj (j:=2) rfl) ⟨rfl,_,rfl,?_⟩)⟩
    refine fV ?_;have epl:((pre.length:Int)+1+(ns.length:Int))=((pre++l1).length:Int):=by rw[e1];simp only[bV,cY];omega
    have td1:=s34 _ _ htd2;refine⟨_,rfl,_,rfl,_,rfl,_,rfl,m,nb,tx,S,s,P,i,cl,ns,[],c,rfl,hcls,hcl,lv,mk.same s34,hnb4,htx4,mk.out hnbN,txS,(by simp),λH5 S5 P5 p mk5 o5 fr5 ap5 hp5=>?_⟩
    have hp5':p≠td:=λz=>ap5 td _ td1 tdS z.symm;have td5:=fr5.keep _ _ td1 tdS;have tdS5:=fr5.out td1 tdS;refine⟨_,rfl,.inl ⟨rfl,_,aj.of td5⟩,_,rfl,p,_,rfl,.inl (aj.of hp5),td,_,_,rfl,rfl,td5,ou (show _<=300300 by rw[aA];omega) (by decide),?_⟩
    rw[aA];refine⟨_,rfl,.inl ⟨rfl,_,aj.of aR⟩,_,rfl,td,p,_,_,rfl,rfl,aR,by rw[aI hp5'];exact hp5,vX (ou (show _<=300300 by rw[bV,aA,aA];simp;omega) (by decide)),?_⟩
    have s5:ak H H5:=λb o e=>fr5.keep b o ((sm.trans s34) b o e) (λz=>by rw[sN b z]at e;cases e)
    have n5:∀b∈S5,H b=none:=λb hb=>by
     rcases fr5.new b hb with z|z
     .exact sN b z
     .exact ak.free (sm.trans s34) z
    refine⟨_,?_,pre++l1,r1,cs,(step s c).1,P5,S5,told++((((step s c).2.length:Nat):Int)::(step s c).2),_,_,_,_,_,(by rw[<-epl];rfl),rfl,?_,tF,⟨kept.1,o5⟩,?_,?_,n5,tdS5,?_,?_,?_⟩
    .show cs.length<(c::cs).length
     simp
    .rw[el,nT]
    .exact mk5.keep λb hb o e=>by rw[aI (λz=>tdS5 (by rw[<-z];exact hb)),aI (λz=>tdS5 (by rw[<-z];exact hb))];exact e
    .exact λb o e=>by rw[aI (cQ e tdN),aI (cQ e tdN)];exact s5 b o e
    .rw[aR]
     congr 2
     simp
    .rw[htold]
     show told++((((step s c).2.length:Nat):Int)::((step s c).2++Rm.p7 (step s c).1 cs))=_;simp
    .simp
     simp at hlen;omega
   .rw[hs0]at hsh'
    cases hsh';have ecut:d3 (l.map V.int) (some ((pre.length:Int)+1)) (some ((pre.length:Int)+1+(ns.length:Int)))=ns.map V.int:=by
     refine BS (a:=(pre++[(i:Int)]).map V.int) (b:=ns.map V.int) (c:=((t.length:Int)::(t++r1)).map V.int) ?_ (by simp only[aA,bV,cY,ma];omega) (by simp only[aA,bV,cY,ma];omega)
     rw[el,e1,<-bZ,<-bZ];simp
    have hnb3:(upd H2 nb (.lst (d3 (l.map V.int) (some ((pre.length:Int)+1)) (some ((pre.length:Int)+1+(ns.length:Int)))))) nb=some (.lst (ns.map V.int)):=by rw[aR,ecut]
    have s3:ak H2 (upd H2 nb (.lst (d3 (l.map V.int) (some ((pre.length:Int)+1)) (some ((pre.length:Int)+1+(ns.length:Int)))))):=ak.new hnbN;refine⟨gp _,λtx0 htxN0=>?_⟩;have s4:ak (upd H2 nb (.lst (d3 (l.map V.int) (some ((pre.length:Int)+1)) (some ((pre.length:Int)+1+(ns.length:Int)))))) (upd (upd H2 nb (.lst (d3 (l.map V.int) (some ((pre.length:Int)+1)) (some ((pre.length:Int)+1+(ns.length:Int)))))) tx0 (.lst [])):=ak.new htxN0;have s34:=s3.trans s4;have hnb4:=s4 _ _ hnb3;generalize upd (upd H2 nb (.lst (d3 (l.map V.int) (some ((pre.length:Int)+1)) (some ((pre.length:Int)+1+(ns.length:Int)))))) tx0 (.lst [])=H4 at s34 hnb4;refine⟨_,rfl,?_⟩;refine⟨_,rfl,fQ C.top.sq (bj (by rw[bz,hr'];rfl)) (fQ kt.sq (bj (j:=2) rfl) ⟨rfl,_,rfl,?_⟩)⟩
    refine fm ?_;obtain⟨t6,tb⟩:=Rm.N1 htx;have hlt:l[pre.length+1+ns.length]? =some (t.length:Int):=by
     rw[el,e1];have:pre++(((i:Int)::(ns++(t.length:Int)::t))++r1)=(pre++((i:Int)::ns))++((t.length:Int)::(t++r1)):=by simp
     rw[this,Za (by simp;omega)]
     simp;rw[show pre.length+1+ns.length - (pre.length+(ns.length+1))=0 by omega]
     rfl
    refine⟨_,rfl,_,_,rfl,rfl,_,rfl,_,rfl,bL ((sm.trans s34).seq ha) (bj (by rw[bz,hlt];rfl)) ⟨_,_,rfl,rfl,?_⟩⟩
    refine⟨_,rfl,_,rfl,_,_,rfl,rfl,_,rfl,_,rfl,_,rfl,a,_,rfl,(sm.trans s34).seq ha,λtx htxN=>?_⟩;have ecut2:d3 (l.map V.int) (some ((pre.length:Int)+1+(ns.length:Int)+1)) (some ((pre.length:Int)+1+(ns.length:Int)+1+(t.length:Int)))=t.map V.int:=by
     refine BS (a:=(pre++((i:Int)::(ns++[(t.length:Int)]))).map V.int) (b:=t.map V.int) (c:=r1.map V.int) ?_ (by simp only[aA,bV,cY,ma];omega) (by simp only[aA,bV,cY,ma];omega)
     rw[el,e1,<-bZ,<-bZ];simp
    have htx5:(upd H4 tx (.lst (d3 (l.map V.int) (some ((pre.length:Int)+1+(ns.length:Int)+1)) (some ((pre.length:Int)+1+(ns.length:Int)+1+(t.length:Int)))))) tx=some (.lst ((nZ t).map nV)):=by rw[aR,ecut2,Q5 tb]
    have s5':ak H4 (upd H4 tx (.lst (d3 (l.map V.int) (some ((pre.length:Int)+1+(ns.length:Int)+1)) (some ((pre.length:Int)+1+(ns.length:Int)+1+(t.length:Int)))))):=ak.new htxN;have s35:=s34.trans s5';have hnb5:=s5' _ _ hnb4;have epl:((pre.length:Int)+1+(ns.length:Int)+1+(t.length:Int))=((pre++l1).length:Int):=by rw[e1];simp only[bV,cY];omega
    have txS:=(mk.same s34).out htxN;generalize upd H4 tx (.lst (d3 (l.map V.int) (some ((pre.length:Int)+1+(ns.length:Int)+1)) (some ((pre.length:Int)+1+(ns.length:Int)+1+(t.length:Int)))))=H5' at htx5 s35 hnb5;have td1:=s35 _ _ htd2;refine⟨_,rfl,_,rfl,_,rfl,_,rfl,m,nb,tx,S,s,P,i,cl,ns,nZ t,c,rfl,hcls,hcl,lv,mk.same s35,hnb5,htx5,mk.out hnbN,txS,(by unfold nZ;rw[aA];exact t6),λH5 S5 P5 p mk5 o5 fr5 ap5 hp5=>?_⟩
    have hp5':p≠td:=λz=>ap5 td _ td1 tdS z.symm;have td5:=fr5.keep _ _ td1 tdS;have tdS5:=fr5.out td1 tdS;refine⟨_,rfl,.inl ⟨rfl,_,aj.of td5⟩,_,rfl,p,_,rfl,.inl (aj.of hp5),td,_,_,rfl,rfl,td5,ou (show _<=300300 by rw[aA];omega) (by decide),?_⟩
    rw[aA];refine⟨_,rfl,.inl ⟨rfl,_,aj.of aR⟩,_,rfl,td,p,_,_,rfl,rfl,aR,by rw[aI hp5'];exact hp5,vX (ou (show _<=300300 by rw[bV,aA,aA];simp;omega) (by decide)),?_⟩
    have s5:ak H H5:=λb o e=>fr5.keep b o ((sm.trans s35) b o e) (λz=>by rw[sN b z]at e;cases e)
    have n5:∀b∈S5,H b=none:=λb hb=>by
     rcases fr5.new b hb with z|z
     .exact sN b z
     .exact ak.free (sm.trans s35) z
    refine⟨_,?_,pre++l1,r1,cs,(step s c).1,P5,S5,told++((((step s c).2.length:Nat):Int)::(step s c).2),_,_,_,_,_,(by rw[<-epl];rfl),rfl,?_,tF,⟨kept.1,o5⟩,?_,?_,n5,tdS5,?_,?_,?_⟩
    .show cs.length<(c::cs).length
     simp
    .rw[el,nT]
    .exact mk5.keep λb hb o e=>by rw[aI (λz=>tdS5 (by rw[<-z];exact hb)),aI (λz=>tdS5 (by rw[<-z];exact hb))];exact e
    .exact λb o e=>by rw[aI (cQ e tdN),aI (cQ e tdN)];exact s5 b o e
    .rw[aR]
     congr 2
     simp
    .rw[htold]
     show told++((((step s c).2.length:Nat):Int)::((step s c).2++Rm.p7 (step s c).1 cs))=_;simp
    .simp
     simp at hlen;omega
open PySem.W (Frag nsIn findIn codeIn keepIn isFn mg_of mg_none_of fnOf)
structure Gs(K:aU)(mg:ae->Option af)(CM CD:aa):Prop where
 XI:Gd K mg "is_name" vk
 sign_of:Gd K mg "sign_of" ud
 words_of:Gd K mg "words_of" um
 X6:Gd K mg "pieces_of" vg
 Sj:Gd K mg "is_amount" uM
 P0:Gd K mg "add_name" zg
 Xn:Gd K mg "read_market" xA
 XE:Gd K mg "is_leg" wI
 RL:Gd K mg "wrong_line_of_legs" u4
 OD:Gd K mg "leg_of" xD
 RR:Gd K mg "read_legs" vE
 Q3:Gd K mg "text_of_leg" xM
 UP:Gd K mg "row_of" rX
 Ow:Gd K mg "lacks_of" r8
 UL:Gd K mg "lacks_nothing" xb
 Xy:Gd K mg "first_to_hold" ye
 R7:Gd K mg "all_parts_held" vD
 Qj:Gd K mg "hold_parts" yI
 S9:Gd K mg "waits_by" uL
 WK:Gd K mg "waits_for" ug
 P9:Gd K mg "all_waits" uO
 TC:Gd K mg "is_on_ring" xu
 XD:Gd K mg "greatest_on_ring" t8
 settle:Gd K mg "settle" y3
 N7:Gd K mg "check_range" wN
 RP:Gd K mg "check_owner" zh
 Vj:Gd K mg "check_amount" x9
 P4:Gd K mg "check_free" xa
 XG:Gd K mg "check_deal" wQ
 Tw:Gd K mg "left_by_exchange" ux
 W3:Gd K mg "can_be_made" ue
 WN:Gd K mg "end_overdue" ub
 T8:Gd K mg "answer_market" yS
 U3:Gd K mg "answer_make" yD
 Rk:Gd K mg "answer_burn" xg
 RV:Gd K mg "answer_deal" yc
 Sh:Gd K mg "answer_agree" yE
 PY:Gd K mg "answer_withdraw" yU
 Ss:Gd K mg "answer_cancel" xf
 U0:Gd K mg "answer_swap" xJ
 X4:Gd K mg "answer_tick" wM
 Xm:Gd K mg "answer_account" zk
 S7:Gd K mg "answer_deals" uN
 Oy:Gd K mg "answer_parts" ym
 Vv:Gd K mg "answer_legs" uh
 Xb:Gd K mg "answer_waits" yr
 SH:Gd K mg "answer_books" se
 QX:Gd K mg "answer_could" uf
 TB:Gd K mg "answer_read" wU
 VP:Gd K mg "answer_move" y1
 Ra:Gd K mg "answer_names" zm
 VF:Gd K mg "answer_lacks" yf
 Rq:Gd K mg "answer_or_refusal" uz
 RU:Gm K CM "begin" "Market.begin" rV
 UK:Gm K CM "nothing" "Market.nothing" sO
 X9:Gm K CM "gives_of" "Market.gives_of" u0
 Ur:Gm K CM "parts_of" "Market.parts_of" t4
 Sk:Gm K CM "add_deal" "Market.add_deal" xj
 V7:Gm K CM "hold_part" "Market.hold_part" yP
 Wt:Gm K CM "drop_part" "Market.drop_part" yk
 X8:Gm K CM "call_off" "Market.call_off" xZ
 Qz:Gm K CM "carry_out" "Market.carry_out" za
 Tq:Gi K CD "Deal.__init__" vt
 Q4:Gi K CM "Market.__init__" yR
structure Ct(K:aU)(mg:ae->Option af)(cA:aa)(rs:List aa):Prop where
 m:mg "CALLS"=some (.ref cA)
 top:kT K cA (rs.map V.ref)
 len:rs.length=20
 w0:∃r f,rs[0]? =some r/\kT K r [.ref f,nV 0,nV 1]/\mg "answer_market"=some (.ref f)
 w1:∃r f,rs[1]? =some r/\kT K r [.ref f,nV 3,nV 0]/\mg "answer_make"=some (.ref f)
 w2:∃r f,rs[2]? =some r/\kT K r [.ref f,nV 3,nV 0]/\mg "answer_burn"=some (.ref f)
 w3:∃r f,rs[3]? =some r/\kT K r [.ref f,nV 1,nV 1]/\mg "answer_deal"=some (.ref f)
 w4:∃r f,rs[4]? =some r/\kT K r [.ref f,nV 2,nV 0]/\mg "answer_agree"=some (.ref f)
 w5:∃r f,rs[5]? =some r/\kT K r [.ref f,nV 2,nV 0]/\mg "answer_withdraw"=some (.ref f)
 w6:∃r f,rs[6]? =some r/\kT K r [.ref f,nV 1,nV 0]/\mg "answer_cancel"=some (.ref f)
 w7:∃r f,rs[7]? =some r/\kT K r [.ref f,nV 0,nV 1]/\mg "answer_swap"=some (.ref f)
 w8:∃r f,rs[8]? =some r/\kT K r [.ref f,nV 1,nV 0]/\mg "answer_tick"=some (.ref f)
 w9:∃r f,rs[9]? =some r/\kT K r [.ref f,nV 1,nV 0]/\mg "answer_account"=some (.ref f)
 PF:∃r f,rs[10]? =some r/\kT K r [.ref f,nV 0,nV 0]/\mg "answer_deals"=some (.ref f)
 Sr:∃r f,rs[11]? =some r/\kT K r [.ref f,nV 1,nV 0]/\mg "answer_parts"=some (.ref f)
 SA:∃r f,rs[12]? =some r/\kT K r [.ref f,nV 1,nV 0]/\mg "answer_legs"=some (.ref f)
 Tb:∃r f,rs[13]? =some r/\kT K r [.ref f,nV 0,nV 0]/\mg "answer_waits"=some (.ref f)
 Oz:∃r f,rs[14]? =some r/\kT K r [.ref f,nV 0,nV 0]/\mg "answer_books"=some (.ref f)
 R8:∃r f,rs[15]? =some r/\kT K r [.ref f,nV 1,nV 0]/\mg "answer_could"=some (.ref f)
 RG:∃r f,rs[16]? =some r/\kT K r [.ref f,nV 0,nV 1]/\mg "answer_read"=some (.ref f)
 UH:∃r f,rs[17]? =some r/\kT K r [.ref f,nV 4,nV 0]/\mg "answer_move"=some (.ref f)
 Uk:∃r f,rs[18]? =some r/\kT K r [.ref f,nV 0,nV 0]/\mg "answer_names"=some (.ref f)
 SG:∃r f,rs[19]? =some r/\kT K r [.ref f,nV 2,nV 0]/\mg "answer_lacks"=some (.ref f)
section
theorem gH{rs:List aa}{i n t k:Nat}{cl:List Int->Text->Option cu}{x:ae}(c:∃r f,rs[i]? =some r/\kT K r [.ref f,nV n,nV t]/\mg x=some (.ref f))(D:Df Pr w K mg base (bR Pr w) k x cH (d5 CM CD ex cl))(hk:k<=8)(h1:uK[i]? =some (n,t))(h2:cls[i]? =some cl):∀r,rs[i]? =some r->∃n t cl,uK[i]? =some (n,t)/\cls[i]? =some cl/\Row Pr w K mg base CM CD ex r n t cl:=λr hr=>by
 obtain⟨r',f,e1,e2,e3⟩:=c;rw[hr]at e1;cases e1;exact⟨n,t,cl,h1,h2,Row.of e2 e3 D hk⟩
theorem SF{cA:aa}{rs:List aa}{f:aa}{fd:fP}(F:jL K "answers" "answers" wJ f fd)(T:Tx K mg CM CD)(X:Ex K mg E1 E2 E3 E4 E5)(g:Gs K mg CM CD)(c:Ct K mg cA rs):eO Pr w K mg base be 10 f fd ["calls"] (yg K):=by
 have d_is_name:=Yg (P:=Pr) (w:=w) (base:=base) g.XI T;have d_sign_of:=T1 (P:=Pr) (w:=w) (base:=base) g.sign_of T;have d_words:=Se (P:=Pr) (w:=w) (base:=base) g.words_of T;have d_pieces:=Rc g.X6 T d_sign_of;have d_amount:=OO (P:=Pr) (w:=w) (base:=base) g.Sj T;have d_add:=Yb g.P0 T X d_is_name;have d_rm:=SV g.Xn T X d_pieces d_words d_add;have d_isleg:=OG g.XE T d_amount;have d_wrong:=Yj g.RL T d_pieces d_words d_isleg;have d_legof:=Ob (P:=Pr) (w:=w) (base:=base) g.OD T;have d_rl:=OH g.RR T X d_wrong d_pieces d_words d_legof;have d_text:=U7 (P:=Pr) (w:=w) (base:=base) g.Q3 T;have d_row:=PN (P:=Pr) (w:=w) (base:=base) g.UP T;have d_lacks:=TV (Pr:=Pr) (w:=w) (base:=base) g.Ow T;have d_ln:=O2 g.UL T d_lacks;have d_first:=Wj g.Xy T d_ln;have d_held:=N5 (Pr:=Pr) (w:=w) (base:=base) g.R7 T;have d_by:=Xo g.S9 T d_lacks;have d_for:=Vq g.WK T d_by;have d_aw:=TU g.P9 T d_for;have d_ring:=QC (Pr:=Pr) (w:=w) (base:=base) g.TC T;have d_gr:=RC g.XD T d_aw d_ring;have m_hold:=Wx (Pr:=Pr) (w:=w) (base:=base) g.V7 T;have m_drop:=Yf (Pr:=Pr) (w:=w) (base:=base) g.Wt T;have m_off:=Xs g.X8 T K3 m_drop;have m_carry:=Wq (Pr:=Pr) (w:=w) (base:=base) g.Qz T;have d_hps:=Ve g.Qj T d_first d_held m_hold m_carry;have d_settle:=UJ g.settle T d_hps d_gr m_off;have m_gives:=U1 (Pr:=Pr) (w:=w) (base:=base) g.X9 T;have m_po:=Ua (Pr:=Pr) (w:=w) (base:=base) g.Ur T;have i_deal:=Qu (Pr:=Pr) (w:=w) (base:=base) g.Tq T;have m_add:=SR g.Sk T i_deal m_gives;have m_no:=V3 (Pr:=Pr) (w:=w) (base:=base) g.UK T;have m_be:=O4 g.RU T m_no;have i_market:=TR g.Q4 T m_be;have d_rg:=Wp (Pr:=Pr) (w:=w) (base:=base) g.N7 T X;have d_ow:=OP g.RP T d_rg;have d_amt:=Vx g.Vj T d_rg d_ow;have d_cf:=Vw (Pr:=Pr) (w:=w) (base:=base) g.P4 T X;have d_cd:=XW (Pr:=Pr) (w:=w) (base:=base) g.XG T X;have d_left:=XX (Pr:=Pr) (w:=w) (base:=base) g.Tw T;have d_can:=Sq (Pr:=Pr) (w:=w) (base:=base) g.W3 T;have d_over:=T7 g.WN T d_settle m_off;have C:Cs Pr w K mg base CM CD (exc E1 E2 E3 E4 E5) cA rs:=by
  refine⟨c.m,c.top,c.len,λi r h=>?_⟩
  match i,h with
  |0,h=>exact gH c.w0 (W8 g.T8 T d_rm m_be) (by decide) rfl rfl r h
  |1,h=>exact gH c.w1 (Wy g.U3 T X d_amt d_settle) (by decide) rfl rfl r h
  |2,h=>exact gH c.w2 (QK g.Rk T X d_amt d_cf d_settle) (by decide) rfl rfl r h
  |3,h=>exact gH c.w3 (Uv g.RV T X d_rg d_rl m_add) (by decide) rfl rfl r h
  |4,h=>exact gH c.w4 (TZ g.Sh T X d_ow d_cd d_settle) (by decide) rfl rfl r h
  |5,h=>exact gH c.w5 (Oc g.PY T X d_ow d_cd m_drop d_settle) (by decide) rfl rfl r h
  |6,h=>exact gH c.w6 (Tv g.Ss T X d_cd m_off d_settle) (by decide) rfl rfl r h
  |7,h=>exact gH c.w7 (UO g.U0 T X d_rl d_left d_can d_settle) (by decide) rfl rfl r h
  |8,h=>exact gH c.w8 (VB g.X4 T X d_rg d_over) (by decide) rfl rfl r h
  |9,h=>exact gH c.w9 (Po g.Xm T d_ow) (by decide) rfl rfl r h
  |10,h=>exact gH c.PF (O1 g.S7 T m_po) (by decide) rfl rfl r h
  |11,h=>exact gH c.Sr (XR g.Oy T d_cd m_po) (by decide) rfl rfl r h
  |12,h=>exact gH c.SA (Oo g.Vv T d_cd d_text d_row) (by decide) rfl rfl r h
  |13,h=>exact gH c.Tb (Vm g.Xb T d_aw) (by decide) rfl rfl r h
  |14,h=>exact gH c.Oz (Sd g.SH T) (by decide) rfl rfl r h
  |15,h=>exact gH c.R8 (S8 g.QX T d_cd d_ln) (by decide) rfl rfl r h
  |16,h=>exact gH c.RG (PK g.TB T d_wrong d_rl d_left d_can m_gives) (by decide) rfl rfl r h
  |17,h=>exact gH c.UH (Oe g.VP T X d_amt d_ow d_cf d_settle) (by decide) rfl rfl r h
  |18,h=>exact gH c.Uk (PX g.Ra T d_row) (by decide) rfl rfl r h
  |19,h=>exact gH c.SG (Xg g.VF T X d_ow d_cd d_lacks) (by decide) rfl rfl r h
  |i+20,h=>
   have:=(cN.mp h).1;rw[c.len]at this;omega
 exact Sx F T C i_market (QO g.Rq T X C)
variable{P:gO}{h:a9}
theorem kN(P:gO):∀r∈dR,nsIn (KT P) iD r.n=some (some (.ref (r.a+1))):=rk.mp (by kernel_rfl)
theorem kQ:∀r∈dR,r.q=r.n:=rk.mp (by kernel_rfl)
theorem kL(P:gO):∀r∈dR++mR++iR,(KT P).lookup (r.a+1)=some r.f:=rk.mp (by kernel_rfl)
theorem kC(P:gO):∀r∈dR++mR++iR,codeIn (KT P) (.ref r.a) r.q=true:=rk.mp (by kernel_rfl)
theorem kK(P:gO):∀r∈dR++mR++iR,keepIn (KT P) (.ref (r.a+1))=true:=rk.mp (by kernel_rfl)
theorem kI(P:gO):∀r∈mR++iR,isFn (KT P) (.ref (r.a+1))=true:=rk.mp (by kernel_rfl)
theorem kM(P:gO):∀r∈mR,findIn (KT P) (.ref 172) r.n=some (some (.ref (r.a+1))):=rk.mp (by kernel_rfl)
theorem kU(P:gO):∀x∈CC.zipIdx,(KT P).lookup (501+x.2)=some (oF "tuple" (.seq #[.ref x.1.1,.int x.1.2.1 (932+2*x.2),.int x.1.2.2 (933+2*x.2)])):=rk.mp (by kernel_rfl)
theorem kF{r:Rw}(hr:r∈dR++mR++iR):jL (KT P) r.n r.q r.s (r.a+1) (fnOf r.n r.q (jB r.s) (i0 r.s) (bb r.s) .none .none .none r.m none (.ref r.a) .none):=XU (kL P r hr) (kC P r hr) (kK P r hr)
theorem kD(X:(KT P).In h)(G:h.Ns iD mg)(i:Nat)(hi:i<dR.length):Gd (KT P) mg (dR[i]).n (dR[i]).s:=by
 have m:=fo hi;have f:=kF (P:=P) (fq iR (fq mR m));rw[kQ _ m]at f;exact⟨_,_,f,mg_of X G (kN P _ m)⟩
theorem kB(i:Nat)(hi:i<mR.length):Gm (KT P) 172 (mR[i]).n (mR[i]).q (mR[i]).s:=have m:=fo hi
 ⟨_,_,kF (fq iR (cP dR m)),⟨kM P _ m,kI P _ (fq iR m),kK P _ (fq iR (cP dR m))⟩⟩
theorem kE(X:(KT P).In h)(G:h.Ns iD mg):Gs (KT P) mg 172 96:=have g:=kD X G
 have b:=kB (P:=P)
 ⟨g 0 (by decide),g 1 (by decide),g 2 (by decide),g 3 (by decide),g 4 (by decide),g 5 (by decide),g 6 (by decide),g 7 (by decide),g 8 (by decide),g 9 (by decide),g 10 (by decide),g 11 (by decide),g 12 (by decide),g 13 (by decide),g 14 (by decide),g 15 (by decide),g 16 (by decide),g 17 (by decide),g 18 (by decide),g 19 (by decide),g 20 (by decide),g 21 (by decide),g 22 (by decide),g 23 (by decide),g 24 (by decide),g 25 (by decide),g 26 (by decide),g 27 (by decide),g 28 (by decide),g 29 (by decide),g 30 (by decide),g 31 (by decide),g 32 (by decide),g 33 (by decide),g 34 (by decide),g 35 (by decide),g 36 (by decide),g 37 (by decide),g 38 (by decide),g 39 (by decide),g 40 (by decide),g 41 (by decide),g 42 (by decide),g 43 (by decide),g 44 (by decide),g 45 (by decide),g 46 (by decide),g 47 (by decide),g 48 (by decide),g 49 (by decide),g 50 (by decide),g 51 (by decide),g 52 (by decide),b 0 (by decide),b 1 (by decide),b 2 (by decide),b 3 (by decide),b 4 (by decide),b 5 (by decide),b 6 (by decide),b 7 (by decide),b 8 (by decide),⟨_,_,kF (r:=iR[0]) (cP _ (fo (by decide))),⟨by kernel_rfl,by kernel_rfl,kI P _ (cP _ (fo (by decide))),by kernel_rfl⟩⟩,⟨_,_,kF (r:=iR[1]) (cP _ (fo (by decide))),⟨by kernel_rfl,by kernel_rfl,kI P _ (cP _ (fo (by decide))),by kernel_rfl⟩⟩⟩
theorem kW{i f:Nat}{n t:Int}(e:CC[i]? =some (f,n,t)):kT (KT P) (501+i) [.ref f,.int n,.int t]:=⟨_,_,_,kU P ((f,n,t),i) (List.mem_zipIdx_iff_getElem?.mpr e),rfl,rfl,(by decide:3<=sizeLine),.cons rfl (.cons ⟨_,rfl⟩ (.cons ⟨_,rfl⟩ .nil))⟩
theorem kX(X:(KT P).In h)(G:h.Ns iD mg):Ct (KT P) mg 521 [501,502,503,504,505,506,507,508,509,510,511,512,513,514,515,516,517,518,519,520]:=⟨mg_of X G (by kernel_rfl),⟨_,_,_,(by kernel_rfl:(KT P).lookup 521=some (oF "tuple" (.seq ((cR 20).map λi=>.ref (501+i)).toArray))),rfl,rfl,(by decide:20<=sizeLine),.cons rfl (.cons rfl (.cons rfl (.cons rfl (.cons rfl (.cons rfl (.cons rfl (.cons rfl (.cons rfl (.cons rfl (.cons rfl (.cons rfl (.cons rfl (.cons rfl (.cons rfl (.cons rfl (.cons rfl (.cons rfl (.cons rfl (.cons rfl .nil)))))))))))))))))))⟩,rfl,⟨501,360,rfl,kW (i:=0) rfl,mg_of X G (by kernel_rfl)⟩,⟨502,367,rfl,kW (i:=1) rfl,mg_of X G (by kernel_rfl)⟩,⟨503,374,rfl,kW (i:=2) rfl,mg_of X G (by kernel_rfl)⟩,⟨504,381,rfl,kW (i:=3) rfl,mg_of X G (by kernel_rfl)⟩,⟨505,388,rfl,kW (i:=4) rfl,mg_of X G (by kernel_rfl)⟩,⟨506,395,rfl,kW (i:=5) rfl,mg_of X G (by kernel_rfl)⟩,⟨507,402,rfl,kW (i:=6) rfl,mg_of X G (by kernel_rfl)⟩,⟨508,419,rfl,kW (i:=7) rfl,mg_of X G (by kernel_rfl)⟩,⟨509,431,rfl,kW (i:=8) rfl,mg_of X G (by kernel_rfl)⟩,⟨510,438,rfl,kW (i:=9) rfl,mg_of X G (by kernel_rfl)⟩,⟨511,443,rfl,kW (i:=10) rfl,mg_of X G (by kernel_rfl)⟩,⟨512,450,rfl,kW (i:=11) rfl,mg_of X G (by kernel_rfl)⟩,⟨513,455,rfl,kW (i:=12) rfl,mg_of X G (by kernel_rfl)⟩,⟨514,462,rfl,kW (i:=13) rfl,mg_of X G (by kernel_rfl)⟩,⟨515,467,rfl,kW (i:=14) rfl,mg_of X G (by kernel_rfl)⟩,⟨516,472,rfl,kW (i:=15) rfl,mg_of X G (by kernel_rfl)⟩,⟨517,479,rfl,kW (i:=16) rfl,mg_of X G (by kernel_rfl)⟩,⟨518,486,rfl,kW (i:=17) rfl,mg_of X G (by kernel_rfl)⟩,⟨519,493,rfl,kW (i:=18) rfl,mg_of X G (by kernel_rfl)⟩,⟨520,500,rfl,kW (i:=19) rfl,mg_of X G (by kernel_rfl)⟩⟩
theorem kY(X:(KT P).In h)(G:h.Ns iD mg):Tx (KT P) mg 172 96:=⟨⟨by kernel_rfl,by kernel_rfl,by kernel_rfl,by kernel_rfl⟩,⟨by kernel_rfl,by kernel_rfl,by kernel_rfl,by kernel_rfl⟩,mg_of X G (by kernel_rfl),mg_of X G (by kernel_rfl),by decide,(by kernel_rfl:findIn (KT P) (.ref 172) "owners"=some none),(by kernel_rfl:findIn (KT P) (.ref 172) "goods"=some none),(by kernel_rfl:findIn (KT P) (.ref 172) "free"=some none),(by kernel_rfl:findIn (KT P) (.ref 172) "held"=some none),(by kernel_rfl:findIn (KT P) (.ref 172) "made"=some none),(by kernel_rfl:findIn (KT P) (.ref 172) "burned"=some none),(by kernel_rfl:findIn (KT P) (.ref 172) "tick"=some none),(by kernel_rfl:findIn (KT P) (.ref 172) "next_number"=some none),(by kernel_rfl:findIn (KT P) (.ref 172) "deals"=some none),(by kernel_rfl:findIn (KT P) (.ref 172) "parts"=some none),(by kernel_rfl:findIn (KT P) (.ref 96) "number"=some none),(by kernel_rfl:findIn (KT P) (.ref 96) "legs"=some none),(by kernel_rfl:findIn (KT P) (.ref 96) "last_tick"=some none),(by kernel_rfl:findIn (KT P) (.ref 96) "gives"=some none),⟨291,mg_of X G (by kernel_rfl)⟩,⟨293,mg_of X G (by kernel_rfl)⟩,⟨451,mg_of X G (by kernel_rfl)⟩,⟨453,mg_of X G (by kernel_rfl)⟩,⟨540,mg_of X G (by kernel_rfl)⟩,⟨542,mg_of X G (by kernel_rfl)⟩,⟨544,mg_of X G (by kernel_rfl)⟩,⟨546,mg_of X G (by kernel_rfl)⟩,⟨548,mg_of X G (by kernel_rfl)⟩,⟨550,mg_of X G (by kernel_rfl)⟩,⟨552,mg_of X G (by kernel_rfl)⟩,⟨652,mg_of X G (by kernel_rfl)⟩,⟨654,mg_of X G (by kernel_rfl)⟩,⟨656,mg_of X G (by kernel_rfl)⟩,⟨658,mg_of X G (by kernel_rfl)⟩,⟨660,mg_of X G (by kernel_rfl)⟩,⟨662,mg_of X G (by kernel_rfl)⟩,mg_none_of X G (by kernel_rfl),mg_none_of X G (by kernel_rfl),mg_none_of X G (by kernel_rfl),mg_none_of X G (by kernel_rfl),mg_none_of X G (by kernel_rfl),mg_none_of X G (by kernel_rfl),mg_none_of X G (by kernel_rfl),mg_none_of X G (by kernel_rfl),mg_none_of X G (by kernel_rfl),mg_none_of X G (by kernel_rfl),mg_none_of X G (by kernel_rfl),mg_none_of X G (by kernel_rfl),mg_none_of X G (by kernel_rfl)⟩
theorem kZ(X:(KT P).In h)(G:h.Ns iD mg):Ex (KT P) mg 24 37 50 63 76:=⟨mg_of X G (by kernel_rfl),by kernel_rfl,mg_of X G (by kernel_rfl),by kernel_rfl,mg_of X G (by kernel_rfl),by kernel_rfl,mg_of X G (by kernel_rfl),by kernel_rfl,mg_of X G (by kernel_rfl),by kernel_rfl,by kernel_rfl,by kernel_rfl,by kernel_rfl,by kernel_rfl,by kernel_rfl,by kernel_rfl,by kernel_rfl,by kernel_rfl,by kernel_rfl,by kernel_rfl,by kernel_rfl,by kernel_rfl,by kernel_rfl,by kernel_rfl,by kernel_rfl,by kernel_rfl,by kernel_rfl,by kernel_rfl,by kernel_rfl,by kernel_rfl,by kernel_rfl,by kernel_rfl,by kernel_rfl,by kernel_rfl,by kernel_rfl⟩
theorem Of(X:(KT P).In h)(G:h.Ns iD mg){fa:aa}(hfa:mg "answers"=some (.ref fa)):∃fd:fP,(∀(s:aC)(us:List af),us.length=(["calls"]:List ae).length->wa s fd ⟨us,[]⟩ ((["calls"]:List ae).zip us))/\∀base:a9,(KT P).In base->base.Ns iD mg->eO Pr w (KT P) mg base be 10 fa fd ["calls"] (yg (KT P)):=by
 have m:dR[53]∈dR:=fo (by decide)
 have e:=hfa.symm.trans (mg_of X G (kN P _ m));cases e;exact⟨_,λs us hu=>match us,hu with|[_],_=>.of_eq rfl,λbase z z=>SF (kF (P:=P) (fq iR (fq mR m))) (kY X G) (kZ X G) (kE X G) (kX X G)⟩
theorem IB:PySem.Challenge.rw_ringmarket_s01_answers.wellSaid=true:=by decide+kernel
end
end Pg
open PySem PySem.W PyProof.Rows
theorem PySem.Challenge.cw_ringmarket_s01_answers_holds : PySem.Challenge.rw_ringmarket_s01_answers.Holds := by
 refine holds_os (q:=Pg.vw) (loose:=Pg.lo) (Xt:=Pg.Xq) (XP:=XL Pg.vw []) (N:=7496) Pg.left (Hook.of Pg.Hk) (Hook.keeps Pg.Hk) (λs e=>xl_of s (z4.mp e).1) XL.keeps (by rfl) (by rfl) (by rfl) (λs e=>recFacts_of (z4.mp e).2) os_shapes Pg.IB (by decide+kernel) ⟨rfl,rfl,rfl,rfl,rfl,by decide+kernel⟩ ⟨[.list [.int 10]],by decide+kernel,by decide+kernel⟩ ?_
 refine L2.Qr (K:=Pg.KT) (k:=10) (CX:=L2.be) (ps:=["calls"]) (sp:=Pg.yg) Pg.IB rfl rfl ⟨rfl,by decide,by decide⟩ (λw h Y=>kIn_of (K:=Pg.KT) (as:=Pg.Ei) (e:=λ_=>by kernel_rfl) Y) (λw mg fa h Y X G e=>Pg.Of X G e) ?S (λ_ _ _ _ z=>z)
 case S=>
  intro K H xs a hO hwi hask hx;cases hx with
  |cons h1 h2=>
   cases h2;cases h1 with
   |lst hs ha=>
    have e:=L2.KI a.1 _ ha;subst e;exact⟨_,a.1,rfl,hs,hask,λH' p hp=>.lst (L2.aj.of hp) (L2.Kn _)⟩
