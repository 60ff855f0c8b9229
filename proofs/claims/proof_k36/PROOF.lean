import PyProof.Rows.All
import OpenK.KLine
import OpenK.KQuick
import OpenK.KMake
import OpenK.KDescr
import OpenK.KMore
import OpenK.KCls
import OpenK.KGet
import OpenK.KCell
import OpenK.KCall
import OpenK.KWalk
import OpenK.KFacts
import KE.KLam
import KE.KNest
import KE.KNestM
import KE.KItem
import KE.KFromBytes
import KE.KIsAll
import KE.KMinBuiltin
import KE.KxBytes
import KE.KTops
import KE.KTabLook
import Wide.FinOn
import Wide.BytesRules
import Wide.ObjOpen
import Wide.Head
import Wide.Well
import PyProof.EqAt
import PyProof.EqKinds
import PyProof.TupleCall
import PyProof.MinMaxWalk
import PyProof.WalkInts
import PyProof.NeKinds
import PyProof.SliceStr2
import PyProof.StrBlockI
import PyProof.MaxThree
import PyProof.ZipIter
import PyProof.Draws
import PyProof.EnumMake
import PyProof.ListMulRoad
import PyProof.Rows.StrRev
import PyProof.DictItems
import PyProof.ListRange
import PyProof.AutoIntG2
import PyProof.FactsAll.int_6
import KE.KMinKey
import PyProof.Rows.TupDisplay
import PyProof.Rows.CatchBare
import KE.KTryMore
import PyProof.RulesAs
import PyProof.StrOps
import KE.KDictList
import PyProof.Rows.SortShell
import KE.KDictLaws
import KE.KDictSum
import KE.IntBitsLaws
import KE.KIntText
import PyProof.CallStr
import PyProof.StrBlockL
import PyProof.StrLawsChain
import PyProof.StrLawsTight
import PyProof.Rows.StrItems
import PySem.Challenge.RW_leasttolls_k36_whole_words_have_signs_of
set_option bootstrap.genMatcherCode false
set_option genSizeOf false
set_option tactic.hygienic false
set_option genInjectivity false
set_option genCtorIdx false
set_option compiler.extract_closed false
set_option Elab.async false
set_option linter.all false
set_option maxRecDepth 100000
set_option maxHeartbeats 4000000
open PySem.W renaming Frag->ac,openSeen->bj,openGood->bn,nsIn->bC,tabIn->bG,kitOne->bJ,CodeHd->bK,openEnds->bP,findIn->bQ,keepIn->bR,mg_of->bX,kia_one->cu,kla_fn->cE,emptyDict->cI,exmOne->cR,instObj->cT,fnOf->cW,recOk->cX,fnX->cY,xlAt->dh,envX->dJ,OpenLaw->dL,makesIn->dP,plainGet->eG,callWith_K->fi,hasDictIn->fu,codeIn->fy,tabObj->fD,plainGet_of->ga,callWith_K0->gf,lookIn->gu,methodObj->gH,plainOver->gJ,isFn->io,cellsFrom_some->ip,takerIn->iH,methodCall_KW->iR,kitx_tuple->kY,mg_none_of->lc,specialIn->lw,kitx_list->lx,kitx_dict->ly,handedIn->lQ,codeHdIn->lW,takesIn->mw,TabsAt->m9,noTabs->ng,LeftO->nj,WalkO->nk,mroIn->nu
open List renaming getElem?_eq_some_iff->ae,mem_cons_of_mem->ah,getElem?_eq_getElem->aj,getElem?_append_right->am,mem_cons_self->ao,mem_map->ar,range->av,length_map->aw,replicate->ay,mem_of_getElem?->aA,getElem?_append_left->aC,getElem?_set_ne->aD,mem_cons->aE,getElem?_map->aF,mem_singleton->aI,all_eq_true->aK,size_toArray->aL,length_append->aN,map_append->aP,length_cons->aQ,mem_append_right->aR,map_cons->aS,mem_append->aU,append_nil->aZ,append_assoc->bf,lookup_cons->bo,mem_append_left->bq,map->bv,length_set->bw,filterMap_cons->bA,mem_map_of_mem->bB,getElem?_set_self->bF,mem_range->bI,length_take->bL,getElem?_range->bW,getElem?_eq_none->b9,set_append_right->cb,getD_eq_getElem?_getD->cD,map_map->cG,length_singleton->cK,range_succ_eq_map->cL,take_of_length_le->cM,drop_eq_getElem_cons->cO,mem_filterMap->cQ,nodup_cons->cU,cons_append->c6,contains_iff_mem->da,all_cons->dj,getElem?_take_of_lt->dm,map_congr_left->dv,lookup->dF,take_append_of_le_length->dH,find?_cons->dR,range_succ->dS,getElem?_toArray->dZ,mem_iff_getElem->d9,mem_of_mem_take->et,drop_zero->eA,not_mem_nil->eK,of_mem_zip->eZ,length_nil->fe,all_append->fg,length_eq_zero_iff->fm,map_nil->fA,drop_eq_nil_of_le->fJ,length_drop->fL,take_length->fN,getElem?_of_mem->fX,nil_append->f7,filterMap_map->gz,nodup_nil->gC,mem_or_eq_of_mem_set->gG,flatten_cons->gN,length_range->gQ,ext_getElem?->gT,length_filterMap_le->g9,any_cons->hJ,getElem?_replicate->ib,pairwise_singleton->ig,set_set->iD,length_pos_of_mem->iG,foldl_cons->iK,take_append_drop->iW,set_getElem_self->iY,length->ka,forIn_nil->kh,filterMap->kj,pairwise_append->kq,replicate_succ->kK,length_pos_iff->kM,nodup_append->lG,drop_sublist->lH,any_eq_true->lV,mem_filter->mr,forIn_cons->mz,set_append->mF,take_zero->nh,map_take->nD,all_map->nJ,all_nil->nQ
open Bool renaming and_eq_true->af,false_eq_true->bp,false_ne_true->bu,or_eq_true->cf,true_and->dr,not_true->eQ,not_eq_true'->fG,and_true->fS,eq_iff_iff->f9,and_eq_true_iff->iZ,or_eq_false_iff->kr,noConfusion->lY,or_false->nv,false_or->ny
open PySem renaming Shared->ag,wpAny_bind->ai,Program->aG,wpAny_pure->aH,mem_of_lookup->aM,mainGlobals->aV,Around->aW,cellsFrom->aX,sizeLine->a9,starEach->be,importedModules->br,wpAny_mono->bD,Arguments->bH,bootBuiltins->bN,FuncData->bS,wpAny_truthy_bool->cx,wpAny_Call_Name_kw->cA,NameKind->cB,wpAny_newObj_type->cJ,compareOp->cS,backTo->cV,treeTable->cZ,assignEach->c8,wpAny_passesOwn->dg,keywordEach->di,behindInMarks->dk,wpAny_call_entry->dw,Paired->dz,wpAny_seqItems->dA,rawInt->dB,wpAny_callSpecial?_slot->dD,codeAmong->dE,sysModules->dI,wpAny_specialOf->dM,wpAny_execs_nil->dN,pushCells_keeps->dQ,wpAny_holding->dW,wpAny_callSpecialIfBoundUnlessNone?_slot->dX,foldedSetIterable->d5,argBest->eJ,binaryOp->eR,attributeBase->eT,bindArgs->eV,IsTupleKey->fh,wpAny_field->fj,sliceBounds->fk,wpAny_pyIter_list->ft,codeAny_mono->fv,backToKw->fw,Keyword->fx,wpAny_tryCatch->fB,swapsWith->fK,pushCells->fM,codeAny->fQ,relabel->fR,callSpecialIfBoundUnlessNone?->fT,sizeLine_eq->fU,letOwnedTupleGo->fY,storeName->gk,newFunctionEnv->gA,holding->gI,InCallC->gM,isTrue->gW,IsPart->gY,wpAny_comprehension_free->gZ,plainId_quiet->g7,ExceptHandler->hV,wpAny_forIn_list->ia,builtinsNs->ii,assign->ik,wpAny_pyNext_range_end->il,wpAny_pyIter_rangeiter->im,name_of_addr->iq,getItem->ir,codeAny_compStart_list->iz,codeAny_builtin->iI,wpAny_updateSeq->iJ,isSubtype_tuple_tuple->iO,wpAny_storeName_local->iP,wpAny_isTrue_Compare1->iQ,codeAny_call_function->iT,wpAny_storeName_cell->i8,wpAny_loadName_local->i9,IsRangeIter->j9,wpAny_letGo->ki,strIterType->km,methodCallForm->ku,PassesOwn->kx,getMethod->kz,callerA->kA,seqItems?->kB,TriplesOk->kC,valueAt->kD,wpAny_loadName_cell->kI,wpAny_standAt->kP,swappedStores->kQ,annotationsOf->kR,wpAny_rule->kU,wpAny_pyIter_tuple->kW,wpAny_pyIter_range->kX,wpAny_call->kZ,eqIsQuiet_byValue->lp,Within->lq,standAt->lr,wpAny_assign_Name->lv,wpAny_sequenceKey->lB,wpAny_typeOf->lC,seqIndex_neg->lD,slot_list_getitem->lE,notedBy->lF,beq_builtin_none->lL,eqIsQuiet->lM,wpAny_isInstance->lN,wpAny_execs_cons->lO,pyNext->lP,Result->lR,noteFrame->lU,wpAny_Dict_empty->lX,wpAny_Try_except->l7,seqIndex_of->l9,BindsTo->mJ,call->mO,reduceHash->mP,wpAny_Name->mQ,Operator->mR,typeIs_str->mV,PlainAttrs->mW,defaultsOf->mZ,qualnameIn->m7,quietNames->m8,KeyKind->nr,lastMarks->nE,setFlight->nG,pyIter->nK,typeOf->nN
open Nat renaming le_refl->ak,le_trans->au,lt_of_lt_of_le->aB,ne_of_lt->aJ,zero_add->bM,lt_irrefl->bO,add_sub_cancel_left->bV,zero_le->cz,not_lt_zero->cN,lt_succ_self->dC,le_succ->dG,add_assoc->dU,le_of_lt->eB,ne_of_gt->eF,lt_trans->fC,le_of_succ_le->gO,lt_succ_of_lt->gP,lt_trichotomy->gS,lt_or_ge->iB,sub_self->iC,add_comm->lI,sub_zero->lJ,le_of_not_lt->lT,min_eq_left->mH,not_lt->mY,le_of_eq->nM,add_zero->nT
open PySem.Heap renaming get?_push_of_some->aq,lt_size->aO,get?_push_size->aY,size_push->cy,get?_update_other->cF,get?_update_self->dY,SameBut->eD,ExtBut->mn
open Option.some renaming inj->az,injEq->lK
open Option renaming map_eq_some_iff->a7,map_some->bz,isSome_iff_exists->cw,isSome->eW,isSome_some->gB,isSome_map->gR,isSome_none->k8,getD_none->lS,bind_some->l8
open False renaming elim->bh
open Ne renaming symm->bE
open PyProof.Rows renaming slot_tuple_getitem->bT,callWith_type1->d4,kindOf->eO,envOfC->fZ,AllBare->gh,subscriptTail_builtinR->iu,entry_tuple_getitem->kJ,Constant_none->kO,args_tuple_getitem->k7,SortSt->lZ,IntsAre->mK,tail_any->mU,pendingOf->nI
open Classical renaming propDecidable->bU,byContradiction->eN
open PySem.W.OpenRow renaming toRowW->bZ
open PySem.Builtin.Str renaming strSliceIndices->b7
open PySem.Str renaming ofString->b8
open PySem.Builtin.Range renaming rangeSize->ci,small->kL,rangeFitsLong->mM
open PySem.W.RowW renaming records->cj
open PySem.Builtin.Tuple renaming tupleHashOf->cr,tupleExact->dq,tupleItemsOf->d8
open Int renaming le_refl->cC,toNat_natCast->d6,le_trans->fF,zero_add->iE,emod_lt_of_pos->lf,natCast_nonneg->lh,le_antisymm->mB,emod_nonneg->mG,le_total->nR
open PySem.Builtin.SmallTypes renaming nextOf->cH
open PySem.F renaming plain_min_loop->c7,slot_tuple_iterator_next->c9,slot_NoneType_hash->d7,slot_tuple_hash->fq,args_tuple_iterator_next_1->f8,entry_tuple_iterator_next->gj,slot_dict_getitem->gE,entry_min_loop->ic,plainAttrs_list->ie,slot_list_append->iU,excBase_ValueError->ko,slot_tuple_eq->mq
open PySem.Builtin.Slice renaming slicePlaces->db,sliceAdjust->eM,sliceApplied->gy,slicePartIndex->my,sliceFields->ni
open Array renaming length_toList->du,toList_append->eP,forIn_toList->gm,getElem?_eq_getElem->gD,getElem?_mapIdx->iV,getElem?_toList->iX,toList->lu
open PySem.SeqAt.EqAt renaming same->eY,of_refs->gq,none_tuple->iL,tuple_none->iM,int_tuple->i0,str_tuple->i3,tuple_int->i6,tuple_str->i7,none_int->kE,none_str->kF,int_none->kG,str_none->kH,int_str->kS,str_int->kT
open PySem.Builtin renaming bitNot->fI,bitOr->gX
open PySem.Paired renaming length->fO,mono->nX,snoc->n9
open PySem.Around renaming under_plainId->fW,frames_deeper->ke,under->lz
open PySem.Txt renaming slice->f6
open PySem.Builtin.Builtins renaming bindParams->gi
open PySem.Calls renaming Name_function_global->gr,callWith_builtin->iy,evalArgs_plain->kg
open PySem.W.OpenLaw renaming wellSaid->gU
open Prod renaming ext->hZ
open PySem.Obj renaming mapSeq->iw,data_mapFields->k9
open PySem.SeqAt renaming EqAt->iA,RcNeAt->nO,RcAt->ol
open PySem.Heap.SameBut renaming update->kN
open PySem.SeqAt.RcAt renaming tuples->ln
open PySem.Code renaming isFrame->lA,frames->n6
open PySem.PassesOwn renaming never->mD
open PySem.Value renaming isStrOf->nq,isInt->nW
open PySem.CmpOf renaming ints_lt->nA
open Function renaming comp->nB
open PyProof.Rows.IsTup renaming new->nF
open PySem.W.Looks renaming andThen->nU,here->oa,now->om,ld->on
open Prod.mk renaming inj->nV
open PySem.Walks renaming range->nY,list->oh
open PySem.IsRange renaming new->nZ
open PySem.Heap.Ns renaming new->n8
open PySem.Heap.IsSliceOf renaming new->og
section
section
section
variable{G:Prop}{A B:Prop}
theorem H5(h:A/\B)(k0:A->B->G):G:=let⟨p0,p1⟩:=h;k0 p0 p1
end
section
variable{G:Prop}{A B:a->Prop}
theorem I5(h:∃x,A x)(k0:∀x,A x->G):G:=let⟨x,p0⟩:=h;k0 x p0
theorem c5(h:∃x,A x/\B x)(k0:∀x,A x->B x->G):G:=let⟨x,p0,p1⟩:=h;k0 x p0 p1
end
theorem Kc{A B C D:a->b->c->d->e->f->g->h->i->j->Prop}(k:A x y z u v w r s t q)(l:B x y z u v w r s t q)(m:C x y z u v w r s t q)(n:D x y z u v w r s t q):∃x y z u v w r s t q,A x y z u v w r s t q/\B x y z u v w r s t q/\C x y z u v w r s t q/\D x y z u v w r s t q:=⟨_,_,_,_,_,_,_,_,_,_,k,l,m,n⟩
variable{G:Prop}
def Aj{A:Prop}{B C:a->Prop}(a:A)x(p1:B x)(p2:C x):A/\∃x,B x/\C x:=⟨a,x,p1,p2⟩
def Al{A:Prop}{B:a->Prop}(a:A)x(p1:B x):A/\∃x,B x:=⟨a,x,p1⟩
def Ar{A B:a->b->Prop}{C:a->b->c->Prop}x y(p0:A x y)(p1:B x y)z(p2:C x y z):∃x y,A x y/\B x y/\∃z,C x y z:=⟨x,y,p0,p1,z,p2⟩
end
section
variable{G:Prop}{A B C D:Prop}
def Ad(a:A)(b:B):A/\B:=⟨a,b⟩
def Ai(a:A)(b:B)(c:C):A/\B/\C:=⟨a,b,c⟩
def Au(a:A)(b:B)(c:C)(d:D):A/\B/\C/\D:=⟨a,b,c,d⟩
end
section
variable{G:Prop}{A B C D E:a->Prop}
def Ac x(p0:A x)(p1:B x):∃x,A x/\B x:=⟨x,p0,p1⟩
def Ae x(p0:A x):∃x,A x:=⟨x,p0⟩
def Ag x(p0:A x)(p1:B x)(p2:C x):∃x,A x/\B x/\C x:=⟨x,p0,p1,p2⟩
def An x(p0:A x)(p1:B x)(p2:C x)(p3:D x)(p4:E x):∃x,A x/\B x/\C x/\D x/\E x:=⟨x,p0,p1,p2,p3,p4⟩
def Ap x(p0:A x)(p1:B x)(p2:C x)(p3:D x):∃x,A x/\B x/\C x/\D x:=⟨x,p0,p1,p2,p3⟩
end
section
variable{G:Prop}{A B C D:a->b->Prop}
def Af x y(p0:A x y)(p1:B x y):∃x y,A x y/\B x y:=⟨x,y,p0,p1⟩
def Ah x y(p0:A x y)(p1:B x y)(p2:C x y):∃x y,A x y/\B x y/\C x y:=⟨x,y,p0,p1,p2⟩
def Am x y(p0:A x y)(p1:B x y)(p2:C x y)(p3:D x y):∃x y,A x y/\B x y/\C x y/\D x y:=⟨x,y,p0,p1,p2,p3⟩
def Ay x y(p0:A x y):∃x y,A x y:=⟨x,y,p0⟩
end
section
variable{G:Prop}{A B C D E F:a->b->c->Prop}
def Ak x y z(p0:A x y z)(p1:B x y z)(p2:C x y z)(p3:D x y z):∃x y z,A x y z/\B x y z/\C x y z/\D x y z:=⟨x,y,z,p0,p1,p2,p3⟩
def Aq x y z(p0:A x y z)(p1:B x y z)(p2:C x y z):∃x y z,A x y z/\B x y z/\C x y z:=⟨x,y,z,p0,p1,p2⟩
def Av x y z(p0:A x y z)(p1:B x y z)(p2:C x y z)(p3:D x y z)(p4:E x y z):∃x y z,A x y z/\B x y z/\C x y z/\D x y z/\E x y z:=⟨x,y,z,p0,p1,p2,p3,p4⟩
def Aw x y z(p0:A x y z)(p1:B x y z)(p2:C x y z)(p3:D x y z)(p4:E x y z)(p5:F x y z):∃x y z,A x y z/\B x y z/\C x y z/\D x y z/\E x y z/\F x y z:=⟨x,y,z,p0,p1,p2,p3,p4,p5⟩
end
section
variable{G:Prop}{A B C D E:a->b->c->d->Prop}
def Ao x y z u(p0:A x y z u)(p1:B x y z u):∃x y z u,A x y z u/\B x y z u:=⟨x,y,z,u,p0,p1⟩
def Ax x y z u(p0:A x y z u)(p1:B x y z u)(p2:C x y z u)(p3:D x y z u)(p4:E x y z u):∃x y z u,A x y z u/\B x y z u/\C x y z u/\D x y z u/\E x y z u:=⟨x,y,z,u,p0,p1,p2,p3,p4⟩
end
variable{G:Prop}
def AO{A B:Prop}{C D:a->Prop}(h:A/\B/\∃x,C x/\D x)(k0:A->B->∀x,C x->D x->G):G:=let⟨p0,p1,x,p2,p3⟩:=h;k0 p0 p1 x p2 p3
def AQ{A:Prop}{B C:a->Prop}(h:A/\∃x,B x/\C x)(k0:A->∀x,B x->C x->G):G:=let⟨p0,x,p1,p2⟩:=h;k0 p0 x p1 p2
def AY{A:Prop}{B C:a->b->Prop}(h:A/\∃x y,B x y/\C x y)(k0:A->∀x y,B x y->C x y->G):G:=let⟨p0,x,y,p1,p2⟩:=h;k0 p0 x y p1 p2
end
section
variable{G:Prop}{A B C D E F:Prop}
def AB(h:A/\B)(k0:A->B->G):G:=let⟨p0,p1⟩:=h;k0 p0 p1
def AI(h:A/\B/\C)(k0:A->B->C->G):G:=let⟨p0,p1,p2⟩:=h;k0 p0 p1 p2
def AU(h:A/\B/\C/\D)(k0:A->B->C->D->G):G:=let⟨p0,p1,p2,p3⟩:=h;k0 p0 p1 p2 p3
def AV(h:A/\B/\C/\D/\E/\F)(k0:A->B->C->D->E->F->G):G:=let⟨p0,p1,p2,p3,p4,p5⟩:=h;k0 p0 p1 p2 p3 p4 p5
def AW(h:A/\B/\C/\D/\E)(k0:A->B->C->D->E->G):G:=let⟨p0,p1,p2,p3,p4⟩:=h;k0 p0 p1 p2 p3 p4
end
section
variable{G:Prop}{A B C D E:a->Prop}
def AE(h:∃x,A x/\B x)(k0:∀x,A x->B x->G):G:=let⟨x,p0,p1⟩:=h;k0 x p0 p1
def AF(h:∃x,A x)(k0:∀x,A x->G):G:=let⟨x,p0⟩:=h;k0 x p0
def AH(h:∃x,A x/\B x/\C x)(k0:∀x,A x->B x->C x->G):G:=let⟨x,p0,p1,p2⟩:=h;k0 x p0 p1 p2
def AN(h:∃x,A x/\B x/\C x/\D x/\E x)(k0:∀x,A x->B x->C x->D x->E x->G):G:=let⟨x,p0,p1,p2,p3,p4⟩:=h;k0 x p0 p1 p2 p3 p4
def Aa(h:∃x,A x/\B x/\C x/\D x)(k0:∀x,A x->B x->C x->D x->G):G:=let⟨x,p0,p1,p2,p3⟩:=h;k0 x p0 p1 p2 p3
end
section
variable{G:Prop}{A B C D:a->b->Prop}
def AD(h:∃x y,A x y/\B x y)(k0:∀x y,A x y->B x y->G):G:=let⟨x,y,p0,p1⟩:=h;k0 x y p0 p1
def AL(h:∃x y,A x y/\B x y/\C x y)(k0:∀x y,A x y->B x y->C x y->G):G:=let⟨x,y,p0,p1,p2⟩:=h;k0 x y p0 p1 p2
def AS(h:∃x y,A x y/\B x y/\C x y/\D x y)(k0:∀x y,A x y->B x y->C x y->D x y->G):G:=let⟨x,y,p0,p1,p2,p3⟩:=h;k0 x y p0 p1 p2 p3
def AZ(h:∃x y,A x y)(k0:∀x y,A x y->G):G:=let⟨x,y,p0⟩:=h;k0 x y p0
end
section
variable{G:Prop}{A B C D:a->b->c->Prop}
def AJ(h:∃x y z,A x y z)(k0:∀x y z,A x y z->G):G:=let⟨x,y,z,p0⟩:=h;k0 x y z p0
def AK(h:∃x y z,A x y z/\B x y z/\C x y z/\D x y z)(k0:∀x y z,A x y z->B x y z->C x y z->D x y z->G):G:=let⟨x,y,z,p0,p1,p2,p3⟩:=h;k0 x y z p0 p1 p2 p3
def AR(h:∃x y z,A x y z/\B x y z/\C x y z)(k0:∀x y z,A x y z->B x y z->C x y z->G):G:=let⟨x,y,z,p0,p1,p2⟩:=h;k0 x y z p0 p1 p2
def AX(h:∃x y z,A x y z/\B x y z)(k0:∀x y z,A x y z->B x y z->G):G:=let⟨x,y,z,p0,p1⟩:=h;k0 x y z p0 p1
end
section
variable{G:Prop}{A B:a->b->c->d->Prop}
def AM(h:∃x y z u,A x y z u/\B x y z u)(k0:∀x y z u,A x y z u->B x y z u->G):G:=let⟨x,y,z,u,p0,p1⟩:=h;k0 x y z u p0 p1
end
section
variable{G:Prop}{A B C D:a->b->c->d->e->Prop}
def AG(h:∃x y z u v,A x y z u v/\B x y z u v/\C x y z u v/\D x y z u v)(k0:∀x y z u v,A x y z u v->B x y z u v->C x y z u v->D x y z u v->G):G:=let⟨x,y,z,u,v,p0,p1,p2,p3⟩:=h;k0 x y z u v p0 p1 p2 p3
end
abbrev yA:=List<|PySem.Addr×PySem.Obj
abbrev yB:=List<|PySem.Str×PySem.Addr
abbrev yC:=PySem.Str->Option PySem.Value
abbrev yD:=List<|Option Nat
abbrev yE:=Array<|Option PySem.Value
abbrev yF:=List<|PySem.Addr×PySem.Addr
abbrev yG:=List PySem.Value
abbrev yH:=List PySem.Str
abbrev yI:=Option PySem.Addr
abbrev yJ:=Array PySem.Value
abbrev yK:=List PySem.Expr
abbrev yL:=List PySem.Stmt
def Fe(_:True:=by first|exact .inl rfl|exact .inr rfl|assumption):=trivial
def vm(_:True:=by decide):=trivial
def QU(_:True:=by first|exact aQ9 _ (by decide) (by decide)|rfl):=trivial
def DF(_:True:=by intro _;rfl):=trivial
def nz(_:True:=by rfl):=trivial
def QT(_:True:=by with_unfolding_all rfl):=trivial
def Zq6(_:True:=by first|exact Or.inl rfl|exact Or.inr<|Or.inl rfl|exact Or.inr<|Or.inr rfl):=trivial
def Zq7(_:True:=by first|exact .inl rfl|exact .inr rfl):=trivial
def Zq8(_:True:=by nofun):=trivial
def J3(_:True:=by decide+kernel):=trivial
open Option renaming some->al,none->aT
open Bool renaming true->bY,false->ce
abbrev dO:=@of_decide_eq_true
abbrev ef:=@if_pos
abbrev gc:=@if_neg
abbrev gv:=@decide_eq_true
abbrev ij:=@decide_eq_false
abbrev iF:=@eq_of_beq
abbrev iN:=@absurd
abbrev iS:=@decide_eq_true_eq
namespace Internal
noncomputable section
namespace L2
open PySem PySem.Spec PyProof.Rows
def zj{l:dL}{q:aG}{loose:yH}{H:PySem.W.Hook}{N:Nat}{d:DefRec}{h:List<|Str×Expr}(left:nj l.row.prog q loose (λs=>dh q [] s&&cX (cj<|bZ l.row) s) H.obs H.val N)(J:PySem.W.defOf q l.row.name=al (d,h))(Y:l.row.prog.theDef l.row.name=al (d.params,d.body,d.scope))(a:PySem.W.kwWritten? d.params.kwonlyargs d.params.kw_defaults=al h)(b:(!l.row.writes||l.row.records.isEmpty)=bY)(k1:l.row.wellSaid=bY)(ok:(PySem.W.chainsOk q&&PySem.W.opensWell l.row.prog&&(PySem.W.frees l.row.toRowW&&l.row.within.isEmpty))=bY)(c:l.row.prog.bare)(g:l.row.toRowW.promised)(call:nk q loose (PySem.W.XL q []) H.says l.row.toRowW d h λf vs=>mO f vs):l.row.Holds:=PySem.W.holds_open left H.of H.keeps (λs e=>PySem.W.xl_of s (iZ.mp e).1) PySem.W.XL.keeps J Y a (λs e=>PySem.W.recFacts_of (iZ.mp e).2) b k1 ok c g call
def MA{loose:yH}{α:Type}{J}{Y:World->α}(c:(bP cZ p w N).map (λs=>((bj q loose (br p.main.body) h bY s).1,(bj q loose (br p.main.body) h bY s).2.1,(bj q loose (br p.main.body) h bY s).2.2.1))=al ((bn q loose).1,(bn q loose).2.1,(bn q loose).2.2.1))(d:(bP cZ p w N).map (λs=>(bj q loose (br p.main.body) h bY s).2.2.2)=al (bn q loose).2.2.2)(h2:(bP cZ p w N).map J=al (Y w)):(bP cZ p w N).map (λs=>((bj q loose (br p.main.body) h bY s),J s))=al ((bn q loose),Y w):=by obtain⟨s,a,b⟩:=a7.mp c;obtain⟨s1,c,e⟩:=a7.mp d;obtain⟨d,d,Z⟩:=a7.mp h2;rw[a]at d c;cases d;cases c;obtain⟨d,c⟩:=nV b;obtain⟨c,b⟩:=nV c;rw[a];exact congrArg al<|hZ (hZ d<|hZ c<|hZ b e) Z
theorem w9{loose:yH}{a:World->α}row (a0:∀w:World,(bP cZ p (w.withFollow row ce) N).map (λs=>((bj q loose (br p.main.body) h bY s).1,(bj q loose (br p.main.body) h bY s).2.1,(bj q loose (br p.main.body) h bY s).2.2.1))=al ((bn q loose).1,(bn q loose).2.1,(bn q loose).2.2.1))(a1:∀w:World,(bP cZ p (w.withFollow row ce) N).map (λs=>(bj q loose (br p.main.body) h bY s).2.2.2)=al (bn q loose).2.2.2)(Y:∀w:World,(bP cZ p (w.withFollow row bY) N).map (λs=>((bj q loose (br p.main.body) h bY s).1,(bj q loose (br p.main.body) h bY s).2.1,(bj q loose (br p.main.body) h bY s).2.2.1))=al ((bn q loose).1,(bn q loose).2.1,(bn q loose).2.2.1))(b1:∀w:World,(bP cZ p (w.withFollow row bY) N).map (λs=>(bj q loose (br p.main.body) h bY s).2.2.2)=al (bn q loose).2.2.2)(a2:∀w:World,(bP cZ p (w.withFollow row ce) N).map J=al (a<|w.withFollow row ce))(b2:∀w:World,(bP cZ p (w.withFollow row bY) N).map J=al (a<|w.withFollow row bY)):nj p q loose h J a N:=λw=>by
 have e:=PySem.World.withFollow_self w row;cases a:w.params.followText row<;>rw[a]at e;.have:=MA (a0 w) (a1 w) (a2 w);rwa[e]at this
 .have:=MA (Y w) (b1 w) (b2 w);rwa[e]at this
end L2
end
noncomputable section
namespace My
open PySem L2
noncomputable def Q2:Stmt->Bool|.Assign [.Name x _] _ _=>decide<|x=("__name__")|_=>ce
def vq:aG:={PySem.Challenge.pw_leasttolls_k36_whole_words_have_signs_of with main:={(PySem.Challenge.pw_leasttolls_k36_whole_words_have_signs_of).main with body:=(PySem.Challenge.pw_leasttolls_k36_whole_words_have_signs_of).main.body.filter λs=>!Q2 s}}
set_option maxRecDepth 100000 in set_option maxHeartbeats 0 in theorem Eg:∀w:World,(bP cZ PySem.Challenge.rw_leasttolls_k36_whole_words_have_signs_of.row.prog (w.withFollow "special-get-raises" ce) 6300).map (λs=>((bj vq ["ClosedSet","NoMaking"] (br PySem.Challenge.rw_leasttolls_k36_whole_words_have_signs_of.row.prog.main.body) (λs=>dh vq [] s&&cX (cj<|bZ PySem.Challenge.rw_leasttolls_k36_whole_words_have_signs_of.row) s) bY s).1,(bj vq ["ClosedSet","NoMaking"] (br PySem.Challenge.rw_leasttolls_k36_whole_words_have_signs_of.row.prog.main.body) (λs=>dh vq [] s&&cX (cj<|bZ PySem.Challenge.rw_leasttolls_k36_whole_words_have_signs_of.row) s) bY s).2.1,(bj vq ["ClosedSet","NoMaking"] (br PySem.Challenge.rw_leasttolls_k36_whole_words_have_signs_of.row.prog.main.body) (λs=>dh vq [] s&&cX (cj<|bZ PySem.Challenge.rw_leasttolls_k36_whole_words_have_signs_of.row) s) bY s).2.2.1))=al ((bn vq ["ClosedSet","NoMaking"]).1,(bn vq ["ClosedSet","NoMaking"]).2.1,(bn vq ["ClosedSet","NoMaking"]).2.2.1):=λw=>by kernel_rfl
set_option maxRecDepth 100000 in set_option maxHeartbeats 0 in theorem Ef:∀w:World,(bP cZ PySem.Challenge.rw_leasttolls_k36_whole_words_have_signs_of.row.prog (w.withFollow "special-get-raises" ce) 6300).map (λs=>(bj vq ["ClosedSet","NoMaking"] (br PySem.Challenge.rw_leasttolls_k36_whole_words_have_signs_of.row.prog.main.body) (λs=>dh vq [] s&&cX (cj<|bZ PySem.Challenge.rw_leasttolls_k36_whole_words_have_signs_of.row) s) bY s).2.2.2)=al (bn vq ["ClosedSet","NoMaking"]).2.2.2:=λw=>by kernel_rfl
set_option maxRecDepth 100000 in set_option maxHeartbeats 0 in theorem Ed:∀w:World,(bP cZ PySem.Challenge.rw_leasttolls_k36_whole_words_have_signs_of.row.prog (w.withFollow "special-get-raises" bY) 6300).map (λs=>((bj vq ["ClosedSet","NoMaking"] (br PySem.Challenge.rw_leasttolls_k36_whole_words_have_signs_of.row.prog.main.body) (λs=>dh vq [] s&&cX (cj<|bZ PySem.Challenge.rw_leasttolls_k36_whole_words_have_signs_of.row) s) bY s).1,(bj vq ["ClosedSet","NoMaking"] (br PySem.Challenge.rw_leasttolls_k36_whole_words_have_signs_of.row.prog.main.body) (λs=>dh vq [] s&&cX (cj<|bZ PySem.Challenge.rw_leasttolls_k36_whole_words_have_signs_of.row) s) bY s).2.1,(bj vq ["ClosedSet","NoMaking"] (br PySem.Challenge.rw_leasttolls_k36_whole_words_have_signs_of.row.prog.main.body) (λs=>dh vq [] s&&cX (cj<|bZ PySem.Challenge.rw_leasttolls_k36_whole_words_have_signs_of.row) s) bY s).2.2.1))=al ((bn vq ["ClosedSet","NoMaking"]).1,(bn vq ["ClosedSet","NoMaking"]).2.1,(bn vq ["ClosedSet","NoMaking"]).2.2.1):=λw=>by kernel_rfl
set_option maxRecDepth 100000 in set_option maxHeartbeats 0 in theorem Ec:∀w:World,(bP cZ PySem.Challenge.rw_leasttolls_k36_whole_words_have_signs_of.row.prog (w.withFollow "special-get-raises" bY) 6300).map (λs=>(bj vq ["ClosedSet","NoMaking"] (br PySem.Challenge.rw_leasttolls_k36_whole_words_have_signs_of.row.prog.main.body) (λs=>dh vq [] s&&cX (cj<|bZ PySem.Challenge.rw_leasttolls_k36_whole_words_have_signs_of.row) s) bY s).2.2.2)=al (bn vq ["ClosedSet","NoMaking"]).2.2.2:=λw=>by kernel_rfl
inductive IsL:dL->Prop|mk:IsL PySem.Challenge.rw_leasttolls_k36_whole_words_have_signs_of
def T2(h:IsL l):PySem.Challenge.rw_leasttolls_k36_whole_words_have_signs_of=l:=by cases h;rfl
noncomputable def Kz:{l:dL//IsL l}:=by refine⟨?p,?h⟩;case h=>
  have e:PySem.Challenge.rw_leasttolls_k36_whole_words_have_signs_of=?p:=by conv=>lhs;reduce
  exact e▸IsL.mk
def QZ:gU Kz.1=true:=by k_qdec
def ws:gU PySem.Challenge.rw_leasttolls_k36_whole_words_have_signs_of=true:=by rw[T2 Kz.2];exact QZ
end My
end
section
open PySem PySem.W PyProof.Rows
set_option hygiene false in
local macro_rules | `(tactic| o_head $H) => `(tactic| (refine L2.zj (q := My.vq) (loose := ["ClosedSet", "NoMaking"]) (H := $H) (N := 6300) (L2.w9 "special-get-raises" My.Eg My.Ef My.Ed My.Ec ?my2 ?my5) (by rfl) (by rfl) (by rfl) rfl (by assumption) (by decide +kernel) ⟨rfl, rfl, rfl, rfl, rfl, by decide +kernel⟩ ?_ ?_; (case my2 => exact myl2); (case my5 => exact myl5)))
set_option maxRecDepth 100000 in set_option maxHeartbeats 0 in noncomputable def My.He:(L2:Prop)×'(L5:Prop)×'{G:Prop//L2->L5->G->PySem.Challenge.rw_leasttolls_k36_whole_words_have_signs_of.Holds}:=by refine⟨?L2,?L5,?G,?h⟩;case h=>intro myl2 myl5 g;w_on;refine holds_law My.ws λa=>?_;k_head;(focus w_witness2);exact g
set_option maxRecDepth 100000 in set_option maxHeartbeats 0 in theorem My.Ee:My.He.1:=λw=>by kernel_rfl
set_option maxRecDepth 100000 in set_option maxHeartbeats 0 in theorem My.Eb:My.He.2.1:=λw=>by kernel_rfl
end
noncomputable section
namespace L2
open PySem PySem.Spec PyProof.Rows
abbrev Key:=Sum Int Str
noncomputable def CJ:Key->Value->Bool|.inl k,v=>nW k v|.inr x,v=>nq x v
noncomputable def KR(w:World):Key->Int|.inl k=>hashInt k|.inr x=>hashStr w x
def zt:∀{k}{v},CJ k v=bY->(∃i t,k=Sum.inl i/\v=Value.int i t)\/(∃x t,k=Sum.inr x/\v=Value.str x t)|.inl i,v,h=>by obtain⟨t,e⟩:=Value.isInt_shape h;exact .inl<|Af i t rfl e|.inr x,v,h=>by obtain⟨t,e⟩:=Value.isStrOf_shape h;exact .inr<|Af x t rfl e
def WC i t:CJ (.inl i) (.int i t)=true:=by simp[CJ,nW]
def Wo x t:CJ (.inr x) (.str x t)=true:=by simp[CJ,nq]
def T9 a b:decide ((Sum.inl a:Key)=Sum.inl b)=(a==b):=by
 by_cases e:a=b;.subst e;simp
 .rw[ij<|λq=>e<|Sum.inl.inj q];exact(beq_eq_false_iff_ne.mpr e).symm
def SN a b:decide ((Sum.inr a:Key)=Sum.inr b)=decide (a=b):=by
 by_cases e:a=b;.subst e;simp
 .rw[ij<|λq=>e<|Sum.inr.inj q,ij e]
def SG a b:decide ((Sum.inl a:Key)=Sum.inr b)=false:=ij<|λq=>nomatch q
def T4 a b:decide ((Sum.inr a:Key)=Sum.inl b)=false:=ij<|λq=>nomatch q
def qc prog w:nr prog w Key where
 is:=CJ;hash:=KR w;inj:=λv a b a b=>by
  rcases zt a with⟨i,t,rfl,rfl⟩|⟨x,t,rfl,rfl⟩
  .rcases zt b with⟨j,u,rfl,e⟩|⟨y,u,rfl,e⟩;.injection e with a _;rw[a]
   .exact nomatch e
  .rcases zt b with⟨j,u,rfl,e⟩|⟨y,u,rfl,e⟩;.exact nomatch e
   .injection e with a _;rw[a]
 byValue:=λk v h=>by rcases zt h with⟨i,t,rfl,rfl⟩|⟨x,t,rfl,rfl⟩<;>rfl
 pyHash:=λa h=>by
  rcases zt a with⟨i,t,rfl,rfl⟩|⟨x,t,rfl,rfl⟩;.exact wpAny_pyHash_int h
  .exact wpAny_pyHash_str h
 eqBool:=λb a h=>by
  rcases zt b with⟨i,t,rfl,rfl⟩|⟨x,t,rfl,rfl⟩
  .rcases zt a with⟨j,u,rfl,rfl⟩|⟨y,u,rfl,rfl⟩;.rw[T9]at h;exact wpAny_eqBool_int h
   .rw[SG]at h;exact kS i t y u _ _ _ _ h
  .rcases zt a with⟨j,u,rfl,rfl⟩|⟨y,u,rfl,rfl⟩;.rw[T4]at h;exact kT x t j u _ _ _ _ h
   .rw[SN]at h;exact wpAny_eqBool_str h
 «strs»:=λk x t v h=>by
  rcases zt h with⟨i,u,rfl,e⟩|⟨y,u,rfl,e⟩;.exact nomatch e
  .injection e with a _;subst a;cases v<;>rfl
def aM2 prog w i t:(qc prog w).is (.inl i) (.int i t)=true:=WC i t
def aO4 prog w x t:(qc prog w).is (.inr x) (.str x t)=true:=Wo x t
abbrev FK:=Option Key
def FI:FK->Value->Bool
 |none,v=>match v with|.none=>bY|_=>ce
 |some k,v=>CJ k v
def fH(w:World):FK->Int|none=>0xFCA86420|some k=>KR w k
def qj(h:FI aT v=bY):v=.none:=by cases v with|none=>rfl|_=>exact nomatch h
def V6(h:Q 0xFCA86420 {s with toks:=s.toks+1}):wpAny (model P w) A (PySem.pyHash .none) Q E s:=by
 have hT:s.TypeIs .none "NoneType":=rfl;refine ai<|wpAny_cRoomFor_byValue rfl ?_;refine ai<|dM hT d7.lookup ?_;rw[gc<|by rw[lL];exact bu];refine ai<|dM hT d7.lookup ?_;refine ai<|dX hT d7<|dw d7 hT F.entry_NoneType_hash
   (wpAny_ret_mkInt ?_) (F.args_NoneType_hash_1 _);show wpAny _ _ (if _ then _ else _) Q E _;rw[ef<|by decide];exact aH h
def jH prog w:nr prog w FK where
 is:=FI;hash:=fH w;inj:=λv a b c d=>by cases a with
  |none=>cases qj c;cases b with|none=>rfl|some k=>rcases zt d with⟨_,_,_,e⟩|⟨_,_,_,e⟩<;>exact nomatch e
  |some k=>cases b with|none=>cases qj d;rcases zt c with⟨_,_,_,e⟩|⟨_,_,_,e⟩<;>exact nomatch e|some j=>exact congrArg al<|(qc prog w).inj v k j c d
 byValue:=λk v h=>by cases k with|none=>cases qj h;rfl|some k=>exact(qc prog w).byValue k v h
 pyHash:=λ{A E s k v Q}c h=>by cases k with|none=>cases qj c;exact V6 h|some k=>exact(qc prog w).pyHash c h
 eqBool:=λ{A E s a b u v Q}d c h=>by cases a with
  |none=>cases qj d;cases b with|none=>cases qj c;exact eY _ prog w E Q h|some k=>
    rcases zt c with⟨i,t,rfl,rfl⟩|⟨x,t,rfl,rfl⟩;.exact kE i t _ _ _ _ h
    .exact kF x t _ _ _ _ h
  |some k=>cases b with|none=>
    cases qj c;rcases zt d with⟨i,t,rfl,rfl⟩|⟨x,t,rfl,rfl⟩;.exact kG i t _ _ _ _ h
    .exact kH x t _ _ _ _ h|some j=>refine(qc prog w).eqBool d c ?_;simp_all
 «strs»:=λk x t v h=>by cases k with|none=>exact nomatch qj h|some k=>exact(qc prog w).strs k x t v h
abbrev NI:=Sum FK<|List FK
section
variable(P:aG)(w:World)
def uE(h:Heap):NI->Value->Prop|.inl f,v=>FI f v=bY|.inr l,v=>∃b,v=.ref b/\fh (jH P w) h l b
def By(h:Heap)(c:List NI)(a:Addr):Prop:=∃o b n,h.get? a=al o/\o.cls=.type "tuple"/\o.data=.seq b n/\dz (uE P w h) c b.toList
def CB:NI->Int|.inl f=>fH w f|.inr l=>tupleKeyHash (jH P w) l
noncomputable def GL:NI->Nat|.inl f=>1|.inr l=>l.length+1
def jV:List NI->Nat|[]=>0|k::a=>GL k+jV a
end
section
variable{P:aG}{w:World}{h h':Heap}
theorem uE.inj(c:uE P w h x v)(a:uE P w h y v):x=y:=by cases x with
 |inl f=>cases y with|inl g=>exact congrArg Sum.inl<|(jH P w).inj v f g c a|inr l=>obtain⟨b,rfl,_⟩:=a;exact iN ((jH P w).byValue f _ c) (by nofun)
 |inr l=>obtain⟨b,rfl,b⟩:=c;cases y with|inl g=>exact iN ((jH P w).byValue g _ a) (by nofun)|inr m=>refine AE a λc e a=>?_;cases e;exact congrArg Sum.inr<|b.inj a
theorem uE.wI:∀{x y}{vs:yG},dz (uE P w h) x vs->dz (uE P w h) y vs->x=y|_,_,_,.nil,.nil=>rfl|_,_,_,.cons a p,.cons b q=>by rw[a.inj b,uE.wI p q]
def By.inj(b:By P w h x a)(c:By P w h y a):x=y:=by refine AK b λo i n e _ d p=>AK c λZ a Y a _ b J=>?_;cases e▸a;cases d▸b;exact uE.wI p J
def uE.keep(k:∀b l,fh (jH P w) h l b->fh (jH P w) h' l b)(a:uE P w h x v):uE P w h' x v:=by cases x with|inl f=>exact a|inr l=>exact AE a λb e p=>⟨b,e,k _ _ p⟩
def Yd(i:A.units+1<cLine)(hk:By P w s.heap k a)(h:Q (mP<|cr<|k.map<|CB P w) {s with toks:=s.toks+(jV k+1)}):wpAny (model P w) A (PySem.pyHash<|.ref a) Q E s:=by
 refine AK hk λo b n e c d p=>have hT:s.TypeIs (.ref a) "tuple":=⟨o,e,c⟩;ai<|wpAny_cRoomFor (by lia) ?_;refine ai<|dM hT fq.lookup ?_;rw[gc<|by rw[lL];nofun];refine ai<|dM hT fq.lookup ?_;refine ai<|dX hT fq<|dw fq hT F.entry_tuple_hash ?_<|F.args_tuple_hash_1 _;show wpAny _ _ (d8 (.ref a)>>=_) _ _ s;refine ai<|wpAny_tupleItemsOf e d<|ai ?_;rw[<-gm];refine ia _
  (λrest(b)d=>∃q r,k=q++r/\dz (uE P w s.heap) r rest/\b.toList=q.map (CB P w)/\d={s with toks:=s.toks+jV q}) _ ?_ ?_ _ _<|Am [] k rfl p rfl rfl;.rintro x rest b d⟨q,r,rfl,pr,hb,rfl⟩;cases pr with|@cons u _ a _ e t=>
   have J:∀q:List NI,jV (q++[u])=jV q+GL u:=λq=>by induction q with|nil=>simp[jV]|cons c q c=>rw[c6,jV,jV,c];lia
   refine ai ?_;cases u with
   |inl f=>refine(jH P w).pyHash e ?_;first|exact aH<|Am (q++[.inl f]) a (by simp) t (by simp[];rfl) (by rw[J];simp[dU])|exact ai<|aH<|aH<|Am (q++[.inl f]) a (by simp) t (by simp[hb];rfl) (by rw[J];simp[GL,dU])
   |inr l=>obtain⟨Y,rfl,c⟩:=e;refine wpAny_pyHash_tuple (i) c ?_;first|exact aH<|Am (q++[.inr l]) a (by simp) t (by simp[];rfl) (by rw[J];simp[dU])|exact ai<|aH<|aH<|Am (q++[.inr l]) a (by simp) t (by simp[hb];rfl) (by rw[J];simp[GL,dU])
 .rintro b d⟨q,r,rfl,pr,hb,rfl⟩;cases pr;rw[aZ]at h;show wpAny _ _ (retInt<|cr b.toList) _ _ _;rw[hb];refine wpAny_ret_mkInt ?_;show wpAny _ _ (if(decide (-(2:Int)^63<=cr (q.map<|CB P w))&&decide (cr (q.map<|CB P w)<2^63))=bY then _ else _) Q E _;unfold mP at h;by_cases a:(decide (-(2:Int)^63<=cr (q.map<|CB P w))&&decide (cr (q.map<|CB P w)<2^63))=bY;.rw[ef a]at h⊢;exact aH<|by simpa[dU]using h
  .rw[gc a]at h⊢;exact ai<|kU<|aH<|by simpa[dU]using h
def PL(x:fh (jH P w) h l b):∃a,h.IsTuple b a:=let⟨o,a,n,e,c,d,_⟩:=x;⟨a,o,e,c,n,d⟩
theorem ItemsAre.cg:∀{l}{vs:yG},ItemsAre (jH P w) l vs->ItemsAre (jH J w') l vs|_,_,.nil=>.nil|_,_,.cons h t=>.cons (h) (ItemsAre.cg t)
theorem fh.cg{J:aG}{w':World}{l:List FK}{b:Addr}:fh (jH P w) h l b->fh (jH J w') h l b:=λ⟨o,i,n,e,c,d,p⟩=>⟨o,i,n,e,c,d,ItemsAre.cg p⟩
theorem uE.cg(a:uE P w h x v):uE J w' h x v:=by cases x with|inl f=>exact a|inr l=>exact AE a λb e p=>⟨b,e,fh.cg p⟩
def RR(a:A.units<cLine)(e:uE P w s.heap x u)(d:uE P w s.heap y v)(h:Q (decide<|x=y) s):wpAny (model P w) A (PySem.eqBool u v) Q E s:=by cases x with
 |inl f=>cases y with|inl g=>refine(jH P w).eqBool e d ?_;simp_all|inr l=>obtain⟨b,rfl,g⟩:=d;obtain⟨j,c⟩:=PL g;cases f with|none=>cases qj e;exact iL c a _ _ _ _ h|some k=>
    rcases zt e with⟨i,t,rfl,rfl⟩|⟨z,t,rfl,rfl⟩;.exact i0 i t c a _ _ _ _ h
    .exact i3 z t c a _ _ _ _ h
 |inr l=>obtain⟨b,rfl,g⟩:=e;cases y with
  |inl f=>obtain⟨j,c⟩:=PL g;cases f with|none=>cases qj d;exact iM c a _ _ _ _ h|some k=>
    rcases zt d with⟨i,t,rfl,rfl⟩|⟨z,t,rfl,rfl⟩;.exact i6 i t c a _ _ _ _ h
    .exact i7 z t c a _ _ _ _ h|inr m=>obtain⟨c,rfl,b⟩:=d;refine wpAny_eqBool_tuple a g b ?_;simp_all
theorem Ma:∀(x y:List NI),((av<|min x.length y.length).all (λj=>decide<|x[j]?=y[j]?)&&x.length==y.length)=decide (x=y)
 |[],[]=>rfl|[],_::_=>by simp|_::_,[]=>by simp|a::x,b::y=>by
  rw[(by simp_all:min (a::x).length (b::y).length=min x.length y.length+1),cL,dj,nJ];by_cases e:a=b
  .subst e;have:decide (a::x=a::y)=decide (x=y):=by simp
   rw[this,<-(Ma x y)];simp[Function.comp_def]
  .have:decide ((a::x)[0]?=(b::y)[0]?)=false:=by simp[e]
   rw[this];simp[e]
theorem IM:∀{b}{J},dz F b J->∀j(h:j<J.length),∃a,b[j]?=al a/\F a J[j]|_,_,.nil,j,h=>iN h<|cN _|_,_,.cons r t,0,h=>(Ac _ rfl r)|_,_,.cons r t,j+1,h=>IM t j<|Nat.lt_of_succ_lt_succ h
def RL(k:A.units+1<cLine)(c:By P w s.heap x a)(g:By P w s.heap y b)(h:Q (decide<|x=y) s):wpAny (model P w) A (PySem.eqBool (.ref a) (.ref b)) Q E s:=by
 by_cases f:a=b;.subst f;cases c.inj g;rw[gv rfl]at h;exact eY _ _ _ _ _ h
 .refine AK c λo i n e c d p=>AK g λo' a b g l m J=>?_;have q:x.length=i.size:=fO p;have Z:y.length=a.size:=fO J;have key:=ln (A:=A) (e:=λj=>decide<|x[j]?=y[j]?) ⟨o,e,c,n,d⟩ ⟨o',g,l,b,m⟩ (by lia) λj Y h2 prog a a a a=>by refine AE (IM p j<|by simp_all) λu a a=>AE (IM J j<|by simp_all) λv b b=>RR (k) (uE.cg<|by simpa using a) (uE.cg<|by simpa using b) ?_;simp_all
  rw[<-q,<-Z,Ma]at key;exact gq f key P w E Q h
def aW5(a:uE P w s.heap x v)(h:Q bY s):wpAny (model P w) A (lM 7 v) Q E s:=by cases x with|inl f=>exact lp _ ((jH P w).byValue f _ a)▸aH h|inr l=>
  obtain⟨b,rfl,o,c,n,e,c,d,p⟩:=a;have hT:s.TypeIs (.ref b) "tuple":=⟨o,e,c⟩;unfold lM;refine ai<|dM hT mq.lookup ?_;refine ai<|lN hT iO ?_;simp only[if_false];refine ai<|dA e d<|ai ?_;rw[<-gm];refine ia _ (λrest r a=>r.1=aT/\a=s/\∀v∈rest,carriedByValue v=bY) _ ?_ ?_ _ _<|Ai rfl rfl p.byValue;.rintro v rest r a⟨hr,rfl,J⟩;rw[lp _<|J v ao];refine ai<|aH ?_;simp only[eQ,if_false];exact aH<|Ai rfl rfl<|λu q=>J u<|ah _ q
  .rintro⟨r1,Uu⟩a⟨hr,rfl,_⟩;simp only at hr;exact hr▸aH h
def Vc(b:By P w s.heap k a)(h:Q bY s):wpAny (model P w) A (lM 8<|.ref a) Q E s:=by
 refine AK b λo b n e c d p=>?_;have hT:s.TypeIs (.ref a) "tuple":=⟨o,e,c⟩;unfold lM;refine ai<|dM hT mq.lookup ?_;refine ai<|lN hT iO ?_;simp only[if_false];refine ai<|dA e d<|ai ?_;rw[<-gm];refine ia _ (λrest r a=>r.1=aT/\a=s/\∃b,dz (uE P w s.heap) b rest) _ ?_ ?_ _ _ ⟨rfl,rfl,k,p⟩;.rintro v rest r a⟨hr,rfl,b,J⟩;cases J with|cons b t=>refine ai<|aW5 b ?_;simp only[eQ,if_false];exact aH ⟨rfl,rfl,_,t⟩
 .rintro⟨r1,Uu⟩a⟨hr,rfl,_⟩;simp only at hr;exact hr▸aH h
end
def E6 P w:HeapKind P w<|List NI where
 is:=By P w;hash:=λk=>mP<|cr<|k.map<|CB P w;draws:=λk=>jV k+1;room:=λA=>A.units+1<cLine;inj:=λf g=>f.inj g;keeps:=λ{h h' k a d o es b}x f g h=>by
  refine AK x λo' i n e c q p=>?_;have ne:a≠d:=by rintro rfl;cases e▸f;cases g▸q
  exact⟨o',i,n,(h.2 a ne).trans e,c,q,nX (λx v z=>uE.keep (λb l t=>t.keeps f g h) z) p⟩
 pyHash:=λa b h=>Yd a b h;eqBool:=λa f g h=>RL a f g h;quiet:=λb h=>Vc b h
set_option genCtorIdx true in set_option genInjectivity true in inductive V where|N|T(b:Bool)|int(i:Int)|str(x:Str)|Er(b:Array UInt8)|Bv(b:UInt64)|ref(a:Addr)|ty(n:String)deriving DecidableEq
noncomputable def RelV:V->Value->Prop|.N,u=>u=Value.none|.T b,u=>u=Value.bool b|.int i,u=>∃t,u=Value.int i t|.str x,u=>∃t,u=Value.str x t|.Er b,u=>∃t,u=Value.bytes b t|.Bv b,u=>∃t,u=Value.float b t|.ref a,u=>u=Value.ref a|.ty n,u=>u=Value.type n
abbrev Vals:List V->List Value->Prop:=dz RelV
theorem Vals.length{a:yG}(r:Vals h a):h.length=a.length:=fO r
theorem Vals.get:∀{h}{a:yG}{i:Nat}{x},Vals h a->h[i]?=al x->∃u,a[i]?=al u/\RelV x u|_,_,_,_,.nil,e=>by simp at e|_,_,0,_,.cons r _,e=>by simp at e;exact e▸(Ac _ rfl r)|_,_,i+1,x,.cons _ t,e=>AE (Vals.get t<|by simpa using e) λu a J=>Ac u (by simpa using a) J
theorem Vals.set(r:RelV x u):∀{h}{a:yG}i,Vals h a->Vals (h.set i x) (a.set i u)|_,_,_,.nil=>.nil|_,_,0,.cons _ t=>.cons r t|_,_,i+1,.cons q t=>.cons q<|Vals.set r i t
theorem Vals.append:∀{h a}{b ws:yG},Vals h b->Vals a ws->Vals (h++a) (b++ws)|_,_,_,_,.nil,s=>s|_,_,_,_,.cons r t,s=>.cons r<|Vals.append t s
theorem Vals.take:∀{h}{a:yG}n,Vals h a->Vals (h.take n) (a.take n)|_,_,0,_=>.nil|_,_,_+1,.nil=>.nil|_,_,n+1,.cons r t=>.cons r<|Vals.take n t
theorem Vals.drop:∀{h}{a:yG}n,Vals h a->Vals (h.drop n) (a.drop n)|_,_,0,r=>r|_,_,_+1,.nil=>.nil|_,_,n+1,.cons _ t=>Vals.drop n t
def vV:Option V->Option Value->Prop|some v,al u=>RelV v u|none,aT=>True|_,_=>False
def KV:List (κ×V)->List (κ×Value)->Prop:=dz λ(p)(q)=>p.1=q.1/\RelV p.2 q.2
noncomputable def kV:Key->V|.inl i=>.int i|.inr x=>.str x
inductive HO where|J(xs:List V)|tp(xs:List V)|dK(kvs:List<|Key×V)|dT(kvs:List<|List NI×V)|set(S:Int->Bool)(n:Nat)|ins(Cc dx:Addr)(fs:List<|Str×V)|own(x:Addr)|xd(fs:List<|Str×V)|met(f x:Addr)|Fw(lo hi:Int)|sj(o:Obj)(u:HO)|tbl(ps:yJ)|ext(C:Heap->Prop)
noncomputable abbrev HO.ctorIdx(x:HO):Nat:=HO.casesOn x (λ_=>0) (λ_=>1) (λ_=>2) (λ_=>3) (λ_ _=>4) (λ_ _ _=>5) (λ_=>6) (λ_=>7) (λ_ _=>8) (λ_ _=>9) (λ_ _=>10) (λ_=>11) (λ_=>12)
abbrev Hp:=Addr->Option HO
def fV:FK->V|none=>.N|some k=>kV k
def DH(H:Hp):NI->V->Prop|.inl f,v=>v=fV f|.inr l,v=>∃c,v=.ref c/\H c=al (.tp<|l.map fV)
def NK(H:Hp)(k:List NI)(b:Addr):Prop:=∃a,H b=al (.tp a)/\dz (DH H) k a
def DH.mono(a:∀b J,H b=al (.tp J)->H' b=al (.tp J))(h:DH H k v):DH H' k v:=by cases k with|inl f=>exact h|inr l=>exact AE h λc e q=>⟨c,e,a _ _ q⟩
theorem NK.mono(a:∀b J,H b=al (.tp J)->H' b=al (.tp J))(h:NK H k b):NK H' k b:=let⟨J,e,p⟩:=h;⟨J,a _ _ e,nX (λ_ _ z=>z.mono a) p⟩
noncomputable def upd(H:Hp)(a:Addr)(o:HO):Hp:=λb=>if b=a then al o else H b
def zh:upd H a o a=al o:=by unfold upd;rw[ef rfl]
def zd(h:b≠a):upd H a o b=H b:=by unfold upd;rw[gc h]
def Rv{H:Hp}(h:H a=al o)(h':H b=al u)(d:o≠u):a≠b:=λe=>by subst e;exact d<|az<|h▸h'
def zB{H:Hp}(h:H a=al o)(h':H b=aT):a≠b:=by lia
section
variable(P:aG)(w:World)
def tQ(H:Hp)(h:Heap)(a:Addr):HO->Prop|.J c=>c.length<=a9/\∃(b:yG)(n:Nat),Vals c b/\h.get? a=al {cls:=.type "list",data:=.seq b.toArray n}|.tp c=>c.length<=a9/\∃b,Vals c b/\IsTup h a b.toArray|.dK kvs=>kvs.length<=a9/\(a==dI)=ce/\∃vs,KV kvs vs/\h.DictOf (qc P w) a vs|.dT kvs=>kvs.length<=a9/\(a==dI)=ce/\∃c,dz (λ(p)(q)=>p.1=q.1/\NK H p.1 q.2.1/\RelV p.2 q.2.2) kvs c/\∃o es b,h.get? a=al o/\o.ExactDict/\o.data=.dict es b/\es.toList=c.map (entryOfKey<|E6 P w)/\(c.map (·.1)).Nodup|.set S n=>h.SetOf (intKind P w) a S n|.ins Cc c fs=>H c=al (.own a)/\fs.length<=1000/\c≠a/\h.get? a=al (cT Cc c)/\∃b,h.Ns1 c b/\(∀f,vV (fs.lookup f) (b f))/\lq b (fs.map (·.1))|.own _=>∃o,h.get? a=al o|.xd fs=>∃b,h.Ns1 a b/\∀f,vV (fs.lookup f) (b f)|.Fw b hi=>∃t u v,h.get? a=al {cls:=.type "range",data:=.fields #[.int b t,.int hi u,.int 1 v]}|.sj o u=>h.get? a=al o/\tQ H h a u|.tbl ps=>h.get? a=al {cls:=.none,data:=.fields ps}|.met f x=>h.get? a=al (gH (.ref f) (.ref x))|.ext C=>C h/\(∃o,h.get? a=al o)/\∀b h2:Heap,C b->(∀o,b.get? a=al o->h2.get? a=al o)->C h2
def q8(H:Hp)(h:Heap):Prop:=∀a o,H a=al o->tQ P w H h a o
end
section
variable{P:aG}{w:World}{H H':Hp}{h h':Heap}{a:Addr}{o:HO}
theorem tQ.lt(x:tQ P w H h a o):a<h.objs.size:=by cases o with|J a=>exact AY x λ_ _ _ _ e=>aO e|tp a=>exact AQ x λ_ _ _ p=>p.lt|dK kvs=>exact AO x λ_ _ _ _ Zz=>AX Zz λo _ _ e _=>aO e|dT kvs=>exact AO x λ_ _ _ _ Zz=>AX Zz λo _ _ e _=>aO e|set S n=>exact AM x λo _ _ _ e _=>aO e|ins Cc a fs=>exact AW x λ_ _ _ e _=>aO e|own y=>exact AF x λ_ e=>aO e|xd fs=>obtain⟨_,⟨_,_,_,e,_⟩,_⟩:=x;exact aO e|Fw a hi=>exact AJ x λ_ _ _ e=>aO e|sj a u=>exact AB x λe _=>aO e|tbl ps=>exact aO<|x|met f y=>exact aO<|x|ext C=>obtain⟨_,⟨_,e⟩,_⟩:=x;exact aO e
theorem dz.B0:∀{J}{h},dz F J h->(∀a b,F a b->G a b)->dz G J h|_,_,.nil,_=>.nil|_,_,.cons r t,f=>.cons (f _ _ r) (dz.B0 t f)
def tQ.t8(x:tQ P w H h a o)(k:∀b u,(b=a\/H b=al (.own a))->h.get? b=al u->h'.get? b=al u)(h:∀b,H b=al (.own a)->H' b=al (.own a))(d:∀b J,H b=al (.tp J)->H' b=al (.tp J)):tQ P w H' h' a o:=by induction o with|J J=>exact AY x λz b n r e=>⟨z,b,n,r,k _ _ (.inl rfl) e⟩|tp J=>exact AQ x λz b r Zz=>AE Zz λob e c=>⟨z,b,r,ob,k _ _ (.inl rfl) e,c⟩|dK kvs=>exact AO x λz y vs r Zz=>AX Zz λob es b e c=>⟨z,y,vs,r,ob,es,b,k _ _ (.inl rfl) e,c⟩|dT kvs=>exact AO x λz y J r Zz=>AX Zz λob es b e c=>⟨z,y,J,dz.B0 r λp q z=>Ai z.1 (z.2.1.mono d) z.2.2,ob,es,b,k _ _ (.inl rfl) e,c⟩|set S n=>exact AM x λob es b t e c=>⟨ob,es,b,t,k _ _ (.inl rfl) e,c⟩|ins Cc b fs=>obtain⟨d,z,ne,e,f,⟨g,es,b,i,c⟩,r⟩:=x;exact⟨h _ d,z,ne,k _ _ (.inl rfl) e,f,⟨g,es,b,k _ _ (.inr d) i,c⟩,r⟩|own y=>exact AF x λob e=>⟨ob,k _ _ (.inl rfl) e⟩|xd fs=>obtain⟨f,⟨g,es,b,e,c⟩,r⟩:=x;exact⟨f,⟨g,es,b,k _ _ (.inl rfl) e,c⟩,r⟩|Fw b hi=>exact AJ x λt u v e=>⟨t,u,v,k _ _ (.inl rfl) e⟩|sj ob u b=>exact AB x λe q=>⟨k _ _ (.inl rfl) e,b q⟩|tbl ps=>have e:=x;exact k a _ (.inl rfl) e|met f y=>have e:=x;exact k a _ (.inl rfl) e|ext C=>obtain⟨p,⟨o,e⟩,st⟩:=x;exact⟨st _ _ p λo q=>k _ _ (.inl rfl) q,(Ae o<|k _ _ (.inl rfl) e),st⟩
theorem q8.lt(x:q8 P w H h)(e:H a=al o):a<h.objs.size:=(x a o e).lt
def q8.fresh(x:q8 P w H h)(e:h.objs.size<=a):H a=none:=by cases q:H a with|none=>rfl|some u=>exact iN (aB (x.lt q) e) (bO _)
def q8.kept(x:q8 P w H h)(k:∀b u,h.get? b=al u->h'.get? b=al u):q8 P w H h':=λa o e=>(x a o e).t8 (λb u _ q=>k b u q) (λ_ q=>q) λ_ _ q=>q
def q8.laid(x:q8 P w H h)(k:∀b u,h.get? b=al u->h'.get? b=al u)(J:h.objs.size<=a)(new:tQ P w (upd H a o) h' a o):q8 P w (upd H a o) h':=λb u e=>by
 have d:=x.fresh J;by_cases c:b=a;.subst c;rw[zh]at e;simp_all
 .rw[zd c]at e;exact(x b u e).t8 (λc v _ q=>k c v q) (λc q=>zd (zB q d)▸q) λc a q=>zd (zB q d)▸q
end
def Rd(H:Hp)(a:Addr)(u:HO):Prop:=H a=al u\/∃o,H a=al (.sj o u)
def Rd.ok(r:Rd H a u)(x:q8 P w H h):tQ P w H h a u:=by
 rcases r with r|⟨o,r⟩;.exact x a u r
 .exact AB (x a _ r) λ_ q=>q
noncomputable def Fh:Option HO->Prop|some<|.J _=>True|some<|.dK _=>True|some<|.dT _=>True|some<|.set _ _=>True|some<|.ins _ _ _=>True|some<|.ext _=>True|_=>False
section
variable{P:aG}{w:World}{H:Hp}{h h':Heap}{x e:Addr}{o':HO}
def q8.write(ok:q8 P w H h)(mu:Fh<|H x)(he:e=x\/H e=al (.own x))(k:∀b u,b≠e->h.get? b=al u->h'.get? b=al u)(Z:∃u,h'.get? e=al u)(new:tQ P w (upd H x o') h' x o'):q8 P w (upd H x o') h':=λb u q=>by
 have J:∀c y,H c=al (.own y)->c≠x:=λc y r z=>by subst z;rw[r]at mu;exact mu
 by_cases hb:b=x;.subst hb;rw[zh]at q;simp_all
 .rw[zd hb]at q;by_cases hbe:b=e
  .have q':H b=al (.own x):=by lia
   cases q▸q';exact AF Z λv hv=>⟨v,by lia⟩
  .refine(ok b u q).t8 (λc v hc r=>k c v ?_ r) (λc r=>zd (J c b r)▸r) λc Y r=>zd ((λc Y r z=>by subst z;rw[r]at mu;exact mu:∀c Y,H c=al (.tp Y)->c≠x) c Y r)▸r;rcases hc with rfl|hc;.exact hbe
   .rintro rfl;rcases he with z|z;.exact J c b hc z
    .rw[hc]at z;cases z;exact hb rfl
end
structure Un(fs ex:List Addr)(H H':Hp)(h h':Heap):Prop where
 keep:∀b o,h.get? b=al o->H b=aT->b∉fs->b∉ex->h'.get? b=al o
 slot:∀b o,h.get? b=al o->H b=aT->b∈fs->b∉ex->∃sl,h'.get? b=al {o with slots:=sl}free:∀b o,h.get? b=al o->H b=aT->b∉ex->H' b=aT
 there:∀b o,h.get? b=al o->b∉ex->∃o',h'.get? b=al o'
 tF:∀b xs,H b=al (.tp xs)->H' b=al (.tp xs)frzs:∀b o u,H b=al (.sj o u)->H' b=al (.sj o u)tbls:∀b ps,H b=al (.tbl ps)->∃more,H' b=al (.tbl<|ps++more)
section
variable{fs fs' ex ex':List Addr}{H H1 H2:Hp}{h h1 h2 h':Heap}{a x e:Addr}{o:HO}
def Un.any(u:Un fs ex H H1 h h1)(q:h.get? b=al ob)(n:H b=aT)(a:b∉ex):∃sl,h1.get? b=al {ob with slots:=sl}:=by
 by_cases c:b∈fs;.exact u.slot b ob q n c a
 .exact⟨ob.slots,u.keep b ob q n c a⟩
def Un.kept(k:∀b u,h.get? b=al u->h'.get? b=al u):Un fs ex H H h h':=⟨λb a q _ _ _=>k b a q,λb a q _ _ _=>Ae a.slots<|k b a q,λ_ _ _ n _=>n,λb a q _=>Ae a<|k b a q,λ_ _ q=>q,λ_ _ _ q=>q,λ_ ps q=>Ae (#[]) (by simp_all)⟩
def Un.refl:Un fs ex H H h h:=Un.kept λ_ _ q=>q
def Un.laid(k:∀b u,h.get? b=al u->h'.get? b=al u)(J:h.objs.size<=a)(c:H a=aT):Un fs ex H (upd H a o) h h' where keep:=λb u q _ _ _=>k b u q;slot:=λb u q _ _ _=>Ae u.slots<|k b u q;free:=λb u q n _=>zd (aJ<|aB (aO q) J)▸n;there:=λb u q _=>Ae u<|k b u q;tF:=λb a q=>zd (zB q c)▸q;frzs:=λb u a q=>zd (zB q c)▸q;tbls:=λb ps q=>Ae (#[]) (by rw[zd<|zB q c,q];simp)
def Un.write(mu:Fh<|H x)(Z:e=x\/H e=al (.own x))(k:∀b u,b≠e->h.get? b=al u->h'.get? b=al u)(J:∃u,h'.get? e=al u):Un fs ex H (upd H x o) h h':=by
 have d:∀b,H b=aT->b≠x:=λb n z=>by subst z;rw[n]at mu;exact mu
 have c:∀b,H b=aT->b≠e:=λb n z=>by lia
 have a:∀b u,H b=al u->¬Fh (al u)->b≠x:=λb u q nm z=>by lia
 refine⟨λb u q n _ _=>k b u (c b n) q,λb u q n _ _=>Ae u.slots<|k b u (c b n) q,λb u q n _=>zd (d b n)▸n,λb u q _=>?_,λb Y q=>(zd<|a b _ q λz=>z)▸q,λb u Y q=>(zd<|a b _ q λz=>z)▸q,λb ps q=>⟨#[],by rw[zd<|a b _ q λz=>z,q];simp⟩⟩;grind
end
noncomputable def Fq(h:Heap)(H:Hp):List Addr:=(av h.objs.size).filter λa=>(H a).isSome
def yS(h:Heap)(H:Hp):Heap:=PySem.W.hideAll h<|Fq h H
def VW h H:(yS h H).objs.size=h.objs.size:=PySem.W.hideAll_size _ _
def GA(e:h.get? b=al o)(n:H b=aT):(yS h H).get? b=al o:=PySem.W.hideAll_get _ e λJ=>by have q:=(mr.mp J).2;simp_all
def Xu(e:(yS h H).get? b=al o):h.get? b=al o/\H b=none:=by have a:=PySem.W.of_hideAll (Fq h H) e;refine Ad a ?_;cases q:H b with|none=>rfl|some x=>have z:(yS h H).get? b=none:=PySem.W.hideAll_none (Fq h H) (mr.mpr ⟨bI.mpr<|aO a,by simp[q]⟩);lia
noncomputable def Xe(g h:Heap)(L:Addr):List<|Addr×Obj:=(av h.objs.size).filterMap λa=>if a=L\/(g.get? a).isSome=bY then aT else(h.get? a).map λo=>(a,o)
def rest(g h:Heap)(L d:Addr):List<|Addr×Obj:=(Xe g h L).filter λp=>decide<|p.1≠d
structure Mod(K:ac)(mg:yC)(base:Heap):Prop where
 wg:K.In base
 glob:base.Ns aV mg
 blt:∃mb,base.Ns ii mb/\∀x:Str,x≠"__name__"->mb x=bN x
 nolimit:base.NoLimit
structure Cx where
 prog:aG
 w:World
 K:ac
 mg:Str->Option Value
 base:Heap
 A:aW
 N:List Str
 s₀:ag
 H₀:Hp
 env:Env
 outer:List Env
 stack:List Env
 ex:List Addr
 fn:Str->Bool
 calm:Bool
 pn:List<|Addr×Obj
 xe:Value->ag->Prop
noncomputable def oj(l:List Env):List Addr:=l.filterMap (·.frame)
abbrev Cx.fs(X:Cx):List Addr:=oj X.outer
def CK(a:Scope)(x:Str):Prop:=a.names.lookup x=al .local\/a.names.lookup x=al .cell\/a.names.lookup x=al .free
def Loc(a:Scope)(x:Str):Prop:=a.names.lookup x=al .local\/a.names.lookup x=al .cell
def Look(env:Env)(h:Heap)(m:yC)(x:Str)(u:Value):Prop:=(env.kindOf x=al .local/\m x=al u)\/((env.kindOf x=al .cell\/env.kindOf x=al .free)/\∃c,env.cells.lookup x=al c/\h.IsCell c (al u))
structure Cx.Ok(X:Cx):Prop where
 mod:Mod X.K X.mg X.base
 kind:X.env.scope.kind=.function
 glob:X.env.globals=aV
 blt:X.env.builtins=ii
 above:X.s₀.heap.objs.size<=X.env.locals
 inj:∀x y c,X.env.cells.lookup x=al c->X.env.cells.lookup y=al c->x=y
 has:∀x,(X.env.kindOf x=al .cell\/X.env.kindOf x=al .free)->∃c,X.env.cells.lookup x=al c
 cab:∀x c,X.fn x=bY->X.env.cells.lookup x=al c->X.s₀.heap.objs.size<=c
 hd:X.calm=bY->X.A.handled=aT
 frames:X.A.frames=al X.stack
 Bl:X.stack=X.outer\/(X.stack=X.env::X.outer/\X.env.frame=al X.env.locals)exf:∀b∈X.ex,b≠X.env.locals/\∀x c,X.env.cells.lookup x=al c->c≠b
 bs:∀b o,X.base.get? b=al o->X.s₀.heap.get? b=al o/\X.H₀ b=aT
 bsz:X.base.objs.size<=X.s₀.heap.objs.size
 noex:∀b o,X.base.get? b=al o->b∉X.ex
 exfs:∀b∈X.ex,b∉X.fs
 sJ:X.s₀.heap.FunFrames X.base X.outer
 frf:∀b∈X.fs,X.H₀ b=aT
structure Inv(X:Cx)(pins:yA)(W:List<|Option V)(H:Hp)(s:ag):Prop where
 ok:X.Ok
 os:s.os=X.s₀.os
 bare:gh s.gens
 base:Un X.fs X.ex X.H₀ H X.s₀.heap s.heap
 loc:∃m,s.heap.Ns X.env.locals m/\∀(i:Nat)(x:Str)(v:V),X.N[i]?=al x->W[i]?=al (al v)->CK X.env.scope x->∃u,RelV v u/\Look X.env s.heap m x u
 cell:∀x c,X.env.cells.lookup x=al c->∃v,s.heap.IsCell c v
 free:H X.env.locals=aT
 freeC:∀x c,X.env.cells.lookup x=al c->H c=aT
 pin:∀p∈X.pn++pins,s.heap.get? p.1=al p.2/\H p.1=aT/\p.1≠X.env.locals/\p.1∉X.fs/\∀v,p.2.data≠.cell v
 hok:q8 X.prog X.w H s.heap
 len:W.length=X.N.length
section
variable{X:Cx}{pins:yA}{W:List<|Option V}{H H':Hp}{s:ag}{h':Heap}
def Cx.Ok.Hl(ok:X.Ok)(e:X.base.get? b=al o):b∉X.fs:=λa=>by have:=(ok.sJ.mem a).1;lia
theorem Inv.bs(I:Inv X pins W H s):∀b o,X.base.get? b=al o->s.heap.get? b=al o/\H b=none:=λb o e=>⟨I.base.keep b o (I.ok.bs b o e).1 (I.ok.bs b o e).2 (I.ok.Hl e) (I.ok.noex b o e),I.base.free b o (I.ok.bs b o e).1 (I.ok.bs b o e).2<|I.ok.noex b o e⟩
def Inv.bk(I:Inv X pins W H s):∀b o,X.base.get? b=al o->s.heap.get? b=al o:=λb o e=>(I.bs b o e).1
theorem Inv.mod(I:Inv X pins W H s):Mod X.K X.mg X.base:=I.ok.mod
def Inv.sx(I:Inv X pins W H s):X.K.In s.heap:=I.ok.mod.wg.keeps I.bk
theorem Inv.nolimit(I:Inv X pins W H s):s.heap.NoLimit:=I.ok.mod.nolimit.keeps I.bk
theorem Inv.lt(I:Inv X pins W H s):X.env.locals<s.heap.objs.size:=let⟨_,hn,_⟩:=I.loc;hn.lt
def Inv.sz(I:Inv X pins W H s):X.s₀.heap.objs.size<=s.heap.objs.size:=au I.ok.above<|eB I.lt
def Inv.Hk(I:Inv X pins W H s){a:Addr}(h:s.heap.objs.size<=a):a∉X.fs:=λa=>AQ (I.ok.sJ.mem a) λ_ o a _=>iN (aB (aO a) (au I.sz h)) (bO _)
def Inv.cne(I:Inv X pins W H s):∀x c,X.env.cells.lookup x=al c->c≠X.env.locals:=λx c e z=>by refine AD (I.cell x c e) λv o a a=>?_;obtain⟨m,⟨a,es,a,J,h,_⟩,_⟩:=I.loc;lia
theorem Inv.sJ(I:Inv X pins W H s):s.heap.FunFrames X.base X.outer:=by
 have all:∀l,(∀b∈oj l,b∈X.fs)->X.s₀.heap.FunFrames X.base l->s.heap.FunFrames X.base l:=by intro l;induction l with|nil=>intro _ _;trivial|cons env r a=>intro c b;obtain⟨d,⟨L,o,J,f,e,g⟩,i⟩:=b;have h:=c L (by unfold oj;rw[bA,J];exact ao);exact AF (I.base.slot L o e (I.ok.frf L h) h λz=>I.ok.exfs L z h) λsl e=>⟨d,(Am L _ J f e g),a (λb a=>c b<|by unfold oj;rw[bA,J];exact ah _ a) i⟩
 exact all X.outer (λ_ a=>a) I.ok.sJ
theorem Inv.stack(I:Inv X pins W H s):s.heap.FunFrames X.base X.stack:=by
 rcases I.ok.Bl with e|⟨e,h⟩;.exact e▸I.sJ
 .rw[e];refine AE I.loc λm a _=>.cons (by rw[I.ok.kind];decide) h a ?_ I.sJ;exact Heap.get?_none_of_le<|au I.ok.bsz I.ok.above
def Inv.tG(I:Inv X pins W H s):∀b∈oj X.stack,b∈X.env.locals::X.fs:=λb a=>by
 rcases I.ok.Bl with e|⟨e,h⟩;.rw[e]at a;exact ah _ a
 .rw[e]at a;unfold oj at a;rw[bA,h]at a;exact a
def Inv.tS(I:Inv X pins W H s):∀b∈oj X.stack,H b=none:=λb a=>by
 rcases aE.mp (I.tG b a)with e|a;.exact e▸I.free
 .exact AQ (I.ok.sJ.mem a) λ_ o c _=>I.base.free b o c (I.ok.frf b a) λz=>I.ok.exfs b z a
def Inv.step{ch:List Addr}(I:Inv X pins W H s)(h:∀b∈ch,(b∈X.ex\/X.s₀.heap.objs.size<=b)/\b≠X.env.locals/\(∀x c,X.env.cells.lookup x=al c->c≠b)/\∀p∈X.pn++pins,p.1≠b)(keep:∀b o,b≠X.env.locals->b∉X.fs->b∉ch->s.heap.get? b=al o->H b=aT->h'.get? b=al o)(d:∀b o,b≠X.env.locals->b∈X.fs->b∉ch->s.heap.get? b=al o->H b=aT->∃sl,h'.get? b=al {o with slots:=sl})(f:∀b o,b∉ch->s.heap.get? b=al o->H b=aT->H' b=aT)(there:∀b o,b∉ch->s.heap.get? b=al o->∃o',h'.get? b=al o')(tF:∀b Z,H b=al (.tp Z)->H' b=al (.tp Z))(i:∀b o u,H b=al (.sj o u)->H' b=al (.sj o u))(k:∀b ps,H b=al (.tbl ps)->∃more,H' b=al (.tbl<|ps++more))(ns:∀m,s.heap.Ns X.env.locals m->h'.Ns X.env.locals m)(hok:q8 X.prog X.w H' h')(n:gh g'):Inv X pins W H' {s with heap:=h',gens:=g',drawn:=a,toks:=t'}:=by
 have r:∀b o,X.s₀.heap.get? b=al o->b≠X.env.locals:=λb o e=>aJ<|aB (aO e) I.ok.above;have Y:∀b o,X.s₀.heap.get? b=al o->b∉X.ex->b∉ch:=λb o e a g=>((h b g).1).elim (λz=>a z) λz=>iN (aB (aO e) z) (bO _);have t:∀x c,X.env.cells.lookup x=al c->∀v,s.heap.IsCell c v->h'.IsCell c v:=λx c e v⟨o,j,s⟩=>by
  have J:c∉ch:=λz=>(h c z).2.2.1 x c e rfl;by_cases a:c∈X.fs;.exact AF (d c o (I.cne x c e) a J j<|I.freeC x c e) λsl q=>⟨_,q,s⟩
  .exact⟨o,keep c o (I.cne x c e) a J j<|I.freeC x c e,s⟩
 refine⟨I.ok,I.os,n,⟨λb o e n g a=>?_,λb o e n g a=>?_,λb o e n a=>?_,λb o e a=>?_,λb Z e=>tF b Z<|I.base.tF b Z e,λb o Z e=>i b o Z<|I.base.frzs b o Z e,λb ps e=>?_⟩,?_,λx c e=>?_,?_,λx c e=>?_,λp q=>?_,hok,I.len⟩;.exact keep b o (r b o e) g (Y b o e a) (I.base.keep b o e n g a) (I.base.free b o e n a)
 .exact AF (I.base.slot b o e n g a) λsl c=>AF (d b _ (r b o e) g (Y b o e a) c<|I.base.free b o e n a) λa1 d=>Ae a1 d
 .exact AF (I.base.there b o e a) λo' c=>f b o' (Y b o e a) c<|I.base.free b o e n a
 .exact AF (I.base.there b o e a) λo' c=>there b o' (Y b o e a) c
 .exact AF (I.base.tbls b ps e) λm1 c=>AF (k b _ c) λm2 d=>Ae (m1++m2) (by rw[d,Array.append_assoc])
 .refine AE I.loc λm a b=>Ac m (ns m a) (λi x v c d a=>AE (b i x v c d a) λu r l=>Ac u r ?_);rcases l with l|⟨k,c,e,z⟩;.exact .inl l
  .exact .inr<|Aj k c e<|t x c e _ z
 .exact AF (I.cell x c e) λv z=>Ae v<|t x c e v z
 .obtain⟨m,⟨o,_,_,j,_⟩,_⟩:=I.loc;exact f _ o (λz=>(h _ z).2.1 rfl) j I.free
 .exact AD (I.cell x c e) λv o j s=>f c o (λz=>(h c z).2.2.1 x c e rfl) j<|I.freeC x c e
 .exact AW (I.pin p q) λe n ne a d=>have J:p.1∉ch:=λz=>(h p.1 z).2.2.2 p q rfl;⟨keep p.1 p.2 ne a J e n,f p.1 p.2 J e n,ne,a,d⟩
def Inv.un(I:Inv X pins W H s)(u:Un X.fs [] H H' s.heap h')(hok:q8 X.prog X.w H' h'):Inv X pins W H' {s with heap:=h',toks:=t'}:=by obtain⟨m,⟨o,es,a,c,r⟩,_⟩:=id I.loc;exact AF (u.any c I.free<|by simp) λsl Y=>I.step (ch:=[]) (λ_ z=>nomatch z) (λb o _ a _ e n=>u.keep b o e n a<|by simp) (λb o _ a _ e n=>u.slot b o e n a<|by simp) (λb o _ e n=>u.free b o e n<|by simp) (λb o _ e=>u.there b o e<|by simp) u.tF u.frzs u.tbls (λa a=>by refine AX a λo' J a h Z=>?_;cases c▸h;exact⟨_,J,a,Y,Z⟩) hok I.bare
def Inv.call(I:Inv X pins W H s)(u:Un (oj X.stack) ch H H' s.heap h')(hok:q8 X.prog X.w H' h')(f:gh g')(J:∀b∈ch,(b∈X.ex\/X.s₀.heap.objs.size<=b)/\b≠X.env.locals/\(∀x c,X.env.cells.lookup x=al c->c≠b)/\∀p∈X.pn++pins,p.1≠b):Inv X pins W H' {s with heap:=h',gens:=g',drawn:=a,toks:=t'}:=by obtain⟨m,⟨o,es,a,d,r⟩,_⟩:=id I.loc;exact AF (u.any d I.free λz=>(J _ z).2.1 rfl) λsl c=>I.step J (λb o c g a e n=>u.keep b o e n (λz=>(aE.mp<|I.tG b z).elim c g) a) (λb o _ _ a e n=>u.any e n a) (λb o a e n=>u.free b o e n a) (λb o a e=>u.there b o e a) u.tF u.frzs u.tbls (λa a=>by refine AX a λo' Z Y h a=>?_;cases d▸h;exact⟨_,Z,Y,c,a⟩) hok f
def Inv.turned(I:Inv X pins W H s)(k:∀b o,b≠it->s.heap.get? b=al o->h'.get? b=al o)(a:H it=aT)(J:it≠X.env.locals)(d:it∈X.ex\/X.s₀.heap.objs.size<=it)(Z:∀x c,X.env.cells.lookup x=al c->c≠it)(c:∀p∈X.pn++pins,p.1≠it):Inv X pins W H {s with heap:=h',toks:=t'}:=by
 have h:∀b u,H b=al u->b≠it:=λb u e z=>by lia
 refine I.step (ch:=[it]) (λb f=>?_) (λb o _ _ a e _=>k b o (λz=>a<|by simp[z]) e) (λb o _ _ a e _=>Ae o.slots<|k b o (λz=>a<|by simp[z]) e) (λ_ _ _ _ n=>n)
  (λb o a e=>Ae o<|k b o (λz=>a<|by simp[z]) e) (λ_ _ e=>e) (λ_ _ _ e=>e) (λb ps e=>Ae (#[]) (by simp_all)) (λm Y=>?_) (λb u e=>?_) I.bare
 .have e:=by simpa using f
  exact e▸(Au d J Z c)
 .exact AX Y λo es a c r=>⟨o,es,a,k _ o (bE J) c,r⟩
 .refine(I.hok b u e).t8 (λc v a q=>k c v ?_ q) (λ_ q=>q) λ_ _ q=>q;rcases a with z|z;.exact z▸h b u e
  .exact h c _ z
def Inv.tok(I:Inv X pins W H s)t:Inv X pins W H {s with toks:=t}:=I.un Un.refl I.hok
theorem Inv.kept(I:Inv X pins W H s)(k:∀b u,s.heap.get? b=al u->h'.get? b=al u):Inv X pins W H {s with heap:=h',toks:=t'}:=I.un (Un.kept k) (I.hok.kept k)
theorem Inv.laid{a:Addr}(I:Inv X pins W H s)(k:∀b u,s.heap.get? b=al u->h'.get? b=al u)(h:s.heap.objs.size<=a)(new:tQ X.prog X.w (upd H a o) h' a o):Inv X pins W (upd H a o) {s with heap:=h',toks:=t'}:=I.un (Un.laid k h<|I.hok.fresh h) (I.hok.laid k h new)
theorem Inv.write(I:Inv X pins W H s)(mu:Fh<|H x)(J:e=x\/H e=al (.own x))(k:∀b u,b≠e->s.heap.get? b=al u->h'.get? b=al u)(h:∃u,h'.get? e=al u)(new:tQ X.prog X.w (upd H x o) h' x o):Inv X pins W (upd H x o) {s with heap:=h',toks:=t'}:=I.un (Un.write mu J k h) (I.hok.write mu J k h new)
def Inv.uB(I:Inv X pins W H s)(h:∀p∈J,s.heap.get? p.1=al p.2/\H p.1=aT/\p.1≠X.env.locals/\p.1∉X.fs/\∀v,p.2.data≠.cell v):Inv X J W H s:=⟨I.ok,I.os,I.bare,I.base,I.loc,I.cell,I.free,I.freeC,λp a=>(aU.mp a).elim (λz=>I.pin p<|bq _ z) (h p),I.hok,I.len⟩
def Pg{N:yH}(c:N.Nodup){j:Nat}(a:N[i]?=al x)(b:N[j]?=al x):i=j:=by obtain⟨J,d⟩:=ae.mp a;obtain⟨h,a⟩:=ae.mp b;exact(List.getElem_inj c).mp<|d.trans a.symm
def Qy(I:Inv X pins W H s)(G:X.N.Nodup)(hi:X.N[i]?=al x)(g:Loc X.env.scope x)(r:RelV v u)(h:∀b,Inv X pins (W.set i<|al v) H b->(∃a,eD a s.heap b.heap/\(a=X.env.locals\/X.env.cells.lookup x=al a))->Q () b)(a:autoParam (X.fn x=bY\/X.env.scope.names.lookup x=al .local) Fe._auto_1):wpAny M A (gk X.env x u) Q E s:=by
 refine AE (id I.loc) λm A K=>?_;have L:i<W.length:=I.len▸(ae.mp hi).1;have cne:=I.cne;have J:∀{a}{h'},(∃o,s.heap.get? a=al o/\H a=aT)->eD a s.heap h'->q8 X.prog X.w H h':=λ{a h'}c a b d e=>by refine AE c λ_ _ c=>(I.hok b d e).t8 (λc w' l q=>(a.2 c ?_).trans q) (λ_ q=>q) λ_ _ q=>q;lia
 rcases g with w|w
 .refine iP w A (λh' c a=>?_) (by rw[I.ok.kind];rfl);refine AX (id A) λoL _ _ k _=>h _ ⟨I.ok,I.os,I.bare,⟨λb o e n t g=>?_,λb o e n t g=>?_,I.base.free,λb o e g=>?_,I.base.tF,I.base.frzs,I.base.tbls⟩,(Ac _ c<|λj y B f v C=>?_),λy c e=>?_,I.free,I.freeC,λp D=>?_,J (Ac oL k I.free) a,by simpa using I.len⟩<|Ac _ a<|.inl rfl;.exact(a.2 b<|aJ<|aB (aO e) I.ok.above).trans<|I.base.keep b o e n t g
  .exact AF (I.base.slot b o e n t g) λsl f=>Ae sl<|(a.2 b<|aJ<|aB (aO e) I.ok.above).trans f
  .exact AF (I.base.there b o e g) λo' f=>Ae o'<|(a.2 b<|aJ<|aB (aO e) I.ok.above).trans f
  .by_cases hj:j=i;.subst hj;cases hi▸f;cases bF L▸v;exact Ac u r<|.inl<|Ad w<|by simp
   .rw[aD<|bE hj]at v;refine AE (K j y B f v C) λu' E q=>Ac u' E ?_;rcases q with⟨k,e⟩|⟨k,c,e,z⟩;.refine .inl<|Ad k ?_;have:y≠x:=λe=>hj<|Pg G f<|e▸hi;simp[this,e]
    .exact .inr<|Aj k c e<|z.sameBut a<|cne y c e
  .exact AF (I.cell y c e) λw' z=>Ae w'<|z.sameBut a<|cne y c e
  .exact AW (I.pin p D) λe n ne F d=>⟨(a.2 p.1 ne).trans e,n,ne,F,d⟩
 .have Y:X.fn x=true:=by lia
  refine AF (I.ok.has x<|.inl w) λc l=>AF (I.cell x c l) λw' z=>i8 I.ok.kind w l z<|λh' F a=>AE (id z) λoc k b=>h {s with heap:=h'} ⟨I.ok,I.os,I.bare,⟨λb o e n t g=>?_,λb o e n t g=>?_,I.base.free,λb o e g=>?_,I.base.tF,I.base.frzs,I.base.tbls⟩,(Ac m (A.sameBut a<|bE<|cne x c l) (λj y B f v C=>?_)),λy d e=>?_,I.free,I.freeC,λp D=>?_,J (Ac oc k<|I.freeC x c l) a,by simpa using I.len⟩<|Ac c a<|.inr l;.exact(a.2 b<|aJ<|aB (aO e) (I.ok.cab x c Y l)).trans<|I.base.keep b o e n t g
  .exact AF (I.base.slot b o e n t g) λsl f=>Ae sl<|(a.2 b<|aJ<|aB (aO e) (I.ok.cab x c Y l)).trans f
  .exact AF (I.base.there b o e g) λo' f=>Ae o'<|(a.2 b<|aJ<|aB (aO e) (I.ok.cab x c Y l)).trans f
  .by_cases hj:j=i;.subst hj;cases hi▸f;cases bF L▸v;exact Ac u r<|.inr<|Aj (.inl w) c l F
   .rw[aD<|bE hj]at v;refine AE (K j y B f v C) λu' E q=>Ac u' E ?_;rcases q with q|⟨k,d,e,b⟩;.exact .inl q
    .refine .inr<|Aj k d e<|b.sameBut a ?_;rintro rfl;exact hj<|Pg G f<|I.ok.inj _ _ _ e l▸hi
  .by_cases hcc:d=c;.exact hcc▸(Ae _ F)
   .exact AF (I.cell y d e) λw2 b=>Ae w2<|b.sameBut a hcc
  .refine AW (I.pin p D) λe n ne F d=>⟨(a.2 p.1 ?_).trans e,n,ne,F,d⟩;grind
def Gu(I:Inv X pins W H s)(b:X.N.Nodup)(hi:X.N[i]?=al x)(c:Loc X.env.scope x)(r:RelV v u)(h:∀a,Inv X pins (W.set i<|al v) H a->Q () a)(d:autoParam (X.fn x=bY\/X.env.scope.names.lookup x=al .local) Fe._auto_1):wpAny M A (gk X.env x u) Q E s:=Qy I b hi c r (λa J _=>h a J) d
def Inv.wH(I:Inv X pins W H s)(a:s'.os=s.os)(u:Un (oj X.stack) ch H H' s.heap s'.heap)(hok:q8 X.prog X.w H' s'.heap)(J:gh s'.gens)(h:∀b∈ch,(b∈X.ex\/X.s₀.heap.objs.size<=b)/\b≠X.env.locals/\(∀x c,X.env.cells.lookup x=al c->c≠b)/\∀p∈X.pn++pins,p.1≠b):Inv X pins W H' s':=by obtain⟨h',b,b,t',b⟩:=s';subst a;exact I.call u hok J h
end
abbrev XK:=Value->Option Addr->Hp->Prop
abbrev St:=List<|Option V
abbrev VK:=V->Hp->Prop
abbrev TE:=St->Hp->VK->Prop
abbrev TT:=St->Hp->(Bool->Hp->Prop)->Prop
abbrev TA:=St->Hp->(List V->Hp->Prop)->Prop
structure Ends where
 nx:St->Hp->Prop
 rt:VK
 bk:St->Hp->Prop:=λ_ _=>False
 ct:St->Hp->Prop:=λ_ _=>False
abbrev TS:=Ends->St->Hp->Prop
def EP(X:Cx)(a:yA)(W:St)(Q:VK)(u:Value)(b:ag):Prop:=∃v H',Inv X a W H' b/\RelV v u/\Q v H'
def TP(X:Cx)(a:yA)(W:St)(Q:Bool->Hp->Prop)(b:Bool)(c:ag):Prop:=∃H',Inv X a W H' c/\Q b H'
def AP(X:Cx)(a:yA)(W:St)(Q:List V->Hp->Prop)(b:yG)(c:ag):Prop:=∃vs H',Inv X a W H' c/\Vals vs b/\Q vs H'
def SP(X:Cx)(a:yA)(D:Ends)(f:Flow)(c:ag):Prop:=match f with|.next=>∃b H',Inv X a b H' c/\D.nx b H'|.brk=>∃b H',Inv X a b H' c/\D.bk b H'|.cont=>∃b H',Inv X a b H' c/\D.ct b H'|.ret u=>∃v b H',Inv X a b H' c/\RelV v u/\D.rt v H'
def PE(X:Cx)(e:Expr)(t:TE):Prop:=∀a s(W:St)H Q,Inv X a W H s->t W H Q->wpAny (model X.prog X.w) X.A (eval e X.env) (EP X a W Q) X.xe s
def PT(X:Cx)(e:Expr)(t:TT):Prop:=∀a s(W:St)H Q,Inv X a W H s->t W H Q->wpAny (model X.prog X.w) X.A (gW e X.env<|eval e X.env) (TP X a W Q) X.xe s
def PW(X:Cx)(e:Expr)(t:TT):Prop:=∀b a s(W:St)H Q,Inv X a W H s->t W H Q->wpAny (model X.prog X.w) X.A (gW e X.env b) (TP X a W Q) X.xe s
def PW.pt(h:PW X e t):PT X e t:=h _
def PA(X:Cx)(es:yK)(t:TA):Prop:=∀pos a s(W:St)H Q,Inv X a W H s->t W H Q->wpAny (model X.prog X.w) X.A (spliced<|cV pos<|be es X.env) (AP X a W Q) X.xe s
def PS(X:Cx)(st:Stmt)(t:TS):Prop:=∀a s(W:St)H D,Inv X a W H s->t D W H->wpAny (model X.prog X.w) X.A (exec st X.env) (SP X a D) X.xe s
def sR(X:Cx)(st:yL)(t:TS):Prop:=∀a s(W:St)H D,Inv X a W H s->t D W H->wpAny (model X.prog X.w) X.A (execs st X.env) (SP X a D) X.xe s
def gg{M}{A}{E}{s}(h:wpAny M A t Q E s)(b:∀a s,Q a s->J a s):wpAny M A t J E s:=bD h b λ_ _ x=>x
section
variable{X:Cx}
def bin(e:PE X a Y)(g:PE X b tb){W:St}{R:V->V->Hp->Prop}(I:Inv X J W H s)(h:Y W H λx d=>tb W d λy H2=>R x y H2){f:Value->Value->Sem α}(i:∀v u c x y H2,Inv X J W H2 c->RelV x v->RelV y u->R x y H2->wpAny (model X.prog X.w) X.A (f v u) Q X.xe c):wpAny (model X.prog X.w) X.A (eval a X.env) (λv a=>wpAny (model X.prog X.w) X.A (eval b X.env) (λu b=>wpAny (model X.prog X.w) X.A (f v u) Q X.xe b) X.xe a) X.xe s:=gg (e J s W H _ I h) λv s1⟨x,d,a,b,c⟩=>gg (g J s1 W d _ a c) λu c⟨y,H2,a,Z,d⟩=>i v u c x y H2 a b Z d
def Cm(i:Nat):TE:=λW H Q=>∃v,W[i]?=al (al v)/\Q v H
def tC(v:V):TE:=λ_ H Q=>Q v H
def Ic{pos}(a:X.N[i]?=al x)(b:CK X.env.scope x)(d:autoParam ((x==("__debug__":Str))=ce) vm._auto_1)(f:autoParam ((x==("__classdict__":Str))=ce) vm._auto_1):PE X (.Name x pos) (Cm i):=by
 refineλJ s W H Q I h=>AE h λv e h=>AE I.loc λm g Z=>AE (Z i x v a e b) λu r l=>?_;have fin:EP X J W Q u s:=⟨v,H,I,r,h⟩;rcases l with⟨hk,Y⟩|⟨hk,c,c,a⟩;.exact mQ (i9 I.ok.kind hk g Y fin) d
 .exact hk.elim (λhk=>mQ (kI I.ok.kind hk c a fin) d) λhk=>mQ (wpAny_loadName_free I.ok.kind hk c a fin f) d
def N4:PE X (.Constant (.int i) j pos) (tC<|.int i):=λ_ _ _ H _ I h=>wpAny_Constant_int ⟨.int i,H,I.tok _,⟨_,rfl⟩,h⟩
def Ls:PE X (.Constant (.bool b) j pos) (tC<|.T b):=λ_ _ _ H _ I h=>Constant_bool ⟨.T b,H,I,rfl,h⟩
def Np:PE X (.Constant .none j pos) (tC .N):=λ_ _ _ H _ I h=>kO ⟨.N,H,I,rfl,h⟩
def Nh:PE X (.Constant (.str x) j pos) (tC<|.str x):=λ_ _ _ H _ I h=>Calls.Constant_str ⟨.str x,H,I.tok _,⟨_,rfl⟩,h⟩
def Gl(X:Cx)(x:Str):Prop:=X.env.kindOf x=al .globalImplicit
def DB{W:St}(I:Inv X J W H s)(Y:Gl X x)(a:X.mg x=al u)(h:Q u s)(b:autoParam ((x==("__debug__":Str))=ce) vm._auto_1):wpAny (model X.prog X.w) X.A (eval (.Name x pos) X.env) Q E s:=gr I.ok.kind Y (Calls.loadGlobal_global (I.ok.glob▸I.mod.glob.keeps I.bk) a h) b
def Dm{E}{W:St}{pos}(I:Inv X J W H s)(a:Gl X x)(b:X.mg x=aT)(c:bN x=al u)(h:Q u s)(d:autoParam (x≠"__name__") vm._auto_1)(e:autoParam ((x==("__debug__":Str))=ce) vm._auto_1):wpAny (model X.prog X.w) X.A (eval (.Name x pos) X.env) Q E s:=AE I.mod.blt λmb Z Y=>gr I.ok.kind a (Calls.loadGlobal_builtin (I.ok.glob▸I.mod.glob.keeps I.bk) b (I.ok.blt▸Z.keeps I.bk) ((Y x d).trans c) h) e
def Js(a:Gl X x)(J:X.mg x=al u)(r:RelV v u)(b:autoParam ((x==("__debug__":Str))=ce) vm._auto_1):PE X (.Name x pos) (tC v):=λ_ _ _ H _ I h=>DB I a J ⟨v,H,I,r,h⟩ b
def Ya{pos}(a:Gl X x)(J:X.mg x=aT)(b:bN x=al u)(r:RelV v u)(c:autoParam (x≠"__name__") vm._auto_1)(d:autoParam ((x==("__debug__":Str))=ce) vm._auto_1):PE X (.Name x pos) (tC v):=λ_ _ _ H _ I h=>Dm I a J b ⟨v,H,I,r,h⟩ c d
variable{a b:Expr}{ta tb:TE}{pos:Pos}
def PC(X:Cx)(d:CmpOp)(a b:Expr)(t:TE):Prop:=∀c s(W:St)H Q,Inv X c W H s->t W H Q->wpAny (model X.prog X.w) X.A (eval a X.env) (λv a=>wpAny (model X.prog X.w) X.A (eval b X.env) (λu b=>wpAny (model X.prog X.w) X.A (cS d v u) (EP X c W Q) X.xe b) X.xe a) X.xe s
def aQ9 b(h:op≠.In)(J:op≠.NotIn):dk op b=false:=by cases b<;>simp[dk,(by lia:(op==CmpOp.In)=false),(by lia:(op==CmpOp.NotIn)=false)]
def LO(a:TE):TE:=λW H Q=>a W H λx a=>Q (.T<|decide<|x=.N) a
def Lu(a:TE):TE:=λW H Q=>a W H λx a=>Q (.T<|!decide (x=.N)) a
def RelV.vG(r:RelV x v):(v==Value.none)=decide (x=.N):=by cases x with|N=>cases r;rfl|T _=>cases r;rfl|int _=>obtain⟨t,rfl⟩:=r;rfl|str _=>obtain⟨t,rfl⟩:=r;rfl|Er _=>obtain⟨t,rfl⟩:=r;rfl|Bv _=>obtain⟨t,rfl⟩:=r;rfl|ref _=>cases r;rfl|ty _=>cases r;rfl
def NJ(b:PE X a ta):PC X .Is a (.Constant .none j pos') (LO ta):=λJ s W H Q I h=>gg (b J s W H _ I h) λv s1⟨x,a,Y,b,Z⟩=>kO<|is_none_gen ⟨.T _,a,Y,by rw[b.vG];rfl,Z⟩
def ML(b:PE X a ta):PC X .IsNot a (.Constant .none j pos') (Lu ta):=λJ s W H Q I h=>gg (b J s W H _ I h) λv s1⟨x,a,Y,b,Z⟩=>kO<|isnot_none_gen ⟨.T _,a,Y,by rw[b.vG];rfl,Z⟩
def tB(t:TE):TT:=λW H Q=>t W H λx a=>∃c,x=.T c/\Q c a
def Nk(h:PC X op a b t)(c:autoParam (dk op b=ce) QU._auto_1):PE X (.Compare a [op] [b] pos) t:=λJ s W H Q I a=>wpAny_Compare1 (h J s W H Q I a) c
def Nm(h:PC X op a b t)(d:autoParam (dk op b=ce) QU._auto_1):PT X (.Compare a [op] [b] pos) (tB t):=by refineλJ s W H Q I a=>iQ (gg (h J s W H _ I a) λv s1 d=>gg d λu a h2=>gg h2 λc a⟨x,Y,Z,a,b⟩=>?_) d;obtain⟨d,rfl,q⟩:=b;exact a▸cx ⟨Y,Z,q⟩
def Su(h:PE X e t)(a:autoParam (∀J,gW e X.env J=(do let v<-J;lr e.pos;gI [v]<|truthy v)) DF._auto_1):PT X e<|tB t:=by refineλUu s W H Q I b=>isTrue_plain (gg (h Uu s W H _ I b) λv s1⟨x,Y,Z,b,c⟩=>?_) (a _);obtain⟨d,rfl,q⟩:=c;exact b▸cx ⟨Y,Z,q⟩
variable{tA tB':TT}{rest:yK}
def LN(t u:TT):TT:=λW H Q=>t W H λc a=>if c=bY then u W a Q else Q ce a
def Kk(t u:TT):TT:=λW H Q=>t W H λc a=>if c=bY then Q bY a else u W a Q
def L4(t:TT):TT:=λW H Q=>t W H λc a=>Q (!c) a
def Xy(b:PT X a tA):PW X (.BoolOp .And [a] pos) tA:=by refineλUu J s W H Q I h=>isTrue_and<|gg (b J s W H Q I h) λc s1 e=>?_;cases c with|true=>exact isTrue_and_nil e|false=>exact e
def Sf(b:PT X a tA):PW X (.BoolOp .Or [a] pos) tA:=by refineλUu J s W H Q I h=>isTrue_or<|gg (b J s W H Q I h) λc s1 e=>?_;cases c with|false=>exact isTrue_or_nil e|true=>exact e
def NL(c:PT X a tA)(d:PW X (.BoolOp .And (b::rest) pos) tB'):PW X (.BoolOp .And (a::b::rest) pos) (LN tA tB'):=by refineλwh J s W H Q I h=>isTrue_and<|gg (c J s W H _ I h) λc s1⟨a,Y,Z⟩=>?_;cases c with|true=>exact d wh J s1 W a Q Y Z|false=>exact⟨a,Y,Z⟩
def M7(c:PT X a tA)(d:PW X (.BoolOp .Or (b::rest) pos) tB'):PW X (.BoolOp .Or (a::b::rest) pos) (Kk tA tB'):=by refineλwh J s W H Q I h=>isTrue_or<|gg (c J s W H _ I h) λc s1⟨a,Y,Z⟩=>?_;cases c with|true=>exact⟨a,Y,Z⟩|false=>exact d wh J s1 W a Q Y Z
def SH(b:PT X a tA):PT X (.UnaryOp .Not a pos) (L4 tA):=λJ s W H Q I h=>isTrue_not<|b J s W H (λc a=>Q (!c) a) I h
def Lc(a tb:TE):TE:=λW H Q=>a W H λx a=>∃c,x=.T c/\if c=bY then tb W a Q else Q (.T ce) a
def LM(a tb:TE):TE:=λW H Q=>a W H λx a=>∃c,x=.T c/\if c=bY then Q (.T bY) a else tb W a Q
def Lz(a:TE):TE:=λW H Q=>a W H λx a=>∃c,x=.T c/\Q (.T<|!c) a
def NG(h:PE X a t):PE X (.BoolOp op [a] pos) t:=λJ s W H Q I a=>BoolOp_one<|h J s W H Q I a
def N1(c:PE X a ta)(d:PE X (.BoolOp .And (b::rest) pos) tb):PE X (.BoolOp .And (a::b::rest) pos) (Lc ta tb):=by refineλJ s W H Q I h=>BoolOp_and<|gg (c J s W H _ I h) λv s1⟨x,Y,Z,b,a⟩=>?_;obtain⟨c,rfl,a⟩:=a;cases b;refine cx ?_;cases c with|true=>exact d J s1 W Y Q Z a|false=>exact⟨.T ce,Y,Z,rfl,a⟩
def LH(c:PE X a ta)(d:PE X (.BoolOp .Or (b::rest) pos) tb):PE X (.BoolOp .Or (a::b::rest) pos) (LM ta tb):=by refineλJ s W H Q I h=>BoolOp_or<|gg (c J s W H _ I h) λv s1⟨x,Y,Z,b,a⟩=>?_;obtain⟨c,rfl,a⟩:=a;cases b;refine cx ?_;cases c with|false=>exact d J s1 W Y Q Z a|true=>exact⟨.T bY,Y,Z,rfl,a⟩
def T3(b:PE X a ta):PE X (.UnaryOp .Not a pos) (Lz ta):=by refineλJ s W H Q I h=>UnaryOp_<|gg (b J s W H _ I h) λv s1⟨x,Y,Z,b,a⟩=>?_;obtain⟨c,rfl,a⟩:=a;exact b▸not_of (cx ⟨.T<|!c,Y,Z,rfl,a⟩)
def Kl(t:TT)(b tb:TE):TE:=λW H Q=>t W H λc a=>if c=bY then b W a Q else tb W a Q
def Vy(d:PT X c tA)(e:PE X a ta)(f:PE X b tb):PE X (.IfExp c a b pos) (Kl tA ta tb):=by refineλJ s W H Q I h=>wpAny_IfExp<|gg (d J s W H _ I h) λd s1⟨a,Y,Z⟩=>?_;cases d with|true=>exact e J s1 W a Q Y Z|false=>exact f J s1 W a Q Y Z
end
def qn(K:ac)(H:Hp)(a:Addr)(c:List V):Prop:=Rd H a (.J c)\/∃(o:Obj)(b:yJ)(n:Nat),K.lookup a=al o/\o.cls=.type "list"/\o.dict=aT/\o.data=.seq b n/\b.size<=a9/\Vals c b.toList
def sy(K:ac)(H:Hp)(a:Addr)(c:List V):Prop:=Rd H a (.tp c)\/∃(o:Obj)(b:yJ)(n:Nat),K.lookup a=al o/\o.cls=.type "tuple"/\o.data=.seq b n/\b.size<=a9/\Vals c b.toList
noncomputable def Uv:Value->Option V|.none=>al .N|.bool b=>al<|.T b|.int i _=>al<|.int i|.str x _=>al<|.str x|.bytes b _=>al<|.Er b|.float b _=>al<|.Bv b|.ref a=>al<|.ref a|.type n=>al<|.ty n|_=>aT
def RelV.abs(r:RelV x u):Uv u=al x:=by cases x with|N=>cases r;rfl|T _=>cases r;rfl|int _=>obtain⟨t,rfl⟩:=r;rfl|str _=>obtain⟨t,rfl⟩:=r;rfl|Er _=>obtain⟨t,rfl⟩:=r;rfl|Bv _=>obtain⟨t,rfl⟩:=r;rfl|ref _=>cases r;rfl|ty _=>cases r;rfl
def RelV.inj(r:RelV x u)(q:RelV y u):x=y:=az<|r.abs.symm.trans q.abs
theorem Vals.inj:∀{h a}{b:yG},Vals h b->Vals a b->h=a|_,_,_,.nil,.nil=>rfl|_,_,_,.cons r t,.cons a t'=>by rw[r.inj a,Vals.inj t t']
section
variable{X:Cx}{pins:yA}{W:St}{H:Hp}{s:ag}{a:Addr}{xs ys:List V}
def qn.of{K}(h:H a=al (.J xs)):qn K H a xs:=.inl<|.inl h
def sy.of{K}(h:H a=al (.tp xs)):sy K H a xs:=.inl<|.inl h
def Inv.list(I:Inv X pins W H s)(h:qn X.K H a xs):∃b,Vals xs b/\PlainL s.heap a b.toArray/\xs.length<=a9:=by
 rcases h with h|⟨o,b,n,c,d,f,hs,hz,r⟩;.exact AY (h.ok I.hok) λz b n r e=>Ag b r ⟨_,n,e,rfl,rfl,rfl⟩ z
 .refine Ag b.toList r ⟨o,n,I.sx a o c,d,f,by simp_all⟩ ?_;have e:=r.length;simp_all
def Inv.tuple(I:Inv X pins W H s)(h:sy X.K H a xs):∃its:List Value,Vals xs its/\IsTup s.heap a its.toArray/\xs.length<=a9:=by
 rcases h with h|⟨o,its,n,hk,hc,hs,hz,r⟩;.exact H5 (h.ok I.hok) λz H4=>c5 H4 λits r p=>⟨its,r,p,z⟩
 .refine⟨its.toList,r,⟨o,I.sx a o hk,hc,n,by simpa using hs⟩,?_⟩;have e:=r.length;simp only[du]at e;omega
def Inv.vH(I:Inv X pins W H s)(h:qn X.K H a xs)(h':qn X.K H a ys):xs=ys:=by
 obtain⟨a,r,⟨o,n,e,_,_,d⟩,_⟩:=I.list h;obtain⟨a,J,⟨Y,a,b,_,_,a⟩,_⟩:=I.list h';cases e▸b;rw[d]at a;injection a with a _;have:=by simpa using congrArg lu a
 subst this;exact r.inj J
def Inv.sU(I:Inv X pins W H s)(h:sy X.K H a xs)(h':sy X.K H a ys):xs=ys:=by
 obtain⟨a,r,⟨o,e,_,n,d⟩,_⟩:=I.tuple h;obtain⟨a,J,⟨Y,b,_,a,a⟩,_⟩:=I.tuple h';cases e▸b;rw[d]at a;injection a with a _;have:=by simpa using congrArg lu a
 subst this;exact r.inj J
end
noncomputable abbrev Cx.sC(X:Cx)(E:Value->ag->Prop):Cx:={X with xe:=E}
noncomputable abbrev Cx.nox(X:Cx):Cx:=X.sC λ_ _=>False
theorem Cx.Ok.sC{X:Cx}(ok:X.Ok)(E:Value->ag->Prop):(X.sC E).Ok:=⟨ok.mod,ok.kind,ok.glob,ok.blt,ok.above,ok.inj,ok.has,ok.cab,ok.hd,ok.frames,ok.Bl,ok.exf,ok.bs,ok.bsz,ok.noex,ok.exfs,ok.sJ,ok.frf⟩
def Cx.Ok.la{X:Cx}(ok:(X.sC E).Ok):X.Ok:=⟨ok.mod,ok.kind,ok.glob,ok.blt,ok.above,ok.inj,ok.has,ok.cab,ok.hd,ok.frames,ok.Bl,ok.exf,ok.bs,ok.bsz,ok.noex,ok.exfs,ok.sJ,ok.frf⟩
section
variable{X:Cx}{pins:yA}{W:St}{H:Hp}{s:ag}{E:Value->ag->Prop}
theorem Inv.sC(I:Inv X pins W H s)E:Inv (X.sC E) pins W H s:=⟨I.ok.sC E,I.os,I.bare,I.base,I.loc,I.cell,I.free,I.freeC,I.pin,I.hok,I.len⟩
theorem Inv.la(I:Inv (X.sC E) pins W H s):Inv X pins W H s:=⟨I.ok.la,I.os,I.bare,I.base,I.loc,I.cell,I.free,I.freeC,I.pin,I.hok,I.len⟩
theorem SP.la(h:SP (X.sC E) pins D f s'):SP X pins D f s':=by cases f with|next=>exact AD h λW' H' I q=>⟨W',H',I.la,q⟩|brk=>exact AD h λW' H' I q=>⟨W',H',I.la,q⟩|cont=>exact AD h λW' H' I q=>⟨W',H',I.la,q⟩|ret u=>exact AR h λv W' H' I r q=>⟨v,W',H',I.la,r,q⟩
theorem PE.nox(h:PE X.nox e t):PE X e t:=λJ s W H Q I a=>bD (h J s W H Q (I.sC _) a) (λ_ _⟨v,H',a,r,q⟩=>⟨v,H',a.la,r,q⟩) λ_ _ z=>bh z
theorem PT.nox(h:PT X.nox e t):PT X e t:=λJ s W H Q I a=>bD (h J s W H Q (I.sC _) a) (λ_ _⟨H',a,q⟩=>⟨H',a.la,q⟩) λ_ _ z=>bh z
theorem sR.nox{st}(h:sR X.nox st t):sR X st t:=λJ s W H D I a=>bD (h J s W H D (I.sC _) a) (λ_ _ q=>q.la) λ_ _ z=>bh z
end
section
variable{X:Cx}{st:Stmt}{rest:yL}{t u:TS}{e:Expr}{te:TE}{pos:Pos}
def Ll:TS:=λD W H=>D.nx W H
noncomputable def HF(t u:TS):TS:=λD W H=>t {D with nx:=u D} W H
def GY:sR X [] Ll:=λ_ _ W H _ I h=>dN ⟨W,H,I,h⟩
set_option tactic.hygienic true in def zM(Z:PS X st t)(Y:sR X rest u):sR X (st::rest) (HF t u):=by refineλJ s W H D I h=>lO<|gg (Z J s W H {D with nx:=u D} I h) λf s1 q=>?_;cases f with|next=>exact AD q λW' H' a q=>Y J s1 W' H' D a q|ret v=>exact q|brk=>exact q|cont=>exact q
def Jl(a:PS X st t):sR X [st] t:=by refineλJ s W H D I h=>lO<|gg (a J s W H D I h) λf s1 q=>?_;cases f with|next=>exact dN q|ret v=>exact q|brk=>exact q|cont=>exact q
def LF:TS:=λD W H=>D.ct W H
def aK8:PS X (.Continue pos) LF:=λ_ _ W H _ I h=>wpAny_Continue ⟨W,H,I,h⟩
def Inv.quiet{W:St}(I:Inv X h W H s):interactive X.env=false:=by simp[interactive,I.ok.kind]
def LD(a:TE):TS:=λD W H=>a W H λ_ a=>D.nx W a
def Ml(Z:PE X e te)(a:autoParam (fK e aT pos.line X.env=pure ce) nz._auto_1):PS X (.Expr e pos) (LD te):=λJ s W H D I h=>wpAny_Expr_any (gg (Z J s W H _ I h) λv s1⟨x,b,Y,r1,c⟩=>⟨W,b,Y,c⟩) I.quiet a
def LV(a:TE):TS:=λD W H=>a W H D.rt
def Co(Z:PE X e te):PS X (.Return (al e) pos) (LV te):=λJ s W H D I h=>wpAny_Return_some<|gg (Z J s W H _ I h) λv s1⟨x,a,Y,b,c⟩=>⟨x,W,a,Y,b,c⟩
def Ly:TS:=λD _ H=>D.rt .N H
def Yn:PS X (.Return aT pos) Ly:=λ_ _ W H _ I h=>wpAny_Return_none ⟨.N,W,H,I,rfl,h⟩
def KU(c:TT)(t u:TS):TS:=λD W H=>c W H λb a=>if b=bY then t D W a else u D W a
def Nb(d:PT X c Uu)(e:sR X a t)(f:sR X b u):PS X (.If c a b pos) (KU Uu t u):=by refineλJ s W H D I h=>wpAny_If<|gg (d J s W H _ I h) λd s1⟨Y,Z,a⟩=>?_;cases d with|true=>exact e J s1 W Y D Z a|false=>exact f J s1 W Y D Z a
def N3:TS:=λ_ _ _=>False
def Vs:PS X st N3:=λ_ _ _ _ _ _ h=>h.elim
def jf:sR X J N3:=λ_ _ _ _ _ _ h=>h.elim
end
abbrev TG:=V->St->Hp->(St->Hp->Prop)->Prop
abbrev CL:=List V->St->Hp->(St->Hp->Prop)->Prop
def PG(X:Cx)(a:Expr)(t:TG):Prop:=∀b s(W:St)H v u Q,Inv X b W H s->RelV v u->t v W H Q->wpAny (model X.prog X.w) X.A (ik a X.env u) (λ_ c=>∃a H',Inv X b a H' c/\Q a H') X.xe s
def DG(X:Cx)(ts:yK)(t:CL):Prop:=∀a s(W:St)H vs(b:yG)Q,Inv X a W H s->Vals vs b->t vs W H Q->wpAny (model X.prog X.w) X.A (assignInOrder ((c8 ts X.env).map (·.2)) b) (λ_ c=>∃b H',Inv X a b H' c/\Q b H') X.xe s
abbrev HS:=V->V->V->Hp->(Hp->Prop)->Prop
def HI(X:Cx)(t:HS):Prop:=∀a s(W:St)H o i v b c u Q,Inv X a W H s->RelV o b->RelV i c->RelV v u->t o i v H Q->wpAny (model X.prog X.w) X.A (setItem b c u) (λ_ b=>∃H',Inv X a W H' b/\Q H') X.xe s
abbrev J5:=V->V->Hp->VK->Prop
def QW(X:Cx)(b:mR)(t:J5):Prop:=∀a s(W:St)H x y v u Q,Inv X a W H s->RelV x v->RelV y u->t x y H Q->wpAny (model X.prog X.w) X.A (inplaceOp b v u) (EP X a W Q) X.xe s
section
variable{X:Cx}{pos:Pos}
def BN(i:Nat):TG:=λv W H Q=>Q (W.set i<|al v) H
def MW(a:X.N.Nodup)(hi:X.N[i]?=al x)(b:Loc X.env.scope x)(Y:autoParam (X.fn x=bY\/X.env.scope.names.lookup x=al .local) Fe._auto_1):PG X (.Name x pos) (BN i):=λJ s W H v u Q I r h=>lv<|Gu I a hi b r (λa a=>Af _ H a h) Y
def KZ:CL:=λvs W H Q=>vs=[]/\Q W H
def Ln(t:TG)(u:CL):CL:=λvs W H Q=>∃v r,vs=v::r/\t v W H λa H'=>u r a H' Q
def Yw:DG X [] KZ:=by intro J s W H vs a Q I r h;obtain⟨e,h⟩:=h;subst e;cases r;exact assignInOrder_nil<|Af W H I h
def U3{e:Expr}{es:yK}{t:TG}{u:CL}(Uu:PG X e t)(h2:DG X es u)(hs:autoParam ((c8 (e::es) X.env).map (·.2)=ik e X.env::(c8 es X.env).map (·.2)) nz._auto_1):DG X (e::es) (Ln t u):=by intro J s W H vs us Q I r h;obtain⟨v,vr,e1,h⟩:=h;subst e1;cases r with|cons r rr=>rw[hs];exact assignInOrder_cons<|gg (Uu J s W H _ _ _ I r h) λ_ s1⟨W1,Y,Z,q1⟩=>h2 J s1 W1 Y _ _ Q Z rr q1
def Hz(K:ac)(n:Nat)(t:CL):TG:=λv W H Q=>∃a b,v=.ref a/\sy K H a b/\b.length=n/\t b W H Q
def Te{k}(b:X.calm=bY)(h:DG X es t)(d:autoParam ((c8 es X.env).length=n) nz._auto_1)(e:autoParam ((c8 es X.env).findIdx? (·.1)=aT) nz._auto_1):PG X (.Tuple es k pos) (Hz X.K n t):=by intro J s W H v u Q I r c;obtain⟨a,a,f,g,i,c⟩:=c;subst f;cases r;exact AH (I.tuple g) λits Y f hz=>assign_Tuple_tuple (I.ok.hd b) f (by simp[d,<-i,Y.length]) e λh' d=>have Z:=I.kept (t':=s.toks) λb o e=>d b o (aJ<|aO e) e;h J _ W H a _ Q Z (by simp_all) c
def K2(a b:TE)(t:HS):TG:=λv W H Q=>a W H λo a=>b W a λi H2=>t o i v H2 λa=>Q W a
def TH(a:PE X o Y)(hi:PE X i Z)(b:HI X t)(c:autoParam (∀v,ik (.Subscript o i pos) X.env v=(do
   let ov<-gI [v]<|eval o X.env let Uu<-gI [v,ov]<|eval i X.env
   lr pos
   gI [v,ov,Uu]<|setItem ov Uu v
   release [v,ov,Uu] [])) DF._auto_1):PG X (.Subscript o i pos) (K2 Y Z t):=by intro J s W H v u Q I r h;rw[c];exact ai<|dW<|gg (a J s W H _ I h) λov s1⟨x,a,c,d,e⟩=>ai<|dW<|gg (hi J s1 W a _ c e) λUu a⟨y,H2,c,e,f⟩=>ai<|kP<|ai<|dW<|gg (b J a W H2 x y v ov Uu u _ c d e r f) λ_ a⟨a,b,c⟩=>wpAny_release<|Af W a b c
def z7(a:TE)(g:TG):TS:=λD W H=>a W H λx a=>g x W a D.nx
def Nn(a:PE X e Uu)(b:PG X tg g)(c:autoParam (swapsWithSole [tg] e pos.line X.env=pure ce) nz._auto_1)(d:autoParam (kQ [tg] e X.env=pure aT) nz._auto_1)(f:autoParam ((c8 [tg] X.env).map (·.2)=[ik tg X.env]) nz._auto_1):PS X (.Assign [tg] e pos) (z7 Uu g):=by refineλJ s W H D I h=>wpAny_Assign_stores (gg (a J s W H _ I h) λv s1⟨x,Y,Z,a,e⟩=>?_) c d;exact f▸gg (b J s1 W Y x v _ Z a e) λ_ a q=>q
def Ng(a:X.N.Nodup)(hi:X.N[i]?=al x)(b:Loc X.env.scope x)(c:PE X e Y)(d:autoParam (fK e (al<|.Name x J) pos.line X.env=pure ce) nz._auto_1)(f:autoParam (X.fn x=bY\/X.env.scope.names.lookup x=al .local) Fe._auto_1):PS X (.Assign [.Name x J] e pos) (z7 Y<|BN i):=by refineλUu s W H D I h=>wpAny_Assign_Name (gg (c Uu s W H _ I h) λv s1⟨y,Z,c,e,g⟩=>?_) d;exact Gu c a hi b e (λa a=>⟨_,Z,a,g⟩) f
def KN(i:Nat)(a:TE)(b:J5):TS:=λD W H=>∃x,W[i]?=al (al x)/\a W H λy a=>b x y a λz H2=>D.nx (W.set i<|al z) H2
def Tp(a:X.N.Nodup)(hi:X.N[i]?=al x)(d:Loc X.env.scope x)(b:PE X e Z)(c:QW X op Y)(g:autoParam (X.fn x=bY\/X.env.scope.names.lookup x=al .local) Fe._auto_1):PS X (.AugAssign (.Name x Uu) op e pos) (KN i Z Y):=by
 refineλJ s W H D I h=>AE h λv f h=>AE I.loc λm j l=>?_;refine AE (l i x v hi f<|by rcases d with k|k;exact .inl k;exact .inr<|.inl k) λu r l=>wpAny_AugAssign_Name ?_;have f:wpAny (model X.prog X.w) X.A (eval e X.env) (λw e=>wpAny (model X.prog X.w) X.A (inplaceOp op u w) (λr i=>wpAny (model X.prog X.w) X.A (gk X.env x r) (λ_=>SP X J D .next) X.xe i) X.xe e) X.xe s:=gg (b J s W H _ I h) λw s1⟨y,b,e,h,i⟩=>gg (c J s1 W b v y u w _ e r h i) λz b⟨zv,H2,b,c,e⟩=>Gu b a hi d c (λa a=>⟨_,H2,a,e⟩) g;rcases l with⟨a,e⟩|⟨a,c,c,b⟩;.exact i9 I.ok.kind a j e f
 .rcases a with a|a;.exact kI I.ok.kind a c b f
  .rcases d with k|k;.have:X.env.scope.names.lookup x=al .free:=a;simp_all
   .have:X.env.scope.names.lookup x=al .free:=a;simp_all
def KH(f:Int->Int->Int):J5:=λx y H Q=>∃i j,x=.int i/\y=.int j/\Q (.int<|f i j) H
def Uk:QW X .Add<|KH λi j=>i+j:=by refineλJ s W H x y v u Q I a b h=>AL h λi j c d q=>?_;subst c;subst d;obtain⟨t,rfl⟩:=a;obtain⟨t',rfl⟩:=b;exact iadd_int ⟨.int _,H,I.tok _,⟨_,rfl⟩,q⟩
end
section
variable{X:Cx}{pos:Pos}
def Ip(c:TT)(tb:TS):TS:=λD W H=>∃Ww:Nat->St->Hp->Prop,(∃m,Ww m W H)/\∀m W H,Ww m W H->c W H λb a=>if b=bY then∃N,(∀a H',N a H'->∃b,b<m/\Ww b a H')/\tb {D with nx:=N,ct:=N,bk:=D.nx} W a else D.nx W a
set_option tactic.hygienic true in def Pw(a:kx (model X.prog X.w) X.A X.env X.xe)(d:PT X c tc)(e:sR X body tb):PS X (.While c body [] pos) (Ip tc tb):=by intro J s W H D I h;obtain⟨Ww,⟨c,f⟩,turn⟩:=h;refine wpAny_While<|codeAny_whileLoop (λn g=>∃b H',Inv X J b H' g/\Ww n b H') ?_ c<|Af W H I f;rintro n s1⟨c,b,f,g⟩;refine dg a<|gg (d J s1 c b _ f<|turn n c b g) λb f⟨H2,g,d⟩=>?_;cases b with
 |true=>refine AE d λN h d=>?_;rw[ef rfl];refine dg a<|gg (e J f c H2 _ g d) λf a b=>?_;cases f with|next=>exact AD b λW3 a e Z=>AE (h W3 a Z) λm' Y f=>⟨m',Y,W3,a,e,f⟩|cont=>exact AD b λW3 a e Z=>AE (h W3 a Z) λm' Y f=>⟨m',Y,W3,a,e,f⟩|brk=>exact b|ret v=>exact b
 |false=>exact gc bu▸dN ⟨c,H2,g,d⟩
end
structure It where
 go:Nat->Hp->Prop
 yld:Nat->Hp->V->Hp->Prop
 stop:Nat->Hp->Prop
def uf(X:Cx)(a:yA)(H:Hp)(b:Addr):Prop:=H b=aT/\b≠X.env.locals/\b∉X.fs/\(b∈X.ex\/X.s₀.heap.objs.size<=b)/\(∀x c,X.env.cells.lookup x=al c->c≠b)/\∀p∈X.pn++a,p.1≠b
def Inv.yi{W:St}{b:Addr}(I:Inv X h W H s)(a:s.heap.objs.size<=b)(c:H' b=aT):uf X h H' b:=by
 refine⟨c,eF<|aB I.lt a,I.Hk a,.inr<|au I.sz a,λx c e z=>?_,λp J z=>?_⟩;.exact AF (I.cell x c e) λv q=>iN (aB q.lt<|z▸a) (bO _)
 .exact iN (aB (aO (I.pin p J).1) (z▸a)) (bO _)
structure Turn(P:aG)(w:World)(K:ac)(tg:Expr)(J:It)(fp:List Addr)(it:Addr)(tn:Nat->Heap->Prop):Prop where
 mem:it∈fp
 obj:∀i h,tn i h->∀b∈fp,∃o,h.get? b=al o/\∀v,o.data≠.cell v
 keep:∀i h h',tn i h->(∀b∈fp,∀o,h.get? b=al o->h'.get? b=al o)->tn i h'
 item:∀(X:Cx),X.prog=P->X.w=w->X.K=K->X.calm=bY->∀(i:Nat)(pins:yA)(s:ag)(W:St)(H:Hp)(E:Value->ag->Prop),Inv X pins W H s->(∀b∈fp,uf X pins H b)->tn i s.heap->J.go i H->wpAny (model P w) X.A (lP<|.ref it) (λr s1=>∃u,r=al u/\wpAny (model P w) X.A (fY tg (.ref it) u) (λ_ s2=>∃x H',Inv X pins W H' s2/\RelV x u/\J.yld i H x H'/\tn (i+1) s2.heap/\∀b∈fp,H' b=aT) E s1) E s
 done:∀(X:Cx),X.prog=P->X.w=w->X.K=K->X.calm=bY->∀(i:Nat)(pins:yA)(s:ag)(W:St)(H:Hp)(E:Value->ag->Prop),Inv X pins W H s->(∀b∈fp,uf X pins H b)->tn i s.heap->J.stop i H->wpAny (model P w) X.A (lP<|.ref it) (λr s1=>r=aT/\Inv X pins W H s1) E s
 self:∀(A:aW)(i:Nat)(s:ag)(Q:Value->ag->Prop)(E:Value->ag->Prop),tn i s.heap->Q (.ref it) s->wpAny (model P w) A (nK<|.ref it) Q E s
abbrev TI:=St->Hp->(It->Hp->Prop)->Prop
def J6(X:Cx)(a:yA)(W:St)(tg:Expr)(R:It->Hp->Prop)(b:Value)(c:ag):Prop:=∃(it:Addr)(d:List Addr)(e:Nat->Heap->Prop)(J:It)(H':Hp),b=.ref it/\Inv X a W H' c/\Turn X.prog X.w X.K tg J d it e/\e 0 c.heap/\(∀b∈d,uf X a H' b)/\R J H'
def PI(X:Cx)(tg iter:Expr)(b:TI):Prop:=∀a s(W:St)H R,Inv X a W H s->b W H R->wpAny (model X.prog X.w) X.A (eval iter X.env) (λv s1=>wpAny (model X.prog X.w) X.A (nK v) (J6 X a W tg R) X.xe s1) X.xe s
def EB(b:s.heap.get? it=al o)(c:o.cls=.type n)(d:o.data=.fields vs)(a:["enumerate","zip","dict_itemiterator","dict_reverseitemiterator","odict_iterator","itertools.zip_longest","itertools.pairwise"].contains n=ce)(a:Q () s):wpAny M A (fY tg (.ref it) u) Q E s:=by cases tg<;>first|exact aH a|(cases u<;>first|exact aH a| (refine ai<|wpAny_load b ?_;rw[c,d];show wpAny M A (if(["enumerate","zip","dict_itemiterator","dict_reverseitemiterator","odict_iterator","itertools.zip_longest","itertools.pairwise"].contains n&&vs[0]?==al (dB _))=bY then _ else _) Q E s;rw[gc<|by lia];exact aH a))
noncomputable def DJ(K:ac)(a:Addr):It:=⟨λi H=>∃b x,qn K H a b/\b[i]?=al x,λi H x H'=>H'=H/\∀b,qn K H a b->b[i]?=al x,λi H=>∃b,qn K H a b/\b.length<=i⟩
noncomputable def Fl(K:ac)(a:Addr):It:=⟨λi H=>∃b x,sy K H a b/\b[i]?=al x,λi H x H'=>H'=H/\∀b,sy K H a b->b[i]?=al x,λi H=>∃b,sy K H a b/\b.length<=i⟩
noncomputable def Hc(a:Int)(n:Nat):It:=⟨λi _=>i<n,λi H x H'=>H'=H/\x=.int (a+i),λi _=>n<=i⟩
def WN{K}a it:Turn P w K tg (DJ K a) [it] it<|λi h=>h.IsListIter it a i where
 mem:=by simp
 obj:=λi h st b a=>by
  have e:=by simpa using a
  subst e;exact AH st λo e c d=>Ac o e<|λv z=>by cases d▸z
 keep:=λi h h' st k=>st.at<|k it<|by simp
 item:=by intro X Z g h t i J s W H E I Y st j;subst Z g h;exact AD j λxs x f k=>AH (I.list f) λits l p hz=>AE (l.get k) λu a h=>AV (Y it<|by simp) λf0 m v n q r=>wpAny_pyNext_list_item st p.isList (by simpa using a) λh' g c=>have i:=I.turned (t':=s.toks) (λb o a e=>(c.2 b a).trans e) f0 m n q r;AH (id g) λo e c d=>Ac u rfl<|EB e c d (by decide) ⟨x,H,i,h,⟨rfl,λa a=>I.vH a f▸k⟩,g,λb a=>(Y b a).1⟩
 done:=by intro X Z g h t i J s W H E I Y st j;subst Z g h;exact AE j λxs f k=>AH (I.list f) λits l p hz=>AV (Y it<|by simp) λf0 m v n q r=>have a:=l.length;wpAny_pyNext_list_end (I.ok.hd t) st p.isList (by simp;lia) λh' a=>Ad rfl<|I.turned (a) f0 m n q r
 self:=λ_ _ _ _ _ st h=>wpAny_pyIter_listiter st h
def aW0{K}a it:Turn P w K tg (Fl K a) [it] it<|λi h=>h.IsTupleIter it a i where
 mem:=by simp
 obj:=λi h st b a=>by
  have e:=by simpa using a
  subst e;exact AH st λo e c d=>Ac o e<|λv z=>by cases d▸z
 keep:=λi h h' st k=>st.at<|k it<|by simp
 item:=by intro X Z g h t i J s W H E I Y st j;subst Z g h;exact AD j λxs x f k=>AH (I.tuple f) λits l p hz=>AE (l.get k) λu a h=>AV (Y it<|by simp) λf0 m v n q r=>wpAny_pyNext_tuple_item st (p) (by simpa using a) λh' g c=>have i:=I.turned (t':=s.toks) (λb o a e=>(c.2 b a).trans e) f0 m n q r;AH (id g) λo e c d=>Ac u rfl<|EB e c d (by decide) ⟨x,H,i,h,⟨rfl,λa a=>I.sU a f▸k⟩,g,λb a=>(Y b a).1⟩
 done:=by intro X Z g h t i J s W H E I Y st j;subst Z g h;exact AE j λxs f k=>AH (I.tuple f) λits l p hz=>AV (Y it<|by simp) λf0 m v n q r=>have a:=l.length;wpAny_pyNext_tuple_end (I.ok.hd t) st (p) (by simp;omega) λh' a=>Ad rfl<|I.turned (a) f0 m n q r
 self:=λ_ _ _ _ _ st h=>wpAny_pyIter_tupleiter st h
def aZ1{K}it Z n:Turn P w K tg (Hc Z n) [it] it<|λi h=>j9 h it (Z+(i)*1) ((n)-(i)) 1 where
 mem:=by simp
 obj:=λi h st b a=>by simp_all
 keep:=λi h h' st k=>k it (by simp) _ st;item:=by intro X c d f g i J s W H E I Y st h;subst c d f;refine AV (Y it<|by simp) λf0 j p k l m=>have Ww:=nY (prog:=X.prog) (w:=X.w) (I.ok.hd g) it Z 1 n;Ww.item i s _ _ h st λv h' tk a c kk=>?_;obtain⟨t,rfl⟩:=a;have d:Inv X J W H {s with heap:=h',toks:=tk}:=I.turned (λb o a e=>kk b o (by simp_all) e) f0 j k l m;refine Ac _ rfl<|EB c rfl rfl (by decide) ⟨.int<|Z+i,H,d,⟨t,?_⟩,⟨rfl,rfl⟩,c,λb a=>(Y b a).1⟩;lia
 done:=by intro X c d f g i J s W H E I Y st h;subst c d f;exact AV (Y it<|by simp) λf0 j p k l m=>il (I.ok.hd g) st (by have:n<=i:=h;lia) λh' a=>Ad rfl<|I.turned (a) f0 j k l m
 self:=λ_ _ _ _ _ st h=>im st h
section
variable{X:Cx}{tg:Expr}
def IT(K:ac)(tl:TE):TI:=λW H R=>tl W H λx b=>∃a,x=.ref a/\(∃c,qn K b a c)/\R (DJ K a) b
def HA(K:ac)(tl:TE):TI:=λW H R=>tl W H λx b=>∃a,x=.ref a/\(∃c,sy K b a c)/\R (Fl K a) b
def Zf(a:PE X l tl):PI X tg l<|IT X.K tl:=by
 refineλJ s W H R I h=>gg (a J s W H _ I h) λv s1⟨x,Y,c,b,Z⟩=>?_;obtain⟨a,e,⟨d,d⟩,q⟩:=Z;subst e;cases b;refine AH (c.list d) λits b p hz=>ft p.isList ⟨s1.heap.objs.size,[s1.heap.objs.size],_,_,Y,rfl,c.kept λb o e=>aq _ e,WN a _,⟨_,aY _ rfl,rfl,rfl⟩,λb a=>?_,q⟩;have e:=by simpa using a
 exact e▸c.yi (ak _) (c.hok.fresh<|ak _)
def Tj(a:PE X l tl):PI X tg l<|HA X.K tl:=by
 refineλJ s W H R I h=>gg (a J s W H _ I h) λv s1⟨x,Y,c,b,Z⟩=>?_;obtain⟨a,e,⟨d,d⟩,q⟩:=Z;subst e;cases b;refine AH (c.tuple d) λits b p hz=>kW (p) ⟨s1.heap.objs.size,[s1.heap.objs.size],_,_,Y,rfl,c.kept λb o e=>aq _ e,aW0 a _,⟨_,aY _ rfl,rfl,rfl⟩,λb a=>?_,q⟩;have e:=by simpa using a
 exact e▸c.yi (ak _) (c.hok.fresh<|ak _)
def Zy{W:St}(I:Inv X J W H s)(Y:-(2^62)<=h)(Z:h<2^62)(c:-(2^62)<=hi)(d:hi<2^62)(q:R (Hc h (hi-h).toNat) H):wpAny (model X.prog X.w) X.A (nK<|.ref s.heap.objs.size) (J6 X J W tg R) E {s with heap:=s.heap.push {cls:=.type "range",data:=.fields #[.int h t,.int hi u,.int 1 v]},toks:=tk}:=by
 refine kX (nZ ..) (small_one Y Z c d) ?_;have c:Inv X J W H {s with heap:=s.heap.push {cls:=.type "range",data:=.fields #[.int h t,.int hi u,.int 1 v]},toks:=tk}:=I.kept λb o e=>aq _ e;refine⟨(s.heap.push {cls:=.type "range",data:=.fields #[.int h t,.int hi u,.int 1 v]}).objs.size,[(s.heap.push {cls:=.type "range",data:=.fields #[.int h t,.int hi u,.int 1 v]}).objs.size],_,_,H,rfl,c.kept (t':=tk) λb o e=>aq _ e,aZ1 _ h (hi-h).toNat,?_,λb d=>?_,q⟩;.show j9 _ _ (h+((0:Nat):Int)*1) ((((hi-h).toNat:Nat):Int)-((0:Nat):Int)) 1;rw[(by simp:h+((0:Nat):Int)*1=h),(by rw[rangeSize_one];lia:(((hi-h).toNat:Nat):Int)-((0:Nat):Int)=ci h hi 1)];exact aY _ rfl
 .have e:b=(s.heap.push {cls:=.type "range",data:=.fields #[.int h t,.int hi u,.int 1 v]}).objs.size:=by simp_all
  exact e▸c.yi (ak _) (c.hok.fresh<|ak _)
def Lr(a:TA):TI:=λW H R=>a W H λvs a=>∃j,vs=[.int j]/\-(2^62)<=j/\j<2^62/\R (Hc 0 j.toNat) a
def WQ(b:Gl X "range")(c:X.mg "range"=aT)(d:PA X [a] Y)(e:autoParam (be [a] X.env=[(ce,eval a X.env)]) nz._auto_1):PI X tg (.Call (.Name "range" p) [a] [] pos) (Lr Y):=by refineλJ s W H R I h=>Call_<|Dm I b c boot_range<|d4 (gg (d pos J s W H _ I h) λa s1⟨vs,H1,Z,b,a⟩=>?_) e rfl;obtain⟨j,e,a,c,q⟩:=a;subst e;cases b with|cons r b=>cases b;obtain⟨t,rfl⟩:=r;exact call_range_1<|Zy Z (by lia) (by lia) a c<|by simp_all
def HQ(a:TI)(g:TG)(tb:TS):TS:=λD W H=>a W H λJ a=>∃Ww:Nat->Nat->St->Hp->Prop,(∃m,Ww 0 m W a)/\∀i m W H,Ww i m W H->(J.stop i H/\D.nx W H)\/(J.go i H/\∃N,(∀a H',N a H'->∃b,b<m/\Ww (i+1) b a H')/\∀x H',J.yld i H x H'->g x W H' λa H2=>tb {D with nx:=N,ct:=N,bk:=D.nx} a H2)
noncomputable def E9(a:List Addr)(h:Heap):List<|Addr×Obj:=a.filterMap λb=>(h.get? b).map λo=>(b,o)
def jM(a:b∈J)(e:h.get? b=al o):(b,o)∈E9 J h:=cQ.mpr<|Ac b a<|by rw[e];rfl
def VS(a:p∈E9 J h):p.1∈J/\h.get? p.1=al p.2:=by refine AE (cQ.mp a) λb a e=>?_;cases q:h.get? b with|none=>simp_all|some o=>rw[q]at e;have b:=az e;exact b▸⟨a,q⟩
def Inv.pinned{W:St}(I:Inv X h W H s)(a:∀b∈J,uf X h H b)(c:∀b∈J,∃o,s.heap.get? b=al o/\∀v,o.data≠.cell v):Inv X (h++E9 J s.heap) W H s:=I.uB λp b=>(aU.mp b).elim (λz=>I.pin p<|aR _ z) λz=>by refine AB (VS z) λhb e=>AU (a p.1 hb) λY a Z _=>AE (c p.1 hb) λo b d=>?_;cases e▸b;exact⟨e,Y,a,Z,d⟩
def Inv.tR{W:St}(I:Inv X (h++pl) W H s):Inv X h W H s:=I.uB λp J=>I.pin p<|aR _<|bq _ J
def NN(c:kx (model X.prog X.w) X.A X.env X.xe)(j:X.calm=bY)(hi:PI X tg iter wi)(o:PG X tg g)(a:sR X body tb)(hs:autoParam (∀x,d5 iter X.env x=pure x) DF._auto_1):PS X (.For tg iter body [] pos) (HQ wi g tb):=by
 refineλUu s W H D I h=>wpAny_For (gg (hi Uu s W H _ I h) λv s1 b=>gg b λb b h2=>?_) hs;obtain⟨it,d,l,J,H2,e,g,T,h,f,Ww,⟨k,m⟩,turn⟩:=h2;subst e;have Z:∀{H'},(∀b∈d,H' b=aT)->∀b∈d,uf X Uu H' b:=λd b a=>⟨d b a,(f b a).2⟩;refine codeAny_forLoop_any (λn a=>∃i e H',Inv X Uu e H' a/\l i a.heap/\(∀b∈d,H' b=aT)/\Ww i n e H') ?_ k<|Ak 0 W H2 g h (λb a=>(f b a).1) m;rintro n g⟨i,b,f,h,k,m,e⟩;rcases turn i n b f e with⟨e,p⟩|⟨q,N,s,step⟩;.exact dg c<|gg (T.done X rfl rfl rfl j i Uu g b f X.xe h (Z m) k e) λr s4⟨e,r⟩=>e▸dN ⟨b,f,r,p⟩
 .refine dg c<|gg (T.item X rfl rfl rfl j i Uu g b f X.xe h (Z m) k q) λr s4⟨u,e,f⟩=>?_;subst e;refine dg c<|gg f λ_ e⟨x,f,g,h,y5,k,j⟩=>have m:=g.pinned (Z j) (T.obj _ _ k);dg c<|gg (o _ e b f x u _ m h<|step x f y5) λ_ b⟨f,g,h,q6⟩=>dg c<|gg (a _ b f g _ h q6) λf a g=>?_;have again:∀{W7}{c},Inv X (Uu++E9 d e.heap) W7 c a->N W7 c->∃m,m<n/\∃i e H',Inv X Uu e H' a/\l i a.heap/\(∀b∈d,H' b=aT)/\Ww i m e H':=λ{W7 c}Y j=>by refine AE (s W7 c j) λm' a d=>⟨m',a,i+1,W7,c,Y.tR,T.keep _ _ _ k λb a o e=>(Y.pin (b,o)<|aR _<|aR _<|jM a e).1,λb a=>?_,d⟩;exact AE (T.obj _ _ k b a) λo e d=>(Y.pin (b,o)<|aR _<|aR _<|jM a e).2.1
  cases f with|next=>exact AD g λW7 c Y j=>again Y j|cont=>exact AD g λW7 c Y j=>again Y j|brk=>exact AD g λW7 c Y g=>⟨W7,c,Y.tR,g⟩|ret v=>exact AR g λx7 W7 c Y a g=>⟨x7,W7,c,Y.tR,a,g⟩
end
abbrev R2:=V->V->Hp->VK->Prop
def uz(X:Cx)(f:Value->Value->Sem Value)(r:R2):Prop:=∀a s(W:St)H x y v u Q,Inv X a W H s->RelV x v->RelV y u->r x y H Q->wpAny (model X.prog X.w) X.A (f v u) (EP X a W Q) X.xe s
def t4(X:Cx)(f:Value)(r:List V->Hp->VK->Prop):Prop:=∀a s(W:St)H b(c:yG)Q,Inv X a W H s->Vals b c->r b H Q->wpAny (model X.prog X.w) X.A (call f c) (EP X a W Q) X.xe s
def DP(r:R2)(a tb:TE):TE:=λW H Q=>a W H λx a=>tb W a λy H2=>r x y H2 Q
def rI(Cc:Int->Int->Prop)(g:Int->Int->V):R2:=λx y H Q=>∃i j,x=.int i/\y=.int j/\Cc i j/\Q (g i j) H
def y4(g:Int->Int->V):R2:=λx y H Q=>∃i j,x=.int i/\y=.int j/\Q (g i j) H
section
variable{X:Cx}{a b c:Expr}{ta tb tc:TE}{pos:Pos}
def HC(e:PE X a ta)(g:PE X b tb){W:St}{R:V->V->Hp->Prop}(I:Inv X J W H s)(h:ta W H λx d=>tb W d λy H2=>R x y H2){f:Value->Value->Sem Value}(i:∀v u c x y H2,Inv X J W H2 c->RelV x v->RelV y u->R x y H2->wpAny (model X.prog X.w) X.A (f v u) Q X.xe c):wpAny (model X.prog X.w) X.A (eval a X.env) (λv Z=>wpAny (model X.prog X.w) X.A (eval b X.env) (λu a=>wpAny (model X.prog X.w) X.A (f v u) Q X.xe a) X.xe Z) X.xe s:=gg (e J s W H _ I h) λv s1⟨x,d,a,b,c⟩=>gg (g J s1 W d _ a c) λu c⟨y,H2,a,Y,d⟩=>i v u c x y H2 a b Y d
def Ri(c:uz X (eR op) r)(d:PE X a ta)(e:PE X b tb):PE X (.BinOp a op b pos) (DP r ta tb):=λJ s W H Q I h=>wpAny_BinOp<|HC d e I h λv u a x y H2 b Y d q=>c J a W H2 x y v u Q b Y d q
def Fy{g:Int->Int->Int}(a:∀(i j:Int)(t u:Tok)(s:ag)(Q:Value->ag->Prop)(E:Value->ag->Prop),Cc i j->Q (.int (g i j) s.toks) {s with toks:=s.toks+1}->wpAny (model X.prog X.w) X.A (f (.int i t) (.int j u)) Q E s):uz X f<|rI Cc λi j=>.int<|g i j:=by intro J s W H x y v u Q I Y b h;obtain⟨i,j,rfl,rfl,c,q⟩:=h;obtain⟨t,rfl⟩:=Y;obtain⟨t',rfl⟩:=b;exact a i j t t' s _ _ c ⟨.int<|g i j,H,I.tok _,⟨_,rfl⟩,q⟩
def HM{g:Int->Int->Int}(a:∀(i j:Int)(t u:Tok)(s:ag)(Q:Value->ag->Prop)(E:Value->ag->Prop),Q (.int (g i j) s.toks) {s with toks:=s.toks+1}->wpAny (model X.prog X.w) X.A (f (.int i t) (.int j u)) Q E s):uz X f<|y4 λi j=>.int<|g i j:=by intro J s W H x y v u Q I Y b h;obtain⟨i,j,rfl,rfl,q⟩:=h;obtain⟨t,rfl⟩:=Y;obtain⟨t',rfl⟩:=b;exact a i j t t' s _ _ ⟨.int<|g i j,H,I.tok _,⟨_,rfl⟩,q⟩
def FR{g:Int->Int->Bool}(a:∀(i j:Int)(t u:Tok)(s:ag)(Q:Value->ag->Prop)(E:Value->ag->Prop),Q (.bool<|g i j) s->wpAny (model X.prog X.w) X.A (f (.int i t) (.int j u)) Q E s):uz X f<|y4 λi j=>.T<|g i j:=by intro J s W H x y v u Q I Y b h;obtain⟨i,j,rfl,rfl,q⟩:=h;obtain⟨t,rfl⟩:=Y;obtain⟨t',rfl⟩:=b;exact a i j t t' s _ _ ⟨.T<|g i j,H,I,rfl,q⟩
def Up(i j:Int):Prop:=0<=j/\j<=1000000/\i.natAbs<2^64
def FY(i j:Int):Prop:=(-(2^64)<i/\i<2^64)\/(-(2^64)<j/\j<2^64)
def FY.ok(h:FY i j):IntMulOk i j:=by
 rcases h with⟨a,J⟩|⟨a,J⟩;.exact .of_left<|intBits_le_64 a J
 .exact .of_right<|intBits_le_64 a J
def R8:uz X (eR .Add) (y4 λi j=>.int<|i+j):=HM λ_ _ _ _ _ _ _ q=>add_int q
def Sb:uz X (eR .Sub) (y4 λi j=>.int<|i-j):=HM λ_ _ _ _ _ _ _ q=>sub_int q
def Tw:uz X (eR .Mod) (rI (λ_ j=>0<j) λi j=>.int<|i%j):=Fy λi j _ _ _ _ _ a q=>mod_int' (by lia) (by rw[Int.fmod_eq_emod_of_nonneg i<|by lia];exact q)
def Ui:uz X (eR .Pow) (rI Up λi j=>.int<|i^j.toNat):=Fy λ_ _ _ _ _ _ _ a q=>pow_int_small a.1 a.2.1 a.2.2 q
def Rf:uz X (eR .BitOr) (y4 λi j=>.int<|gX i j):=HM λ_ _ _ _ _ _ _ q=>or_int q
end
section
variable{X:Cx}{a b c:Expr}{ta tb tc:TE}{pos:Pos}
def Rx:uz X (cS .Lt) (y4 λi j=>.T<|decide<|i<j):=FR λ_ _ _ _ _ _ _ q=>lt_int q
def Rr:uz X (cS .LtE) (y4 λi j=>.T<|decide<|i<=j):=FR λ_ _ _ _ _ _ _ q=>le_int q
def R0:uz X (cS .Gt) (y4 λi j=>.T<|decide<|j<i):=FR λ_ _ _ _ _ _ _ q=>gt_int q
def RG:uz X (cS .GtE) (y4 λi j=>.T<|decide<|j<=i):=FR λ_ _ _ _ _ _ _ q=>ge_int q
def X7(c:uz X (cS op) r)(d:PE X a ta)(e:PE X b tb)(Y:dk op b=ce):PE X (.Compare a [op] [b] pos) (DP r ta tb):=λJ s W H Q I h=>wpAny_Compare1 (HC d e I h λv u a x y H2 b Z d q=>c J a W H2 x y v u Q b Z d q) Y
def IB(t:TE):TT:=λW H Q=>t W H λx H'=>∃k,x=.T k/\Q k H'
def XG(c:uz X (cS op) r)(d:PE X a ta)(e:PE X b tb)(f:dk op b=ce):PT X (.Compare a [op] [b] pos) (IB<|DP r ta tb):=by refineλJ s W H Q I h=>iQ (gg (d J s W H _ I h) λv s1⟨x,Z,a,b,d⟩=>gg (e J s1 W Z _ a d) λu a⟨y,H2,d,e,g⟩=>gg (c J a W H2 x y v u _ d b e g) λc a⟨z,Y,a,b,k,e,c⟩=>?_) f;subst e;exact b▸cx ⟨Y,a,c⟩
def HY(r b:R2)(a tb c:TE):TE:=λW H Q=>a W H λx a=>tb W a λy H2=>r x y H2 λz a=>∃k,z=.T k/\(if k=bY then c W a λc d=>b y c d Q else Q (.T ce) a)
def U9(d:uz X (cS op) r)(Y:uz X (cS Uu) r')(e:PE X a ta)(f:PE X b tb)(g:PE X c tc)(i:autoParam (nE [op,Uu] [b,c]=ce) QT._auto_1):PE X (.Compare a [op,Uu] [b,c] pos) (HY r r' ta tb tc):=by refineλJ s W H Q I h=>Compare_chain (gg (e J s W H _ I h) λv s1⟨x,a,b,c,e⟩=>chain_link<|gg (f J s1 W a _ b e) λu a⟨y,H2,b,Z,e⟩=>gg (d J a W H2 x y v u _ b c Z e) λd d⟨z,a,b,f,k,e,c⟩=>?_) i;subst e;cases f;refine cx ?_;cases k with|false=>exact ite_ff ⟨.T ce,a,b,rfl,c⟩|true=>exact ite_tt<|chain_last<|gg (g J d W a _ b c) λa s4⟨b,c,d,e,f⟩=>Y J s4 W c y b u a Q d Z e f
def Zs(d:uz X (cS op) r)(Y:uz X (cS Uu) r')(e:PE X a ta)(f:PE X b tb)(g:PE X c tc)(i:autoParam (nE [op,Uu] [b,c]=ce) QT._auto_1):PT X (.Compare a [op,Uu] [b,c] pos) (IB<|HY r r' ta tb tc):=by refineλJ s W H Q I h=>isTrue_chain (gg (e J s W H _ I h) λv s1⟨x,a,b,c,e⟩=>test_link<|gg (f J s1 W a _ b e) λu a⟨y,H2,b,Z,e⟩=>gg (d J a W H2 x y v u _ b c Z e) λd d⟨z,a,b,f,k,e,c⟩=>?_) i;subst e;cases f;refine cx ?_;cases k with|false=>refine AE c λk' e f=>?_;cases e;exact ite_ff ⟨a,b,f⟩|true=>refine ite_tt<|test_last<|gg (g J d W a _ b c) λa s4⟨b,c,d,e,f⟩=>gg (Y J s4 W c y b u a _ d Z e f) λa a⟨z2,a,b,c,k2,d,e⟩=>?_;subst d;exact c▸cx ⟨a,b,e⟩
def Dp:(a9)<2^63:=by rw[fU];decide
def W2:uz X (eR .Add) (λx y H Q=>∃i j,x=.str i/\y=.str j/\i.length+j.length<=a9/\Q (.str<|i++j) H):=by intro J s W H x y v u Q I Y a h;obtain⟨i,j,rfl,rfl,hz,q⟩:=h;obtain⟨t,rfl⟩:=Y;obtain⟨t',rfl⟩:=a;exact add_str (λt' tk=>⟨.str<|i++j,H,I.tok _,⟨_,rfl⟩,q⟩) hz
def wJ{a:yG}(r:Vals [x] a):∃u,a=[u]/\RelV x u:=by cases r with|cons a b=>cases b;exact Ac _ rfl a
def IE{a:yG}(r:Vals [x,y] a):∃u b,a=[u,b]/\RelV x u/\RelV y b:=by cases r with|cons a b=>cases b with|cons b c=>cases c;exact Ah _ _ rfl a b
def Zt:t4 X (.builtin "abs") (λa H Q=>∃i,a=[.int i]/\Q (.int<|if i<0 then-i else i) H):=by intro J s W H a a Q I r h;obtain⟨i,rfl,q⟩:=h;obtain⟨u,rfl,t,rfl⟩:=wJ r;exact call_abs_int λu tk=>⟨.int<|if i<0 then-i else i,H,I.tok _,⟨_,rfl⟩,q⟩
def VU(b:X.calm=bY):t4 X (.builtin "max") (λa H Q=>∃i j,a=[.int i,.int j]/\Q (.int<|if j>i then j else i) H):=by
 intro J s W H a a Q I r h;obtain⟨i,j,rfl,q⟩:=h;obtain⟨u,a,rfl,⟨t,rfl⟩,⟨t',rfl⟩⟩:=IE r;refine max_two_ints (I.ok.hd b) λh' tk k=>⟨_,H,I.kept k,?_,q⟩;by_cases a:j>i;.rw[ef a,ef a];exact⟨_,rfl⟩
 .rw[gc a,gc a];exact⟨_,rfl⟩
def Wv(b:X.calm=bY):t4 X (.builtin "min") (λa H Q=>∃i j,a=[.int i,.int j]/\Q (.int<|if j<i then j else i) H):=by
 intro J s W H a a Q I r h;obtain⟨i,j,rfl,q⟩:=h;obtain⟨u,a,rfl,⟨t,rfl⟩,⟨t',rfl⟩⟩:=IE r;refine min_two_ints (I.ok.hd b) λh' tk k=>⟨_,H,I.kept k,?_,q⟩;by_cases a:j<i;.rw[ef a,ef a];exact⟨_,rfl⟩
 .rw[gc a,gc a];exact⟨_,rfl⟩
def VQ:t4 X (.type "int") (λJ H Q=>(∃i,J=[.int i]/\Q (.int i) H)\/∃k,J=[.T k]/\Q (.int<|if k then 1 else 0) H):=by
 intro a s W H J a Q I r h;rcases h with⟨i,rfl,q⟩|⟨k,rfl,q⟩;.obtain⟨u,rfl,t,rfl⟩:=wJ r;exact call_int_int ⟨.int i,H,I,⟨_,rfl⟩,q⟩
 .obtain⟨u,rfl,r1⟩:=wJ r;exact r1▸call_int_bool ⟨.int<|if k then 1 else 0,H,I.tok _,⟨_,rfl⟩,q⟩
end
structure wx(h:Heap)(x dx Cc:Addr)(mA:yC):Prop where
 obj:h.get? x=al (cT Cc dx)ns:h.Ns1 dx mA
 ne:dx≠x
set_option tactic.hygienic true in def Wc{h:Heap}{Y:yC}(n:h.Ns1 Uu Y):∃a,h.get? Uu=al a/\∀name,gu name a=al (Y name):=by
 refine AK n λo es a a b c Zz=>AB Zz λ_ d=>Ac o a<|λname=>?_;have e:=d name;unfold nsFind findBy at e;rw[<-Array.find?_toList]at e;unfold gu;rw[b];dsimp only;split;.simp_all
 .rename_i q;rw[q]at e;have a:es.toList.any (·.refKey)=false:=by rw[List.any_eq_false];refineλy a=>AZ (c y<|Array.mem_toList_iff.mp a) λz t J=>?_;simp[DictEntry.refKey,J]
  simp_all
def wx.look(I:wx h x J Cc Uu):∃a,PySem.W.InstAt h x (cT Cc J) Cc (al a)/\∀name,gu name a=al (Uu name):=let⟨a,ho,hl⟩:=Wc I.ns;(Ac a ⟨I.obj,rfl,rfl,ho⟩ hl)
section
variable{prog:aG}{w:World}{A:aW}{E:Value->ag->Prop}{s:ag}{K:ac}{x dx Cc f:Addr}{mA:yC}{name:Str}{v:Value}
def X8(X:K.In s.heap)(I:wx s.heap x dx Cc mA)(a:eG K Cc name=bY)(b:fu K Cc=bY)(c:bQ K (.ref Cc) name=al aT)(d:mA name=al v)(Y:lQ v=bY)(h:Q v {s with toks:=s.toks+1}):wpAny (model prog w) A (getAttr (.ref x) name Uu) Q E s:=AE I.look λod J Z=>PySem.W.get_value X J (ga a).1 (PySem.W.findObj_own b c rfl<|by rw[Z,d]) Y h
def ZT(X:K.In s.heap)(I:wx s.heap x dx Cc mA)(a:eG K Cc name=bY)(Z:bQ K (.ref Cc) name=al (al<|.ref f))(b:io K (.ref f)=bY)(c:mA name=aT)(h:Q (.ref f,[.ref x]) s):wpAny (model prog w) A (kz (.ref x) name pl) Q E s:=AE I.look λod J Y=>PySem.W.method_fn X J (ga a).1 (ga a).2 Z (beq_iff_eq.mp b) (by show(gu name od).map (·.isSome)=al ce;simp_all) h
def Xb{ns:yH}(X:K.In s.heap)(I:wx s.heap x dx Cc mA)(a:bQ K (.ref Cc) "__setattr__"=al (al<|.builtin "object.__setattr__"))(b:gJ K Cc=bY)(c:iH K Cc name=al aT)(d:fu K Cc=bY)(e:lq mA ns)(f:ns.length<=a9)(h:∀h',wx h' x dx Cc (λy=>if y=name then al v else mA y)->eD dx s.heap h'->Q () {s with heap:=h',toks:=s.toks+2}):wpAny (model prog w) A (setAttr (.ref x) name v) Q E s:=by refine AE I.look λod J f=>PySem.W.set_plain X J a<|PySem.W.osa_open X J b c λb=>AE (PySem.W.any_some d) λcd a b=>have c:=I.obj;ai<|aH<|ai<|ai<|wpAny_loadPart c<|ai<|oa (PySem.W.looks_clsIn X a) ?_;rw[b];refine aH<|ai<|aH<|ai ?_;refine wpAny_nsSet1 I.ns λh' Y a=>AR (Y.count<|PySem.Within.cons name v e) λoD b b b Z c=>ai<|wpAny_lookBehind b (Z▸pastItsLine_dict (au c<|by simp_all)) ?_;exact aH<|h _ ⟨(a.2 _<|bE I.ne).trans I.obj,Y,I.ne⟩ a
def ZY{vs:yG}(X:K.In s.heap)(a:dP K Cc=bY)(hi:bQ K (.ref Cc) "__init__"=al (al<|.ref f))(Y:PySem.W.typeIn K (.ref f)=al (.type "function"))(h:fQ (model prog w) (A.under<|.builtin "type.__call__" ⟨.ref Cc::vs,J⟩) (.call (.ref f) ⟨.ref (s.heap.objs.size+1)::vs,J⟩) (PySem.W.InitBack (s.heap.objs.size+1) R)
   {s with heap:=(s.heap.push cI).push<|cT Cc s.heap.objs.size}):fQ (model prog w) A (.call (.ref Cc) ⟨vs,J⟩) R s:=by obtain⟨b,g,d,t,b⟩:=s;exact PySem.W.make_core (PySem.W.makes_of X a) (PySem.W.looks_findIn X hi) (λa=>PySem.W.bind_fn X a Y) (.inl rfl) h
end
noncomputable def uW(f:Str)(v:V):List (Str×V)->List (Str×V)|[]=>[(f,v)]|(g,x)::r=>if g=f then(g,v)::r else(g,x)::uW f v r
theorem OG f g v:∀fs:List<|Str×V,(uW f v fs).lookup g=if g=f then al v else fs.lookup g|[]=>by show dF g [(f,v)]=_;grind|(k,x)::r=>by have J:=OG f g v r;rw[show uW f v ((k,x)::r)=(if k=f then(k,v)::r else(k,x)::uW f v r)from rfl];grind
theorem Jb f v:∀fs:List<|Str×V,f∈(uW f v fs).map (·.1)/\∀g,g∈fs.map (·.1)->g∈(uW f v fs).map (·.1)|[]=>⟨by simp[uW],λg h=>by grind⟩|(k,x)::r=>by obtain⟨a,J⟩:=Jb f v r;rw[show uW f v ((k,x)::r)=(if k=f then(k,v)::r else(k,x)::uW f v r)from rfl];grind
theorem OK f v:∀fs:List<|Str×V,(uW f v fs).length<=fs.length+1|[]=>by simp[uW]|(k,x)::r=>by have h:=OK f v r;rw[show uW f v ((k,x)::r)=(if k=f then(k,v)::r else(k,x)::uW f v r)from rfl];grind
def vV.some_of(r:vV (al v) o):∃u,o=al u/\RelV v u:=by cases o with|none=>exact(r).elim|some u=>exact Ac u rfl r
def vV.none_of(r:vV aT o):o=none:=by cases o with|none=>rfl|some u=>exact(r).elim
def WO(r:RelV v u):lQ u=true:=by cases v with|N=>cases(r);rfl|T b=>cases(r);rfl|int i=>obtain⟨t,e⟩:=(r);cases e;rfl|str x=>obtain⟨t,e⟩:=(r);cases e;rfl|Er b=>obtain⟨t,e⟩:=(r);cases e;rfl|Bv b=>obtain⟨t,e⟩:=(r);cases e;rfl|ref a=>cases(r);rfl|ty n=>cases(r);rfl
section
variable{P:aG}{w:World}{H H':Hp}{h h':Heap}{a Cc dx:Addr}{fs fs':List<|Str×V}
def G1(hok:q8 P w H h)(e:H a=al (.ins Cc dx fs)):∃J,wx h a dx Cc J/\(∀f,vV (fs.lookup f) (J f))/\lq J (fs.map (·.1))/\fs.length<=1000/\H dx=al (.own a):=AW (hok a _ e) λd z ne a Zz=>AH Zz λJ n r q=>An J ⟨a,n,ne⟩ r q z d
end
structure vp(K:ac)(Cc:Addr):Prop where
 pg:eG K Cc Str.empty=bY
 hd:fu K Cc=bY
 po:gJ K Cc=bY
 sa:bQ K (.ref Cc) "__setattr__"=al (al<|.builtin "object.__setattr__")
def vp.get{K}(c:vp K Cc)f:eG K Cc f=true:=c.pg
def kv(K:ac)(Cc:Addr)(f:Str):Prop:=bQ K (.ref Cc) f=al aT
def kv.DO{K}(n:kv K Cc f):iH K Cc f=al none:=by unfold iH;rw[n];rfl
structure Meth(K:ac)(Cc:Addr)(m:Str)(f:Addr):Prop where
 at_:bQ K (.ref Cc) m=al (al<|.ref f)fn:io K (.ref f)=bY
 kp:bR K (.ref f)=bY
section
variable{X:Cx}{pins:yA}{W:St}{H:Hp}{s:ag}{a Cc dx:Addr}{fs:List<|Str×V}{f:Str}{v:V}{A:aW}{E:Value->ag->Prop}
def WW(I:Inv X pins W H s)(e:H a=al (.ins Cc dx fs))(c:vp X.K Cc)(n:kv X.K Cc f)(l:fs.lookup f=al v)(h:∀u d,Inv X pins W H d->RelV v u->Q u d):wpAny (model X.prog X.w) A (getAttr (.ref a) f b) Q E s:=AN (G1 I.hok e) λUu O r _ _ _=>AE (vV.some_of (v:=v) (o:=Uu f)<|l▸r f) λu a J=>X8 I.sx O (c.get f) c.hd n a (WO J) (h u _ (I.tok _) J)
def Oe(I:Inv X pins W H s)(e:H a=al (.ins Cc dx fs))(c:vp X.K Cc)(k:Meth X.K Cc m g)(l:fs.lookup m=aT)(h:Q (.ref g,[.ref a]) s):wpAny (model X.prog X.w) A (kz (.ref a) m pl) Q E s:=AN (G1 I.hok e) λJ O r _ _ _=>have a:J m=none:=vV.none_of<|l▸r m;ZT I.sx O (c.get m) k.at_ k.fn a h
def aY2(I:Inv X pins W H s)(e:H a=al (.ins Cc dx fs))(c:vp X.K Cc)(n:kv X.K Cc f)(b:fs.length<1000)(i:RelV y u)(h:∀b,Inv X pins W (upd H a<|.ins Cc dx<|uW f y fs) b->Q () b):wpAny (model X.prog X.w) A (setAttr (.ref a) f u) Q E s:=by
 refine AN (G1 I.hok e) λY O r a _ d=>?_;refine Xb I.sx O c.sa c.po n.DO c.hd a (by rw[aw,fU];lia) λh' J Z=>h _ ?_;refine I.write (e▸True.intro) (.inr d) (λb q e z=>(Z.2 b e).trans z) (let⟨o,_,_,e',_⟩:=J.ns;⟨o,e'⟩) ⟨zd O.ne▸d,?_,O.ne,J.obj,_,J.ns,λg=>?_,λg b=>?_⟩;.have:=OK f y fs;lia
 .rw[OG];by_cases q:g=f;.exact ef q▸ef q▸i
  simp_all
 .by_cases q:g=f;.exact q▸(Jb f y fs).1
  .refine(Jb f y fs).2 g<|a g λz=>b ?_;lia
def Inv.made(I:Inv X pins W H s):Inv X pins W (upd (upd H s.heap.objs.size<|.own<|s.heap.objs.size+1) (s.heap.objs.size+1) (.ins Cc s.heap.objs.size []))
  {s with heap:=(s.heap.push cI).push<|cT Cc s.heap.objs.size}:=by
 have a:(s.heap.push cI).get? s.heap.objs.size=al cI:=aY s.heap rfl;have c:=by have:=aY (s.heap.push cI) (o:=cT Cc s.heap.objs.size) rfl;rwa[cy]at this
 refine(I.laid (o:=.own<|s.heap.objs.size+1) (t':=s.toks) (λb u q=>aq _ q) (ak _) ⟨_,a⟩).laid (λb u q=>aq _ q) (nM<|cy _ _) ?_;have ne:s.heap.objs.size≠s.heap.objs.size+1:=aJ<|dC _;refine⟨by rw[zd ne,zh],cz _,ne,c,λ_=>aT,(Heap.Ns1.of_empty ⟨cI,#[],_,a,rfl,(λe b=>iN b<|by simp),λ_=>rfl⟩).at λo q=>aq _ q,λ_=>True.intro,λy a=>iN rfl a⟩
def Ym(a:eT e f env (eval e env)=eval e env)(h:wpAny (model prog w) A (eval e env) (λo J=>wpAny (model prog w) A (getAttr o f bY) Q E J) E s):wpAny (model prog w) A (eval (.Attribute e f pos) env) Q E s:=Attribute_any_ h<|by rw[arm_eval_Attribute,a]
end
def Us(K:ac)(a:TE)(f:Str):TE:=λW H Q=>a W H λx b=>∃a Cc c fs v,x=.ref a/\b a=al (.ins Cc c fs)/\vp K Cc/\kv K Cc f/\fs.lookup f=al v/\Q v b
def UE(K:ac)(a b:TE)(f:Str):TS:=λD W H=>b W H λy b=>a W b λx H2=>∃a Cc b fs,x=.ref a/\H2 a=al (.ins Cc b fs)/\vp K Cc/\kv K Cc f/\fs.length<1000/\D.nx W (upd H2 a<|.ins Cc b<|uW f y fs)
section
variable{X:Cx}{o e value:Expr}{f:Str}{pos pos' tpos:Pos}{ta tv:TE}
def Ts(a:PE X e ta)(b:eT e f X.env (eval e X.env)=eval e X.env):PE X (.Attribute e f pos) (Us X.K ta f):=by refineλJ s W H Q I h=>Ym b<|gg (a J s W H _ I h) λu s1⟨x,Z,b,d,a,Cc,dx,fs,v,ex,e,c,n,l,q⟩=>?_;subst ex;obtain rfl:u=Value.ref a:=d;exact WW b e c n l λa a a Y=>⟨v,Z,a,Y,q⟩
def R6(a:PE X o ta)(b:PE X value tv)(d:fK value (al<|.Attribute o f pos') pos.line X.env=pure ce):PS X (.Assign [.Attribute o f pos'] value pos) (UE X.K ta tv f):=by refineλJ s W H D I h=>plainObj_wpAny_Assign_Attribute (gg (b J s W H _ I h) λu s1⟨y,Y,b,Z,q⟩=>gg (a J s1 W Y _ b q) λb a⟨x,H2,e,f,a,Cc,dx,fs,ex,g,c,n,l,h⟩=>?_) d;subst ex;obtain rfl:b=Value.ref a:=f;exact aY2 e g c n l Z λa a=>⟨W,_,a,h⟩
end
section
variable{X:Cx}{pins:yA}{W:St}{H:Hp}{s:ag}{A:aW}{E:Value->ag->Prop}{Q:Value->ag->Prop}{c:Value}{b:Bool}
inductive uy(K:ac)(H:Hp):V->Value->Prop where|N:uy K H .N<|.type "NoneType"|T(x:Bool):uy K H (.T x) (.type "bool")|int(i:Int):uy K H (.int i) (.type "int")|str(x:Str):uy K H (.str x) (.type "str")|Bv(x:UInt64):uy K H (.Bv x) (.type "float")|J{a:Addr}{xs:List V}(e:H a=al (.J xs)):uy K H (.ref a) (.type "list")|sj{a:Addr}{o:Obj}{xs:List V}(e:H a=al (.sj o<|.J xs)):uy K H (.ref a) (.type "list")|tp{a:Addr}{xs:List V}(e:H a=al (.tp xs)):uy K H (.ref a) (.type "tuple")|dK{a:Addr}{kvs:List<|Key×V}(e:H a=al (.dK kvs)):uy K H (.ref a) (.type "dict")|dT{a:Addr}{kvs:List<|List NI×V}(e:H a=al (.dT kvs)):uy K H (.ref a) (.type "dict")|ins{a Cc dx:Addr}{fs:List<|Str×V}(e:H a=al (.ins Cc dx fs))(cl:vp K Cc)(ha:bQ K (.ref Cc) "__class__"=al (al<|.builtin "object.__class__"))(hn:lw K (.builtin "object.__class__") "__get__"=al (al<|.builtin "getset_descriptor.__get__"))(htk:mw K (.builtin "object.__class__")=al bY)(hm:nu K Cc (.type "object")=al bY):uy K H (.ref a) (.ref Cc)
def jK(I:Inv X pins W H s)(d:RelV x u)(f:uy X.K H x t)(e:bJ X.K t c=al b)(h:∀tk,Q (.bool b) {s with toks:=tk}):wpAny (model X.prog X.w) A (call (.builtin "isinstance") [u,c]) Q E s:=by cases f with|N=>cases(show u=Value.none from d);exact cu PySem.W.kitx_none I.sx True.intro e (λz=>nomatch z) h|T y=>cases(show u=Value.bool y from d);exact cu PySem.W.kitx_bool I.sx True.intro e (λz=>nomatch z) h|int i=>exact AF (show∃t,u=Value.int i t from d) λt q=>q▸cu PySem.W.kitx_int I.sx True.intro e (λz=>nomatch z) h|str y=>exact AF (show∃t,u=Value.str y t from d) λt q=>q▸cu PySem.W.kitx_str I.sx True.intro e (λz=>nomatch z) h|Bv y=>exact AF (show∃t,u=Value.float y t from d) λt q=>q▸cu PySem.W.kitx_float I.sx True.intro e (λz=>nomatch z) h|@J a Z b=>cases(show u=Value.ref a from d);exact AY ((show tQ X.prog X.w H s.heap a (.J Z)from I.hok a _ b)) λ_ _ n _ Y=>cu lx I.sx ⟨_,Y,rfl⟩ e (λz=>nomatch z) h|@sj a c Z b=>cases(show u=Value.ref a from d);exact AI ((show tQ X.prog X.w H s.heap a<|.sj c (.J Z)from I.hok a _ b)) λ_ _ Zz=>AD Zz λ_ n _ Y=>cu lx I.sx ⟨_,Y,rfl⟩ e (λz=>nomatch z) h|@tp a Z b=>cases(show u=Value.ref a from d);exact AQ ((show tQ X.prog X.w H s.heap a (.tp Z)from I.hok a _ b)) λ_ _ _ p=>AH p λo Y h2 _=>cu kY I.sx ⟨o,Y,h2⟩ e (λz=>nomatch z) h|@dK a kvs b=>cases(show u=Value.ref a from d);exact AO ((show tQ X.prog X.w H s.heap a (.dK kvs)from I.hok a _ b)) λ_ _ vs _ p=>AR p λo es c Y h2 _=>cu ly I.sx ⟨o,Y,h2.1⟩ e (λz=>nomatch z) h|@dT a kvs b=>cases(show u=Value.ref a from d);exact AO ((show tQ X.prog X.w H s.heap a (.dT kvs)from I.hok a _ b)) λ_ _ Z _ Zz=>AR Zz λo es c Y h2 _=>cu ly I.sx ⟨o,Y,h2.1⟩ e (λz=>nomatch z) h|@ins a Cc b fs b cl f g c i=>cases(show u=Value.ref a from d);exact AE (G1 I.hok b) λmA O _=>AE O.look λod J _=>cu (PySem.W.kitx_own (cl.get _) cl.hd f g c i) I.sx J e (λz=>nomatch z) h
end
structure eX(k:Nat)(A:aW):Prop where
 hd:A.handled=aT
 dp:A.depth+3*k+5<recursionLimit
 un:A.units+16*k+200<cLine
def eX.mono(r:eX k A)(h:j<=k):eX j A:=⟨r.hd,by have:=r.dp;lia,by have:=r.un;lia⟩
theorem eX.deeper(r:eX (k+1) A)env:eX k<|A.deeper env:=⟨r.hd,by have:=r.dp;show A.depth+1+3*k+5<_;lia,by have:=r.un;show A.units+3+16*k+200<_;lia⟩
theorem eX.in1(r:eX (k+1) A):eX k A.in1:=⟨r.hd,by have:=r.dp;lia,by have:=r.un;lia⟩
def aX5{A:aW}{a:yG}:(A.under<|.builtin "type.__call__" ⟨.ref Cc::a,h⟩).depth=A.depth+1:=by first|rfl|simp[guardIds]
def aX4{A:aW}{a:yG}:(A.under<|.builtin "type.__call__" ⟨.ref Cc::a,h⟩).units=A.units+1:=by first|rfl|simp[lA]
def eX.make(r:eX (k+1) A)Cc(us:yG)h:eX k<|A.under<|.builtin "type.__call__" ⟨.ref Cc::us,h⟩:=⟨r.hd,by have:=r.dp;rw[aX5];lia,by have:=r.un;rw[aX4];lia⟩
theorem eX.depth(r:eX k A):A.depth<recursionLimit:=by have:=r.dp;lia
theorem eX.units(r:eX k A):A.units+64<cLine:=by have:=r.un;lia
def eX.sD(r:eX k A):A.units<cLine:=by have:=r.un;lia
def wR:TA:=λ_ H Q=>Q [] H
def yu(a:TE)(tr:TA):TA:=λW H Q=>a W H λx a=>tr W a λa H2=>Q (x::a) H2
section
variable{X:Cx}{e:Expr}{es:yK}{te:TE}{t:TA}{pos:Pos}
def wN:PA X [] wR:=λ_ _ _ _ H Q I h=>Calls.spliced_nil ⟨[],H,I,.nil,h⟩
def zK(a:PE X e te)(b:PA X es t)(c:autoParam (be (e::es) X.env=(ce,eval e X.env)::be es X.env) nz._auto_1):PA X (e::es) (yu te t):=by intro pos J s W H Q I h;rw[c];exact Calls.spliced_cons<|gg (a J s W H _ I h) λu s1⟨x,Z,a,c,d⟩=>gg (b pos J s1 W Z _ a d) λa a⟨Y,H2,a,b,d⟩=>⟨x::Y,H2,a,.cons c b,d⟩
def K1(t:TA):TE:=λW H Q=>t W H λa b=>a.length<=a9/\∀p,b p=aT->Q (.ref p) (upd b p<|.tp a)
def Ut(t:TA):TE:=λW H Q=>t W H λa b=>a.length<=a9/\∀p,b p=aT->Q (.ref p) (upd b p<|.J a)
def TV(h:PA X es t):PE X (.Tuple es x1 pos) (K1 t):=by refineλJ s W H Q I a=>wpAny_Tuple_spliced<|gg (h pos J s W H _ I a) λa s1⟨Z,b,Y,r,z,q⟩=>⟨r.length▸z,have c:=Y.hok.fresh<|ak _;⟨.ref s1.heap.objs.size,upd b s1.heap.objs.size<|.tp Z,Y.laid (λb u e=>aq _ e) (ak _) ?_,rfl,q _ c⟩⟩;exact⟨z,a,r,⟨_,aY _ rfl,rfl,_,rfl⟩⟩
def Ig(h:PA X es t):PE X (.List es pos) (Ut t):=by refineλJ s W H Q I a=>wpAny_List_spliced<|gg (h pos J s W H _ I a) λa s1⟨Z,b,Y,r,z,q⟩=>⟨r.length▸z,have c:=Y.hok.fresh<|ak _;⟨.ref s1.heap.objs.size,upd b s1.heap.objs.size<|.J Z,Y.laid (λb u e=>aq _ e) (ak _) ?_,rfl,q _ c⟩⟩;exact⟨z,a,0,r,aY _ rfl⟩
end
abbrev Sp:=List V->Hp->VK->XK->Prop
abbrev BW:=List Env->Hp->ag->XK->Value->ag->Prop
structure uZ(P:aG)(w:World)(K:ac)(mg:yC)(base:Heap)(A:aW)(outer:List Env)(s:ag)(H:Hp):Prop where
 frames:A.frames=al outer
 mod:Mod K mg base
 bs:∀b o,base.get? b=al o->s.heap.get? b=al o/\H b=aT
 bsz:base.objs.size<=s.heap.objs.size
 sJ:s.heap.FunFrames base outer
 frf:∀b∈oj outer,H b=aT
 hok:q8 P w H s.heap
 bare:gh s.gens
def CE(a:List Env)(P:aG)(w:World)(H:Hp)(s:ag)(Q:VK)(u:Value)(b:ag):Prop:=∃v H',b.os=s.os/\gh b.gens/\Un (oj a) [] H H' s.heap b.heap/\q8 P w H' b.heap/\RelV v u/\Q v H'
def CR(c:BW)(a:List Env)(P:aG)(w:World)(H:Hp)(s:ag)(Q:VK)(E:XK)(r:lR)(b:ag):Prop:=match r with|.ok<|.ret u=>CE a P w H s Q u b|.ok _=>False|.error e=>c a H s E e b
structure k6(P:aG)(w:World)(K:ac)(mg:yC)(base:Heap)(CX:BW)(k:Nat)(f:Addr)(fd:bS)(ps:yH)(sp:Sp):Prop where
 len:∀vs H Q E,sp vs H Q E->vs.length=ps.length
 run:∀(A:aW)(outer:List Env)(s:ag)(H:Hp)(args:Args)(us:yG)(vs:List V)(Q:VK)(E:XK),eX k A->uZ P w K mg base A outer s H->mJ s fd args (ps.zip us)->Vals vs us->sp vs H Q E->fQ (model P w) A (.call (.ref f) args) (CR CX outer P w H s Q E) s
def k6.imp{K}(F:k6 P w K mg base Y k f Z ps sp)(h:∀vs H Q E,Uu vs H Q E->sp vs H Q E):k6 P w K mg base Y k f Z ps Uu:=⟨λvs H Q E q=>F.len vs H Q E<|h _ _ _ _ q,λA J s H a b vs Q E c d e f g=>F.run A J s H a b vs Q E c d e f<|h _ _ _ _ g⟩
def uZ.make{K:ac}(e:uZ P w K mg base A h s H)Cc(us:yG)J:uZ P w K mg base (A.under<|.builtin "type.__call__" ⟨.ref Cc::us,J⟩) h s H:=⟨by first|exact e.frames|(simpa[lz,Code.envs,lA,pushEnvs]using e.frames),e.mod,e.bs,e.bsz,e.sJ,e.frf,e.hok,e.bare⟩
section
variable{X:Cx}{pins:yA}{W:St}{H:Hp}{s s':ag}
def Inv.Ca(I:Inv X pins W H s):uZ X.prog X.w X.K X.mg X.base X.A X.stack s H:=⟨I.ok.frames,I.ok.mod,I.bs,au I.ok.bsz I.sz,I.stack,I.tS,I.hok,I.bare⟩
def Inv.after(I:Inv X pins W H s)(h:CE X.stack X.prog X.w H s Q u s'):EP X pins W Q u s':=by refine AS h λv H' b a un Zz=>AI Zz λhok r q=>?_;obtain⟨c,g,d,t,J⟩:=s';obtain rfl:J=s.os:=b;exact⟨v,H',I.call un hok a<|λb z=>iN z<|by simp,r,q⟩
end
def DC(sp:Sp)(a:List V)(E:XK)(t:TA):TE:=λW H Q=>t W H λvs b=>sp (vs++a) b Q E
def F5(Cc:Addr)(m:Str)(sp:Sp)(b:List V)(E:XK)(a:TE)(t:TA):TE:=λW H Q=>a W H λx c=>∃a d fs,x=.ref a/\c a=al (.ins Cc d fs)/\fs.lookup m=aT/\t W c λvs H2=>sp (x::(vs++b)) H2 Q E
def Gf(Cc:Addr)(sp:Sp)(b:List V)(E:XK)(t:TA):TE:=λW H Q=>t W H λvs c=>∀x a,c x=aT->c a=aT->a≠x->sp (.ref x::(vs++b)) (upd (upd c a<|.own x) x<|.ins Cc a []) (λv H2=>v=.N/\Q (.ref x) H2) E
def Binds(K:ac)(c:bS)(ps:yH)(b:yG):Prop:=∀s a,K.In s.heap->(a++b).length=ps.length->mJ s c ⟨a,[]⟩ (ps.zip<|a++b)
def Binds.all{K}(h:∀a:List Value,a.length=ps.length->eV Uu ⟨a,[]⟩=pure (ps.zip a)):Binds K Uu ps []:=λs a _ J=>by rw[aZ]at J⊢;exact .of_eq<|h a J
def qz(c:BW)(X:Cx)(E:XK):Prop:=∀a(W:St)H s e b,Inv X a W H s->c X.stack H s E e b->X.xe e b
section
variable{X:Cx}{CX:BW}{k:Nat}{f Cc:Addr}{fd:bS}{ps:yH}{sp:Sp}{dvs:List V}{ds:yG}{E:XK}{x m:Str}{p pos apos:Pos}{e o:Expr}{es:yK}{ta:TE}{t:TA}
def GR{W:St}{a:yG}(F:k6 X.prog X.w X.K X.mg X.base CX k f fd ps sp)(c:eX k X.A)(d:Binds X.K fd ps ds)(e:Vals dvs ds)(g:qz CX X E)(I:Inv X J W H s)(r:Vals vs a)(h:sp (vs++dvs) H Q E):wpAny (model X.prog X.w) X.A (call (.ref f) a) (EP X J W Q) X.xe s:=by have b:=r.append e;refine kZ<|fv (F.run X.A X.stack s H ⟨a,[]⟩ (a++ds) (vs++dvs) Q E c I.Ca (d s a I.sx<|b.length▸F.len _ _ _ _ h) b h) λr b a=>?_;cases r with|error e=>exact g J W H s e b I a|ok b=>cases b with|ret u=>exact I.after a|next=>exact bh a|brk=>exact bh a|cont=>exact bh a
def Jn(F:k6 X.prog X.w X.K X.mg X.base CX k f fd ps sp)(a:eX k X.A)(b:Gl X x)(c:X.mg x=al (.ref f))(d:bR X.K (.ref f)=bY)(f:Binds X.K fd ps ds)(g:Vals dvs ds)(i:qz CX X E)(j:PA X (e::es) t)(Y:autoParam ((x==("__debug__":Str))=ce) vm._auto_1)(k:autoParam (be (e::es) X.env=(ce,eval e X.env)::be es X.env) nz._auto_1)(l:autoParam ((cV pos<|be es X.env).any (·.1)=ce) nz._auto_1):PE X (.Call (.Name x p) (e::es) [] pos) (DC sp dvs E t):=by refineλJ s W H Q I h=>cA<|DB I b c ?_ Y;refine fi I.ok.mod.wg d (gg (j pos J s W H _ I h) λb s1⟨vs,b,Z,r,q⟩=>Ad Z.sx ?_) k l;exact GR F a f g i Z r q
def Va(F:k6 X.prog X.w X.K X.mg X.base CX k f fd ps sp)(a:eX k X.A)(Z:Gl X x)(Y:X.mg x=al (.ref f))(b:bR X.K (.ref f)=bY)(c:Binds X.K fd ps ds)(d:Vals dvs ds)(e:qz CX X E)(J:autoParam ((x==("__debug__":Str))=ce) vm._auto_1):PE X (.Call (.Name x p) [] [] pos) (DC sp dvs E wR):=by refineλUu s W H Q I h=>cA<|DB I Z Y ?_ J;exact gf I.sx b<|GR F a c d e I .nil h
def Mv{pl}(a:PE X o ta)(c:vp X.K Cc)(b:Meth X.K Cc m f)(F:k6 X.prog X.w X.K X.mg X.base CX k f fd ps sp)(d:eX k X.A)(g:Binds X.K fd ps ds)(i:Vals dvs ds)(j:qz CX X E)(k:PA X (e::es) t)(n:autoParam (be (e::es) X.env=(ce,eval e X.env)::be es X.env) nz._auto_1)(Y:autoParam ((cV pos<|be es X.env).any (·.1)=ce) nz._auto_1)(p:autoParam (eval (.Call (.Attribute o m apos) (e::es) [] pos) X.env=(do
   let ov<-eval o X.env
   lr apos.atName let(f,first)<-gI [ov]<|kz ov m pl
   callWith pos f first (cV pos<|be (e::es) X.env) (fw pos<|di [] X.env))) nz._auto_1):PE X (.Call (.Attribute o m apos) (e::es) [] pos) (F5 Cc m sp dvs E ta t):=by refineλJ s W H Q I h=>iR (gg (a J s W H _ I h) λu s1⟨x,e,Z,f,a,dx,fs,ex,h,l,q⟩=>?_) p;subst ex;obtain rfl:u=Value.ref a:=f;refine Oe Z h c b l ?_;refine fi I.ok.mod.wg b.kp (gg (k pos J s1 W e _ Z q) λb b⟨vs,H2,b,r,c⟩=>Ad b.sx ?_) n Y;exact GR (vs:=.ref a::vs) F d g i j b (.cons rfl r) c
def UX(a:PE X o ta)(c:vp X.K Cc)(Y:Meth X.K Cc m f)(F:k6 X.prog X.w X.K X.mg X.base CX k f fd ps sp)(d:eX k X.A)(e:Binds X.K fd ps ds)(g:Vals dvs ds)(i:qz CX X E)(j:autoParam (eval (.Call (.Attribute o m apos) [] [] pos) X.env=(do
   let ov<-eval o X.env
   lr apos.atName let(f,first)<-gI [ov]<|kz ov m pl
   callWith pos f first (cV pos<|be [] X.env) (fw pos<|di [] X.env))) nz._auto_1):PE X (.Call (.Attribute o m apos) [] [] pos) (F5 Cc m sp dvs E ta wR):=by refineλJ s W H Q I h=>iR (gg (a J s W H _ I h) λu s1⟨x,H1,b,f,a,dx,fs,ex,Z,l,q⟩=>?_) j;subst ex;obtain rfl:u=Value.ref a:=f;refine Oe b Z c Y l ?_;exact gf b.sx Y.kp<|GR (vs:=[.ref a]) F d e g i b (.cons rfl .nil) q
structure Mk(K:ac)(Cc f:Addr):Prop where
 makes:dP K Cc=bY
 init:bQ K (.ref Cc) "__init__"=al (al<|.ref f)fn:io K (.ref f)=bY
 kp:bR K (.ref Cc)=bY
def P5{W:St}{a:yG}(M:Mk X.K Cc f)(F:k6 X.prog X.w X.K X.mg X.base CX k f fd ps sp)(d:eX (k+1) X.A)(g:Binds X.K fd ps ds)(e:Vals dvs ds)(i:qz CX X E)(I:Inv X Uu W H s)(r:Vals vs a)(h:∀x Y,H x=aT->H Y=aT->Y≠x->sp (.ref x::(vs++dvs)) (upd (upd H Y<|.own x) x<|.ins Cc Y []) (λv H2=>v=.N/\Q (.ref x) H2) E):
  wpAny (model X.prog X.w) X.A (call (.ref Cc) a) (EP X Uu W Q) X.xe s:=by have c:=h (s.heap.objs.size+1) s.heap.objs.size (I.hok.fresh<|dG _) (I.hok.fresh<|ak _) (aJ<|dC _);have b:=Inv.made (Cc:=Cc) I;have Z:Vals (V.ref (s.heap.objs.size+1)::(vs++dvs)) (Value.ref (s.heap.objs.size+1)::(a++ds)):=.cons rfl<|r.append e;refine kZ<|ZY (f:=f) I.sx M.makes M.init (beq_iff_eq.mp M.fn) (fv (F.run _ X.stack _ _ ⟨Value.ref (s.heap.objs.size+1)::a,[]⟩ (Value.ref (s.heap.objs.size+1)::(a++ds)) _ _ E (d.make Cc a [])
  (b.Ca.make Cc a []) (g _ (Value.ref (s.heap.objs.size+1)::a) b.sx<|have e:=Z.length;(F.len _ _ _ _ c▸e).symm) Z c) λr a J=>?_);cases r with|error e=>exact i Uu W _ _ e a b J|ok a=>cases a with|ret u=>refine AS (b.after J) λv H' a b ev c=>?_;subst ev;exact⟨b,⟨V.ref<|s.heap.objs.size+1,H',a,rfl,c⟩⟩|next=>exact bh J|brk=>exact bh J|cont=>exact bh J
def Ys(M:Mk X.K Cc f)(F:k6 X.prog X.w X.K X.mg X.base CX k f fd ps sp)(a:eX (k+1) X.A)(b:Gl X x)(c:X.mg x=al (.ref Cc))(d:Binds X.K fd ps ds)(f:Vals dvs ds)(g:qz CX X E)(i:PA X (e::es) t)(Y:autoParam ((x==("__debug__":Str))=ce) vm._auto_1)(j:autoParam (be (e::es) X.env=(ce,eval e X.env)::be es X.env) nz._auto_1)(k:autoParam ((cV pos<|be es X.env).any (·.1)=ce) nz._auto_1):PE X (.Call (.Name x p) (e::es) [] pos) (Gf Cc sp dvs E t):=by refineλJ s W H Q I h=>cA<|DB I b c ?_ Y;refine fi I.ok.mod.wg M.kp (gg (i pos J s W H _ I h) λb s1⟨vs,b,Z,r,q⟩=>Ad Z.sx ?_) j k;exact P5 M F a d f g Z r q
def by4(M:Mk X.K Cc f)(F:k6 X.prog X.w X.K X.mg X.base CX k f fd ps sp)(a:eX (k+1) X.A)(Z:Gl X x)(Y:X.mg x=al (.ref Cc))(b:Binds X.K fd ps ds)(c:Vals dvs ds)(d:qz CX X E)(J:autoParam ((x==("__debug__":Str))=ce) vm._auto_1):PE X (.Call (.Name x p) [] [] pos) (Gf Cc sp dvs E wR):=by refineλUu s W H Q I h=>cA<|DB I Z Y ?_ J;exact gf I.sx M.kp<|P5 M F a b c d I .nil h
end
section
variable{X:Cx}{CX:BW}{k:Nat}{f Cc:Addr}{fd:bS}{ps ks:yH}{sp:Sp}{E:XK}{x m:Str}{p pos apos kpos:Pos}{e o:Expr}{es:yK}{kws:List fx}{te ta:TE}{t tk:TA}{nm:Option Str}
variable{g:List Value->List Value->List Value}{gV:List V->List V->List V}
end
structure fP(N P:yH)(sc:Scope):Prop where
 kind:sc.kind=.function
 co:sc.isCoroutine=ce
 gen:sc.isGenerator=ce
 nd:N.Nodup
 pre:N.take P.length=P
 par:∀x∈P,sc.names.lookup x=al .local\/sc.names.lookup x=al .cell
 nofree:∀y∈sc.names,y.2≠.free
def rk{N P:yH}{h:Scope}(a:autoParam (h.kind=.function) nz._auto_1)(b:autoParam (h.isCoroutine=ce) nz._auto_1)(c:autoParam (h.isGenerator=ce) nz._auto_1)(d:autoParam (N.Nodup) J3._auto_1)(e:autoParam (N.take P.length=P) nz._auto_1)(f:autoParam (∀x∈P,h.names.lookup x=al .local\/h.names.lookup x=al .cell) J3._auto_1)(g:autoParam (∀y∈h.names,y.2≠.free) J3._auto_1):fP N P h:=⟨a,b,c,d,e,f,g⟩
theorem QM{eO:Str->Option cB}{x:Str}:∀{binds:List<|Str×Value}{m:yC},(∀v,(x,v)∉binds)->bindL eO binds m x=m x
 |[],_,_=>rfl|(n,v)::r,m,h=>by
  unfold bindL;rw[QM λw hw=>h w<|ah _ hw];split
  .have:x≠n:=by rintro rfl;exact h v ao
   simp[this]
  .rfl
theorem Qw{eO}:∀{binds}{m:yC},(∀v,(x,v)∉binds)->bindC eO binds m x=m x
 |[],_,_=>rfl|(n,v)::r,m,h=>by
  unfold bindC;rw[Qw λw a=>h w<|ah _ a];split;.rfl
  .have:x≠n:=by rintro rfl;exact h v ao
   simp[this]
theorem IZ{eO}:∀{P:yH}{vs:yG}{i:Nat}{m:yC},P.Nodup->P[i]?=al x->vs[i]?=al v->eO x=al .local->bindL eO (P.zip vs) m x=al v|[],_,_,_,_,h,_,_=>by simp at h|_::_,[],_,_,_,_,h,_=>by simp at h|p::P,w::vs,0,m,b,a,h2,c=>by simp at a h2;subst a;subst h2;show bindL eO ((p,w)::P.zip vs) m p=_;unfold bindL;rw[QM λv a=>(cU.mp b).1 (eZ a).1,ef c];simp|p::P,w::vs,i+1,m,b,a,h2,c=>by unfold bindL;exact IZ (cU.mp b).2 (by simpa using a) (by simpa using h2) c
theorem IW{eO}:∀{P:yH}{vs:yG}{i:Nat}{m:yC},P.Nodup->P[i]?=al x->vs[i]?=al v->eO x≠al .local->bindC eO (P.zip vs) m x=al v|[],_,_,_,_,h,_,_=>by simp at h|_::_,[],_,_,_,_,h,_=>by simp at h|p::P,w::vs,0,m,b,a,h2,c=>by simp at a h2;subst a;subst h2;show bindC eO ((p,w)::P.zip vs) m p=_;unfold bindC;rw[Qw λv a=>(cU.mp b).1 (eZ a).1,gc c];simp|p::P,w::vs,i+1,m,b,a,h2,c=>by unfold bindC;exact IW (cU.mp b).2 (by simpa using a) (by simpa using h2) c
noncomputable def wL(N:yH)(vs:List V):St:=vs.map al++ay (N.length-vs.length) aT
noncomputable def u6(d:BW)(P:aG)(w:World)(K:ac)(mg:yC)(base:Heap)(N:yH)(b:Str)(scope:Scope)(f:Addr)(c:Value)(A:aW)(outer:List Env)(s:ag)(H:Hp)(E:XK):Cx where prog:=P;w:=w;K:=K;mg:=mg;base:=base;A:=A.deeper<|fZ b scope s.heap.objs.size f c;N:=N;s₀:=s;H₀:=H;env:=fZ b scope s.heap.objs.size f c;outer:=outer;stack:=fZ b scope s.heap.objs.size f c::outer;ex:=[];calm:=bY;fn:=λ_=>bY;pn:=[];xe:=λe g=>wpAny (model P w) (A.deeper<|fZ b scope s.heap.objs.size f c) (leaving (fZ b scope s.heap.objs.size f c) e) (λ_ b=>d outer H s E e b) (λc b=>d outer H s E c b) g
def ql{a:Scope}(h:a.names.lookup x=al .cell):∃c,(aX n a.names []).lookup x=al c:=have q:=ip a.names n []<|.inl h;cw.mp q
def V8{K:ac}{a:yG}(S:fP N ps scope)(i:A.handled=aT)(Y:uZ P w K mg base A J s H)(b:vs.length=ps.length)(r:Vals vs a)(x:gM s s.heap.objs.size (bindL (fZ qual scope s.heap.objs.size f cd).kindOf (ps.zip a) λ_=>aT) (aX (s.heap.objs.size+1) scope.names []) (bindC (fZ qual scope s.heap.objs.size f cd).kindOf (ps.zip a) λ_=>aT) s1):Inv (u6 CX P w K mg base N qual scope f cd A J s H E) [] (wL N vs) H s1:=by
 have a:ps.length<=N.length:=by have:=congrArg ka S.pre;grind
 obtain⟨g,tk,rfl,e⟩:=x.done;have Z:∀b:Addr,b∉(u6 CX P w K mg base N qual scope f cd A J s H E).ex:=λb z=>iN (show b∈([]:List Addr)from z) (by simp);refine⟨⟨Y.mod,S.kind,rfl,rfl,ak _,λy z c g d=>?_,λy hy=>?_,λy c _ h=>?_,λ_=>i,ke Y.frames,.inr<|Ad rfl rfl,λb z=>iN z<|Z b,Y.bs,Y.bsz,λb _ _=>Z b,λb z=>iN z<|Z b,Y.sJ,Y.frf⟩,rfl,Y.bare,Un.kept e,(Ac _ x.toInCall.ns<|λi y v g d b=>?_),λy c h=>Ae _<|x.cell y c h,Y.hok.fresh<|ak _,λy c h=>?_,λp b=>iN (show p∈([]:yA)from b) (by simp),Y.hok.kept e,?_⟩;.exact iq x.apart (aM g) (aM d)
 .have hy:scope.names.lookup y=al .cell\/scope.names.lookup y=al .free:=hy;exact hy.elim (λhy=>ql hy) λhy=>iN rfl<|S.nofree _<|aM hy
 .exact eB<|x.above y c<|aM h
 .have hi:i<vs.length:=by
   unfold wL at d;by_cases hi:i<vs.length;.exact hi
   .rw[am<|by simpa using hi]at d;rw[ib]at d;split at d<;>cases d
  have b:vs[i]?=al v:=by unfold wL at d;rw[aC<|by simpa using hi,aF]at d;cases e:vs[i]? with|none=>cases e▸d|some a=>cases e▸d;rfl
  refine AE (r.get b) λu a e=>?_;have b:ps[i]?=al y:=by rw[<-S.pre,dm<|by lia];exact g
  have d:ps.Nodup:=S.pre▸S.nd.sublist (List.take_sublist _ _);refine Ac u e ?_;rcases S.par y (aA b)with k|k;.exact .inl<|Ad k<|IZ d b a k
  .refine AF (ql (n:=s.heap.objs.size+1) k) λc e=>.inr<|Aj (.inl k) c e ?_;have q:=x.cell y c e;rw[IW d b a<|by show scope.names.lookup y≠_;rw[k];decide]at q;exact q
 .exact Y.hok.fresh<|eB<|x.above y c<|aM h
 .unfold wL;show _=N.length;simp_all
set_option tactic.hygienic true in def Iz{K:ac}{body:yL}{kV:Value}{a b:yI}{c:yE}(lk:K.lookup f=al ⟨oc,b,.func<|cW name qual params body scope dV kV a1 pm a Uu ct,c⟩)(i:fy K Uu qual=bY)(S:fP N ps scope)(len:∀vs H Q E,sp vs H Q E->vs.length=ps.length)(Z:∀(A:aW)(h:List Env)(s:ag)(H:Hp)(vs:List V)(Q:VK)(E:XK),eX k (A.deeper<|fZ qual scope s.heap.objs.size f Uu)->sp vs H Q E->∃t,sR (u6 CX P w K mg base N qual scope f Uu A h s H E) body t/\t {nx:=λ_ H'=>Q .N H',rt:=Q} (wL N vs) H):k6 P w K mg base CX (k+1) f (cW name qual params body scope dV kV a1 pm a Uu ct) ps sp:=by refine⟨len,λA h s H a j vs Q E c a k r d=>?_⟩;have l:=len _ _ _ _ d;have g:K.In s.heap:=a.mod.wg.keeps λb o e=>(a.bs b o e).1;have m:s.heap.NoLimit:=a.mod.nolimit.keeps λb o e=>(a.bs b o e).1;refine iT c.depth (g _ _ lk) rfl S.co S.gen rfl (PySem.W.codeRec_of g i) (k _ _ _ _ ?_);refine wpAny_newFunctionEnv_cells S.kind (λ⟨n,v⟩b=>(S.par n (eZ b).1).elim (λq=>.inl q) λq=>.inr ⟨q,ip _ _ _<|.inl q⟩) λenv b s1 x=>?_;subst b;refine⟨m.keeps x.toInCall.keep,codeAny_func ?_⟩;refine AE (Z A h s H vs Q E (c.deeper _) d) λt b d=>have I:Inv (u6 CX P w K mg base N qual scope f Uu A h s H E) [] (wL N vs) H s1:=V8 S c.hd a l r x;bD (b [] s1 (wL N vs) H _ I d) (λd b a=>?_) λe b a=>a;have fin:∀{c:St}{H':Hp}{v:V}{u:Value},Inv (u6 CX P w K mg base N qual scope f Uu A h s H E) [] c H' b->RelV v u->Q v H'->CE h P w H s Q u b:=λ{c H' v u}J b q=>⟨v,H',J.os,J.bare,J.base,J.hok,b,q⟩;cases d with|ret u=>exact AR a λv c H' J b q=>fin J b q|next=>exact AD a λW' H' J q=>fin (v:=V.N) (u:=Value.none) J rfl q|brk=>refine AD a λ_ _ _ q=>?_;simp_all|cont=>refine AD a λ_ _ _ q=>?_;simp_all
section
variable{X:Cx}{x:Str}{p pos:Pos}{e:Expr}{es:yK}{t:TA}{id T:String}{r:List V->Hp->VK->Prop}
def Ft(r:List V->Hp->VK->Prop)(t:TA):TE:=λW H Q=>t W H λvs a=>r vs a Q
def JX(a:t4 X (.builtin id) r)(b:Gl X x)(c:X.mg x=aT)(d:bN x=al (.builtin id))(f:PA X (e::es) t)(g:autoParam (x≠"__name__") vm._auto_1)(Y:autoParam ((x==("__debug__":Str))=ce) vm._auto_1)(i:autoParam (be (e::es) X.env=(ce,eval e X.env)::be es X.env) nz._auto_1)(j:autoParam ((cV pos<|be es X.env).any (·.1)=ce) nz._auto_1):PE X (.Call (.Name x p) (e::es) [] pos) (Ft r t):=by refineλJ s W H Q I h=>cA<|Dm I b c d ?_ g Y;exact PyProof.Rows.callWith_builtin1 (gg (f pos J s W H _ I h) λb s1⟨vs,Z,c,d,e⟩=>a J s1 W Z vs b Q c d e) i j
def IX(a:t4 X (.type T) r)(b:Gl X x)(c:X.mg x=aT)(d:bN x=al (.type T))(f:PA X (e::es) t)(g:autoParam (x≠"__name__") vm._auto_1)(Y:autoParam ((x==("__debug__":Str))=ce) vm._auto_1)(i:autoParam (be (e::es) X.env=(ce,eval e X.env)::be es X.env) nz._auto_1)(j:autoParam ((cV pos<|be es X.env).any (·.1)=ce) nz._auto_1):PE X (.Call (.Name x p) (e::es) [] pos) (Ft r t):=by refineλJ s W H Q I h=>cA<|Dm I b c d ?_ g Y;exact d4 (gg (f pos J s W H _ I h) λb s1⟨vs,Z,c,d,e⟩=>a J s1 W Z vs b Q c d e) i j
end
end L2
end
noncomputable section
namespace HT
open PySem PyProof.Rows
section
open PySem.SeqAt
open PySem.AutoSeq1(wpAny_loadPart')
open PySem.MeetsSeq PySem.MeetsSeq2 PySem.MeetsSeq3
end
section
variable{prog:aG}{w:World}{A:aW}{E:Value->ag->Prop}{s:ag}
noncomputable def l3(n d:Nat):Option Int->Nat|none=>d|some v=>if v<0 then(v+(n)).toNat else min v.toNat n
def Hj n d(hd:d<=n)o:l3 n d o<=n:=by cases o with|none=>exact hd|some v=>
  show(if v<0 then(v+(n)).toNat else min v.toNat n)<=n;by_cases a:v<0;.rw[ef a];lia
  .rw[gc a];exact Nat.min_le_right _ _
def wG v(n d:Nat):(if v<0 then max (v+(n:Int)) 0 else min v<|n)=((l3 n d<|al v)):=by show(if v<0 then max (v+(n)) 0 else min v<|n)=(((if v<0 then(v+(n)).toNat else min v.toNat n)));lia
def wm h hi(n:Nat):eM h hi 1 (n)=(((l3 n 0 h):Int),((l3 n n hi):Int)):=by
 unfold eM;simp only[if_false];refine hZ ?_ ?_;.cases h with|none=>rfl|some v=>exact wG v n 0
 .cases hi with|none=>rfl|some v=>exact wG v n n
def we(i j:Nat):db (i) (j) 1=j-i:=by unfold db;lia
def uG(p:gY v o)(h:Q o s):wpAny (model prog w) A (my v) Q E s:=by cases p with|none=>exact slicePart_none h|int i t=>exact slicePart_int h
def r9{Q:Int×Int×Nat->ag->Prop}(a:s.heap.IsSliceOf sl vl vu .none)(pl:gY vl J)(b:gY vu hi)(h:Q (((l3 n 0 J:Nat):Int),1,l3 n n hi-l3 n 0 J) s):wpAny (model prog w) A (gy (.ref sl) (pure<|n)) Q E s:=by refine AH (id a) λos Y Z a=>ai<|ai<|fj Y a rfl<|ai<|fj Y a rfl<|ai<|fj Y a rfl<|aH ?_;refine ai<|slicePart_none ?_;rw[gc<|by decide];refine ai<|uG pl<|ai<|uG b<|ai<|aH ?_;show wpAny _ _ (match eM J hi 1 (n)with|(J,hi)=>pure (J,(1:Int),db J hi 1)) _ _ s;rw[wm J hi n];show wpAny _ _ (pure (((l3 n 0 J):Int),(1),db ((l3 n 0 J)) ((l3 n n hi)) 1)) _ _ s;rw[we];exact aH h
def xZ(h:yJ)(i k:Nat):((av k).filterMap λ(m:Nat)=>h[((i)+(m:Int)*1).toNat]?).toArray=((h.toList.drop i).take k).toArray:=by
 have e:(λ(m:Nat)=>h[((i)+(m:Int)*1).toNat]?)=λm=>h[i+m]?:=by grind
 rw[e];have:=pick_run h i k;rw[gz]at this;have a:((λx=>h[x]?)∘λx=>i+x)=λm=>h[i+m]?:=rfl;lia
def tU{J:yJ}(a:IsTup s.heap t J)(c:s.heap.IsSliceOf sl vl vu .none)(pl:gY vl Y)(d:gY vu hi)(b:¬(l3 J.size 0 Y=0/\l3 J.size J.size hi=J.size))(h:Q (.ref s.heap.objs.size) {s with heap:=s.heap.push {cls:=.type "tuple",data:=.seq ((J.toList.drop<|l3 J.size 0 Y).take<|l3 J.size J.size hi-l3 J.size 0 Y).toArray}})(b:J.size<=a9):wpAny (model prog w) A (ir (.ref t) (.ref sl)) Q E s:=by
 have b:=by show((J.toList.drop<|l3 J.size 0 Y).take<|l3 J.size J.size hi-l3 J.size 0 Y).toArray.size<=a9;rw[aL,bL,fL,du];omega
 refine AH (id c) λos e Z f=>?_;unfold ir;try with_reducible refine dW ?_
 first|refine ai<|aH ?_|skip
 refine ai<|lB a.typeIs (by decide) ?_;refine ai<|dD (name:=b8 "__getitem__") a.typeIs bT<|dw bT a.typeIs kJ ?_<|k7 _ _;show wpAny _ _ (d8 (.ref t)>>=_) _ _ s;refine ai<|tupleItemsOf_ a ?_;refine ai<|lC ⟨os,e,Z⟩ ?_;rw[ef<|by decide];refine ai<|r9 c pl d ?_;have a:¬((((l3 J.size 0 Y:Nat):Int)==0&&(1:Int)==1&&(l3 J.size J.size hi-l3 J.size 0 Y)==J.size)=bY):=by lia
 show wpAny _ _ (if(((l3 J.size 0 Y:Nat):Int)==0&&(1:Int)==1&&(l3 J.size J.size hi-l3 J.size 0 Y)==J.size)=bY then _ else _) _ _ s;rw[gc a,xZ];first|exact ai (m:=dq _)<|cJ (aH<|Ac _ rfl<|aH h) b|exact ai (m:=dq _)<|cJ (ai<|aH<|aH ⟨_,rfl,aH h⟩) b|exact ai<|ai (m:=dq _)<|cJ (aH<|aH ⟨_,rfl,aH h⟩) b|exact ai<|ai (m:=dq _)<|cJ (aH ⟨_,rfl,aH h⟩) b
end
end HT
noncomputable section
namespace L2
open PySem PySem.Spec PyProof.Rows
abbrev TO:=St->Hp->(Option Int->Hp->Prop)->Prop
def PO(X:Cx)(e:Option Expr)(t:TO):Prop:=∀a s(W:St)H Q,Inv X a W H s->t W H Q->wpAny (model X.prog X.w) X.A (evalPart e X.env) (λu b=>∃o H',Inv X a W H' b/\gY u o/\Q o H') X.xe s
noncomputable def Jj:TO:=λ_ H Q=>Q aT H
noncomputable def EC(t:TE):TO:=λW H Q=>t W H λx a=>∃i,x=.int i/\Q (al i) a
section
variable{X:Cx}{e:Expr}{te:TE}{lo hi:Option Expr}{tl th:TO}{pos p2:Pos}
def XQ:PO X aT Jj:=by intro J s W H Q I h;rw[evalPart_none];exact aH<|Ah aT H I .none h
def Y0(h:PE X e te):PO X (al e) (EC te):=by intro J s W H Q I a;rw[evalPart_some];refine gg (h J s W H _ I a) λu s1⟨x,a,Y,b,Z⟩=>?_;obtain⟨i,rfl,q⟩:=Z;obtain⟨t,rfl⟩:=b;exact Ah (al i) a Y (.int i t) q
def CM(X:Cx)(r:V->Option Int->Option Int->Hp->VK->Prop):Prop:=∀a s(W:St)H x v vl b c hi sl Q,Inv X a W H s->RelV x v->s.heap.IsSliceOf sl vl b .none->gY vl c->gY b hi->r x c hi H Q->∃T id,typeLookup (.type T) "__getitem__"=pure (al<|.builtin id)/\s.TypeIs v T/\wpAny (model X.prog X.w) X.A (ir v<|.ref sl) (EP X a W Q) X.xe s
def Fs(r:V->Option Int->Option Int->Hp->VK->Prop)(a:TE)(tl th:TO):TE:=λW H Q=>a W H λx a=>tl W a λl H2=>th W H2 λu a=>r x l u a Q
def U8(f:CM X r)(a:PE X e te)(b:PO X lo tl)(c:PO X hi th):PE X (.Subscript e (.Slice lo hi aT p2) pos) (Fs r te tl th):=by refineλJ s W H Q I h=>Subscript_<|gg (a J s W H _ I h) λv s1⟨x,Z,a,e,d⟩=>wpAny_Slice<|gg (b J s1 W Z _ a d) λvl a⟨l,H2,b,pl,d⟩=>gg (c J a W H2 _ b d) λc a⟨u,d,b,g,h⟩=>?_;rw[evalPart_none];refine aH ?_;exact AL (f J {a with heap:=a.heap.push {cls:=.type "slice",data:=.fields #[vl,c,.none]}} W d x v vl c l u a.heap.objs.size Q (b.kept λb b q=>aq _ q) e (og ..) pl g h) λT id hT a b=>mU a hT b<|by with_unfolding_all rfl
noncomputable def yq(a:List V)(b hi:Option Int):List V:=(a.drop<|HT.l3 a.length 0 b).take<|HT.l3 a.length a.length hi-HT.l3 a.length 0 b
def OO h J hi:(yq h J hi).length<=h.length:=by unfold yq;rw[bL,fL];lia
def UI(K:ac):V->Option Int->Option Int->Hp->VK->Prop:=λx c hi H Q=>∃a b,x=.ref a/\sy K H a b/\¬(HT.l3 b.length 0 c=0/\HT.l3 b.length b.length hi=b.length)/\∀p,H p=aT->Q (.ref p) (upd H p<|.tp<|yq b c hi)
def SQ:CM X<|UI X.K:=by intro Z s W H x v vl a Y hi sl Q I b c pl d h;obtain⟨a,a,rfl,e,f,q⟩:=h;cases b;refine AH (I.tuple e) λits r b hz=>?_;have J:its.toArray.size=a.length:=aL▸r.length.symm;refine Ah "tuple" _ bT.lookup b.typeIs<|HT.tU b c pl d (J▸f) ?_<|J▸hz;rw[J];refine⟨.ref s.heap.objs.size,_,I.laid (λb b q=>aq _ q) (ak _) ?_,rfl,q _<|I.hok.fresh<|ak _⟩;exact⟨au (OO a Y hi) hz,_,(r.drop<|HT.l3 a.length 0 Y).take<|HT.l3 a.length a.length hi-HT.l3 a.length 0 Y,nF _ _⟩
end
noncomputable def C7(n:Nat)(i:Int):Option Nat:=if 0<=i then(if i<n then al i.toNat else aT)else if-(n)<=i then al (i+n).toNat else aT
def BB{α:Type}(a:List α)(i:Int):Option α:=(C7 a.length i).bind λj=>a[j]?
def MQ(h:C7 n i=al j):seqIndex? i n=al j/\j<n/\-(n)<=i/\i<n:=by
 unfold C7 at h;by_cases b:0<=i
 .rw[ef b]at h;by_cases a:i<n;.rw[ef a]at h;have e:=az h;exact⟨by rw[l9 b a,e],by lia,by lia,a⟩
  .rw[gc a]at h;cases h
 .rw[gc b]at h;by_cases a:-(n)<=i;.rw[ef a]at h;exact⟨by rw[lD (by lia) a,(az h)],by lia,a,by lia⟩
  .rw[gc a]at h;cases h
def Jt(h:BB J i=al v):∃j,seqIndex? i J.length=al j/\J[j]?=al v/\j<J.length/\-(J.length)<=i/\i<J.length:=by unfold BB at h;cases e:C7 J.length i with|none=>simp_all|some j=>rw[e]at h;exact AU (MQ e) λY a b Z=>An j Y h a b Z
def MT(b:Expr):Prop:=∀o i,subscripted b ce o i=operate [o,i] (ir o i)
def CP(X:Cx)(r:R2):Prop:=∀c a b s(W:St)H x y v u Q,Inv X b W H s->RelV x v->RelV y u->r x y H Q->subscripted a ce v u=operate [v,u] (ir v u)->wpAny (model X.prog X.w) X.A (subscriptTail c a v u) (EP X b W Q) X.xe s
def Fi(X:Cx)(id:String)(r:V->List V->Hp->VK->Prop):Prop:=∀a s(W:St)H x b v(c:yG)Q,Inv X a W H s->RelV x v->Vals b c->r x b H Q->wpAny (model X.prog X.w) X.A (call (.builtin id) (v::c)) (EP X a W Q) X.xe s
section
variable{X:Cx}{a b:Expr}{ta tb:TE}{pos:Pos}
def RJ(c:CP X r)(d:PE X a ta)(e:PE X b tb)(f:MT b):PE X (.Subscript a b pos) (DP r ta tb):=λJ s W H Q I h=>Subscript_<|HC d e I h λv u d x y H2 e Y g q=>c a b J d W H2 x y v u Q e Y g q<|f _ _
def K0(K:ac):R2:=λx y H Q=>∃p a i v,x=.ref p/\y=.int i/\qn K H p a/\BB a i=al v/\Q v H
def LS(K:ac):R2:=λx y H Q=>∃p a i v,x=.ref p/\y=.int i/\sy K H p a/\BB a i=al v/\Q v H
def Uw:R2:=λx y H Q=>∃z i c,x=.str z/\y=.int i/\z.length<=a9/\BB z.cps.toList i=al c/\Q (.str ⟨#[c]⟩) H
def Yi:CP X<|K0 X.K:=by
 intro Z Y J s W H x y v u Q I a c h b;obtain⟨p,d,i,z,rfl,rfl,d,e,q⟩:=h;cases a;obtain⟨t,rfl⟩:=c;refine AH (I.list d) λits r pl hz=>AN (Jt e) λj a h2 c e f=>AE (r.get h2) λw c d=>?_;have g:=r.length;have h:=Dp;have fin:EP X J W Q w s:=⟨z,H,I,d,q⟩;by_cases d:0<=i;.have hj:=az<|l9 d f▸a;exact item_listR pl.isList d (by lia) (by rw[hj];simpa using c) fin b
 .have hj:(i+(its.toArray.size)).toNat=j:=by rw[lD (by lia) e]at a;exact aL▸g▸az a
  exact iu pl.isList.typeIs lE.lookup
   (wpAny_getItem_list_neg pl.isList (by omega) (by rw[aL]<;>lia) (by lia) (by rw[hj];simpa using c) (Ad rfl fin)) b
def sH:CP X<|LS X.K:=by
 intro Y a J s W H x y v u Q I a b h c;obtain⟨p,d,i,z,rfl,rfl,d,e,q⟩:=h;cases a;obtain⟨t,rfl⟩:=b;exact AH (I.tuple d) λits r pl hz=>AN (Jt e) λj a h2 b b b=>AE (r.get h2) λw b Z=>have d:=r.length;have e:=Dp;have fin:EP X J W Q w s:=⟨z,H,I,Z,q⟩;iu pl.typeIs bT.lookup
  (getItem_tuple pl (by lia) (by lia) (aL▸d▸a) (by simpa using b) (Ad rfl fin)) c
def ye:CP X Uw:=by intro a J Z s W H x y v u Q I a b h d;obtain⟨z,i,c,rfl,rfl,hz,e,q⟩:=h;obtain⟨t,rfl⟩:=a;obtain⟨t',rfl⟩:=b;refine AN (Jt e) λj Y h2 a a b=>?_;rw[(by simp[Str.length]:z.cps.toList.length=z.length)]at Y a b;have a:=Dp;exact mU (mV s z t) slot_str_getitem.lookup (getItem_str (by lia) (by simp_all) ⟨.str ⟨#[c]⟩,H,I.tok _,⟨_,rfl⟩,q⟩) d
def WT(a:yG)n j u:iw (·.setIfInBounds j u) {cls:=.type "list",data:=.seq a.toArray n}={cls:=.type "list",data:=.seq (a.set j u).toArray n}:=by simp[iw]
def Inv.lst{W:St}(I:Inv X J W H s)(h:H p=al (.J Uu)):∃(a:yG)(n:Nat),Vals Uu a/\s.heap.get? p=al {cls:=.type "list",data:=.seq a.toArray n}/\Uu.length<=a9:=AY (I.hok p _ h) λz a n r e=>Ah a n r e z
def Inv.B1{W:St}{b a:yG}(I:Inv X J W H s)(h:H p=al (.J Z))(c:s.heap.get? p=al {cls:=.type "list",data:=.seq b.toArray n})(Y:f {cls:=.type "list",data:=.seq b.toArray n}={cls:=.type "list",data:=.seq a.toArray Uu})(r:Vals ys a)(hz:ys.length<=a9)t:Inv X J W (upd H p<|.J ys) {s with heap:=s.heap.update p f,toks:=t}:=by
 have e:(s.heap.update p f).get? p=al {cls:=.type "list",data:=.seq a.toArray Uu}:=by rw[dY f c<|by rw[Y]<;>rfl,Y]
 exact I.write (by rw[h];trivial) (.inl rfl) (λb u b q=>(cF _ _<|bE b).trans q) (Ae _ e) ⟨hz,a,Uu,r,e⟩
def Rm:V->V->V->Hp->(Hp->Prop)->Prop:=λo i v H Q=>∃p a k j,o=.ref p/\i=.int k/\H p=al (.J a)/\C7 a.length k=al j/\Q (upd H p<|.J<|a.set j v)
def VB:HI X Rm:=by
 intro J s W H o i v a a u Q I a b e h;obtain⟨p,c,k,j,rfl,rfl,Z,c,q⟩:=h;cases a;obtain⟨t,rfl⟩:=b;refine AL (I.lst Z) λits n r a hz=>AU (MQ c) λUu h2 b c=>?_;have Y:=r.length;have d:=Dp;have d:=I.B1 Z a (WT its n j u) (r.set e j) (by rw[bw];exact hz) s.toks;by_cases e:0<=k;.have hk:=az<|l9 e c▸Uu;exact PySem.W.ki_setAt a e (by lia) (aL▸Y▸c) (hk▸(Ac _ d q))
 .have hk:(k+(its.toArray.size)).toNat=j:=by rw[lD (by lia) b]at Uu;exact aL▸Y▸az Uu
  exact PySem.W.ki_setBack a (by omega) (aL▸Y▸b) (by lia) (hk▸(Ac _ d q))
def aJ3(J hi:Option Int)(n:Nat):(fk J hi none n).1=((HT.l3 n 0 J:Nat):Int)/\(fk J hi none n).2.1=((HT.l3 n n hi:Nat):Int)/\(fk J hi none n).2.2=1:=by
 refine⟨?_,?_,rfl⟩;.cases J with|none=>simp[fk,HT.l3]|some i=>
   simp only[fk,HT.l3,lS,show(1:Int)>0 by decide,if_true];by_cases h:i<0;.simp only[h,if_true]<;>omega
   .simp only[h,if_false]<;>omega
 .cases hi with|none=>simp[fk,HT.l3]|some i=>
   simp only[fk,HT.l3,lS,show(1:Int)>0 by decide,if_true];by_cases h:i<0;.simp only[h,if_true]<;>omega
   .simp only[h,if_false]<;>omega
def aB1(a:yG)h hi:slicePick a.toArray h hi aT=((a.drop<|HT.l3 a.length 0 h).take<|HT.l3 a.length a.length hi-HT.l3 a.length 0 h).toArray:=by refine AI (aJ3 h hi a.toArray.size) λJ a b=>?_;unfold slicePick;rw[J,a,b];simp only[sliceRange_one,pick_run]<;>rfl
def LP(K:ac):V->Option Int->Option Int->Hp->VK->Prop:=λx c hi H Q=>∃a b,x=.ref a/\qn K H a b/\∀p,H p=aT->Q (.ref p) (upd H p<|.J<|yq b c hi)
def X3:CM X<|LP X.K:=by intro Z s W H x v vl a Y hi sl Q I b c pl d h;obtain⟨a,J,rfl,a,q⟩:=h;cases b;refine AH (I.list a) λits r a hz=>have b:=r.length;(Ah "list" _ lE.lookup a.isList.typeIs<|wpAny_getItem_list_slice a.isList c pl d .none (by simp) ?_<|by simp_all);rw[aB1,<-b];refine⟨.ref s.heap.objs.size,_,I.laid (λb a q=>aq _ q) (ak _) ?_,rfl,q _<|I.hok.fresh<|ak _⟩;exact⟨au (OO J Y hi) hz,_,0,(r.drop<|HT.l3 J.length 0 Y).take<|HT.l3 J.length J.length hi-HT.l3 J.length 0 Y,aY _ rfl⟩
def aI3:t4 X (.builtin "len") (λZ H Q=>∃p a,Z=[.ref p]/\(qn X.K H p a\/sy X.K H p a)/\Q (.int a.length) H):=by
 intro Y s W H Z a Q I r h;obtain⟨p,a,rfl,b,q⟩:=h;obtain⟨u,rfl,c⟩:=wJ r;cases c;have c:=Dp;rcases b with b|b;.exact AH (I.list b) λits c pl hz=>have J:=c.length;Calls.call_len_list pl.isList (by grind) ⟨.int a.length,H,I.tok _,⟨s.toks+1,by grind⟩,q⟩
 .exact AH (I.tuple b) λits c pl hz=>have J:=c.length;len_tuple pl (by grind) ⟨.int a.length,H,I.tok _,⟨s.toks+1,by grind⟩,q⟩
def aG7:t4 X (.builtin "len") (λa H Q=>∃z,a=[.str z]/\z.length<=a9/\Q (.int z.length) H):=by intro J s W H a a Q I r h;obtain⟨z,rfl,hz,q⟩:=h;obtain⟨u,rfl,t,rfl⟩:=wJ r;have a:=Dp;exact len_str (by lia) ⟨.int z.length,H,I.tok _,⟨_,rfl⟩,q⟩
def t4.or(h:t4 X f r)(h':t4 X f Z):t4 X f<|λa H Q=>r a H Q\/Z a H Q:=λJ s W H a b Q I Y q=>q.elim (λq=>h J s W H a b Q I Y q) λq=>h' J s W H a b Q I Y q
def aG1:t4 X (.type "list") (λa H Q=>∃p c,a=[.ref p]/\(qn X.K H p c\/sy X.K H p c)/\∀l,H l=aT->Q (.ref l) (upd H l<|.J c)):=by
 intro Z s W H a a Q I r h;obtain⟨p,c,rfl,d,q⟩:=h;obtain⟨u,rfl,a⟩:=wJ r;cases a;have fin:∀its,Vals c its->c.length<=a9->∀h' f,(∀b e,s.heap.get? b=al e->h'.get? b=al e)->h'.get? s.heap.objs.size=al {cls:=.type "list",dict:=aT,data:=.seq its.toArray f,slots:=#[]}->EP X Z W Q (.ref s.heap.objs.size) {s with heap:=h'}:=λits J hz h' f kp e=>⟨.ref s.heap.objs.size,_,I.laid kp (ak _) (show tQ X.prog X.w _ h' _ (.J c)from⟨hz,its,f,J,e⟩),rfl,q _<|I.hok.fresh<|ak _⟩;rcases d with d|d;.exact AH (I.list d) λits J pl hz=>have Y:=J.length;AH pl.isList λo b c Zz=>AF Zz λn e=>call_list_seq p (.inl rfl) b c e ((fin its J hz)) (by simp_all)
 .exact AH (I.tuple d) λits J pl hz=>have Y:=J.length;AH pl λo b c Zz=>AF Zz λn e=>call_list_seq p (.inr rfl) b c e ((fin its J hz)) (by simp_all)
def aD0:t4 X (.type "tuple") (λZ H Q=>∃p a,Z=[.ref p]/\((qn X.K H p a/\∀l,H l=aT->Q (.ref l) (upd H l<|.tp a))\/(sy X.K H p a/\Q (.ref p) H))):=by
 intro J s W H Z a Q I r h;obtain⟨p,a,rfl,h⟩:=h;obtain⟨u,rfl,b⟩:=wJ r;cases b;rcases h with⟨c,q⟩|⟨c,q⟩;.refine AH (I.list c) λits d pl hz=>have b:=d.length;call_tuple_list pl.isList (λh' kp=>?_) (by simp_all);have Y:=I.kept (t':=s.toks) kp;exact⟨.ref h'.objs.size,_,(Y.laid (t':=s.toks) (λb o e=>aq _ e) (ak _) (show tQ X.prog X.w _ _ _ (.tp a)from⟨hz,its,d,nF _ _⟩)),rfl,q _<|Y.hok.fresh<|ak _⟩
 .exact AH (I.tuple c) λits d pl hz=>call_tuple_same pl ⟨.ref p,H,I,rfl,q⟩
def Fp(K:ac)(T:String)(x:V)(H:Hp):Prop:=match x with|.str _=>T="str"|.int _=>T="int"|.ref p=>(T="list"/\∃a,qn K H p a)\/(T="tuple"/\∃o,K.lookup p=al o/\o.cls=.type "tuple"/\o.dict=aT)\/(T="dict"/\((∃kvs,H p=al (.dK kvs))\/∃kvs,H p=al (.dT kvs)))\/(T="set"/\∃S n,H p=al (.set S n))|_=>False
def Ny{W:St}(I:Inv X h W H s)(r:RelV x v)(J:Fp X.K T x H):
  s.TypeIs v T/\∀a,v=.ref a->∃b,s.heap.get? a=al b/\b.dict=none:=by cases x with|str z=>obtain⟨t,rfl⟩:=r;cases(J);exact Ad (mV s z t) (λ_ e=>nomatch e)|int i=>obtain⟨t,rfl⟩:=r;cases(J);exact Ad (typeIs_int s i t) (λ_ e=>nomatch e)|ref p=>
  cases r;rcases J with⟨rfl,a,a⟩|⟨rfl,o,b,f,d⟩|⟨rfl,b⟩|⟨rfl,S,n,b⟩;.refine AH (I.list a) λits _ pl _=>Ad pl.isList.typeIs<|λa e=>?_;cases e;exact AS pl λo n e c d _=>Ac o e d
  .refine Ad ⟨o,I.sx p o b,f⟩<|λa e=>?_;cases e;exact Ac o (I.sx _ o b) d
  .have z:∃o,s.heap.get? p=al o/\o.ExactDict:=by
    rcases b with⟨kvs,b⟩|⟨kvs,b⟩;.exact AO (I.hok p _ b) λ_ _ _ _ Zz=>AR Zz λo _ _ e ex _=>Ac o e ex
    .exact AO (I.hok p _ b) λ_ _ _ _ Zz=>AR Zz λo _ _ e ex _=>Ac o e ex
   refine AE z λo e ex=>Ad ⟨o,e,ex.1⟩<|λa c=>?_;cases c;exact Ac o e ex.2.1
  .refine AM (I.hok p _ b) λo _ _ _ e Zz=>AB Zz λex _=>Ad ⟨o,e,ex.1⟩<|λa c=>?_;cases c;exact Ac o e ex.2.1|_=>exact bh J
def LX(K:ac)(T:String)(r:V->List V->Hp->VK->Prop)(a:TE):TE:=λW H Q=>a W H λx a=>Fp K T x a/\r x [] a Q
def Hi(K:ac)(T:String)(r:V->List V->Hp->VK->Prop)(a:TE)(t:TA):TE:=λW H Q=>a W H λx a=>Fp K T x a/\t W a λa H2=>r x a H2 Q
variable{o e:Expr}{es:yK}{to:TE}{t:TA}{name:Str}{apos cpos:Pos}{T id:String}{r:V->List V->Hp->VK->Prop}
def Sh(d:mW T)(a:Slot T name id)(Z:nN (.builtin id)=pure (.type "method_descriptor"))(e:Fi X id r)(b:PE X o to)(Y:autoParam (eT o name X.env (eval o X.env)=eval o X.env) nz._auto_1)(c:autoParam ((apos.endLine==cpos.line)=bY) nz._auto_1):PE X (.Call (.Attribute o name apos) [] [] cpos) (LX X.K T r to):=λJ s W H Q I h=>wpAny_Call_method0_late Y c<|gg (b J s W H _ I h) λv s1⟨x,f,b,c,g,h⟩=>AB (Ny b c g) λh1 h2=>⟨T,id,d,a,Z,h1,h2,iy rfl<|PySem.evalArgs_none<|e J s1 W f x [] v [] Q b c .nil h⟩
def RZ(d:mW T)(a:Slot T name id)(f:nN (.builtin id)=pure (.type "method_descriptor"))(g:Fi X id r)(b:PE X o to)(i:PA X (e::es) t)(Y:autoParam (eT o name X.env (eval o X.env)=eval o X.env) nz._auto_1)(c:autoParam (((cV cpos<|be (e::es) X.env).all (λx=>!x.1)&&(fw cpos<|di [] X.env).all (λx=>x.1.isSome)&&decide ((e::es).length+([]:List fx).length+(if([]:List fx).isEmpty then 0 else 1)<30))=bY) nz._auto_1)(Z:autoParam ((apos.endLine==cpos.line)=bY) nz._auto_1)(j:autoParam (be (e::es) X.env=(ce,eval e X.env)::be es X.env) nz._auto_1)(k:autoParam ((cV cpos<|be es X.env).any (·.1)=ce) nz._auto_1):PE X (.Call (.Attribute o name apos) (e::es) [] cpos) (Hi X.K T r to t):=by refineλJ s W H Q I h=>wpAny_Call_method_late Y c Z rfl<|gg (b J s W H _ I h) λv s1⟨x,e,b,c,h,l⟩=>AB (Ny b c h) λh1 h2=>⟨T,id,d,a,f,h1,h2,?_⟩;have a:=i cpos J s1 W e _ b l;rw[j]at a⊢;refine iy (by show(ce||(cV cpos<|be es X.env).any (·.1))=ce;rw[k]<;>rfl)<|kg ?_;exact gg a λa b⟨vs,H2,d,e,f⟩=>g J b W H2 x vs v a Q d c e f
end
def MtM(X:Cx)(id:String)(r:V->List V->Hp->VK->Prop):Prop:=∀a s(W:St)H x b v(c:yG)Q,Inv X a W H s->RelV x v->Vals b c->r x b H Q->wpAny (model X.prog X.w) X.A (call (.builtin id) (v::c)) (EP X a W Q) X.xe s
def Vals.one:∀{x}{a:yG},Vals [x] a->∃u,a=[u]/\RelV x u|_,_,.cons r .nil=>(Ac _ rfl r)
def Vals.zero:∀{a:yG},Vals [] a->a=[]|_,.nil=>rfl
theorem Vals.rep{a:yG}(h:Vals J a):∀k:Nat,Vals (ay k J).flatten (ay k a).flatten|0=>.nil|k+1=>kK▸kK▸gN▸gN▸Vals.append h (Vals.rep h k)
section
variable{X:Cx}{pins:yA}{W:St}{H:Hp}{s:ag}{l b:Addr}{xs ys zs:List V}
def Inv.Hs{b a:yG}(I:Inv X pins W H s)(h:H l=al (.J xs))(e:s.heap.get? l=al {cls:=.type "list",data:=.seq b.toArray n})(J:f b.toArray=a.toArray)(c:Vals ys a)(hz:ys.length<=a9):Inv X pins W (upd H l<|.J ys) {s with heap:=s.heap.update l<|iw f,toks:=t'}:=by have q:=PySem.IsL.update e f;rw[J]at q;exact I.write (h▸trivial) (.inl rfl) (λb u b d=>(cF s.heap (iw f) (bE b)).trans d) (Ae _ q) ⟨hz,a,_,c,q⟩
def Inv.B3{a:yG}(I:Inv X pins W H s)(c:Vals ys a)(hz:ys.length<=a9):Inv X pins W (upd H s.heap.objs.size<|.J ys) {s with heap:=s.heap.push {cls:=.type "list",data:=.seq a.toArray},toks:=t'}:=I.laid (λ_ _ q=>aq _ q) (ak _) ⟨hz,a,0,c,aY _ rfl⟩
theorem Inv.fresh(I:Inv X pins W H s):H s.heap.objs.size=none:=I.hok.fresh<|ak _
def Inv.B2(I:Inv X pins W H s)(h:H l=al (.J xs)):xs.length<=a9/\∃(a:yG)(n:Nat),Vals xs a/\xs.length=a.length/\s.heap.get? l=al {cls:=.type "list",data:=.seq a.toArray n}:=AY (I.hok l _ h) λz a n r e=>⟨z,a,n,r,r.length,e⟩
end
section
variable{X:Cx}
def Xr:V->List V->Hp->VK->Prop:=λx vs H Q=>∃l a y,x=.ref l/\vs=[y]/\H l=al (.J a)/\a.length<a9/\Q .N (upd H l<|.J<|a++[y])
def QI:MtM X "list.append" Xr:=by intro a s W H x vs v a Q I a Z h;obtain⟨l,b,y,rfl,rfl,J,hz,q⟩:=h;cases a;obtain⟨u,rfl,Y⟩:=Z.one;refine AY (I.B2 J) λz a n r Zz=>AB Zz λhl e=>call_meets iU ⟨_,e,rfl⟩ F.entry_list_append (F.args_list_append_2 _ _) (PySem.list_append l a.toArray n u<|by simp_all) ⟨e,⟨.N,_,I.Hs J e (by simp) (r.append<|.cons Y .nil) ?_,rfl,q⟩⟩;grind
def UA:R2:=λx y H Q=>∃l b a c,x=.ref l/\y=.ref b/\H l=al (.J a)/\H b=al (.J c)/\a.length+c.length<=a9/\∀p,H p=aT->Q (.ref p) (upd H p<|.J<|a++c)
def Tz:uz X (eR .Add) UA:=by
 intro a s W H x y v u Q I a c h;obtain⟨l,b,b,b,rfl,rfl,Y,b,hz,q⟩:=h;cases a;cases c;refine AY (I.B2 Y) λz a n r Zz=>AB Zz λhl e=>AY (I.B2 b) λz2 J b Z Zz=>AB Zz λa0 b=>PySem.P.add_list e b ?_ (by simp_all);have b:a.toArray++J.toArray=(a++J).toArray:=by simp
 exact b▸⟨.ref _,_,I.B3 (r.append Z) (by simp_all),rfl,q _ I.fresh⟩
end
section
variable{prog:aG}{w:World}{A:aW}{E:Value->ag->Prop}{s:ag}
end
section
variable{X:Cx}
end
end L2
end
noncomputable section
namespace Att
open PySem PySem.W PySem.Calls PyProof.Rows
def uu:∀ns(vs:yG),WellAll P h vs (ns.map WData.int)->mK vs ns:=by intro ns;induction ns with|nil=>intro vs w;cases fA▸w;exact .nil|cons n ns c=>intro vs w;rw[aS]at w;cases w with|cons a b=>cases a;exact .cons _ _<|c _ b
def w1{l:OpenLaw}(c:l.most=al n){b:yG}(J:l.row.toRowW.claim.pre args=bY)(e:WellAll P h b args):∃a vs ns,b=[Value.ref a]/\args=[WData.list<|ns.map WData.int]/\h.get? a=al {cls:=.type "list",data:=.seq vs.toArray}/\mK vs ns/\ns.length<=n:=by
 have a:=(pre_splitW J).1;have b:l.pre.holds [] {args:=args}=true:=(pre_splitW J).2;obtain⟨d,r,rfl,d,h2⟩:=hasAllW_cons a;obtain rfl:=hasAllW_nil h2;obtain⟨a,rfl,h3⟩:=hasW_list d;obtain⟨ns,rfl⟩:=items_int h3;have Y:ns.length<=n:=by
  have a:=have a:=(holds_andW b).1;c▸a;have Z:=condW_of a<|w_not<|w_lt w_lit<|w_len_list<|w_arg rfl;rw[aw]at Z;refine lT λq=>?_;have a:=by omega
  first|(exact iN (gv a▸Z) (by decide))|(simp at Z;omega)
 cases e with|cons a b=>cases b;cases a with|list b a=>exact Av _ _ ns rfl rfl b (uu ns _ a) Y
def w6(l:OpenLaw)args:l.row.toRowW.claim.post args (.bool bY) args=true:=postW_of (show WShape.has [] (.bool bY) .bool=bY by first|rfl|decide|simp[WShape.armsAll])
  (w_eq_bool (w_res rfl) w_lit) rfl
def vK{l:OpenLaw}{loose:yH}(j:l.most=al n)(k:d.params.defaults=[])(call:∀(w:World)(s₀ h:ag)(mg mb:yC)(b:Addr)(o:Obj)(g c i:Value)(a:Addr)(vs:yG)(ns:List Int),Ground q loose [] XP w s₀ mg mb h.heap->YP w h.heap->h.heap.get? b=al o->o.data=.func (docDef d.name d.params d.body d.scope g c i)->h.heap.CodeRec c d.name->mg d.name=al (.ref b)->h.heap.get? a=al {cls:=.type "list",data:=.seq vs.toArray}->mK vs ns->ns.length<=n->h.gens=#[]->fQ (model l.prog w) kA (.call (.ref b) ⟨[.ref a],[]⟩) (λr e=>r=.ok (.ret<|.bool bY)/\OldK h.heap e.heap/\e.os=h.os/\gh e.gens) h):WalkO q loose XP YP l.row.toRowW d []<|λf vs=>mO f vs:=by intro w s₀ h mg mb G Y b o g c i d kV e f m hD n p a a a Z a6 b1 q a;obtain rfl:d=.none:=Dflts.none hD k;obtain rfl:kV=.none:=Dflts.noKw hD;obtain⟨a,vs,ns,rfl,rfl,d,J,k⟩:=w1 j Z q;refine enter_call<|fv (call w s₀ h mg mb b o g c i a vs ns G Y e (fd_plain f) m n d J k p) λr e a=>?_;obtain⟨rfl,h2,b,c⟩:=a;exact⟨.inl<|Av (.bool bY) (.bool bY) [] rfl (λ_=>rfl) (.bool bY) (w6 l _) (λ_=>Ad List.Pairwise.nil<|λ_ a=>(nomatch a)),h2,b,c⟩
section
variable{prog:aG}{w:World}{A:aW}{E:Value->ag->Prop}{s:ag}{K:Frag}
end
end Att
noncomputable section
namespace L2
open PySem PySem.Spec PyProof.Rows
theorem QR:∀{vs:yG}{ns},mK vs ns->Vals (ns.map V.int) vs|_,_,.nil=>.nil|_,_,.cons n t h=>.cons ⟨t,rfl⟩<|QR h
noncomputable def r6(s:Stmt):bH:=match s with|.FunctionDef _ a _ _ _ _ _ _ _ _=>a|_=>{posonlyargs:=[],args:=[],vararg:=aT,kwonlyargs:=[],kw_defaults:=[],kwarg:=aT,defaults:=[]}
noncomputable def eh(s:Stmt):List Stmt:=match s with|.FunctionDef _ _ b _ _ _ _ _ _ _=>b|_=>[]
noncomputable def bb(s:Stmt):Scope:=match s with|.FunctionDef _ _ _ _ _ _ a _ _ _=>a|_=>{kind:=.function,names:=[],isGenerator:=ce,isCoroutine:=ce}
noncomputable abbrev t7:BW:=λ_ _ _ _ _ _=>False
abbrev E0:XK:=λ_ _ _=>False
def CF:qz t7 X E0:=λ_ _ _ _ _ _ _ h=>h.elim
structure w0(K:ac)(x qual:Str)(st:Stmt)(f:Addr)(fd:bS):Prop where
 ex:∃(oc:Value)(od:yI)(kV doc pm:Value)(an:yI)(cdv ct:Value)(osl:yE),fd=cW x qual (r6 st) (eh st) (bb st) .none kV doc pm an cdv ct/\K.lookup f=al ⟨oc,od,.func fd,osl⟩/\fy K cdv qual=bY
 kp:bR K (.ref f)=bY
section
variable{P:aG}{w:World}{K:ac}{mg:yC}{base:Heap}
def w0.ok{st}(F:w0 K x qual st f fd)(S:fP N ps<|bb st)(len:∀vs H Q E,sp vs H Q E->vs.length=ps.length)(Y:∀(a:Value)(A:aW)(J:List Env)(s:ag)(H:Hp)(vs:List V)(Q:VK)(E:XK),eX k (A.deeper<|fZ qual (bb st) s.heap.objs.size f a)->sp vs H Q E->∃t,sR (u6 t7 P w K mg base N qual (bb st) f a A J s H E).nox (eh st) t/\t {nx:=λ_ H'=>Q .N H',rt:=Q} (wL N vs) H):k6 P w K mg base t7 (k+1) f fd ps sp:=by obtain⟨a,a,kV,a,a,a,a,b,b,rfl,lk,b⟩:=F.ex;exact Iz lk b S len λA J s H vs Q E b Z=>AE (Y a A J s H vs Q E b Z) λt h q=>Ac t h.nox q
def w0.binds{st}(F:w0 K x qual st f fd)(h:∀(kV J Y:Value)(Z:yI)(a b:Value)(c:yG),c.length=ps.length->eV (cW x qual (r6 st) (eh st) (bb st) .none kV J Y Z a b) ⟨c,[]⟩=pure (ps.zip c)):Binds K fd ps []:=by obtain⟨a,a,kV,J,Y,Z,a,b,c,rfl,lk,c⟩:=F.ex;exact .all<|h kV J Y Z a b
def GO{x qual:Str}{st:Stmt}{f:Addr}{oc:Value}{od Z:yI}{Uu:yE}{kV J Y h ct:Value}(l:K.lookup f=some ⟨oc,od,.func<|cW x qual (r6 st) (eh st) (bb st) .none kV J Y Z h ct,Uu⟩)(c:fy K h qual=true)(k:bR K (.ref f)=true):w0 K x qual st f<|cW x qual (r6 st) (eh st) (bb st) .none kV J Y Z h ct:=⟨⟨oc,od,kV,J,Y,Z,h,ct,Uu,rfl,l,c⟩,k⟩
end
section
variable{X:Cx}
def pv i{pos}(hN:autoParam (X.N[i]?=al x) nz._auto_1)(hv:autoParam (CK X.env.scope x) Zq6._auto_1)(hd:autoParam ((x==("__debug__":Str))=ce) vm._auto_1)(h:autoParam ((x==("__classdict__":Str))=ce) vm._auto_1):PE X (.Name x pos) (Cm i):=Ic hN hv hd h
end
def UG{B:Prop}(h:B):if ce=bY then A else B:=by simp_all
def ur{B:Prop}(h:A):if bY=bY then A else B:=by simp_all
def tw(H H':Hp):Prop:=∀b o,H b=al o->H' b=al o
def tw.refl H:tw H H:=λ_ _ h=>h
def tw.trans(a:tw H J)(b:tw J H2):tw H H2:=λc o h=>b c o<|a c o h
def VZ{Z:yK}(I:Nat->ag->Prop)(turn:∀n s,I n s->wpAny (model prog w) A (lP it) (λr b=>match r with|none=>R (.ok .next) b|some v=>wpAny (model prog w) A (fY J it v) (λ_ d=>wpAny (model prog w) A (ik J env v) (λ_ f=>wpAny (model prog w) A (forIn Z bY λc r=>if r=bY then do let ok<-gW c env<|eval c env;pure (ForInStep.yield ok)else pure<|ForInStep.yield r) (λok c=>if ok=bY then wpAny (model prog w) A (eval Uu env) (λx g=>wpAny (model prog w) A (call (.builtin "list.append") [Y,x]) (λ_ i=>∃m,m<n/\I m i) (lF (model prog w) A env λe a=>R (.error e) a) g) (lF (model prog w) A env λe a=>R (.error e) a) c else∃m,m<n/\I m c) (lF (model prog w) A env λe a=>R (.error e) a) f) (lF (model prog w) A env λe a=>R (.error e) a) d) (lF (model prog w) A env λe a=>R (.error e) a) b) (lF (model prog w) A env λe a=>R (.error e) a) s)n(h:I n s):fQ (model prog w) A (.compLoop (.ListComp Uu [⟨J,iter,Z,0⟩] scope pos) 0 it Y env) R s:=by refine codeAny_loop rfl I (λn s a=>?_) n h;refine wpAny_noted ?_;rw[compTurn_list];refine ai<|kP<|ai<|bD (turn n s a) (λr b a=>?_) λ_ _ h'=>h';cases r with|none=>exact aH a|some v=>refine ai<|bD a (λ_ d a=>?_) λ_ _ h'=>h';refine ai<|bD a (λ_ f a=>ai<|bD a (λok c a=>?_) λ_ _ h'=>h') λ_ _ h'=>h';cases ok with|false=>exact aH<|Ad rfl a|true=>exact ai<|ai<|bD a (λx g a=>ai<|bD a (λ_ i a=>aH<|aH<|Ad rfl a) λ_ _ h'=>h') λ_ _ h'=>h'
noncomputable def sf(a:yB):List (Str×cB)->List (Str×Addr)->List (Str×Addr)|[],b=>b|(n,k)::r,b=>sf a r<|if k==.free then(match a.lookup n with|some c=>(n,c)::b|none=>b)else b
theorem O3:∀names J,(∀y∈names,y.2=.free->∃c,env.cells.lookup y.1=al c)->(forIn names J λ(x)(cs:yB)=>(if x.2==.free then do let c<-cellOf env x.1;pure<|ForInStep.yield ((x.1,c)::cs)else pure<|ForInStep.yield cs:Sem<|ForInStep<|List<|Str×Addr))=pure (sf env.cells names J)|[],J,_=>by rw[kh];rfl|(n,k)::r,J,h=>by have b:=λa=>O3 r a λy a=>h y<|ah _ a;rw[mz];unfold sf;cases e:(k==NameKind.free)with|false=>simp only[if_false];exact b J|true=>
   have a:=by simpa using e
   refine AF (h (n,k) ao a) λc a=>?_;simp only[(by unfold cellOf;rw[a]:cellOf env n=pure c),a];exact b _
def qC(h:∀y∈scope.names,y.2=.free->∃c,env.cells.lookup y.1=al c):closureFor scope env=pure (sf env.cells scope.names []):=by have:=O3 scope.names [] h;show(forIn scope.names [] (λ(x)(cs)=>(if x.2==.free then do let c<-cellOf env x.1;pure<|ForInStep.yield ((x.1,c)::cs)else pure<|ForInStep.yield cs:Sem<|ForInStep<|List<|Str×Addr))>>=pure)=_;rw[this];rfl
theorem clOf_mem:∀{names}{J:yB},(n,c)∈sf cells names J->cells.lookup n=al c\/(n,c)∈J|[],_,h=>.inr h|(m,k)::r,J,h=>by unfold sf at h;rcases clOf_mem h with z|z;all_goals grind
theorem PK(a:cells.lookup n=al c):∀{names}{J:yB},((n,NameKind.free)∈names\/(n,c)∈J)->(n,c)∈sf cells names J
 |[],_,h=>by rcases h with h|h;(exact iN h<|by simp);exact h|(m,k)::r,J,h=>by
  unfold sf;refine PK a ?_;rcases h with h|h
  .rcases aE.mp h with e|h;.cases e;right;simp[a]
   .exact .inl h
  .right;cases e:(k==NameKind.free)with|false=>simpa using h|true=>simp only[];cases q:cells.lookup m with|none=>exact h|some d=>exact ah _ h
theorem O5{α:Type}{c}:∀{l:List<|Str×α},(n,c)∈l->(∀d,(n,d)∈l->d=c)->l.lookup n=al c|(m,d)::r,h,u=>by rw[bo];cases e:n==m with|true=>simp_all|false=>
   rcases aE.mp h with z|z;.lia
   .exact O5 z λa h'=>u a<|ah _ h'
def qJ(a:cells.lookup n=al c)(h:(n,NameKind.free)∈names):(sf cells names []).lookup n=al c:=by refine O5 (PK a<|.inl h) λd a=>?_;rcases clOf_mem a with z|z;all_goals simp_all
theorem zq:∀names n(h:yB),aX n names h=aX n names []++h
 |[],_,h=>by simp[aX]|(x,k)::r,n,h=>by
  unfold aX;split;.rw[zq r (n+1) ((x,n)::h),zq r (n+1) [(x,n)]];simp
  .exact zq r n h
set_option tactic.hygienic true in theorem zJ:∀{names}{n}{J:yB}{x}{c},(x,c)∈aX n names J->(x,NameKind.cell)∈names\/(x,c)∈J
 |[],_,_,_,_,h=>.inr h|(y,k)::r,n,J,x,c,h=>by
  unfold aX at h;split at h;.rename_i hk;rcases zJ h with z|z;all_goals grind
  .rcases zJ h with z|z;all_goals simp_all
def zW{α:Type}x:∀(l r:List<|Str×α),(l++r).lookup x=(l.lookup x).or (r.lookup x)|[],r=>by simp|(y,v)::l,r=>by grind
noncomputable def qp(b:yH)(a:yD)(scope:Scope)(d:yH)(c:Scope):Bool:=(scope.kind==.function)&&(scope.names.all λy=>!(y.2==.free)||(c.names.lookup y.1==al .cell||c.names.lookup y.1==al .free))&&(scope.names.all λy=>!(y.2==.local)||scope.names.lookup y.1==al .local)&&(scope.names.all λy=>!(y.2==.cell)||(scope.names.all λz=>!(z.1==y.1)||z.2==.cell))&&(a.length==b.length)&&((b.zip a).all λy=>match y.2 with|none=>bY|some j=>d[j]?==al y.1&&scope.names.lookup y.1==al .free)
structure yM(N':yH)(src:yD)(scope:Scope)(XN:yH)(xs:Scope):Prop where
 kind:scope.kind=.function
 fr:∀y∈scope.names,y.2=.free->xs.names.lookup y.1=al .cell\/xs.names.lookup y.1=al .free
 loc:∀y∈scope.names,y.2=.local->scope.names.lookup y.1=al .local
 cel:∀y∈scope.names,y.2=.cell->∀z∈scope.names,z.1=y.1->z.2=.cell
 len:src.length=N'.length
 sr:∀(i j:Nat)(x:Str),src[i]?=al (al j)->N'[i]?=al x->XN[j]?=al x/\scope.names.lookup x=al .free
def Nt(h:qp J src scope Uu Y=bY):yM J src scope Uu Y:=by
 unfold qp at h;simp only[af]at h;obtain⟨⟨⟨⟨⟨a,h2⟩,b⟩,c⟩,d⟩,f⟩:=h;refine⟨by simpa using a,λy a e=>?_,λy a e=>?_,λy a e z hz g=>?_,by simpa using d,λi j x d h=>?_⟩;.have:=aK.mp h2 y a;simpa[e]using this
 .have:=aK.mp b y a;simpa[e]using this
 .have:=aK.mp c y a;simp only[e,ny]at this;have:=aK.mp this z hz;simpa[g]using this
 .have Z:(x,al j)∈J.zip src:=by refine aA (i:=i) ?_;rw[List.getElem?_zip_eq_some];exact Ad h d
  have:=aK.mp f _ Z;simpa using this
noncomputable abbrev zZ(X:Cx)(b:yH)(scope:Scope)(Cc:Addr)(cells:yB)(s:ag)(H:Hp)(ex:List Addr):Cx where prog:=X.prog;w:=X.w;K:=X.K;mg:=X.mg;base:=X.base;A:=X.A;N:=b;s₀:=s;H₀:=H;env:={scope:=fR scope X.env,locals:=Cc,globals:=X.env.globals,cells:=cells,qual:=X.env.qual,func:=aT,code:=X.env.code,frame:=X.env.frame,builtins:=X.env.builtins};outer:=X.stack;stack:=X.stack;ex:=ex;fn:=λx=>scope.names.lookup x==al .cell;calm:=X.calm;pn:=[];xe:=λ_ _=>False
def Bd(X:Cx)(b:yK)(t:TT):Prop:=∀a s(W:St)H Q,Inv X a W H s->t W H Q->wpAny (model X.prog X.w) X.A (forIn b bY λc r=>if r=bY then do let ok<-gW c X.env<|eval c X.env;pure (ForInStep.yield ok)else pure<|ForInStep.yield r) (TP X a W Q) X.xe s
def Uo:TT:=λ_ H Q=>Q bY H
def YY:Bd X [] Uo:=λ_ _ _ H _ I h=>wpAny_tests_nil ⟨H,I,h⟩
def XZ(h:PT X c t):Bd X [c] t:=λJ s W H Q I a=>wpAny_tests_one<|h J s W H Q I a
noncomputable def BJ(a:yD)(W:St):St:=a.map λo=>match o with|none=>aT|some j=>(W[j]?).join
def vC(a:yD)(b:TI)(g:TG)(d:TT)(e:TE):TE:=λW H Q=>b W H λJ b=>∀D,b D=aT->∃Ww:Nat->Nat->St->Hp->Prop,(∃m,Ww 0 m (BJ a W) (upd b D<|.J []))/\∀i m a H',Ww i m a H'->(J.stop i H'/\Q (.ref D) H')\/(J.go i H'/\∃N:St->Hp->Prop,(∀b H2,N b H2->∃c,c<m/\Ww (i+1) c b H2)/\∀x H2,J.yld i H' x H2->g x a H2 λa b=>d a b λb c=>if b=bY then e a c λv d=>∃b,d D=al (.J b)/\b.length<a9/\N a (upd d D<|.J<|b++[v])else N a c)
theorem qZ{env:Env}:∀{names:List<|Str×cB}{x}{k},names.lookup x=al k->(names.map λ(n,k)=>if(k==NameKind.free&&env.scope.kind==.function&&env.kindOf n==al .cell)then(n,NameKind.cell)else(n,k)).lookup x=al (if(k==NameKind.free&&env.scope.kind==.function&&env.kindOf x==al .cell)then NameKind.cell else k)|[],_,_,h=>by simp at h|(n,k)::r,x,a,h=>by have J:=@qZ env r x a;show dF x ((if(k==NameKind.free&&env.scope.kind==.function&&env.kindOf n==al .cell)=bY then(n,NameKind.cell)else(n,k))::_)=_;cases a:x==n with
  |true=>
   have e:=beq_iff_eq.mp a;subst e;simp only[bo,a]at h;cases h;by_cases b:(k==NameKind.free&&env.scope.kind==.function&&env.kindOf x==al .cell)=bY;.rw[ef b,ef b];simp only[bo,a]
   .rw[gc b,gc b];simp only[bo,a]|false=>
   simp only[bo,a]at h;by_cases b:(k==NameKind.free&&env.scope.kind==.function&&env.kindOf n==al .cell)=bY;.rw[ef b];simp only[bo,a];exact J h
   .rw[gc b];simp only[bo,a];exact J h
theorem qL{env:Env}:∀{names:List<|Str×cB}{x},names.lookup x=aT->(names.map λ(n,k)=>if(k==NameKind.free&&env.scope.kind==.function&&env.kindOf n==al .cell)then(n,NameKind.cell)else(n,k)).lookup x=aT|[],_,_=>rfl|(n,k)::r,x,h=>by have J:=@qL env r x;show dF x ((if(k==NameKind.free&&env.scope.kind==.function&&env.kindOf n==al .cell)=bY then(n,NameKind.cell)else(n,k))::_)=_;cases a:x==n with|true=>simp only[bo,a]at h;cases h|false=>
   simp only[bo,a]at h;by_cases b:(k==NameKind.free&&env.scope.kind==.function&&env.kindOf n==al .cell)=bY;.rw[ef b];simp only[bo,a];exact J h
   .rw[gc b];simp only[bo,a];exact J h
def Om{W:St}{f:List Addr}(l:yM N' src scope X.N X.env.scope)(I:Inv X a6 W H s)(j:∀b∈f,uf X a6 H b)(A:∀b∈f,b<s.heap.objs.size)(c:∃tk,s4={s with heap:=fM (s.heap.push {cls:=.type "dict",data:=.dict #[]}) scope.names,toks:=tk}):Inv (zZ X N' scope s.heap.objs.size (aX (s.heap.objs.size+1) scope.names<|sf X.env.cells scope.names []) s H f) [] (BJ src W) H s4:=by
 obtain⟨tk,rfl⟩:=c;have r:∀b o,s.heap.get? b=al o->(fM (s.heap.push {cls:=.type "dict",data:=.dict #[]}) scope.names).get? b=al o:=λb o e=>dQ _ _ b o<|aq _ e;have ok:=cellsFrom_ok scope.names (s.heap.push {cls:=.type "dict",data:=.dict #[]}) (s.heap.objs.size+1) [] ⟨λ_ _ g=>(nomatch g),List.Pairwise.nil⟩ (by simp_all);rw[cy]at ok;have t:=zq scope.names (s.heap.objs.size+1) (sf X.env.cells scope.names []);have lk:∀x c,(aX (s.heap.objs.size+1) scope.names<|sf X.env.cells scope.names []).lookup x=al c->((x,c)∈aX (s.heap.objs.size+1) scope.names []/\(x,NameKind.cell)∈scope.names)\/(X.env.cells.lookup x=al c/\(aX (s.heap.objs.size+1) scope.names []).lookup x=aT):=λx c e=>by rw[t,zW]at e;cases q:(aX (s.heap.objs.size+1) scope.names []).lookup x with|some d=>rw[q]at e;have b:d=c:=az e;subst b;have g:=aM q;refine .inl<|Ad g ?_;rcases zJ g with z|z;all_goals simp_all|none=>rw[q]at e;have b:(sf X.env.cells scope.names []).lookup x=al c:=e;rcases clOf_mem (aM b)with z|z;all_goals simp_all
 have m:∀x c,(x,c)∈aX (s.heap.objs.size+1) scope.names []->s.heap.objs.size+1<=c:=λx c h=>(ok.empty x c h).2;have B:∀x c,X.env.cells.lookup x=al c->c<s.heap.objs.size:=λx c h=>AF (I.cell x c h) λv q=>q.lt;have i:∀b,b<s.heap.objs.size->b≠s.heap.objs.size:=λb h=>aJ h;have C:∀b∈f,H b=aT/\b≠X.env.locals/\b∉X.fs:=λb f=>Ai (j b f).1 (j b f).2.1 (j b f).2.2.1;have p:(fM (s.heap.push {cls:=.type "dict",data:=.dict #[]}) scope.names).Ns s.heap.objs.size<|λ_=>aT:=(n8 s.heap<|.type "dict").keeps<|dQ _ _;have D:∀x k,scope.names.lookup x=al k->(fR scope X.env).names.lookup x=al (if(k==NameKind.free&&X.env.scope.kind==.function&&X.env.kindOf x==al .cell)then NameKind.cell else k):=λx k e=>qZ (env:=X.env) e;have k:∀x,scope.names.lookup x=aT->(fR scope X.env).names.lookup x=none:=λx e=>qL (env:=X.env) e;have E:∀x c,(x,NameKind.free)∈scope.names->X.env.cells.lookup x=al c->(aX (s.heap.objs.size+1) scope.names<|sf X.env.cells scope.names []).lookup x=al c:=λx c a h=>by rw[t,zW];cases q:(aX (s.heap.objs.size+1) scope.names []).lookup x with
  |some d=>
   rcases zJ (aM q)with z|z;.cases l.cel _ z rfl _ a rfl
   simp_all|none=>exact qJ h a
 have h:∀x,(x,NameKind.free)∈scope.names->∃c,X.env.cells.lookup x=al c:=λx a=>I.ok.has x<|l.fr _ a rfl;refine⟨⟨I.ok.mod,l.kind,I.ok.glob,I.ok.blt,ak _,λx y c g w=>?_,λx a=>?_,λx c a e=>?_,I.ok.hd,I.ok.frames,.inl rfl,λb f=>Ad (i b<|A b f) (λx c e z=>?_),I.bs,au I.ok.bsz I.sz,λb o e f=>?_,λb f z=>?_,I.stack,I.tS⟩,rfl,I.bare,Un.kept r,(Ac _ p<|λi x v g w b=>?_),λx c e=>?_,I.hok.fresh<|ak _,λx c e=>?_,λp b=>iN (show p∈([]:yA)from b) (by simp),I.hok.kept r,by unfold BJ;rw[aw];exact l.len⟩
 .rcases lk x c g with⟨b,_⟩|⟨b,_⟩<;>rcases lk y c w with⟨d,_⟩|⟨d,_⟩;.exact iq ok.apart b d
  .exact iN (aB (B _ _ d) (gO<|m _ _ b)) (bO _)
  .exact iN (aB (B _ _ b) (gO<|m _ _ d)) (bO _)
  .exact I.ok.inj x y c b d
 .cases q:scope.names.lookup x with|none=>have J:(fR scope X.env).names.lookup x=al .cell\/(fR scope X.env).names.lookup x=al .free:=a;rw[k x q]at J;rcases J with z|z<;>cases z|some k=>have J:(fR scope X.env).names.lookup x=al .cell\/(fR scope X.env).names.lookup x=al .free:=a;rw[D x k q]at J;cases k with|free=>exact AF (h x<|aM q) λc h=>Ae c<|E x c (aM q) h|cell=>exact AF (ql (n:=s.heap.objs.size+1) q) λc h=>Ae c<|by show(aX _ _ _).lookup x=_;rw[t,zW,h];rfl|_=>simp_all
 .have q:scope.names.lookup x=al .cell:=by simpa using a
  rcases lk x c e with⟨a,_⟩|⟨a,b⟩;.have:=m _ _ a;show s.heap.objs.size<=c;lia
  .refine AF (ql (n:=s.heap.objs.size+1) q) λd a=>?_;cases a▸b
 .subst z;rcases lk x c e with⟨a,_⟩|⟨a,_⟩;.exact iN (aB (A c f) (gO<|m _ _ a)) (bO _)
  .exact(j c f).2.2.2.2.1 x c a rfl
 .exact((j b f).2.2.2.1).elim (λz=>I.ok.noex b o e z) λz=>iN (aB (aO e) (au I.ok.bsz z)) (bO _)
 .rcases aE.mp (I.tG b z)with y|y;.exact(C b f).2.1 y
  .exact(C b f).2.2 y
 .have Y:(BJ src W)[i]?=al (al v):=w;unfold BJ at Y;rw[aF]at Y;cases q:src[i]? with|none=>simp_all|some o=>rw[q]at Y;cases o with|none=>cases Y|some j=>
    have Z:(W[j]?).join=al v:=az Y;have b:W[j]?=al (al v):=by cases a:W[j]? with|none=>cases a▸Z|some c=>rw[a]at Z;exact congrArg al Z
    refine AB (l.sr i j x q g) λh1 h2=>have g:=aM h2;AE I.loc λmX a a=>?_;have c:CK X.env.scope x:=(l.fr _ g rfl).elim (λz=>.inr<|.inl z) λz=>.inr<|.inr z;refine AE (a j x v h1 b c) λu a look=>Ac u a<|.inr ?_;have a:∃c,X.env.cells.lookup x=al c/\s.heap.IsCell c (al u):=by
     rcases look with⟨z,_⟩|⟨_,c,b,d⟩;.have z':X.env.scope.names.lookup x=al .local:=z;rcases l.fr _ g rfl with y|y<;>(simp_all)
     .exact Ac c b d
    refine AE a λc a b=>Aj ?_ c (E x c g a) (b.keeps r);show(fR scope X.env).names.lookup x=al .cell\/(fR scope X.env).names.lookup x=al .free;rw[D x _ h2];by_cases h:(NameKind.free==NameKind.free&&X.env.scope.kind==.function&&X.env.kindOf x==al .cell)=bY;.exact ef h▸.inl rfl
    .exact gc h▸.inr rfl
 .rcases lk x c e with⟨a,_⟩|⟨a,_⟩;.exact Ae _ (ok.empty x c a).1
  .exact AF (I.cell x c a) λv q=>Ae v<|q.keeps r
 .rcases lk x c e with⟨a,_⟩|⟨a,_⟩;.exact I.hok.fresh<|by have:=m _ _ a;lia
  .exact I.freeC x c a
def Py{W a:St}(I:Inv X h W H s)(d:∀b∈Y,uf X h H b)(J:Inv (zZ X N' scope s.heap.objs.size cells s H Y) [] a Z s5)(f:eD s.heap.objs.size s5.heap h'):Inv X h W Z {s5 with heap:=h'}:=by
 have g:∀b o,s.heap.get? b=al o->b≠s.heap.objs.size:=λb o e=>aJ<|aO e;have u:=J.base;refine I.wH J.os ⟨λb o e n a c=>?_,λb o e n a c=>?_,u.free,λb o e c=>?_,u.tF,u.frzs,u.tbls⟩ (λb o e=>?_) J.bare λb a=>Au (d b a).2.2.2.1 (d b a).2.1 (d b a).2.2.2.2.1 (d b a).2.2.2.2.2;.exact(f.2 b<|g b o e).trans<|u.keep b o e n a c
 .exact AF (u.slot b o e n a c) λsl q=>Ae sl<|(f.2 b<|g b o e).trans q
 .exact AF (u.there b o e c) λo' q=>Ae o'<|(f.2 b<|g b o e).trans q
 .have fr:=J.free;refine(J.hok b o e).t8 (λc a a q=>(f.2 c ?_).trans q) (λ_ q=>q) λ_ _ q=>q;lia
def O7{a:yB}(h:Q {scope:=scope,locals:=s.heap.objs.size,globals:=globals,cells:=aX (s.heap.objs.size+1) scope.names a,qual:=qual,func:=aT,code:=J.code,frame:=J.frame,builtins:=J.builtins}
   {s with heap:=fM (s.heap.push {cls:=.type "dict",data:=.dict #[]}) scope.names}):wpAny M A (gA scope globals a [] qual aT .none<|al J) Q E s:=by simp only[gA,gB];refine ai<|wpAny_alloc ?_;refine ai<|wpAny_layCells _ (λname a cells=>by lia) _ _ _ _ ?_;rw[cy ..];refine ai ?_;rw[kh];exact aH<|aH h
def Qn{Ww:Nat->Nat->St->Hp->Prop}{QD:Hp->Prop}{f:St}(a:X'.xe=λ_ _=>False)(o:X'.calm=bY)(k:Inv X' [] f H0 s4)(T:Turn X'.prog X'.w X'.K tg J fp it tn)(p:tn 0 s4.heap)(Y:∀H':Hp,(∀b∈fp,H' b=aT)->∀b∈fp,uf X' [] H' b)(q:∀b∈fp,H0 b=aT)(r:Ww 0 m0 f H0)(turn:∀i m c H',Ww i m c H'->(J.stop i H'/\QD H')\/(J.go i H'/\∃N:St->Hp->Prop,(∀a H2,N a H2->∃m',m'<m/\Ww (i+1) m' a H2)/\∀x H2,J.yld i H' x H2->g x c H2 λd Z=>tc d Z λb a=>if b=bY then te d a λv e=>∃j,e D=al (.J j)/\j.length<a9/\N d (upd e D<|.J<|j++[v])else N d a))(j:PG X' tg g)(v:Bd X' a2 tc)(w:PE X' a3 te)(g:∀c H' b,Inv X' [] c H' b->QD H'->R (.ok .next) b):fQ (model X'.prog X'.w) X'.A (.compLoop (.ListComp a3 [⟨tg,iter,a2,0⟩] scope pos) 0 (.ref it) (.ref D) X'.env) R s4:=by
 have nox:∀{α:Type}{t:Sem α}{Q b:α->ag->Prop}{E:Value->ag->Prop}{s:ag},wpAny (model X'.prog X'.w) X'.A t Q X'.xe s->(∀a s,Q a s->b a s)->wpAny (model X'.prog X'.w) X'.A t b E s:=λh a=>bD h a λ_ _ z=>by simp_all
 refine VZ (λn b=>∃i c H',Inv X' [] c H' b/\tn i b.heap/\(∀b∈fp,H' b=aT)/\Ww i n c H') ?_ m0<|Ak 0 f H0 k p q r;rintro n b⟨i,d,Z,c,e,f,a⟩;rcases turn i n d Z a with⟨a,h⟩|⟨m,N,p,step⟩;.exact nox (T.done X' rfl rfl rfl o i [] b d Z X'.xe c (Y Z f) e a) λr s4⟨a,k⟩=>a▸g d Z s4 k h
 .refine nox (T.item X' rfl rfl rfl o i [] b d Z X'.xe c (Y Z f) e m) λr s4⟨u,a,b⟩=>?_;subst a;refine nox b λ_ b⟨x,e,a,c,f,h,g⟩=>have a6:=a.pinned (Y e g) (T.obj _ _ h);nox (j _ b d e x u _ a6 c<|step x e f) λ_ j⟨g,k,q,r⟩=>?_;have again:∀{d:St}{a:Hp}{f:ag},Inv X' ([]++E9 fp b.heap) d a f->N d a->∃m,m<n/\∃i c H',Inv X' [] c H' f/\tn i f.heap/\(∀b∈fp,H' b=aT)/\Ww i m c H':=λ{d a f}c b=>by refine AE (p d a b) λm' b f=>⟨m',b,i+1,d,a,c.tR,T.keep _ _ _ h λb a o e=>(c.pin (b,o)<|aR _<|aR _<|jM a e).1,λb a=>?_,f⟩;exact AE (T.obj _ _ h b a) λo e d=>(c.pin (b,o)<|aR _<|aR _<|jM a e).2.1
  refine nox (v _ j g k _ q r) λb f⟨a,c,d⟩=>?_;cases b with|false=>rw[gc bu]at d⊢;exact again c d|true=>rw[ef rfl]at d⊢;exact nox (w _ f g a _ c d) λv a⟨y,b,c,d,j,e,hz,f⟩=>nox (QI _ a g b (.ref D) [y] (.ref D) [v] (λ_ a=>N g a) c rfl (.cons d .nil) ⟨D,j,y,rfl,rfl,e,hz,f⟩) λa a⟨_,a,I9,_,b⟩=>again I9 b
def Mf N' src (b0:qp N' src scope X.N X.env.scope=bY)(hi:PI X tg iter wi)(a0:X.calm=bY)(b3:∀(Cc:Addr)(a:yB)(s:ag)(H:Hp)(ex:List Addr),PG (zZ X N' scope Cc a s H ex) tg g/\Bd (zZ X N' scope Cc a s H ex) a5 tc/\PE (zZ X N' scope Cc a s H ex) a3 te)(hs:autoParam (∀x,d5 iter X.env x=pure x) DF._auto_1):PE X (.ListComp a3 [⟨tg,iter,a5,0⟩] scope pos) (vC src wi g tc te):=by
 intro i s W H Q I h;have f:=Nt b0;rw[eval_ListComp];refine gZ rfl hs (qC λy a e=>I.ok.has y.1<|f.fr y a e) f.kind f.loc<|gg (hi i s W H _ I h) λv s1 a=>gg a λa d h2=>AG h2 λit Y k J H2 e a T Zz=>AI Zz λa4 c Ww=>?_;subst e;obtain⟨Ww,⟨b,l⟩,turn⟩:=Ww _ a.fresh;have h:=a.B3 (t':=d.toks) .nil<|cz _;have a6:∀b∈Y,b<d.heap.objs.size:=λb a=>AE (T.obj _ _ a4 b a) λo q _=>aO q;have j:∀b∈Y,uf X i (upd H2 d.heap.objs.size<|.J []) b:=λb a=>⟨zd (aJ<|a6 b a)▸(c b a).1,(c b a).2⟩;refine cJ<|O7 ?_;generalize Z:({d with heap:=d.heap.push {cls:=.type "list",data:=.seq ([]).toArray},toks:=d.toks})=c at h;have m:∀b∈Y,b<c.heap.objs.size:=λb a=>by rw[<-Z];rw[cy];exact gP<|a6 b a
 have g:=Om (s4:={c with heap:=fM (c.heap.push {cls:=.type "dict",data:=.dict #[]}) scope.names}) f h j m<|Ae _ rfl;have f:k 0<|fM (c.heap.push {cls:=.type "dict",data:=.dict #[]}) scope.names:=T.keep _ _ _ a4 λb a o e=>dQ _ _ b o<|aq _<|Z▸aq _ e;refine AI (b3 c.heap.objs.size (aX (c.heap.objs.size+1) scope.names<|sf X.env.cells scope.names []) c (upd H2 d.heap.objs.size<|.J []) Y) λhg k m=>?_;have n:∀H':Hp,(∀b∈Y,H' b=aT)->∀b∈Y,uf (zZ X N' scope c.heap.objs.size (aX (c.heap.objs.size+1) scope.names<|sf X.env.cells scope.names []) c (upd H2 d.heap.objs.size<|.J []) Y) [] H' b:=λH' e b a=>⟨e b a,(g.ok.exf b a).1,g.ok.exfs b a,.inl a,(g.ok.exf b a).2,λp a=>iN (a) (by simp)⟩;have e:=T;have L:=Qn (X':=zZ X N' scope c.heap.objs.size (aX (c.heap.objs.size+1) scope.names<|sf X.env.cells scope.names []) c (upd H2 d.heap.objs.size<|.J []) Y) (R:=compPost (model X.prog X.w) X.A X.xe aT (EP X i W Q) (Value.ref d.heap.objs.size) c.heap.objs.size) (iter:=iter) (scope:=scope) (pos:=pos) rfl a0 g e f n (λb a=>(j b a).1) l turn hg k m<|λa H' a a q=>AE a.loc λmm e _=>⟨mm,e,λh' b=>⟨.ref d.heap.objs.size,H',Py h j a b,rfl,q⟩⟩;exact iz L<|T.self _ _ _ _ _ f L
section
variable{X:Cx}
def RP:bN "abs"=al (.builtin "abs"):=by decide+kernel
def Rz:bN "len"=al (.builtin "len"):=by decide+kernel
def IG:bN "min"=al (.builtin "min"):=by decide+kernel
def K8:bN "max"=al (.builtin "max"):=by decide+kernel
def aF5:bN "isinstance"=al (.builtin "isinstance"):=by decide+kernel
def Lk:bN "int"=al (.type "int"):=by decide+kernel
def Tq:bN "bool"=al (.type "bool"):=by decide+kernel
def LC:bN "str"=al (.type "str"):=by decide+kernel
def MH:bN "tuple"=al (.type "tuple"):=by decide+kernel
def NB:bN "list"=al (.type "list"):=by decide+kernel
def RF(i j:Int):Prop:=0<j/\j<2^4096
def WY{y:Int}(a:0<y)(h:y<2^4096):y.natAbs.log2<9000:=by
 have a:=by
  have:(y.natAbs)=y:=by lia
  exact Int.ofNat_lt.mp (by rw[this];simpa using h:(y.natAbs)<((2^4096):Int))
 have:=(Nat.log2_lt<|by lia).mpr a;lia
def Vi:uz X (eR .FloorDiv) (rI RF λi j=>.int<|i/j):=Fy λi j _ _ _ _ _ hc q=>by refine floordiv_int (by have:=hc.1;omega) ?_<|.inl<|PyProof.noPylong_of_log2<|WY hc.1 hc.2;rw[Int.fdiv_eq_ediv_of_nonneg i<|by have:=hc.1;omega];exact q
def P9{K}(a:X.K=K):CP X<|K0 K:=a▸Yi
def Zd{K}(a:X.K=K):CP X<|LS K:=a▸sH
def I0{K}(b:X.K=K):t4 X (.builtin "len") (λh H Q=>∃p a,h=[.ref p]/\(qn K H p a\/sy K H p a)/\Q (.int a.length) H):=b▸aI3
def aO5{K}(b:X.K=K):t4 X (.type "tuple") (λh H Q=>∃p a,h=[.ref p]/\((qn K H p a/\∀l,H l=aT->Q (.ref l) (upd H l<|.tp a))\/(sy K H p a/\Q (.ref p) H))):=b▸aD0
def aZ7{K}(b:X.K=K):t4 X (.type "list") (λh H Q=>∃p a,h=[.ref p]/\(qn K H p a\/sy K H p a)/\∀l,H l=aT->Q (.ref l) (upd H l<|.J a)):=b▸aG1
def Vn{K}(a:X.K=K)(h:PE X l tl):PI X tg l<|IT K tl:=a▸Zf h
def YU{K}(a:X.K=K)(h:PE X l tl):PI X tg l<|HA K tl:=a▸Tj h
def Y1{K}{pos}{k}(a:X.K=K)(b:X.calm=bY)(h:DG X es t)(c:autoParam ((c8 es X.env).length=n) nz._auto_1)(J:autoParam ((c8 es X.env).findIdx? (·.1)=aT) nz._auto_1):PG X (.Tuple es k pos) (Hz K n t):=a▸Te b h c J
end
structure vX(K:ac)(mg:yC)(x:Str)(st:Stmt)(ps:yH)(f:Addr)(fd:bS):Prop where
 fn:w0 K x x st f fd
 mg:mg x=al (.ref f)bi:Binds K fd ps []
@[irreducible]noncomputable def cD6(p:Prop):Prop:=p
def tw.new(h:tw H J)(b:J p=aT):tw H<|L2.upd J p o:=λx o e=>have a:=h x o e;zd (zB a b)▸a
section
variable{prog:aG}{w:World}{A:aW}{R:lR->ag->Prop}{I:Addr}{fp wr:List Addr}{n:Nat}{P:Nat->Value->Prop}{St:Nat->Heap->Prop}{kw:List<|Str×Value}
def VY(Ww:Walks prog w A.in1 I fp wr n P St)bt(b2:CmpOf prog w A.in1 .Lt P bt)S(b1:S∉fp):∀k j s a c,n-(j+1)=k->j+1<=n->St (j+1) s.heap->P (eJ bt j) a->s.heap.get? S=al {cls:=.type "list",dict:=aT,data:=.seq #[a,a] c,slots:=#[]}->(∀v h' tk,P (eJ bt<|n-1) v->(∀b o,b∉wr->b≠S->s.heap.get? b=al o->h'.get? b=al o)->R (.ok<|.ret v) {s with heap:=h',toks:=tk})->fQ (model prog w) A (.builtin "min.loop" ⟨[.ref I,.none,.ref S],kw⟩) R s:=by
 have p:=λh=>b1<|Ww.sub _ h;have q:(toString "min"++toString ".loop":String)="min.loop":=by decide
 intro k;induction k with|zero=>
  intro j s a c d t h l g m;have b:j+1=n:=by lia
  refine iI ic ?_;rw[fW c7 _];refine ai<|dA g rfl ?_;refine ai<|fB<|Ww.done s _ _ (b▸h) λh' tk f=>have i:=f S _ p g;ai ?_;refine iJ i rfl<|ai<|ki<|aH ?_;refine m a _ tk (b▸l) λb o J Y e=>(cF _ _<|bE Y).trans<|f b o J e|succ k r=>
  intro j s a c d t h l g m;have d:j+1<n:=by omega
  refine iI ic ?_;rw[fW c7 _];refine ai<|dA g rfl ?_;refine ai<|fB<|Ww.item (j+1) s _ _ d h λv h' tk h s f=>?_;have i:=f S _ p g;show wpAny _ A.in1 (tryCatch (gI [v,v]<|richCompare .Lt v a>>=_) _>>=_) _ _ _;refine ai<|fB<|dW<|ai<|b2 (j+1) (eJ bt j) v a _ _ _ h l ?_;refine ai<|dW<|cx ?_;refine ai<|ki<|aH ?_;cases t:bt (j+1) (eJ bt j)with
  |true=>
   simp only[if_true];refine ai ?_;refine iJ i rfl<|ai<|ki ?_;rw[q];refine aH ⟨g7 c7 _,r (j+1) _ v _ (by omega) d (Ww.frame _ _ _ s λb u o e=>?_) (by simp only[eJ,t,if_true];exact h) (dY _ i rfl)
    λg k Z n p=>?_⟩;.exact(cF _ _<|λh:S=b=>b1<|h▸u).trans e
   .exact m g k Z n λb o J Y e=>p b o J Y<|(cF _ _<|bE Y).trans<|f b o J e|false=>simp only[bp,if_false];refine ai<|ki ?_;rw[q];exact aH ⟨g7 c7 _,r (j+1) _ a c (by omega) d s (by simp only[eJ,t,bp,if_false];exact l) i λg k Z n p=>m g k Z n λb o J Y e=>p b o J Y<|f b o J e⟩
def aW3(Ww:Walks prog w A.in1 I fp wr n P St)bt(a6:CmpOf prog w A.in1 .Lt P bt)S(Y:S∉fp)(a1:St 0 s.heap)(hS:s.heap.get? S=al {cls:=.type "list",dict:=aT,data:=.seq #[] c,slots:=#[]})(h0:n=0->∀h' tk,(∀b o,b∉wr->b≠S->s.heap.get? b=al o->h'.get? b=al o)->R (.ok<|.ret d) {s with heap:=h',toks:=tk})(hR:0<n->∀v h' tk,P (eJ bt<|n-1) v->(∀b o,b∉wr->b≠S->s.heap.get? b=al o->h'.get? b=al o)->R (.ok<|.ret v) {s with heap:=h',toks:=tk}):fQ (model prog w) A (.builtin "min.loop" ⟨[.ref I,.none,.ref S],[(b8 "default",d)]⟩) R s:=by
 have d:=λh=>Y<|Ww.sub _ h;refine iI ic ?_;rw[fW c7 _];refine ai<|dA hS rfl ?_;show wpAny _ A.in1 (tryCatch (lP<|.ref I) _>>=_) _ _ s;rcases Nat.eq_zero_or_pos n with a|a;.refine ai<|fB<|Ww.done s _ _ (a▸a1) λh' tk J=>?_;show wpAny _ A.in1 (rule _>>=_) _ _ _;refine ai<|kU<|aH ?_;exact h0 a h' tk λb o c _ e=>J b o c e
 .refine ai<|fB<|Ww.item 0 s _ _ a a1 λv h' tk f b J=>?_;have c:=J S _ d hS;show wpAny _ A.in1 (updateSeq S (λ_=>#[v,v])>>=_) _ _ _;refine ai ?_;refine iJ c rfl ?_;rw[(by decide:(toString "min"++toString ".loop":String)="min.loop")];refine aH ⟨g7 c7 _,VY Ww bt a6 S Y _ 0 _ v _ rfl a (Ww.frame _ _ _ b λb d o e=>?_) f (dY _ c rfl) λc f g i j=>?_⟩;.exact(cF _ _<|λh:S=b=>Y<|h▸d).trans e
  .exact hR a c f g i λb o c a e=>j b o c a<|(cF _ _<|bE a).trans<|J b o c e
end
def Wd a d:argsOk "min" ⟨[a],[(b8 "default",d)]⟩:=by kernel_rfl
theorem jZ(val:Nat->Int):∀k j,j<=k->val (eJ (λi j=>decide<|val i<val j) k)<=val j
  | 0, j, h => by have:j=0:=by omega
                  subst this;exact cC _|k+1,j,h=>by
    have ih:=jZ val k;unfold eJ;by_cases hb:val (k+1)<val (eJ (λi j=>decide<|val i<val j) k)
    . rw[if_pos<|by simpa using hb];by_cases hj:j=k+1;.subst hj;exact cC _
      .have:=ih j (by omega);omega
    . rw[if_neg<|by simpa using hb];by_cases hj:j=k+1;.subst hj;omega
      .exact ih j<|by omega
def Iw(K:ac):V->V->Hp->VK->Prop:=λx d H Q=>∃a ns,x=.ref a/\qn K H a (ns.map V.int)/\(ns=[]->Q d H)/\∀m∈ns,(∀y∈ns,m<=y)->Q (.int m) H
def G3{ns:List Int}{a:yG}(r:Vals (ns.map V.int) a){i:Nat}(h:a[i]?=al v):∃z t,ns[i]?=al z/\v=Value.int z t:=by have J:=r.length;rw[aw]at J;have hi:=(ae.mp h).1;refine AE (r.get (i:=i)<|by rw[aF,aj<|by omega];rfl) λu a q=>?_;rw[h]at a;cases a;obtain⟨t,rfl⟩:=q;exact Af _ t (aj<|by omega) rfl
def UM{W:St}(b:X.calm=bY)(I:Inv X J W H s)(c:RelV x u)(j:RelV d w')(h:Iw X.K x d H Q):wpAny (model X.prog X.w) X.A (call (.builtin "min") [u] [(b8 "default",w')]) (EP X J W Q) X.xe s:=by
 obtain⟨a,ns,rfl,e,l,m⟩:=h;cases c;refine AH (I.list e) λits c pl hz=>?_;have e:=c.length;rw[aw]at e;refine kmb_tree F.kind_min F.plain_min F.entry_min (Wd _ _) ?_;refine ai<|wpAny_of_eq (rfl) ?_;refine ai<|aH ?_;refine ai<|ft pl.isList ?_;have f:a<s.heap.objs.size:=AD pl λo _ e _=>aO e;refine ai<|cJ ?_;generalize Y:s.heap.push _=h2;have n:h2.objs.size=s.heap.objs.size+1:=by rw[<-Y,cy]
 have g:∀b o,s.heap.get? b=al o->h2.get? b=al o:=λb o e=>Y▸aq _ e;have p:h2.objs.size∉[s.heap.objs.size,a]:=by grind
 let val:=λi=>ns.getD i 0;have r:∀i v,its.toArray[i]?=al v->∃t,v=Value.int (val i) t:=λi v e=>by refine AD (G3 c<|dZ▸e) λz t a f=>Ae t ?_;rw[f];show Value.int z t=Value.int (ns.getD i 0) t;rw[cD,a];rfl
 rw[(by decide:(toString "min"++toString ".loop":String)="min.loop")];have h:∀(h':Heap)(tk:Nat),(∀b o,b∉[s.heap.objs.size]->b≠h2.objs.size->(h2.push {cls:=.type "list",data:=.seq ([]:yG).toArray}).get? b=al o->h'.get? b=al o)->Inv X J W H {s with heap:=h',toks:=tk}:=λh' tk k=>I.kept λb o e=>by
  refine k b o ?_ ?_<|aq _<|g b o e
  .intro z;have a:b=s.heap.objs.size:=by simpa using z
   exact iN (aO e) (a▸bO _)
  .exactλz=>iN (aO e) (z▸n▸mY.mpr (dG _))
 refine aH ⟨g7 c7 _,aW3 (d:=w') (oh (prog:=X.prog) (w:=X.w) (A:=X.A.in1) (I.ok.hd b) s.heap.objs.size a (aJ f) its.toArray) _ (nA val r) h2.objs.size p (⟨⟨_,aq _<|Y▸aY _ rfl,rfl,rfl⟩,AE pl.isList λo e r=>⟨o,aq _<|g _ _ e,r⟩⟩) (aY _ rfl) (λa h' tk k=>?_) λa v h' tk hP k=>?_⟩
 .have e:ns=[]:=by simp_all
  exact⟨d,H,h h' tk k,j,l e⟩
 .refine AD (G3 c (i:=eJ (λi j=>decide<|val i<val j) (its.toArray.size-1)) (v:=v)<|dZ▸hP) λz t a f=>?_;subst f;have b:val (eJ (λi j=>decide<|val i<val j) (its.toArray.size-1))=z:=by show ns.getD _ 0=z;rw[cD,a];rfl
  refine⟨.int z,H,h h' tk k,⟨t,rfl⟩,m z (aA a) λy a=>?_⟩;obtain⟨j,c,d⟩:=d9.mp a;have:=jZ val (its.toArray.size-1) j (by grind);rw[b]at this;have a:val j=y:=by show ns.getD j 0=y;exact cD▸aj c▸d
  lia
def RT(K:ac)(a b:TE):TE:=λW H Q=>a W H λx a=>b W a λd H2=>Iw K x d H2 Q
def Y3{K}(b:X.K=K)(c:X.calm=bY)(d:Gl X "min")(f:X.mg "min"=aT)(g:PE X e Uu)(i:PE X de td)(a:autoParam (be [e] X.env=[(ce,eval e X.env)]) nz._auto_1):PE X (.Call (.Name "min" p) [e] [⟨al "default",de,kp⟩] pos) (RT K Uu td):=by subst b;refineλJ s W H Q I h=>cA<|Dm I d f IG ?_;have h':yu Uu wR W H<|λvs Y=>match vs with|[x]=>td W Y λd H2=>Iw X.K x d H2 Q|_=>False:=h;refine callWith_kw (gg ((zK g wN a) pos J s W H _ I h') λb s1⟨vs,Y,d,b,Z⟩=>?_) (by rw[a];rfl) (by rw[a];rfl);match vs,Z,b with|[x],Z,b=>obtain⟨u,rfl,a⟩:=wJ b;refine kws_cons<|gg (i J s1 W Y _ d Z) λv b⟨d,H2,b,rd,e⟩=>kws_nil ?_;exact UM c b a rd e
inductive D where|N|T(b:Bool)|int(i:Int)|str(x:Str)|tp(l:List D)|J(l:List D)
noncomputable abbrev D.ctorIdx(x:D):Nat:=D.casesOn x 0 (λ_=>1) (λ_=>2) (λ_=>3) (λ_=>4) (λ_=>5)
mutual noncomputable def D.deep:D->Nat|.tp l=>D.yn l+1|.J l=>D.yn l+1|_=>0 noncomputable def D.yn:List D->Nat|[]=>0|d::l=>max (D.deep d) (D.yn l)end
section
variable{X:Cx}
end
section
variable{X:Cx}
def UB(K:ac):V->Option Int->Option Int->Hp->VK->Prop:=λx c hi H Q=>∃a b,x=.ref a/\sy K H a b/\∀p H',tw H H'->sy K H' p (yq b c hi)->(H' p=al (.tp<|yq b c hi)\/(p=a/\yq b c hi=b))->Q (.ref p) H'
def aD9{J:yJ}(a:IsTup s.heap t J)(b:s.heap.IsSliceOf sl vl vu .none)(pl:gY vl Uu)(c:gY vu hi)(d:HT.l3 J.size 0 Uu=0/\HT.l3 J.size J.size hi=J.size)(h:Q (.ref t) s):wpAny (model prog w) A (ir (.ref t) (.ref sl)) Q E s:=by
 refine AH (id b) λos d e f=>?_;have Z:s.TypeIs (.ref sl) "slice":=⟨os,d,e⟩;unfold ir;try with_reducible refine dW ?_
 first|refine ai<|aH ?_|skip
 refine ai<|lB a.typeIs (by decide) ?_;refine ai<|dD a.typeIs bT<|dw bT a.typeIs kJ ?_<|k7 _ _;show wpAny _ _ (d8 (.ref t)>>=_) _ _ s;refine ai<|tupleItemsOf_ a ?_;refine ai<|lC Z ?_;rw[ef<|by decide];refine ai<|HT.r9 b pl c ?_;have Y:((((HT.l3 J.size 0 Uu):Int)==0&&(1:Int)==1&&(HT.l3 J.size J.size hi-HT.l3 J.size 0 Uu)==J.size)=bY):=by simp_all
 show wpAny _ _ (if(((HT.l3 J.size 0 Uu):Int)==0&&(1)==1&&(HT.l3 J.size J.size hi-HT.l3 J.size 0 Uu)==J.size)=bY then _ else _) _ _ s;rw[ef Y];refine ai<|ai<|lC a.typeIs<|aH ?_;rw[ef<|by decide];exact ai<|kU<|aH<|Ac _ rfl<|aH h
def Ol(h:HT.l3 J.length 0 Uu=0/\HT.l3 J.length J.length hi=J.length):yq J Uu hi=J:=by unfold yq;simp_all
def Xt{K}(b:X.K=K):CM X<|UB K:=by
 subst b;refineλY s W H x v vl i Z hi sl Q I d e pl f h=>AL h λa J g c q=>?_;by_cases b:HT.l3 J.length 0 Z=0/\HT.l3 J.length J.length hi=J.length
 .subst g;cases d;refine AH (I.tuple c) λits r h hz=>?_;have j:its.toArray.size=J.length:=by rw[aL];exact r.length.symm
  exact Ah "tuple" _ bT.lookup h.typeIs<|aD9 h e pl f (j▸b) ⟨.ref a,H,I,rfl,q a H (tw.refl H) (by rw[Ol b];exact c) (.inr<|Ad rfl<|Ol b)⟩
 .exact SQ Y s W H x v vl i Z hi sl Q I d e pl f ⟨a,J,g,c,b,λp a=>q p _ ((tw.refl H).new a) (sy.of zh) (.inl zh)⟩
def VG{K}(a:X.K=K):CM X<|LP K:=a▸X3
end
noncomputable def DI(x:Str):It:=⟨λi _=>i<x.cps.size,λi H v H'=>H'=H/\∃c,x.cps[i]?=al c/\v=.str ⟨#[c]⟩,λi _=>x.cps.size<=i⟩
def Qh{K}it(hn:["enumerate","zip","dict_itemiterator","dict_reverseitemiterator","odict_iterator","itertools.zip_longest","itertools.pairwise"].contains Y=ce)(Ww:∀A:aW,A.handled=aT->Walks P w A it [it] [it] x.cps.size (SignAt x) (λi h=>h.IsStrIter it Y x t i))(a0:∀(A:aW)(s:ag)(i:Nat)(Q:Option Value->ag->Prop)(E:Value->ag->Prop),A.handled=aT->s.heap.IsStrIter it Y x t i->x.cps[i]?=aT->(∀h',mn it s.heap h'->Q aT {s with heap:=h'})->wpAny (model P w) A (lP<|.ref it) Q E s)(Uu:∀(A:aW)(i:Nat)(s:ag)(Q:Value->ag->Prop)(E:Value->ag->Prop),s.heap.IsStrIter it Y x t i->Q (.ref it) s->wpAny (model P w) A (nK<|.ref it) Q E s):Turn P w K tg (DI x) [it] it<|λi h=>h.IsStrIter it Y x t i where
 mem:=by simp
 obj:=λi h st b g=>by
  have e:b=it:=by simp_all
  subst e;refine AH st λo a d t=>?_;simp_all
 keep:=λi h h' st k=>AE st λo a r=>⟨o,k it (by simp) _ a,r⟩;item:=by intro X h j k d i J s W H E I f st l;subst h j k;refine AV (f it<|by simp) λf0 m r n p q=>(Ww X.A<|I.ok.hd d).item i s _ _ l st λv h' tk a Z kk=>?_;obtain⟨c,u,d,rfl⟩:=a;have h:Inv X J W H {s with heap:=h',toks:=tk}:=I.turned (λb o g e=>kk b o (by simp_all) e) f0 m n p q;exact AH (id Z) λo a hcl t=>Ac _ rfl<|EB a hcl t hn ⟨.str ⟨#[c]⟩,H,h,⟨u,rfl⟩,⟨rfl,c,d,rfl⟩,Z,λb g=>(f b g).1⟩
 done:=by intro X h j k d i J s W H E I f st l;subst h j k;exact AV (f it<|by simp) λf0 m r n p q=>have a:x.cps.size<=i:=l;a0 X.A s i _ E (I.ok.hd d) st (by simp_all) λh' a=>Ad rfl<|I.turned (a) f0 m n p q
 self:=Uu
def LL(tl:TE):TI:=λW H R=>tl W H λv a=>∃x,v=.str x/\R (DI x) a
def Sa(a:PE X l tl):PI X tg l<|LL tl:=by
 refineλJ s W H R I h=>gg (a J s W H _ I h) λv s1⟨v0,b,Z,a,c⟩=>AE c λx e q=>?_;subst e;obtain⟨t,rfl⟩:=a;have fin:∀a o,o={cls:=.type a,data:=.fields #[.str x t,.int 0 0]}->Turn X.prog X.w X.K tg (DI x) [s1.heap.objs.size] s1.heap.objs.size (λi h=>h.IsStrIter s1.heap.objs.size a x t i)->J6 X J W tg R (.ref s1.heap.objs.size) {s1 with heap:=s1.heap.push o}:=λa o a T=>by
  subst a;refine⟨s1.heap.objs.size,[s1.heap.objs.size],_,_,b,rfl,Z.kept λb o e=>aq _ e,T,⟨_,aY _ rfl,rfl,rfl⟩,λb a=>?_,q⟩;have e:=by simpa using a
  exact e▸Z.yi (ak _) (Z.hok.fresh<|ak _)
 cases c:x.cps.all (·<128);.exact wpAny_pyIter_wide c<|fin "str_iterator" _ rfl<|Qh _ (by decide) (λA a=>Walks.strWide a _ x t) (λA s i Q E a st b Y=>wpAny_pyNext_wide_end a st b Y) λA i s Q E st h=>wpAny_pyIter_striter_wide st h
 .exact wpAny_pyIter_ascii c<|fin "str_ascii_iterator" _ rfl<|Qh _ (by decide) (λA a=>Walks.strAscii a _ x t) (λA s i Q E a st b Y=>wpAny_pyNext_ascii_end a st b Y) λA i s Q E st h=>wpAny_pyIter_striter_ascii st h
section
variable{X:Cx}{K:ac}{T id:String}{name:Str}{o e:Expr}{es:yK}{to:TE}{t:TA}{r:V->List V->Hp->VK->Prop}{apos cpos:Pos}
def TL(b:X.K=K)(c:mW T)(a:Slot T name id)(Z:nN (.builtin id)=pure (.type "method_descriptor"))(d:Fi X id r)(f:PE X o to)(g:PA X (e::es) t)(i:autoParam (eT o name X.env (eval o X.env)=eval o X.env) nz._auto_1)(Y:autoParam (((cV cpos<|be (e::es) X.env).all (λx=>!x.1)&&(fw cpos<|di [] X.env).all (λx=>x.1.isSome)&&decide ((e::es).length+([]:List fx).length+(if([]:List fx).isEmpty then 0 else 1)<30))=bY) nz._auto_1)(J:autoParam ((apos.endLine==cpos.line)=bY) nz._auto_1)(j:autoParam (be (e::es) X.env=(ce,eval e X.env)::be es X.env) nz._auto_1)(h:autoParam ((cV cpos<|be es X.env).any (·.1)=ce) nz._auto_1):PE X (.Call (.Attribute o name apos) (e::es) [] cpos) (Hi K T r to t):=b▸RZ c a Z d f g i Y J j h
end
structure Be where
 letters:Int
 rooms:Int
 begins:List Int
 ends:List Int
 doors:List<|Int×Str×Int×Int
noncomputable def RX(q:Int×Str×Int×Int):D:=.tp [.int q.1,.str q.2.1,.int q.2.2.1,.int q.2.2.2]
def Be.D(M:Be):D:=.tp [.int M.letters,.int M.rooms,.tp<|M.begins.map .int,.tp<|M.ends.map .int,.tp<|M.doors.map RX]
noncomputable def Q4(i:Nat):Str:=⟨#[97+i]⟩
structure CQ(letters rooms:Int)(q:Int×Str×Int×Int):Prop where
 s0:0<=q.1
 s1:q.1<rooms
 l:∃i:Nat,(i:Int)<letters/\q.2.1=Q4 i
 g0:0<=q.2.2.1
 g1:q.2.2.1<rooms
 t0:0<=q.2.2.2
 t1:q.2.2.2<=3
structure wX(rooms:Int)(l:List Int):Prop where
 mem:∀r∈l,0<=r/\r<rooms
 up:l.Pairwise (·<·)
structure Be.Ok(most:Nat)(M:Be):Prop where
 l0:1<=M.letters
 l1:M.letters<=3
 r0:1<=M.rooms
 r1:M.rooms<=5
 b:wX M.rooms M.begins
 e:wX M.rooms M.ends
 d:∀q∈M.doors,CQ M.letters M.rooms q
 m:M.doors.length<=most
def wo(a:0<=i)(h:i<3):BB (b8 "abc").cps.toList i=al (97+i.toNat):=by
 obtain rfl|rfl|rfl:i=0\/i=1\/i=2:=by lia
 all_goals rfl
mutual noncomputable def D.tF:D->Bool|.J _=>ce|.tp l=>D.Bk l|_=>bY noncomputable def D.Bk:List D->Bool|[]=>bY|d::l=>D.tF d&&D.Bk l end
end L2
end
noncomputable section
namespace L2
end L2
end
noncomputable section
namespace L2
open PySem PySem.Spec PyProof.Rows
noncomputable def Ur:Option Int->D|none=>.N|some i=>.int i
noncomputable def vM:Option Int->Option Int->Option Int|some a,al b=>al<|a+b|_,_=>aT
noncomputable def uq:List Int->Option Int|[]=>aT|a::l=>al<|match uq l with|none=>a|some b=>if b<a then b else a
def OW:∀{l},uq l=aT↔l=[]|[]=>by simp[uq]|a::l=>by simp[uq]
theorem QB:∀{l}{m},uq l=al m->m∈l/\∀y∈l,m<=y|[],m,h=>by cases h|a::l,m,h=>by have h':=az h;cases e:uq l with|none=>rw[e]at h';have:=OW.mp e;simp_all|some b=>rw[e]at h';obtain⟨Y,a⟩:=QB e;grind
def aW2{pos b j}N' src (hN:X.N.Nodup)(c1:X.N[i]?=al y)(b0:X.env.scope.names.lookup y=al .local)(b3:qp N' src scope X.N X.env.scope=bY)(hi:PI X tg iter wi)(a2:X.calm=bY)(b4:∀(Cc:Addr)(a:yB)(s:ag)(H:Hp)(ex:List Addr),PG (zZ X N' scope Cc a s H ex) tg g/\Bd (zZ X N' scope Cc a s H ex) Z tc/\PE (zZ X N' scope Cc a s H ex) a0 te)(hs:autoParam (∀x,d5 iter X.env x=pure x) DF._auto_1)(b2:autoParam (fK (.ListComp a0 [⟨tg,iter,Z,0⟩] scope pos) (al<|.Name y j) b.line X.env=pure bY) nz._auto_1):PS X (.Assign [.Name y j] (.ListComp a0 [⟨tg,iter,Z,0⟩] scope pos) b) (z7 (vC src wi g tc te) (BN i)):=by
 intro l s W H t I h;have k:=Nt b3;rw[exec_Assign_Name_used _ _ _ _ b2];refine ai<|kP<|ai ?_;refine ai<|bD (gZ rfl hs (qC λy a e=>I.ok.has y.1<|k.fr y a e) k.kind k.loc<|gg (hi l s W H _ I h) λv s1 a=>gg a λa f h2=>?_) (λ_ m a=>aH<|aH a) λ_ _ e=>e;refine AG h2 λit Y m J H2 e a T Zz=>AI Zz λa8 c Ww=>?_;subst e;obtain⟨Ww,⟨b,u⟩,turn⟩:=Ww _ a.fresh;have g:=a.B3 (t':=f.toks) .nil<|cz _;have e:∀b∈Y,b<f.heap.objs.size:=λb a=>AE (T.obj _ _ a8 b a) λo q _=>aO q;have n:∀b∈Y,uf X l (upd H2 f.heap.objs.size<|.J []) b:=λb a=>⟨zd (aJ<|e b a)▸(c b a).1,(c b a).2⟩;refine cJ<|O7 ?_;generalize p:({f with heap:=f.heap.push {cls:=.type "list",data:=.seq ([]:yG).toArray},toks:=f.toks}:ag)=d at g;have o:∀b∈Y,b<d.heap.objs.size:=λb a=>by rw[<-p];show b<(f.heap.push _).objs.size;rw[cy];exact gP<|e b a
 have h:=Om (s4:={d with heap:=fM (d.heap.push {cls:=.type "dict",data:=.dict #[]}) scope.names}) k g n o<|Ae _ rfl;have s:m 0<|fM (d.heap.push {cls:=.type "dict",data:=.dict #[]}) scope.names:=T.keep _ _ _ a8 λb a o e=>dQ _ _ b o<|aq _<|p▸aq _ e;refine AI (b4 d.heap.objs.size (aX (d.heap.objs.size+1) scope.names<|sf X.env.cells scope.names []) d (upd H2 f.heap.objs.size<|.J []) Y) λhg c e=>?_;have o:∀H':Hp,(∀b∈Y,H' b=aT)->∀b∈Y,uf (zZ X N' scope d.heap.objs.size (aX (d.heap.objs.size+1) scope.names<|sf X.env.cells scope.names []) d (upd H2 f.heap.objs.size<|.J []) Y) [] H' b:=λH' k b a=>⟨k b a,(h.ok.exf b a).1,h.ok.exfs b a,.inl a,(h.ok.exf b a).2,λp r=>iN (show p∈([]:yA)from r) (by simp)⟩;have k:Turn X.prog X.w X.K tg J Y it m:=T;have p:∀b∈Y,upd H2 f.heap.objs.size (.J []) b=none:=λb a=>(n b a).1;have L:=Qn (X':=zZ X N' scope d.heap.objs.size (aX (d.heap.objs.size+1) scope.names<|sf X.env.cells scope.names []) d (upd H2 f.heap.objs.size<|.J []) Y) (R:=compPost (model X.prog X.w) X.A X.xe (al<|ik (.Name y j) X.env) (λ_ m=>SP X l t .next m) (Value.ref f.heap.objs.size) d.heap.objs.size) (iter:=iter) (scope:=scope) (pos:=pos) (QD:=(t.nx<|W.set i<|al<|.ref f.heap.objs.size)) rfl a2 h k s o p u turn hg c e<|λa H' m h q=>by
   have a:=Py g n h<|Heap.SameBut.refl _ _;refine AE h.loc λmm k _=>?_;have i:d.heap.objs.size≠X.env.locals:=eF g.lt;have l:∀x c,X.env.cells.lookup x=al c->c≠d.heap.objs.size:=λx c e=>AF (g.cell x c e) λv z=>aJ z.lt;show wpAny _ X.A (ik (.Name y j) X.env<|.ref f.heap.objs.size) _ _ _;refine lv<|Qy (v:=.ref f.heap.objs.size) a hN c1 (.inl b0) rfl (λb c a=>?_) (.inr b0);refine AE a λaa a e=>?_;have f:d.heap.objs.size≠aa:=by
    rcases e with z|z;.exact z▸i
    .exactλe=>l _ _ z e.symm
   refine Ac mm (k.sameBut a f) (λh' d=>⟨_,H',c.turned (t':=b.toks) (λb o a e=>(d.2 b a).trans e) h.free i (.inr g.sz) l λp r z=>?_,q⟩);exact iN (aO (g.pin p r).1) (z▸bO _)
 exact iz L<|T.self _ _ _ _ _ s L
def Uq:V->Option Int->Option Int->Hp->VK->Prop:=λx a hi H Q=>∃z,x=.str z/\z.length<=a9/\Q (.str<|f6 z a hi) H
def QA(p:gY v o):∃q,v=partValue q/\q.map (·.1)=o:=by cases p with|none=>exact Ac aT rfl rfl|int i t=>exact Ac (al (i,t)) rfl rfl
set_option tactic.hygienic true in def S3:CM X Uq:=by
 intro Z s W H x v vl a a hi sl Q I b c pl d h;obtain⟨z,rfl,hz,q⟩:=h;obtain⟨t,rfl⟩:=b;obtain⟨l,rfl,b⟩:=QA pl;obtain⟨u,rfl,b⟩:=QA d;refine Ah "str" _ F.slot_str_getitem.lookup (mV s z t) (wpAny_getItem_str_slice (st:=aT) c rfl ?_);unfold sliceMade;have e:slicePicked z l u aT=b7 a hi 1 z.length:=by unfold slicePicked;simp_all
 rw[e];unfold f6 at q;split;.rename_i hc;have J:((1:Int)==1&&(b7 a hi 1 z.length).length==z.length)=true:=hc;rw[ef J]at q;exact⟨.str z,H,I,⟨t,rfl⟩,q⟩
 .rename_i hc;have J:¬((1:Int)==1&&(b7 a hi 1 z.length).length==z.length)=true:=hc;rw[gc J]at q;have Y:=by show(kj (λx=>z.cps[x]?) (b7 a hi 1 z.length)).toArray.size<=a9;exact aL▸au (g9 _ _) (au (sliceIndices_le a hi z.length) hz)
  exact⟨Y,.str _,H,I.tok _,⟨_,rfl⟩,q⟩
section
variable{M:Model}{A:aW}{E:Value->ag->Prop}{s₀ s:ag}{m cm:yC}{env:Env}{cs:yB}
def Ye(z:gM s₀ env.locals m cs cm s)(J:env.scope.kind=.function)(c:env.kindOf n=al .local)(e:∀b,gM s₀ env.locals (λy=>if y=n then al v else m y) cs cm b->Q () b):wpAny M A (gk env n v) Q E s:=by
 refine iP c z.toInCall.ns (λg h d=>e _ ⟨⟨?a,h,λb o e=>?b,z.toInCall.fresh⟩,λk c e=>?c,z.apart,z.above⟩) (by rw[J];rfl);case a=>exact AZ z.toInCall.same λUu tk e=>e▸⟨g,_,rfl⟩
 case b=>exact d.extBut b o (aJ<|aB (aO e) z.toInCall.fresh) (z.toInCall.keep b o e)
 case c=>exact(z.cell k c e).sameBut d<|eF<|z.above k c<|aM e
def Yr(z:gM s₀ env.locals m cs cm s)(e:env.scope.kind=.function)(h:env.kindOf n=al .cell)(f:env.cells.lookup n=al c)(d:cs.lookup n=al c)(j:∀b,gM s₀ env.locals m cs (λy=>if y=n then al v else cm y) b->Q () b):wpAny M A (gk env n v) Q E s:=by
 have i:=z.above n c<|aM d;refine i8 e h f (z.cell n c d) λg Y f=>j _ ⟨⟨?a,z.toInCall.ns.sameBut f<|aJ i,λb o e=>?b,z.toInCall.fresh⟩,λk J e=>?c,z.apart,z.above⟩;case a=>refine AZ z.toInCall.same λZ tk e=>?_;simp_all
 case b=>exact f.extBut b o (aJ<|fC (aB (aO e) z.toInCall.fresh) i) (z.toInCall.keep b o e)
 case c=>
  by_cases q:k=n;.simp_all
  .exact gc q▸(z.cell k J e).sameBut f λy=>q<|iq z.apart (aM e) (y▸aM d)
theorem Jm(f:Str×Value->PUnit->Sem (ForInStep PUnit))(e:∀n v u,f (n,v) u=(do gk env n v;pure<|.yield ⟨⟩))(Y:env.scope.kind=.function)(sub:∀n c,cs.lookup n=al c->env.cells.lookup n=al c):∀bs(m b:yC)s Q,gM s₀ env.locals m cs b s->(∀y∈bs,env.kindOf y.1=al .local\/(env.kindOf y.1=al .cell/\∃c,cs.lookup y.1=al c))->(∀a,gM s₀ env.locals (bindL env.kindOf bs m) cs (bindC env.kindOf bs b) a->Q ⟨⟩ a)->wpAny M A (forIn bs ⟨⟩ f) Q E s
 |[],m,b,s,Q,z,_,d=>by rw[kh];exact aH<|d s z|(n,v)::r,m,b,s,Q,z,a,d=>by
  rw[mz,e];have b:=λy(q)=>a y<|ah _ q;rcases a (n,v) ao with a|⟨i,c,g⟩;.refine ai<|ai<|Ye z Y a λa Z=>aH<|Jm f e Y sub r _ _ a Q Z b λh J=>d h ?_;unfold bindL bindC;simp_all
  .refine ai<|ai<|Yr z Y i (sub n c g) g λa Z=>aH<|Jm f e Y sub r _ _ a Q Z b λh J=>d h ?_;unfold bindL bindC;simp_all
end
def Oj{h:yB}{a:yI}{b}(Y:scope.kind=.function)(f:∀y∈binds,scope.names.lookup y.1=al .local\/(scope.names.lookup y.1=al .cell/\∃c,(aX (s.heap.objs.size+1) scope.names []).lookup y.1=al c))(g:∀env,env=newEnv scope s.heap.objs.size globals (aX (s.heap.objs.size+1) scope.names h) qual a b aT builtins->∀d,gM s env.locals (bindL env.kindOf binds λ_=>aT) (aX (s.heap.objs.size+1) scope.names []) (bindC env.kindOf binds λ_=>aT) d->Q env d):wpAny M A (gA scope globals h binds qual a b aT builtins) Q E s:=by
 simp only[gA,k8,bp,if_false];refine ai<|wpAny_alloc<|ai<|wpAny_layCells _ (λnm kd Z=>by lia) _ _ _ _ ?_;have ok:=cellsFrom_ok scope.names (s.heap.push {cls:=.type "frame",data:=.dict #[]}) (s.heap.objs.size+1) [] ⟨λ_ _ c=>(nomatch c),List.Pairwise.nil⟩ (by simp_all);rw[cy]at ok;rw[(cy ..)];refine ai<|Jm (s₀:=s) (env:=newEnv scope s.heap.objs.size globals (aX (s.heap.objs.size+1) scope.names h) qual a b aT builtins)
  _ (λ_ _ _=>rfl) Y (λn c e=>?sub) binds (λ_=>aT) (λ_=>aT) _ _ ⟨⟨⟨_,_,rfl⟩,?ns,λb o e=>?k,ak _⟩,λn c e=>(ok.empty n c<|aM e).1,ok.apart,λn c e=>(ok.empty n c e).2⟩ f λd x=>aH<|g _ rfl d x;case sub=>show(aX _ _ _).lookup n=al c;rw[zq,zW,e];rfl
 case ns=>exact(n8 s.heap<|.type "frame").keeps<|dQ _ _
 case k=>exact dQ _ _ b o<|aq _ e
noncomputable def qM(c:Addr)(a:Str):HO:=.ext λh=>h.CodeRec (.ref c) a
noncomputable def vk(f:Addr)(a:bS):HO:=.ext λh=>h.get? f=al {cls:=.type "function",data:=.func a}
def PJ(r:h.CodeRec (.ref c) q):tQ P w H h c<|qM c q:=by
 refine⟨r,?_,λY a z k=>?_⟩;.refine AM r λJ o vs t e Zz=>AB Zz λg _=>?_;simp_all
 .refine AM z λJ o vs t e Zz=>AB Zz λg d=>?_;cases e;exact⟨c,o,vs,t,rfl,k o g,d⟩
def QQ(x:q8 P w H h)(e:H c=al (qM c q)):h.CodeRec (.ref c) q:=(x c _ e).1
def G9(r:h.get? f=al {cls:=.type "function",data:=.func J}):tQ P w H h f<|vk f J:=⟨r,(Ae _ r),λ_ _ z k=>k _ z⟩
def JU(x:q8 P w H h)(e:H f=al (vk f J)):h.get? f=al {cls:=.type "function",data:=.func J}:=(x f _ e).1
noncomputable def nL(a:yB)(b:Addr):Bool:=a.any λp=>a.lookup p.1==al b
def BF:nL cells b=bY↔∃x,cells.lookup x=al b:=by
 unfold nL;rw[lV];constructor;.rintro⟨p,_,e⟩;exact Ae p.1<|by simpa using e
 .rintro⟨x,e⟩;exact Ac (x,b) (aM e) (by simpa using e)
def hI(a:yB)(H:Hp):Hp:=λb=>if nL a b=bY then aT else H b
def tN(a:yB)(H H':Hp):Hp:=λb=>if nL a b=bY then H b else H' b
def hI.cell(h:nL cells b=bY):hI cells H b=none:=ef h
def hI.ne(h:nL cells b≠bY):hI cells H b=H b:=gc h
def hI.some(h:hI cells H b=al o):nL cells b≠bY/\H b=al o:=by unfold hI at h;lia
def hI.none(h:H b=aT):hI cells H b=none:=by
 unfold hI;split;.rfl
 .exact h
def tN.cell(h:nL cells b=bY):tN cells H H' b=H b:=ef h
def tN.ne(h:nL cells b≠bY):tN cells H H' b=H' b:=gc h
def Cells(a:yB)(H:Hp):Prop:=∀x c,a.lookup x=al c->∃o v,H c=al (.sj o<|.own c)/\o.data=.cell v
def Cells.at(z:Cells J H)(h:nL J b=bY):∃o v,H b=al (.sj o<|.own b)/\o.data=.cell v:=AF (BF.mp h) λx e=>z x b e
def J9(a:yB)(H:Hp)(fr:yH)(b:List V):Prop:=∀(i:Nat)x v,fr[i]?=al x->b[i]?=al v->∃c o u,a.lookup x=al c/\H c=al (.sj o<|.own c)/\o.data=.cell (al u)/\RelV v u
structure si(N ps fr:yH)(sc:Scope):Prop where
 kind:sc.kind=.function
 co:sc.isCoroutine=ce
 gen:sc.isGenerator=ce
 nd:N.Nodup
 app:N=ps++fr
 par:∀x∈ps,sc.names.lookup x=al .local\/sc.names.lookup x=al .cell
 oj:∀x∈fr,sc.names.lookup x=al .free
 cel:∀y∈sc.names,y.2=.cell->sc.names.lookup y.1=al .cell
def CC(P:aG)(w:World)(K:ac)(mg:yC)(base:Heap)(N:yH)(c:Str)(scope:Scope)(f:Addr)(d:Value)(b:yB)(A:aW)(outer:List Env)(s:ag)(H:Hp):Cx where prog:=P;w:=w;K:=K;mg:=mg;base:=base;A:=A.deeper<|dJ c scope s.heap.objs.size f d<|aX (s.heap.objs.size+1) scope.names b;N:=N;s₀:=s;H₀:=hI b H;env:=dJ c scope s.heap.objs.size f d<|aX (s.heap.objs.size+1) scope.names b;outer:=outer;stack:=dJ c scope s.heap.objs.size f d (aX (s.heap.objs.size+1) scope.names b)::outer;ex:=[];fn:=λx=>scope.names.lookup x==al .cell;calm:=bY;pn:=[];xe:=λ_ _=>False
def q8.drop(x:q8 P w H h)(z:Cells J H):q8 P w (hI J H) h:=λb o e=>by
 refine AB (hI.some e) λ_ e=>?_;have a:∀c u,H c=al u->(∀o v,u≠.sj o v)->nL J c≠true:=λc u q d y=>AD (z.at y) λo v c _=>by grind
 exact(x b o e).t8 (λ_ _ _ q=>q) (λc q=>(hI.ne<|a c _ q λ_ _=>by nofun)▸q) λc Y q=>(hI.ne<|a c _ q λ_ _=>by nofun)▸q
def ME{K:ac}{a:yG}{vs j:List V}(S:si N ps fr scope)(i:A.handled=aT)(g:uZ P w K mg base A J s H)(C:vs.length=ps.length)(b:j.length=fr.length)(r:Vals vs a)(B:Cells h H)(inj:∀x y c,h.lookup x=al c->h.lookup y=al c->x=y)(D:∀x,scope.names.lookup x=al .free->∃c,h.lookup x=al c)(E:J9 h H fr j)(x:gM s s.heap.objs.size (bindL (dJ qual scope s.heap.objs.size f cd<|aX (s.heap.objs.size+1) scope.names h).kindOf (ps.zip a) λ_=>aT) (aX (s.heap.objs.size+1) scope.names [])
   (bindC (dJ qual scope s.heap.objs.size f cd<|aX (s.heap.objs.size+1) scope.names h).kindOf (ps.zip a) λ_=>aT) s1):Inv (CC P w K mg base N qual scope f cd h A J s H) [] (vs.map al++j.map al) (hI h H) s1:=by
 obtain⟨a,tk,rfl,m⟩:=x.done;have Z:∀b:Addr,b∉(CC P w K mg base N qual scope f cd h A J s H).ex:=λb z=>iN (show b∈([]:List Addr)from z) (by simp);have lk:∀y c,(aX (s.heap.objs.size+1) scope.names h).lookup y=al c->(aX (s.heap.objs.size+1) scope.names []).lookup y=al c\/((aX (s.heap.objs.size+1) scope.names []).lookup y=aT/\h.lookup y=al c):=λy c e=>by rw[zq,zW]at e;simp_all
 have own:∀y c,(aX (s.heap.objs.size+1) scope.names []).lookup y=al c->s.heap.objs.size<c:=λy c e=>x.above y c<|aM e;have w:∀y c,h.lookup y=al c->c<s.heap.objs.size:=λy c e=>AD (B y c e) λo v q _=>g.hok.lt q;have A:∀y c,h.lookup y=al c->scope.names.lookup y=al .free->(aX (s.heap.objs.size+1) scope.names h).lookup y=al c:=λy c e k=>by rw[zq,zW];cases q:(aX (s.heap.objs.size+1) scope.names []).lookup y with|none=>exact e|some d=>
   rcases zJ (aM q)with z|z;.cases S.cel _ z rfl▸k
   simp_all
 have t:∀b,H b=aT->hI h H b=none:=λb e=>hI.none e;refine⟨⟨g.mod,S.kind,rfl,rfl,ak _,λy z c a b=>?inj,λy d=>?has,λy c d e=>?cab,λ_=>i,ke g.frames,.inr<|Ad rfl rfl,λb z=>iN z<|Z b,λb o e=>Ad (g.bs b o e).1<|t b (g.bs b o e).2,g.bsz,λb _ _=>Z b,λb z=>iN z<|Z b,g.sJ,λb c=>t b<|g.frf b c⟩,rfl,g.bare,Un.kept m,(Ac _ x.toInCall.ns<|λi y v o f c=>?loc),λy c e=>?cell,t _<|g.hok.fresh<|ak _,λy c e=>?freeC,λp l=>iN (show p∈([]:yA)from l) (by simp),(g.hok.drop B).kept m,?len⟩;case inj=>
  rcases lk y c a with a|⟨_,a⟩<;>rcases lk z c b with b|⟨_,b⟩;.exact iq x.apart (aM a) (aM b)
  .exact iN (fC (own _ _ a) (w _ _ b)) (bO _)
  .exact iN (fC (own _ _ b) (w _ _ a)) (bO _)
  .exact inj y z c a b
 case has=>
  have d:scope.names.lookup y=al .cell\/scope.names.lookup y=al .free:=d;rcases d with d|d;.refine AF (ql (n:=s.heap.objs.size+1) d) λc e=>Ae c ?_;show(aX (s.heap.objs.size+1) scope.names h).lookup y=al c;rw[zq,zW,e];rfl
  .exact AF (D y d) λc e=>Ae c<|A y c e d
 case cab=>
  have d:(scope.names.lookup y==al .cell)=true:=d;have b:scope.names.lookup y=al .cell:=by simpa using d
  rcases lk y c e with a|⟨a,_⟩;.exact eB<|own y c a
  .refine AF (ql (n:=s.heap.objs.size+1) b) λd q=>?_;cases q▸a
 case loc=>
  have b:ps.Nodup:=have:=S.nd;(lG.mp<|S.app▸this).1;by_cases hi:i<vs.length
  .have ha:vs[i]?=al v:=by rw[aC<|by simpa using hi,aF]at f;cases e:vs[i]? with|none=>cases e▸f|some a=>cases e▸f;rfl
   refine AE (r.get ha) λu a d=>?_;have l:ps[i]?=al y:=by have Y:N[i]?=al y:=o;rw[S.app,aC<|by lia]at Y;exact Y
   refine Ac u d ?_;rcases S.par y (aA l)with k|k;.exact .inl<|Ad k<|IZ b l a k
   .refine AF (ql (n:=s.heap.objs.size+1) k) λc e=>.inr<|Aj (.inl k) c ?_ ?_;.show(aX (s.heap.objs.size+1) scope.names h).lookup y=al c;rw[zq,zW,e];rfl
    .have q:=x.cell y c e;rw[IW b l a<|by show scope.names.lookup y≠_;rw[k];decide]at q;exact q
  .have hf:fr[i-vs.length]?=al y:=by have Y:N[i]?=al y:=o;rw[S.app,am<|by lia]at Y;exact C▸Y
   have b:j[i-vs.length]?=al v:=by rw[am<|by simpa using hi,aF,aw]at f;cases e:j[i-vs.length]? with|none=>cases e▸f|some a=>cases e▸f;rfl
   exact AK (E _ y v hf b) λc o u b d f h=>have a:=S.oj y<|aA hf;(Ac u h<|.inr<|Aj (.inr a) c (A y c b a) ⟨o,m c o (g.hok c _ d).1,f⟩)
 case cell=>
  rcases lk y c e with a|⟨_,a⟩;.exact Ae _<|x.cell y c a
  .exact AD (B y c a) λo v q d=>⟨v,o,m c o (g.hok c _ q).1,d⟩
 case freeC=>
  rcases lk y c e with a|⟨_,a⟩;.exact t c<|g.hok.fresh<|eB<|own y c a
  .exact hI.cell<|BF.mpr<|Ae y a
 case len=>show _=N.length;rw[S.app];simp_all
def Mj{s a:ag}(hok:q8 P w H s.heap)(f:Cells h H)(b:∀b∈oj J,H b=aT)(un:Un (oj J) [] (hI h H) H' s.heap a.heap)(Z:q8 P w H' a.heap):Un (oj J) [] H (tN h H H') s.heap a.heap/\q8 P w (tN h H H') a.heap:=by
 have g:∀b,H b=aT->nL h b≠true:=λb e y=>AD (f.at y) λo v q _=>by lia
 have Y:∀c u,H c=al u->(∀o v,u≠.sj o v)->nL h c≠true:=λc u q d y=>AD (f.at y) λo v a _=>by grind
 have a:∀b,nL h b=bY->H' b=none:=λb y=>AD (f.at y) λo v q _=>un.free b o (hok b _ q).1 (hI.cell y) (by simp);refine⟨⟨λb o e n c a=>un.keep b o e (hI.none n) c a,λb o e n c a=>un.slot b o e (hI.none n) c a,λb o e n a=>?_,un.there,λb i e=>?_,λb o u e=>?_,λb ps e=>?_⟩,λb o e=>?_⟩;.exact tN.ne (g b n)▸un.free b o e (hI.none n) a
 .have z:=Y b _ e λ_ _=>by nofun
  exact tN.ne z▸un.tF b i (hI.ne z▸e)
 .by_cases z:nL h b=bY;.exact tN.cell z▸e
  .exact tN.ne z▸un.frzs b o u (hI.ne z▸e)
 .have z:=Y b _ e λ_ _=>by nofun
  exact tN.ne z▸un.tbls b ps (hI.ne z▸e)
 .by_cases z:nL h b=bY;.rw[tN.cell z]at e;refine AD (f.at z) λob v q d=>?_;rw[q]at e;cases e;have a:=un.keep b ob ((hok b _ q).1) (hI.cell z) (λy=>by simp_all) (by simp);exact⟨a,ob,a⟩
  .rw[tN.ne z]at e;have a:∀c u,H' c=al u->tN h H H' c=al u:=λc u q=>by rw[tN.ne λy=>by simp_all];exact q
   exact(Z b o e).t8 (λ_ _ _ q=>q) (λc q=>a c _ q) λc i q=>a c _ q
structure u0(P:aG)(w:World)(K:ac)(mg:yC)(base:Heap)(k:Nat)(R:Hp->Prop)(f:Addr)(sp:Sp):Prop where run:∀(A:aW)(outer:List Env)(s:ag)(H:Hp)(us:yG)(vs:List V)(Q:VK),eX k A->uZ P w K mg base A outer s H->R H->Vals vs us->sp vs H Q E0->fQ (model P w) A (.call (.ref f) ⟨us,[]⟩) (CR t7 outer P w H s Q E0) s
def u0.ofFn{K}(F:k6 P w K mg base t7 k f Y ps sp)(b:Binds K Y ps []):u0 P w K mg base k (λ_=>True) f sp:=⟨λA J s H a vs Q d c _ r h=>by have:=b s a (c.mod.wg.keeps λb o e=>(c.bs b o e).1) (by rw[aZ,<-r.length];exact(F.len _ _ _ _ h));rw[aZ]at this;exact F.run A J s H ⟨a,[]⟩ a vs Q E0 d c this r h⟩
def BL(H:Hp)(f:Addr)(c:Str)(b:bH)(body:Expr)(scope:Scope)(fr:yH)(d:List V)(a:yB):Prop:=∃h e g,H f=al (vk f<|cE "<lambda>" c b body scope a h (.ref e) g)/\H e=al (qM e c)/\Cells a H/\(∀x y c,a.lookup x=al c->a.lookup y=al c->x=y)/\(∀x,scope.names.lookup x=al .free->∃c,a.lookup x=al c)/\J9 a H fr d
def BM(mg:yC)(base:Heap):Prop:=∃b a,mg "__builtins__"=al (.ref b)/\b≠ii/\base.get? b=al a/\a.cls=.type "module"/\a.dict=al ii/\a.data=.plain
def LY(b:yB)(P:Addr)(c:Str)(a:bH)(body:Expr)(scope:Scope)(pos:Pos):TE:=λ_ H Q=>∃ps:Array Value,H P=al (.tbl ps)/\kC ps.toList/\(dE pos ps.toList=aT->∀d f g e,H d=aT->H f=aT->d≠f->Q (.ref f) (upd (upd (upd H P<|.tbl<|ps++#[dB pos.line,dB pos.col,.ref d]) d<|qM d c) f<|vk f<|cE "<lambda>" c a body scope (sf b scope.names []) g (.ref d) e))/\(∀e,dE pos ps.toList=al e->∃d,e=.ref d/\∀f g e,H f=aT->Q (.ref f) (upd H f<|vk f<|cE "<lambda>" c a body scope (sf b scope.names []) g (.ref d) e))
noncomputable def sG(scope a:Scope):Bool:=scope.names.all λy=>!(y.2==.free)||(a.names.lookup y.1==al .cell||a.names.lookup y.1==al .free)
def Wi(Z:X.env.code=.ref c)(Cc:bK X.base c P)(b:BM X.mg X.base)(c:sG scope X.env.scope=bY)(d:autoParam (mZ params X.env=([],[])) nz._auto_1):PE X (.Lambda params body scope pos) (LY X.env.cells P (X.env.qual++"<lambda>") params body scope pos):=by
 intro a s W H Q I h;have g:∀y∈scope.names,y.2=.free->X.env.kindOf y.1=al .cell\/X.env.kindOf y.1=al .free:=λy a e=>by
  have z:=aK.mp c y a;have a:=by simpa[e]using z
  exact a
 refine Aa h λps f j r v=>PySem.W.kla_eval d ?_;have hcl:=qC λy a e=>I.ok.has y.1<|g y a e;have h:=I.hok P _ f;have i:=I.mod.glob.keeps I.bk;have k:=Cc.keeps I.bk;have c:aV≠P:=λq=>AR i λo es g e d _=>by rw[q,h]at e;cases e;cases d
 have l:s.heap.BuiltinsAt X.mg P:=by
  refine AS b λbm d e g a Zz=>AI Zz λb4 m b=>⟨bm,d,e,g,λq=>?_,λq=>?_,I.bk _ _ a,b4,m,b⟩;.refine AR I.mod.glob λo es g e d _=>?_;rw[q,e]at a;cases a;cases d▸b
  .have e:=I.bk _ _ a;rw[q,h]at e;cases e;cases b4
 cases q:dE pos ps.toList with
 |none=>
  refine PySem.W.kla_makeFunction hcl I.ok.glob i Z k h j q c l λJ g h' tk t a b w m=>?_;have c:=aO h;have y:=eF<|fC (aB c a) b;have A:=aJ b;have c:=au a<|eB b;have d:∀b,H b=aT->b≠P:=λb n z=>by rw[z,f]at n;cases n
  have lt:∀b o,H b=al o->b≠J/\b≠h'.objs.size:=λb o e=>⟨aJ<|aB (I.hok.lt e) a,aJ<|aB (I.hok.lt e) c⟩;have p:∀b o,s.heap.get? b=al o->b≠J/\b≠h'.objs.size:=λb o e=>⟨aJ<|aB (aO e) a,aJ<|aB (aO e) c⟩;have keep:∀b o,b≠P->s.heap.get? b=al o->(h'.push<|PySem.W.kla_obj "<lambda>" (X.env.qual++"<lambda>") params body scope (sf X.env.cells scope.names []) ((X.mg "__name__").getD .none) J g).get? b=al o:=λb o n e=>aq _<|t b o n e;have Y:∀b,b≠P->b≠J->b≠h'.objs.size->∀e n o,upd (upd (upd H P e) J n) h'.objs.size o b=H b:=λb b s t e n o=>by rw[zd t,zd s,zd b]
  refine⟨.ref h'.objs.size,upd (upd (upd H P<|.tbl<|ps++#[dB pos.line,dB pos.col,.ref J]) J<|qM J<|X.env.qual++"<lambda>") h'.objs.size<|vk h'.objs.size<|cE "<lambda>" (X.env.qual++"<lambda>") params body scope (sf X.env.cells scope.names []) ((X.mg "__name__").getD .none) (.ref J) g,I.un (t':=tk) ⟨λb o e n _ _=>keep b o (d b n) e,λb o e n _ _=>Ae o.slots<|keep b o (d b n) e,λb o e n _=>?fr,λb o e _=>?th,λb s e=>?tu,λb o u e=>?fz,λb e e=>?tb⟩ ?ok,rfl,r q J h'.objs.size _ g (I.hok.fresh a) (I.hok.fresh c) A⟩;case fr=>rw[Y b (d b n) (p b o e).1 (p b o e).2];exact n
  case th=>
   by_cases z:b=P;.exact z▸⟨_,aq _ m⟩
   .exact⟨o,keep b o z e⟩
  case tu=>rw[Y b (λz=>by rw[z,f]at e;cases e) (lt b _ e).1 (lt b _ e).2];exact e
  case fz=>rw[Y b (λz=>by rw[z,f]at e;cases e) (lt b _ e).1 (lt b _ e).2];exact e
  case tb=>
   by_cases z:b=P;.subst z;cases f▸e;exact⟨#[dB pos.line,dB pos.col,.ref J],by rw[zd<|bE y,zd<|bE<|eF<|aB c a,zh]⟩
   .exact⟨#[],by rw[Y b z (lt b _ e).1 (lt b _ e).2,e];simp⟩
  case ok=>
   intro b o e;by_cases a:b=h'.objs.size;.subst a;rw[zh]at e;cases e;exact G9<|aY _ rfl
   .rw[zd a]at e;by_cases a:b=J;.subst a;rw[zh]at e;cases e;exact AM w λc2 c vs t d Zz=>AB Zz λe2 n=>PJ ⟨c2,c,vs,t,d,aq _ e2,n⟩
    .rw[zd a]at e;by_cases c:b=P;.subst c;rw[zh]at e;cases e;exact aq _ m
     .rw[zd c]at e;have m:∀d u,H d=al u->(∀ps,u≠.tbl ps)->upd (upd (upd H P<|.tbl<|ps++#[dB pos.line,dB pos.col,.ref J]) J<|qM J<|X.env.qual++"<lambda>") h'.objs.size (vk h'.objs.size<|cE "<lambda>" (X.env.qual++"<lambda>") params body scope (sf X.env.cells scope.names []) ((X.mg "__name__").getD .none) (.ref J) g) d=al u:=λd u e a=>by rw[Y d (λz=>by rw[z,f]at e;cases e;exact a _ rfl) (lt d _ e).1 (lt d _ e).2];exact e
      refine(I.hok b o e).t8 (λd u a q=>keep d u ?_ q) (λd q=>m d _ q λ_=>by nofun) λd s q=>m d _ q λ_=>by nofun
      rintro rfl;rcases a with a|a;.exact c a.symm
      .cases f▸a|some a=>obtain⟨J,rfl,d⟩:=v a q;refine PySem.W.kla_makeFunctionHit (mg:=X.mg) hcl I.ok.glob i Z k h j q l λg h' tk a c=>⟨.ref h'.objs.size,_,I.laid (t':=tk) (λb o e=>aq _<|a b o e) c<|G9<|aY _ rfl,rfl,d h'.objs.size _ g<|I.hok.fresh c⟩
structure r8(cl:yB)(N:yH)(kd:Str->Option cB)(W:St)(H1 H2:Hp):Prop where
 ne:∀b,nL cl b≠bY->H2 b=H1 b
 free:∀b,nL cl b=bY->H1 b=aT
 cells:Cells cl H2
 cap:∀(i:Nat)(x:Str)(v:V)(c:Addr),N[i]?=al x->W[i]?=al (al v)->(kd x=al .cell\/kd x=al .free)->cl.lookup x=al c->∃o u,H2 c=al (.sj o<|.own c)/\o.data=.cell (al u)/\RelV v u
 inj:∀x y c,cl.lookup x=al c->cl.lookup y=al c->x=y
def SK(cl:yB)(N:yH)(kd:Str->Option cB)(sp:Sp)(t:TA):TE:=λW H Q=>t W H λvs a=>∀H2,r8 cl N kd W a H2->sp vs H2 (λv a=>Q v<|hI cl a) E0
def YR{W:St}{j:yG}(F:k6 X.prog X.w X.K X.mg X.base t7 k f fd ps sp)(n:eX k X.A)(a:Binds X.K fd ps [])(a8:∀x,X.fn x=bY)(I:Inv X Y W H s)(r:Vals vs j)(h:∀H2,r8 X.env.cells X.N X.env.kindOf W H H2->sp vs H2 (λv Z=>Q v<|hI X.env.cells Z) E0):wpAny (model X.prog X.w) X.A (call (.ref f) j) (EP X Y W Q) X.xe s:=by
 let H2:Hp:=λb=>if nL X.env.cells b=bY then(s.heap.get? b).map λo=>.sj o (.own b)else H b;have J:∀b,nL X.env.cells b≠bY->H2 b=H b:=λb z=>gc z;have l:∀b,nL X.env.cells b=bY->∃o v,s.heap.get? b=al o/\o.data=.cell v/\H2 b=al (.sj o<|.own b):=λb z=>AF (BF.mp z) λx e=>AD (I.cell x b e) λv o g d=>Ah o v g d (by show(if _ then _ else _)=_;rw[ef z,g];rfl);have fr:∀b,nL X.env.cells b=bY->H b=none:=λb z=>AF (BF.mp z) λx e=>I.freeC x b e;have c:∀b,nL X.env.cells b=bY->X.s₀.heap.objs.size<=b:=λb z=>AF (BF.mp z) λx e=>I.ok.cab x b (a8 x) e;have i:∀b o,X.s₀.heap.get? b=al o->nL X.env.cells b≠true:=λb o e z=>iN (aB (aO e) (c b z)) (bO _);have w:∀b∈oj X.stack,nL X.env.cells b≠true:=λb a z=>by
  rcases aE.mp (I.tG b a)with e|a;.exact AF (BF.mp z) λx e2=>I.cne x b e2 e
  .exact AQ (I.ok.sJ.mem a) λ_ o a _=>i b o a z
 have m:q8 X.prog X.w H2 s.heap:=λb o e=>by
  by_cases z:nL X.env.cells b=bY;.refine AL (l b z) λob v g d q=>?_;cases q▸e;exact⟨g,ob,g⟩
  .rw[J b z]at e;have f:∀c u,H c=al u->H2 c=al u:=λc u q=>(J c λy=>by rw[fr c y]at q;cases q)▸q;exact(I.hok b o e).t8 (λ_ _ _ q=>q) (λc q=>f c _ q) λc p q=>f c _ q
 have f:uZ X.prog X.w X.K X.mg X.base X.A X.stack s H2:=⟨I.ok.frames,I.ok.mod,λb o e=>Ad (I.bs b o e).1<|J b ((λb o e=>i b o (I.ok.bs b o e).1) b o e)▸(I.bs b o e).2,au I.ok.bsz I.sz,I.stack,λb a=>J b (w b a)▸I.tS b a,m,I.bare⟩;have p:r8 X.env.cells X.N X.env.kindOf W H H2:=⟨J,fr,λx c e=>AL (l c<|BF.mpr<|Ae x e) λo v g d q=>Af o v q d,λi x v c e e2 t d=>by
   refine AE I.loc λm b b=>have vis:CK X.env.scope x:=t.elim (λz=>.inr<|.inl z) λz=>.inr<|.inr z;AE (b i x v e e2 vis) λu b lk=>?_;rcases lk with⟨z,_⟩|⟨_,e,e,m⟩;.simp_all
   .cases d▸e;refine AL (l c<|BF.mpr<|Ae x d) λo i g d q=>AE m λo2 c d=>?_;cases g▸c;exact Ah o u q d b,I.ok.inj⟩;have c:=h H2 p;have b:=F.len _ _ _ _ c;have d:=a s j I.sx (by rw[aZ,<-r.length];exact b);rw[aZ]at d;refine kZ<|fv (F.run X.A X.stack s H2 ⟨j,[]⟩ j vs _ E0 n f d r c) λr c a=>?_;cases r with|error e=>exact bh a|ok b=>cases b with|next=>exact bh a|brk=>exact bh a|cont=>exact bh a|ret u=>
   refine AS a λv Z h f un Zz=>AI Zz λa3 i q=>?_;have a:∀b,nL X.env.cells b=bY->∃o,s.heap.get? b=al o/\c.heap.get? b=al o/\Z b=al (.sj o<|.own b):=λb z=>AL (l b z) λo v g d c=>have a:=un.frzs b o _ c;(Ag o g (a3 b _ a).1 a);have c:∀b u,H b=al u->nL X.env.cells b≠true:=λb u e y=>by simp_all
   refine⟨v,_,I.wH (H':=hI X.env.cells Z) (ch:=[]) h ⟨λb o e n a d=>?k,λb o e n a d=>?sl,λb o e n d=>?fr,un.there,λb p e=>?tu,λb o u e=>?fz,λb ps e=>?tb⟩ (λb o e=>?hok) f<|λb z=>iN z<|by simp,i,q⟩;case k=>
    by_cases z:nL X.env.cells b=bY;.grind
    .exact un.keep b o e (J b z▸n) a d
   case sl=>exact un.slot b o e (J b (w b a)▸n) a d
   case fr=>
    by_cases z:nL X.env.cells b=bY;.exact hI.cell z
    .exact hI.none<|un.free b o e (J b z▸n) d
   case tu=>exact hI.ne (c b _ e)▸un.tF b p (J b (c b _ e)▸e)
   case fz=>exact hI.ne (c b _ e)▸un.frzs b o u (J b (c b _ e)▸e)
   case tb=>exact hI.ne (c b _ e)▸un.tbls b ps (J b (c b _ e)▸e)
   case hok=>
    refine AB (hI.some e) λz t=>?_;have f:∀c u,Z c=al u->(∀o i,u≠.sj o i)->hI X.env.cells Z c=al u:=λc u q d=>by rw[hI.ne λy=>by grind];exact q
    exact(a3 b o t).t8 (λ_ _ _ q=>q) (λc q=>f c _ q λ_ _=>by nofun) λc p q=>f c _ q λ_ _=>by nofun
def P6{p pos}{es:yK}(F:k6 X.prog X.w X.K X.mg X.base t7 k f fd ps sp)(b:eX k X.A)(a:Gl X x)(c:X.mg x=al (.ref f))(d:bR X.K (.ref f)=bY)(f:Binds X.K fd ps [])(Z:∀x,X.fn x=bY)(g:PA X (e::es) t)(i:autoParam ((x==("__debug__":Str))=ce) vm._auto_1)(j:autoParam (be (e::es) X.env=(ce,eval e X.env)::be es X.env) nz._auto_1)(Y:autoParam ((cV pos<|be es X.env).any (·.1)=ce) nz._auto_1):PE X (.Call (.Name x p) (e::es) [] pos) (SK X.env.cells X.N X.env.kindOf sp t):=by refineλJ s W H Q I h=>cA<|DB I a c ?_ i;refine fi I.ok.mod.wg d (gg (g pos J s W H _ I h) λa s1⟨vs,H1,a,r,q⟩=>Ad a.sx ?_) j Y;exact YR F b f Z a r q
def Cd(K:ac)(H:Hp)(f:Addr):Prop:=(∃a,H f=al (vk f a))\/∃b c a sl,K.lookup f=al ⟨b,c,.func a,sl⟩
def Cd.at{W:St}(h:Cd X.K H f)(I:Inv X J W H s):PySem.W.FnAt f s.heap:=by
 rcases h with⟨a,h⟩|⟨a,a,a,sl,h⟩;.exact⟨_,_,_,_,JU I.hok h⟩
 .exact⟨_,_,_,_,I.sx _ _ h⟩
def Ti(P:aG)(w:World)(K:ac)(mg:yC)(base:Heap)(k:Nat)(i:Nat)(t:TA):TE:=λW H Q=>∃f,W[i]?=al (al<|.ref f)/\Cd K H f/\t W H λvs a=>Cd K a f/\∃R sp,u0 P w K mg base k R f sp/\R a/\sp vs a Q E0
def T6{W:St}{a:yG}(F:u0 X.prog X.w X.K X.mg X.base k R f sp)(b:eX k X.A)(I:Inv X J W H s)(c:R H)(r:Vals vs a)(h:sp vs H Q E0):wpAny (model X.prog X.w) X.A (call (.ref f) a) (EP X J W Q) X.xe s:=by refine kZ<|fv (F.run X.A X.stack s H a vs Q b I.Ca c r h) λr a a=>?_;cases r with|error e=>exact bh a|ok b=>cases b with|ret u=>exact I.after a|next=>exact bh a|brk=>exact bh a|cont=>exact bh a
def Vk{X:Cx}{K}{mg:yC}{pos}{es:yK}(a:X.prog=P)(b:X.w=w)(c:X.K=K)(Z:X.mg=mg)(d:X.base=base)(g:eX k X.A)(j:PE X (.Name x p) (Cm i))(l:PA X (e::es) t)(m:autoParam (be (e::es) X.env=(ce,eval e X.env)::be es X.env) nz._auto_1)(Y:autoParam ((cV pos<|be es X.env).any (·.1)=ce) nz._auto_1):PE X (.Call (.Name x p) (e::es) [] pos) (Ti P w K mg base k i t):=by subst a b c Z d;refineλJ s W H Q I h=>AH h λf a b c=>cA<|gg (j J s W H (λv H'=>v=.ref f/\H'=H) I ⟨.ref f,a,rfl,rfl⟩) λu s0⟨v,H0,a,d,ev,e⟩=>?_;subst ev;subst e;exact d▸PySem.W.callWith_F (b.at a) (gg (l pos J s0 W H0 _ a c) λa s1⟨vs,H1,a,r,b,R,sp,F,c,q⟩=>⟨b.at a,T6 F g a c r q⟩) m Y
noncomputable def E4(K:ac)(names:yH):List<|Str×Addr×Addr:=names.filterMap λx=>(bG K x).map λp=>(x,p)
def Og{K}:y∈E4 K names↔y.1∈names/\bG K y.1=al y.2:=by
 unfold E4;rw[cQ];constructor;.rintro⟨x,hx,e⟩;obtain⟨p,h,rfl⟩:=a7.mp e;exact Ad hx h
 .rintro⟨hx,e⟩;exact Ac y.1 hx<|by rw[e];rfl
def ID(K:ac)(names:yH)(base:Heap):Prop:=∀x∈names,∀c P,bG K x=al (c,P)->bK base c P
def Iy(K:ac)(names:yH)(H:Hp):Prop:=∀x∈names,∀c P,bG K x=al (c,P)->H P=al (.tbl #[])
noncomputable def TN(K:ac)(names:yH)(ts:List Addr):Bool:=names.all λx=>match bG K x with|some (c,P)=>lW K c P&&ts.contains P|none=>bY
def JM{K}(h:(bG K x).isSome=bY):bG K x=al (((bG K x).getD (0,0)).1,((bG K x).getD (0,0)).2):=by obtain⟨p,e⟩:=cw.mp h;rw[e];rfl
def S7(H:Hp)(P:Addr)(q:Str):Prop:=∃ps:Array Value,H P=al (.tbl ps)/\kC ps.toList/\∀pos b,dE pos ps.toList=al b->∃a,b=.ref a/\H a=al (qM a q)
def hG(T:List<|Addr×Str)(H:Hp):Prop:=∀y∈T,S7 H y.1 y.2
def EA(H H':Hp):Prop:=∀b o,(∀ps,o≠.tbl ps)->H b=al o->H' b=al o
def EA.of(a:tw H J):EA H J:=λc o _ h=>a c o h
def hG.keep(h:hG T H)(k:∀b o,(∀J,o≠.J J)->H b=al o->H' b=al o):hG T H':=λy a=>AH (h y a) λps e t c=>⟨ps,k _ _ (λ_=>by nofun) e,t,λpos a q=>AE (c pos a q) λY a b=>Ac Y a<|k _ _ (λ_=>by nofun) b⟩
def hG.same(h:hG T H)(s:tw H H'):hG T H':=h.keep λb o _ e=>s b o e
theorem hG.new(h:hG T H)(n:H a=aT):hG T<|upd H a o:=h.same<|(tw.refl H).new n
def hG.put(h:hG T H)(n:H a=al (.J J)):hG T<|upd H a o:=h.keep λb u d e=>by rw[zd λz=>by grind];exact e
def hG.init(h:∀p∈T.map (·.1),H p=al (.tbl #[])):hG T H:=λy a=>⟨#[],h _<|bB a,trivial,λpos J e=>by simp[dE]at e⟩
set_option tactic.hygienic true in def codeAmong_add:∀(l:yG),kC l->dE pos (l++[dB a,dB b,c])=al J->dE pos l=al J\/J=c:=by intro l;fun_induction kC l with
 |case1=>
  intro _ e;simp only[f7,dE,dB]at e;split at e;.exact .inr (az e).symm
  .cases e|case2 x t y u z rest a=>
  intro h e;simp only[c6,dE]at e⊢;split at e;.rename_i q;left;exact ef q▸e
  .rename_i q;exact gc q▸a h e|case3 l a h2=>simp_all
def UL(J:r8 cells N kd W H1 H2)(b:∃pm Z h,H1 f=al (vk f<|cE "<lambda>" q params body scope (sf cells scope.names []) pm (.ref Z) h)/\H1 Z=al (qM Z q))(Y:∀x,scope.names.lookup x=al .free->∃c,cells.lookup x=al c)(g:∀(i:Nat)(x:Str)(v:V),fr[i]?=al x->cap[i]?=al v->scope.names.lookup x=al .free/\(kd x=al .cell\/kd x=al .free)/\∃j:Nat,N[j]?=al x/\W[j]?=al (al v)):BL H2 f q params body scope fr cap<|sf cells scope.names []:=by
 refine AX b λpm Z h f h2=>?_;have d:∀b o,H1 b=al o->H2 b=al o:=λb o e=>(J.ne b λz=>by rw[J.free b z]at e;cases e)▸e;have sub:∀x c,(sf cells scope.names []).lookup x=al c->cells.lookup x=al c:=λx c e=>by rcases clOf_mem (aM e)with z|z;all_goals simp_all
 refine⟨pm,Z,h,d _ _ f,d _ _ h2,λx c e=>J.cells x c<|sub x c e,λx y c a b=>J.inj x y c (sub x c a) (sub y c b),λx k=>?_,λi x v a b=>?_⟩;.exact AF (Y x k) λc e=>Ae c<|qJ e<|aM k
 .exact AO (g i x v a b) λk kk j a b=>AF (Y x k) λc e=>AL (J.cap j x v c a b kk e) λo u a b d=>Ak c o u (qJ e<|aM k) a b d
def r8.same{a}(h:r8 a N kd W J H2):tw J H2:=λb o e=>(h.ne b λz=>by rw[h.free b z]at e;cases e)▸e
def w0.Q1{K}{st}(F:w0 K x qual st f fd)(a:fd.code=.ref c)(S:fP N ps<|bb st)(len:∀vs H Q E,sp vs H Q E->vs.length=ps.length)(b:∀(A:aW)(J:List Env)(s:ag)(H:Hp)(vs:List V)(Q:VK)(E:XK),eX k (A.deeper<|fZ qual (bb st) s.heap.objs.size f<|.ref c)->sp vs H Q E->∃t,sR (u6 t7 P w K mg base N qual (bb st) f (.ref c) A J s H E).nox (eh st) t/\t {nx:=λ_ H'=>Q .N H',rt:=Q} (wL N vs) H):k6 P w K mg base t7 (k+1) f fd ps sp:=by obtain⟨c,c,kV,c,c,c,Z,c,c,rfl,lk,c⟩:=F.ex;subst a;exact Iz lk c S len λA J s H vs Q E a Y=>AE (b A J s H vs Q E a Y) λt h q=>Ac t h.nox q
noncomputable def HD(a:Int)(n:Nat):It:=⟨λi _=>i<n,λi H x H'=>H'=H/\x=.int (a+i*2),λi _=>n<=i⟩
def aP4{K}it Z n:Turn P w K tg (HD Z n) [it] it<|λi h=>j9 h it (Z+(i)*2) ((n)-(i)) 2 where
 mem:=by simp
 obj:=λi h st b a=>by simp_all
 keep:=λi h h' st k=>k it (by simp) _ st;item:=by intro X c d f g i J s W H E I Y st h;subst c d f;refine AV (Y it<|by simp) λf0 j p k l m=>have Ww:=nY (prog:=X.prog) (w:=X.w) (I.ok.hd g) it Z 2 n;Ww.item i s _ _ h st λv h' tk a c kk=>?_;obtain⟨t,rfl⟩:=a;have d:Inv X J W H {s with heap:=h',toks:=tk}:=I.turned (λb o a e=>kk b o (by simp_all) e) f0 j k l m;exact Ac _ rfl<|EB c rfl rfl (by decide) ⟨.int<|Z+i*2,H,d,⟨t,rfl⟩,⟨rfl,rfl⟩,c,λb a=>(Y b a).1⟩
 done:=by intro X c d f g i J s W H E I Y st h;subst c d f;exact AV (Y it<|by simp) λf0 j p k l m=>il (I.ok.hd g) st (by have:n<=i:=h;omega) λh' a=>Ad rfl<|I.turned (a) f0 j k l m
 self:=λ_ _ _ _ _ st h=>im st h
def JH:ci a b 2=if a<b then(b-a-1)/2+1 else 0:=by unfold ci;rw[ef<|by decide]
def WH{a b:Int}(ha:0<=a)(J:a<2^20)(hb:0<=b)(h:b<2^20):kL a b 2=true:=by unfold kL;rw[JH];simp only[mM,af,cf,decide_eq_true_eq,beq_iff_eq,show(2:Int)>0 by decide,if_true];split<;>omega
def xX(r:List<|Option Int):D:=.tp<|r.map Ur
def Wy{K}(c:X.calm=bY)(d:X.K=K):t4 X (.builtin "min") (λb H Q=>∃a ns,b=[.ref a]/\qn K H a (ns.map V.int)/\ns≠[]/\∀m∈ns,(∀y∈ns,m<=y)->Q (.int m) H):=by
 subst d;intro a s W H b a Q I r h;obtain⟨a,ns,rfl,b,Y,q⟩:=h;obtain⟨u,rfl,d⟩:=wJ r;cases d;refine AH (I.list b) λits Z pl hz=>?_;have b:=Z.length;rw[aw]at b;have b:=kM.mpr Y;refine call_min_walk<|ft pl.isList ?_;have d:a<s.heap.objs.size:=AD pl λo _ e _=>aO e;let val:=λi=>ns.getD i 0;have J:∀i v,its.toArray[i]?=al v->∃t,v=Value.int (val i) t:=λi v e=>by refine AD (G3 Z<|dZ▸e) λz t a c=>Ae t ?_;rw[c];show Value.int z t=Value.int (ns.getD i 0) t;rw[cD,a];rfl
 refine⟨_,_,_,_,_,_,_,rfl,(oh (prog:=X.prog) (w:=X.w) (A:=X.A.in1) (I.ok.hd c) s.heap.objs.size a (aJ d) its.toArray),Ad ⟨_,aY _ rfl,rfl,rfl⟩ ?_,λb a=>?_,by simp_all,nA val J,λv h' tk b k=>?_⟩;.exact AE pl.isList λo e r=>⟨o,aq _ e,r⟩
 .rw[cy];rcases aE.mp a with z|z;.exact z▸dC _
  .have z':=by simpa using z
   exact z'▸gP d
 .refine AD (G3 Z<|dZ▸b) λz t a c=>?_;subst c;have c:val (eJ (λi j=>decide<|val i<val j) (its.toArray.size-1))=z:=by show ns.getD _ 0=z;rw[cD,a];rfl
  refine⟨.int z,H,I.kept λb o q=>k b o ?_<|aq _ q,⟨t,rfl⟩,q z (aA a) λy a=>?_⟩
  .intro z;have z':=by simpa using z
   exact iN (aO q) (z'▸bO _)
  .obtain⟨j,hj,e3⟩:=d9.mp a;have:=jZ val (its.toArray.size-1) j (by simp only[aL];lia);rw[c]at this;have a:val j=y:=by show ns.getD j 0=y;rw[cD,aj hj];exact e3
   lia
noncomputable def mx(a b:Int):Int:=if b>a then b else a
def F2:mx a b<=x↔a<=x/\b<=x:=by unfold mx;lia
noncomputable def sgn(s:Nat->Nat->Int):Nat->Nat->Option Int:=λi j=>al<|s i j
def Ez(n:Nat)(s t:Nat->Nat->Int)(i j:Nat):Int:=(uq<|(av n).map λk=>mx (s i k) (t k j)).getD 3
def MB(h:uq l=al m):m<=x↔∃y∈l,y<=x:=AB (QB h) λUu J=>⟨λz=>Ac m Uu z,λ⟨y,a,z⟩=>fF (J y a) z⟩
def QF(h:l≠[]):∃m,uq l=al m:=by cases e:uq l with|none=>exact iN (OW.mp e) h|some m=>exact Ae m rfl
def JR(a:1<=n):Ez n s t i j<=x↔∃k,k<n/\s i k<=x/\t k j<=x:=by
 refine AF (QF (l:=(av n).map λk=>mx (s i k) (t k j))<|λz=>by simp_all) λm h=>?_;unfold Ez;rw[h];show m<=x↔_;rw[MB h];constructor;.rintro⟨y,hy,hx⟩;obtain⟨k,a,rfl⟩:=ar.mp hy;exact Ac k (bI.mp a) (F2.mp hx)
 .rintro⟨k,a,hx⟩;exact Ac _ (ar.mpr<|Ac k (bI.mpr a) rfl) (F2.mpr hx)
def JW{b:Int}(h:∀x,a<=x↔b<=x):a=b:=by have c:=(h b).mpr<|cC _;have J:=(h a).mp<|cC _;lia
def ZO(a:1<=n)(h:∀i j,i<n->j<n->0<=s i j/\s i j<=3)(h':∀i j,i<n->j<n->0<=t i j/\t i j<=3)(hi:i<n)(b:j<n):0<=Ez n s t i j/\Ez n s t i j<=3:=by
 constructor;.refine AH ((JR a (s:=s) (t:=t) (i:=i) (j:=j)).mp<|cC _) λk c J d=>?_;have:=h i k hi c;lia
 .exact(JR a).mpr<|Ag 0 (by lia) (h i 0 hi<|by omega).2 (h' 0 j (by omega) b).2
section
variable{X:Cx}
end
def Bt(a b c:Int):Int:=mx (mx a b) c
def NV:Bt a b c<=x↔a<=x/\b<=x/\c<=x:=by unfold Bt;rw[F2,F2,and_assoc]
def WL(b:X.calm=bY):t4 X (.builtin "max") (λa H Q=>∃i j k,a=[.int i,.int j,.int k]/\Q (.int<|Bt i j k) H):=by intro J s W H a a Q I r h;obtain⟨i,j,k,rfl,q⟩:=h;cases r with|cons a r=>cases r with|cons c r=>cases r with|cons d r=>
    cases r;obtain⟨Y,rfl⟩:=a;obtain⟨Z,rfl⟩:=c;obtain⟨a,rfl⟩:=d;refine max_three_ints (I.ok.hd b) λh' tk kk=>⟨_,H,I.kept kk,?_,q⟩;unfold Bt mx;by_cases a:j>i
    .rw[ef a,ef a];by_cases h2:k>j;.rw[ef h2,ef h2];exact⟨_,rfl⟩
     .rw[gc h2,gc h2];exact⟨_,rfl⟩
    .rw[gc a,gc a];by_cases h2:k>i;.rw[ef h2,ef h2];exact⟨_,rfl⟩
     .rw[gc h2,gc h2];exact⟨_,rfl⟩
def QY(n:Nat)(s:Nat->Nat->Int):Prop:=∀i j,i<n->j<n->0<=s i j/\s i j<=3
noncomputable def uH(x:Int):Int:=if x=0\/x=3 then x else 2
def ew(n:Nat)(s:Nat->Nat->Int)(i j:Nat):Int:=(uq<|(av n).map λk=>Bt (s i k) (uH<|s k k) (s k j)).getD 3
def GC(a:1<=n):ew n s i j<=x↔∃k,k<n/\s i k<=x/\uH (s k k)<=x/\s k j<=x:=by
 refine AF (QF (l:=(av n).map λk=>Bt (s i k) (uH<|s k k) (s k j))<|λz=>by simp_all) λm h=>?_;unfold ew;rw[h];show m<=x↔_;rw[MB h];constructor;.rintro⟨y,hy,hx⟩;obtain⟨k,a,rfl⟩:=ar.mp hy;exact Ac k (bI.mp a) (NV.mp hx)
 .rintro⟨k,a,hx⟩;exact Ac _ (ar.mpr<|Ac k (bI.mpr a) rfl) (NV.mpr hx)
def Nd(h:0<=y)(a:y<=3):0<=uH y/\uH y<=3:=by unfold uH;lia
def Vx(a:1<=n)(h:QY n s):QY n<|ew n s:=λi j hi b=>by
 constructor;.refine AH ((GC a (s:=s) (i:=i) (j:=j)).mp<|cC _) λk c J _=>?_;have:=h i k hi c;lia
 .exact(GC a).mpr<|Ap 0 (by omega) (h i 0 hi<|by omega).2 (Nd (h 0 0 (by omega) (by omega)).1 (h 0 0 (by omega) (by omega)).2).2 (h 0 j (by omega) b).2
section
variable{n:Nat}{s:Nat->Nat->Int}
end
def KY(b:yB)(P:Addr)(name q:Str)(a:bH)(body:yL)(scope:Scope)(pos:Pos)(i:Nat):TS:=λD W H=>∃ps:Array Value,H P=al (.tbl ps)/\kC ps.toList/\(dE pos ps.toList=aT->∀c f d g e,H c=aT->H f=aT->c≠f->D.nx (W.set i<|al<|.ref f) (upd (upd (upd H P<|.tbl<|ps++#[dB pos.line,dB pos.col,.ref c]) c<|qM c q) f<|vk f<|cY name q a body scope (sf b scope.names []) .none .none d g aT (.ref c) e))/\(∀d,dE pos ps.toList=al d->∃c,d=.ref c/\∀f d g e,H f=aT->D.nx (W.set i<|al<|.ref f) (upd H f<|vk f<|cY name q a body scope (sf b scope.names []) .none .none d g aT (.ref c) e))
def W9{X}{params}{body:yL}{pos}(hN:X.N.Nodup)(hi:X.N[i]?=al name)(hx:Loc X.env.scope name)(a0:X.env.code=.ref c)(Cc:bK X.base c P)(hB:BM X.mg X.base)(d1:sG scope X.env.scope=bY)(hq:autoParam (m7 X.env name name=q) nz._auto_1)(c4:autoParam (params.defaults=[]) nz._auto_1)(hk0:autoParam (params.kw_defaults=[]) nz._auto_1)(ha:autoParam (annTrees params aT X.env=[]) nz._auto_1)(hf:autoParam (X.fn name=bY\/X.env.scope.names.lookup name=al .local) Zq7._auto_1):PS X (.FunctionDef name params body [] aT [] scope aT name pos) (KY X.env.cells P name q params body scope pos i):=by
 intro a1 s W H D I h;have d3:∀y∈scope.names,y.2=.free->X.env.kindOf y.1=al .cell\/X.env.kindOf y.1=al .free:=λy hy e=>by have z:=aK.mp d1 y hy;exact(by lia:X.env.scope.names.lookup y.1=al .cell\/X.env.scope.names.lookup y.1=al .free)
 refine Aa h λps hP ht a4 a3=>PySem.W.nestDef_K c4 hk0 ha ?_;rw[hq];have fin:∀{H2:Hp}{f:Addr}{s2:ag},Inv X a1 W H2 s2->D.nx (W.set i<|al<|.ref f) H2->wpAny (model X.prog X.w) X.A (gk X.env name<|.ref f) (λ_ s3=>SP X a1 D .next s3) X.xe s2:=λ{H2 f s2}I2 q2=>Gu (v:=.ref f) I2 hN hi hx rfl (λs3 I3=>⟨_,H2,I3,q2⟩) hf;have hcl:=qC (scope:=scope) (env:=X.env) λy hy e=>I.ok.has y.1<|d3 y hy e;have oP:s.heap.get? P=al (fD ps):=I.hok P _ hP;have a2:s.heap.Ns aV X.mg:=I.mod.glob.keeps I.bk;have hC:bK s.heap c P:=Cc.keeps I.bk;have hb:s.heap.BuiltinsAt X.mg P:=by
  refine AS hB λbm ob b1 b2 b3 Zz=>AI Zz λb4 b5 b6=>⟨bm,ob,b1,b2,λq=>?_,λq=>?_,I.bk _ _ b3,b4,b5,b6⟩;.refine AR I.mod.glob λo es ep e d _=>?_;lia
  .have e:=I.bk _ _ b3;lia
 cases qq:dE pos ps.toList with
 |none=>
  refine PySem.W.makeFunction_K (mg:=X.mg) hcl I.ok.glob a2 a0 hC oP ht qq (λq=>AR a2 λo es ep e d _=>by lia) hb λJ Y Uu h' tk hx hge hlt a6 c0=>?_;have a5:P<s.heap.objs.size:=aO oP;have hsz:s.heap.objs.size<=h'.objs.size:=au hge<|eB hlt;have nP:∀b,H b=aT->b≠P:=λb n z=>by lia
  have lt:∀b o,H b=al o->b≠J/\b≠h'.objs.size:=λb o e=>⟨aJ<|aB (I.hok.lt e) hge,aJ<|aB (I.hok.lt e) hsz⟩;have b0:∀b o,s.heap.get? b=al o->b≠J/\b≠h'.objs.size:=λb o e=>⟨aJ<|aB (aO e) hge,aJ<|aB (aO e) hsz⟩;have keep:∀b o,b≠P->s.heap.get? b=al o->(h'.push<|PySem.W.fnMade name q params body scope (sf X.env.cells scope.names []) Uu ((X.mg "__name__").getD .none) J Y).get? b=al o:=λb o n e=>aq _<|hx b o n e;have Z:∀b,b≠P->b≠J->b≠h'.objs.size->∀o1 o2 o3,upd (upd (upd H P o1) J o2) h'.objs.size o3 b=H b:=λb n1 n2 n3 o1 o2 o3=>by rw[zd n3,zd n2,zd n1]
  refine fin (H2:=upd (upd (upd H P<|.tbl<|ps++#[dB pos.line,dB pos.col,.ref J]) J<|qM J q) h'.objs.size<|vk h'.objs.size<|cY name q params body scope (sf X.env.cells scope.names []) .none .none Uu ((X.mg "__name__").getD .none) aT (.ref J) Y) (I.un (t':=tk) ⟨λb o e n _ _=>keep b o (nP b n) e,λb o e n _ _=>Ae o.slots<|keep b o (nP b n) e,λb o e n _=>?fr,λb o e _=>?th,λb xs e=>?tu,λb o u e=>?fz,λb qs e=>?tb⟩ ?ok) (a4 qq J h'.objs.size Uu _ Y (I.hok.fresh hge) (I.hok.fresh hsz) (aJ hlt));case fr=>simp_all
  case th=>
   by_cases z:b=P;.exact z▸⟨_,aq _ c0⟩
   simp_all
  case tu=>grind
  case fz=>grind
  case tb=>
   by_cases z:b=P;.subst z;cases hP▸e;exact⟨#[dB pos.line,dB pos.col,.ref J],by rw[zd<|bE<|eF<|fC (aB a5 hge) hlt,zd<|bE<|eF<|aB a5 hge,zh]⟩
   .exact⟨#[],by rw[Z b z (lt b _ e).1 (lt b _ e).2,e];simp⟩
  case ok=>
   intro b o e;by_cases zf:b=h'.objs.size;.subst zf;rw[zh]at e;cases e;exact G9<|aY _ rfl
   .rw[zd zf]at e;by_cases zc:b=J;.subst zc;rw[zh]at e;cases e;exact AM a6 λc2 oc vs t e1 Zz=>AB Zz λe2 e3=>PJ ⟨c2,oc,vs,t,e1,aq _ e2,e3⟩
    .rw[zd zc]at e;by_cases zp:b=P;.subst zp;rw[zh]at e;cases e;exact aq _ c0
     .rw[zd zp]at e;have a8:∀d u,H d=al u->(∀ps,u≠.tbl ps)->upd (upd (upd H P<|.tbl<|ps++#[dB pos.line,dB pos.col,.ref J]) J<|qM J q) h'.objs.size (vk h'.objs.size<|cY name q params body scope (sf X.env.cells scope.names []) .none .none Uu ((X.mg "__name__").getD .none) aT (.ref J) Y) d=al u:=λd u e nt=>by grind
      refine(I.hok b o e).t8 (λd u hd q=>keep d u ?_ q) (λd q=>a8 d _ q λ_=>by nofun) λd xs q=>a8 d _ q λ_=>by nofun
      lia|some cv=>obtain⟨J,rfl,d2⟩:=a3 cv qq;exact PySem.W.makeFunction_hit (mg:=X.mg) hcl I.ok.glob a2 a0 hC oP ht qq hb λY Uu h' tk hk hsz=>fin (I.laid (t':=tk) (λb o e=>aq _<|hk b o e) hsz<|G9<|aY _ rfl) (d2 h'.objs.size Uu _ Y<|I.hok.fresh hsz)
def yt(H:Hp)(f:Addr)(name c:Str)(b:bH)(body:yL)(scope:Scope)(fr:yH)(d:List V)(a:yB):Prop:=∃e i g h,H f=al (vk f<|cY name c b body scope a .none .none e i aT (.ref g) h)/\H g=al (qM g c)/\Cells a H/\(∀x y c,a.lookup x=al c->a.lookup y=al c->x=y)/\(∀x,scope.names.lookup x=al .free->∃c,a.lookup x=al c)/\J9 a H fr d
def ZX{body:yL}(a:r8 cells N kd W H1 H2)(b:∃h g d J,H1 f=al (vk f<|cY name q params body scope (sf cells scope.names []) .none .none h g aT (.ref d) J)/\H1 d=al (qM d q))(Z:∀x,scope.names.lookup x=al .free->∃c,cells.lookup x=al c)(Y:∀(i:Nat)(x:Str)(v:V),fr[i]?=al x->cap[i]?=al v->scope.names.lookup x=al .free/\(kd x=al .cell\/kd x=al .free)/\∃j:Nat,N[j]?=al x/\W[j]?=al (al v)):yt H2 f name q params body scope fr cap<|sf cells scope.names []:=by
 refine AM b λh g d J i h2=>?_;have f:∀b o,H1 b=al o->H2 b=al o:=λb o e=>(a.ne b λz=>by rw[a.free b z]at e;cases e)▸e;have sub:∀x c,(sf cells scope.names []).lookup x=al c->cells.lookup x=al c:=λx c e=>by rcases clOf_mem (aM e)with z|z;all_goals simp_all
 refine⟨h,g,d,J,f _ _ i,f _ _ h2,λx c e=>a.cells x c<|sub x c e,λx y c b d=>a.inj x y c (sub x c b) (sub y c d),λx k=>?_,λi x v b d=>?_⟩;.exact AF (Z x k) λc e=>Ae c<|qJ e<|aM k
 .exact AO (Y i x v b d) λk kk j b d=>AF (Z x k) λc e=>AL (a.cap j x v c b d kk e) λo u a b d=>Ak c o u (qJ e<|aM k) a b d
def yt.fn{K}(h:yt H f name qual params body scope fr cap J):Cd K H f:=AM h λY a a a Z _=>.inl<|Ae _ Z
end L2
end
noncomputable section
namespace L2
open PySem PySem.Spec PyProof.Rows Builtin
section
variable{P:aG}{w:World}{A:aW}{E:Value->ag->Prop}{s:ag}
def aO7{l:yJ}(J:s.heap.IsTupleIter it t i)(c:s.heap.IsTuple t l)(d:l[i]?=al v)(k:∀h',h'.IsTupleIter it t (i+1)->eD it s.heap h'->Q v {s with heap:=h'}):wpAny (model P w) A (cH<|.ref it) Q E s:=by refine AH (id J) λo b e h=>AH c λp c _ Zz=>AF Zz λn Y=>ai<|dD J.typeIs c9<|dw c9 J.typeIs gj ?_<|f8 _;show wpAny _ _ (field (.ref it) 0>>=_) _ _ _;refine ai<|fj b h rfl ?_;rw[gc<|λz=>nomatch z];refine ai<|fj b h rfl ?_;refine ai<|dA c Y ?_;simp only[d6,d];refine ai<|wpAny_setField b h (by simp) (aH<|Ac v rfl<|aH<|k _ ⟨_,dY _ b<|Obj.isFreed_of_fields<|k9 h _,(Obj.cls_mapFields ..).trans e,by rw[k9 h];simp[dB]⟩<|kN ..)
def aZ0{l:yJ}(c:A.handled=aT)(J:s.heap.IsTupleIter it t i)(d:s.heap.IsTuple t l)(f:l[i]?=aT)(k:∀h' e,mn it s.heap h'->(∃o,h'.get? e=al o/\o.cls=.type "StopIteration")->E (.ref e) {s with heap:=h'}):wpAny (model P w) A (cH<|.ref it) Q E s:=by
 refine AH (id J) λo b e h=>AH d λp d _ Zz=>AF Zz λn Y=>ai<|dD J.typeIs c9<|dw c9 J.typeIs gj ?_<|f8 _;show wpAny _ _ (field (.ref it) 0>>=_) _ _ _;refine ai<|fj b h rfl ?_;rw[gc<|λz=>nomatch z];refine ai<|fj b h rfl ?_;refine ai<|dA d Y ?_;simp only[d6,f];refine ai<|kU<|ai<|wpAny_setField b h (by simp) ?_;refine ai ?_;simp only[newExc];refine ai<|cJ ?_ (by size_fits);refine ai<|wpAny_of_eq (by first|rfl|(simp only[];rfl)) (cJ ?_<|by size_fits);simp only[];refine ai<|wpAny_handled ?_;first|rw[c]|rw[c]
 exact ai<|aH<|wpAny_throw<|k _ _ (((kN ..).extBut.push _).push _) (Ac _ (aY _ rfl) rfl)
end
structure Dw(P:aG)(w:World)(K:ac)(J:It)(it:Addr)(tn:Nat->Heap->Prop):Prop where
 obj:∀i h,tn i h->∃o,h.get? it=al o/\∀v,o.data≠.cell v
 keep:∀i h h',tn i h->(∀o,h.get? it=al o->h'.get? it=al o)->tn i h'
 item:∀(X:Cx),X.prog=P->X.w=w->X.K=K->∀(A:aW)(i:Nat)(pins:yA)(s:ag)(W:St)(H:Hp)(Q:Value->ag->Prop)(E:Value->ag->Prop),Inv X pins W H s->tn i s.heap->J.go i H->(∀x u h' tk,RelV x u->J.yld i H x H->tn (i+1) h'->eD it s.heap h'->Q u {s with heap:=h',toks:=tk})->wpAny (model P w) A (cH<|.ref it) Q E s
 done:∀(X:Cx),X.prog=P->X.w=w->X.K=K->∀(A:aW)(i:Nat)(pins:yA)(s:ag)(W:St)(H:Hp)(Q:Value->ag->Prop)(E:Value->ag->Prop),A.handled=aT->Inv X pins W H s->tn i s.heap->J.stop i H->(∀h' e,mn it s.heap h'->(∃o,h'.get? e=al o/\o.cls=.type "StopIteration")->E (.ref e) {s with heap:=h'})->wpAny (model P w) A (cH<|.ref it) Q E s
def YQ{K}a it:Dw P w K (DJ K a) it<|λi h=>h.IsListIter it a i where
 obj:=λi h st=>AH st λo e c d=>by simp_all
 keep:=λi h h' st k=>st.at k;item:=by intro X b c d A i J s W H Q E I st e k;subst b c d;exact AD e λxs x a f=>AH (I.list a) λits Y p hz=>AE (Y.get f) λu b b=>wpAny_nextOf_list_item st p.isList (by simp_all) λh' Z c=>k x u h' s.toks b ⟨rfl,λb b=>I.vH b a▸f⟩ Z c
 done:=by intro X b c d A i J s W H Q E g I st e k;subst b c d;exact AE e λxs a f=>AH (I.list a) λits Y p hz=>have a:=Y.length;wpAny_nextOf_list_end g st p.isList (by simp;omega) k
def Ua{K}a it:Dw P w K (Fl K a) it<|λi h=>h.IsTupleIter it a i where
 obj:=λi h st=>AH st λo e c d=>by simp_all
 keep:=λi h h' st k=>st.at k;item:=by intro X b c d A i J s W H Q E I st e k;subst b c d;exact AD e λxs x a f=>AH (I.tuple a) λits Y p hz=>AE (Y.get f) λu b c=>aO7 st (p) (by simpa using b) λh' Z b=>k x u h' s.toks c ⟨rfl,λc c=>I.sU c a▸f⟩ Z b
 done:=by intro X b c d A i J s W H Q E g I st e k;subst b c d;exact AE e λxs a f=>AH (I.tuple a) λits Y p hz=>have a:=Y.length;aZ0 g st (p) (by simp;omega) k
def SJ{K}x t it:Dw P w K (DI x) it<|λi h=>h.IsStrIter it (km x) x t i where
 obj:=λi h st=>AH st λo e c d=>by simp_all
 keep:=λi h h' st k=>AE st λo a r=>⟨o,k _ a,r⟩;item:=by
  intro X Z c d A i Y s W H Q E I st e k;subst Z c d;have J:i<x.cps.size:=e;have a:x.cps[i]?=al x.cps[i]:=by simp[]
  unfold km at st k;cases b:x.cps.all (·<128);.rw[b]at st k;exact wpAny_nextOf_wide_item st a λh' c d=>k (.str ⟨#[x.cps[i]]⟩) _ h' (s.toks+1) ⟨_,rfl⟩ ⟨rfl,_,a,rfl⟩ c d
  .rw[b]at st k;exact wpAny_nextOf_ascii_item st a λh' c d=>k (.str ⟨#[x.cps[i]]⟩) _ h' (s.toks+1) ⟨_,rfl⟩ ⟨rfl,_,a,rfl⟩ c d
 done:=by
  intro X Z c d A i Y s W H Q E f I st e k;subst Z c d;have J:x.cps.size<=i:=e;have a:x.cps[i]?=none:=by simp[J]
  unfold km at st;cases b:x.cps.all (·<128);.exact wpAny_nextOf_wide_end f (b▸st) a k
  .exact wpAny_nextOf_ascii_end f (b▸st) a k
section
variable{X:Cx}{pins:yA}{W:St}{H:Hp}{s:ag}{A:aW}{E:Value->ag->Prop}{J1 J2:It}{t1 t2:Nat->Heap->Prop}{z ti to i1 i2:Addr}{n:Nat}{a b:Value}
end
def Mkr(v:Value)(o:Obj)(h:Heap):Prop:=∀P w A E s Q,(∀b u,h.get? b=al u->s.heap.get? b=al u)->Q (.ref s.heap.objs.size) {s with heap:=s.heap.push o}->wpAny (model P w) A (nK v) Q E s
def Sr(K:ac)(H:Hp)(x:V)(J:It):Prop:=(∃a,x=.ref a/\(∃b,qn K H a b)/\J=DJ K a)\/(∃a,x=.ref a/\(∃b,sy K H a b)/\J=Fl K a)\/∃y,x=.str y/\J=DI y
def Sr.mk{W:St}(I:Inv X Uu W H s)(h:Sr X.K H x J)(r:RelV x u):∃(o:Obj)(Y:Addr->Nat->Heap->Prop),o.isFreed=ce/\Mkr u o s.heap/\(∀it,Dw X.prog X.w X.K J it<|Y it)/\∀it h',h'.get? it=al o->Y it 0 h':=by
 rcases h with⟨a,e,⟨c,d⟩,b⟩|⟨a,e,⟨c,d⟩,b⟩|⟨y,e,b⟩;.subst e b;cases r;exact AH (I.list d) λits Z p hz=>Am _ (λit i h=>h.IsListIter it a i) rfl (λP w A E f Q c q=>ft (p.isList.at λo e=>c _ _ e) q) (YQ a) (λit h' e=>⟨_,e,rfl,rfl⟩)
 .subst e b;cases r;exact AH (I.tuple d) λits Z p hz=>Am _ (λit i h=>h.IsTupleIter it a i) rfl (λP w A E f Q c q=>kW (Heap.IsTuple.at (p) λo e=>c _ _ e) q) (Ua a) (λit h' e=>⟨_,e,rfl,rfl⟩)
 .subst e b;obtain⟨t,rfl⟩:=r;exact Am _ (λit i h=>h.IsStrIter it (km y) y t i) rfl (λP w A E f Q c q=>wpAny_pyIter_strU q) (SJ y t) (λit h' e=>⟨_,e,rfl,rfl⟩)
end L2
end
noncomputable section
namespace L2
open PySem PySem.Spec PyProof.Rows Builtin
open AutoSeq1(wpAny_loadPart')
section
variable{X:Cx}{pins:yA}{W:St}{H:Hp}{s:ag}{A:aW}{E:Value->ag->Prop}{J1:It}{t1:Nat->Heap->Prop}{z it:Addr}{n:Nat}{old:Value}
end
end L2
end
noncomputable section
namespace L2
open PySem PySem.Spec PyProof.Rows Builtin
open AutoSeq1(wpAny_loadPart')
end L2
end
noncomputable section
namespace L2
open PySem PySem.Spec PyProof.Rows
def Nf(a:TA):TI:=λW H R=>a W H λvs a=>∃i j,vs=[.int i,.int j,.int 2]/\(0<=i/\i<2^20/\0<=j/\j<2^20)/\R (HD i ((j-i+1)/2).toNat) a
def W4{tg}{p pos}(d:Gl X "range")(e:X.mg "range"=aT)(f:PA X [a,b,c] ta)(g:autoParam (be [a,b,c] X.env=(ce,eval a X.env)::be [b,c] X.env) nz._auto_1)(Z:autoParam (be [b,c] X.env=[(ce,eval b X.env),(ce,eval c X.env)]) nz._auto_1):PI X tg (.Call (.Name "range" p) [a,b,c] [] pos) (Nf ta):=by refineλY s W H R I h=>Call_<|Dm I d e boot_range<|d4 (gg (f pos Y s W H _ I h) λa s1⟨vs,d,f,a,b⟩=>?_) g (by rw[Z];rfl);obtain⟨J,hi,e,⟨b,g,h,i⟩,q⟩:=b;subst e;cases a with|cons r a=>cases a with|cons e a=>cases a with|cons c a=>
    cases a;obtain⟨t,rfl⟩:=r;obtain⟨t',rfl⟩:=e;obtain⟨a,rfl⟩:=c;refine call_range_3 (by decide) ?_;refine kX (nZ ..) (WH b g h i) ?_;have c:Inv X Y W d {s1 with heap:=s1.heap.push {cls:=.type "range",data:=.fields #[.int J t,.int hi t',.int 2 a]},toks:=s1.toks}:=f.kept λb o e=>aq _ e;have nn:0<=ci J hi 2:=by rw[JH];lia
    refine⟨(s1.heap.push {cls:=.type "range",data:=.fields #[.int J t,.int hi t',.int 2 a]}).objs.size,[(s1.heap.push {cls:=.type "range",data:=.fields #[.int J t,.int hi t',.int 2 a]}).objs.size],_,_,d,rfl,c.kept λb o e=>aq _ e,aP4 _ J (ci J hi 2).toNat,?_,λb d=>?_,?_⟩;.rw[(by simp:J+((0:Nat))*2=J),(by lia:(((ci J hi 2).toNat))-((0:Nat))=ci J hi 2)];exact aY _ rfl
    .have e:b=(s1.heap.push {cls:=.type "range",data:=.fields #[.int J t,.int hi t',.int 2 a]}).objs.size:=by simp_all
     exact e▸c.yi (ak _) (c.hok.fresh<|ak _)
    .rw[JH];grind
def Ds(a:eX k A):A.units+2<cLine:=Nat.lt_of_le_of_lt (Nat.add_le_add_left (by decide) _) a.units
section
variable{κ:Type}[DecidableEq κ]
noncomputable def v5(kvs:List<|κ×V)(k:κ):Option V:=(kvs.find? λa=>decide<|a.1=k).map (·.2)
noncomputable def uU(kvs:List<|κ×V)(k:κ)(v:V):List<|κ×V:=if(kvs.any λa=>decide<|a.1=k)=bY then kvs.map (λa=>if a.1=k then(a.1,v)else a)else kvs++[(k,v)]
def Gv{k:κ}(e:p.1=k):v5 (p::r) k=al p.2:=by simp[v5,e]
def Gy{k:κ}(e:¬p.1=k):v5 (p::r) k=v5 r k:=by simp[v5,e]
theorem JN k:∀kvs:List<|κ×V,(kvs.any λh=>decide<|h.1=k)=(v5 kvs k).isSome
 |[]=>rfl|p::r=>by
  rw[hJ];by_cases e:p.1=k;.simp only[Gv e,gv e,Bool.true_or,gB]
  .rw[Gy e,ij e,ny];exact JN k r
def jX kvs(k:κ)v:(uU kvs k v).length<=kvs.length+1:=by
 unfold uU;split;.rw[aw];lia
 .rw[aN,aQ,fe];lia
def vV.se(r:vV o u):o.isSome=u.isSome:=by cases o with
 |none=>cases u with|none=>rfl|some _=>exact(r).elim
 |some _=>cases u with|none=>exact(r).elim|some _=>rfl
theorem vV.getD(r:vV o u)(h:RelV d d'):RelV (o.getD d) (u.getD d'):=by cases o with
 |none=>cases u with|none=>exact h|some _=>exact(r).elim
 |some _=>cases u with|none=>exact(r).elim|some _=>exact r
def KV.val(r:KV kvs vs)(k:κ):vV (v5 kvs k) (kD vs k):=by induction r with|nil=>exact True.intro|@cons p q ps a h t c=>
  obtain⟨J,d⟩:=h;by_cases e:p.1=k
  .have e':=J.symm.trans e;have b:kD (q::a) k=al q.2:=by simp[kD,e']
   rw[Gv e,b];exact d
  .have e':¬q.1=k:=λz=>e<|J.trans z;rw[Gy e,(by simp[kD,e']:kD (q::a) k=kD a k)];exact c
theorem KV.any(r:KV kvs vs)(k:κ):(kvs.any λJ=>decide<|J.1=k)=vs.any λJ=>decide<|J.1=k:=by induction r with|nil=>rfl|cons h t a=>simp_all
def KV.wd(r:KV kvs vs)(k:κ)(Y:RelV y u):KV (kvs.map λJ=>if J.1=k then(J.1,y)else J) (vs.map λJ=>if J.1=k then(J.1,u)else J):=by induction r with|nil=>exact .nil|@cons p q ps a h t a=>
  rw[aS,aS];refine .cons ?_ a;refine AB h λUu Z=>?_;by_cases e:p.1=k;.exact ef e▸ef (Uu.symm.trans e)▸⟨Uu,Y⟩
  .exact gc e▸(gc<|λz=>e<|Uu.trans z)▸⟨Uu,Z⟩
def KV.put(r:KV kvs vs)(k:κ)(h:RelV y u):KV (uU kvs k y) (stored vs k u):=by
 unfold uU stored;rw[r.any k];by_cases e:(vs.any λJ=>decide<|J.1=k)=bY;.rw[ef e,ef e];exact r.wd k h
 .rw[gc e,gc e];exact n9 r<|Ad rfl h
theorem KV.length{vs:List<|κ×Value}(r:KV kvs vs):kvs.length=vs.length:=fO r
end
def DD(r:RelV (kV k) u):(qc P w).is k u=true:=by cases k with|inl i=>exact AF (r) λt e=>e▸aM2 P w i t|inr x=>exact AF (r) λt e=>e▸aO4 P w x t
def Ld{P:aG}{w:World}(h:RelV (fV f) u):FI f u=true:=by cases f with|none=>cases(h);rfl|some k=>exact DD (P:=P) (w:=w) h
theorem Ql:∀{a}{b:yG},Vals (a.map fV) b->ItemsAre (jH P w) a b|[],_,r=>by cases fA▸r;exact .nil|k::a,_,r=>by rw[aS]at r;cases r with|cons h t=>exact .cons (Ld (P:=P) (w:=w) h) (Ql t)
theorem Li(ok:q8 P w H h):∀{b}{c}{d:yG},dz (DH H) b c->Vals c d->dz (uE P w h) b d|_,_,_,.nil,r=>by cases r;exact .nil|_,_,_,.cons (a:=k) q t,r=>by cases r with|cons J a=>refine .cons ?_<|Li ok t a;cases k with|inl f=>cases q;exact Ld (P:=P) (w:=w) J|inr l=>obtain⟨c,rfl,e⟩:=q;cases J;exact AQ (ok c _ e) λ_ a r Zz=>AH Zz λo J Y Zz=>AF Zz λn b=>⟨c,rfl,o,a.toArray,n,J,Y,b,by simpa using Ql r⟩
abbrev KT(H:Hp):List (List NI×V)->List (List NI×Addr×Value)->Prop:=dz λp q=>p.1=q.1/\NK H p.1 q.2.1/\RelV p.2 q.2.2
def KT.val(r:KT H kvs J)k:vV (v5 kvs k) ((atKey J k).map (·.2)):=by induction r with|nil=>exact True.intro|@cons p q ps a h t c=>
  refine AI h λUu _ Y=>?_;by_cases e:p.1=k
  .have e':=Uu.symm.trans e;have b:atKey (q::a) k=al q.2:=by simp[atKey,e']
   rw[Gv e,b];exact Y
  .have e':¬q.1=k:=λz=>e<|Uu.trans z;rw[Gy e,(by simp[atKey,e']:atKey (q::a) k=atKey a k)];exact c
def KT.wd(r:KT H kvs Y)k(ry:RelV y u):KT H (kvs.map λa=>if a.1=k then(a.1,y)else a) (Y.map<|putAt k u):=by induction r with|nil=>exact .nil|@cons p q ps a h t a=>
  rw[aS,aS];refine .cons ?_ a;refine AI h λJ Z a=>?_;unfold putAt;by_cases e:p.1=k;.exact ef e▸ef (J.symm.trans e)▸(Ai J Z ry)
  .exact gc e▸(gc<|λz=>e<|J.trans z)▸(Ai J Z a)
def KT.put(r:KT H kvs h)k(hb:NK H k b)(J:RelV y u):KT H (uU kvs k y) (storedH h k b u):=by
 have e:(kvs.any λa=>decide<|a.1=k)=(atKey h k).isSome:=by rw[JN,(r.val k).se,gR]
 unfold uU storedH;rw[e];by_cases q:(atKey h k).isSome=bY;.rw[ef q,ef q];exact r.wd k J
 .rw[gc q,gc q];exact n9 r<|Ai rfl hb J
def KT.keeps(r:KT H kvs h)(c:∀b a,H b=al (.tp a)->H' b=al (.tp a)):KT H' kvs h:=dz.B0 r λ_ _ z=>Ai z.1 (z.2.1.mono c) z.2.2
section
variable{P:aG}{w:World}{H:Hp}{h:Heap}{a:Addr}
def K7(ok:q8 P w H h)(e:Rd H a u):tQ P w H h a u:=e.ok ok
def EH(ok:q8 P w H h)(e:Rd H a<|.dK kvs):kvs.length<=a9/\(a==dI)=ce/\∃vs,KV kvs vs/\h.DictOf (qc P w) a vs:=K7 ok e
def Lh(ok:q8 P w H h)(e:H a=al (.dK kvs)):kvs.length<=a9/\(a==dI)=ce/\∃vs,KV kvs vs/\h.DictOf (qc P w) a vs:=EH ok<|.inl e
def E7(ok:q8 P w H h)(e:NK H ks a):(E6 P w).is h ks a:=AE e λJ e p=>AQ (ok a _ e) λ_ a r Zz=>AH Zz λo Y b Zz=>AF Zz λn c=>⟨o,a.toArray,n,Y,b,c,by simpa using Li ok p r⟩
def Ey(ok:q8 P w H h)(e:Rd H a<|.dT kvs):kvs.length<=a9/\(a==dI)=ce/\∃J,KT H kvs J/\h.DictOfH (E6 P w) a J:=by
 refine AO (K7 ok e) λz y J r Zz=>AK Zz λo es a Y b c Zz=>AB Zz λZ d=>⟨z,y,J,r,o,es,a,Y,b,c,Z,λx a=>?_,d⟩;have all:∀{l}{m},KT H l m->∀x∈m,(E6 P w).is h x.1 x.2.1:=by intro l m q;induction q with|nil=>simp_all|@cons p q ps a b t c=>
   intro x a;rcases aE.mp a with e|a;.exact e▸E7 ok (b.1▸b.2.1)
   .exact c x a
 exact all r x a
def Rb(ok:q8 P w H h)(e:H a=al (.dT kvs)):kvs.length<=a9/\(a==dI)=ce/\∃J,KT H kvs J/\h.DictOfH (E6 P w) a J:=Ey ok<|.inl e
end
def v7(H:Hp)(a:Addr)(y:V)(r:Option V):Prop:=(∃kvs k,Rd H a (.dK kvs)/\y=kV k/\r=v5 kvs k)\/∃kvs k b,Rd H a (.dT kvs)/\y=.ref b/\NK H k b/\r=v5 kvs k
def Ci(H:Hp)(a:Addr)(y v:V)(H':Hp):Prop:=(∃kvs k,H a=al (.dK kvs)/\y=kV k/\kvs.length<a9/\H'=upd H a (.dK<|uU kvs k v))\/∃kvs k b,H a=al (.dT kvs)/\y=.ref b/\NK H k b/\kvs.length<a9/\H'=upd H a (.dT<|uU kvs k v)
def v7.k{k}(e:H a=al (.dK kvs)):v7 H a (kV k) (v5 kvs k):=.inl<|Ah kvs k (.inl e) rfl rfl
def v7.t{k}(e:H a=al (.dT kvs))(c:NK H k b):v7 H a (.ref b) (v5 kvs k):=.inr<|Ak kvs k b (.inl e) rfl c rfl
def Ci.k{k}(e:H a=al (.dK kvs))(h:kvs.length<a9):Ci H a (kV k) v<|upd H a<|.dK<|uU kvs k v:=.inl<|Am kvs k e rfl h rfl
def Ci.t{k}(e:H a=al (.dT kvs))(c:NK H k b)(h:kvs.length<a9):Ci H a (.ref b) v<|upd H a<|.dT<|uU kvs k v:=.inr<|Av kvs k b e rfl c h rfl
section
variable{X:Cx}{pins:yA}{W:St}{H:Hp}{s:ag}{a:Addr}{y v:V}{u r:Value}{o:Option V}{A:aW}{E:Value->ag->Prop}
def Inv.big(I:Inv X pins W H s):dI<s.heap.objs.size:=have h:=(I.mod.glob.keeps I.bk).lt;fC (by decide) h
def QE(f:A.units+2<cLine)(I:Inv X pins W H s)(g:v7 H a y<|al v)(d:RelV y u)(h:∀w' b,Inv X pins W H b->RelV v w'->Q w' b):wpAny (model X.prog X.w) A (ir (.ref a) u) Q E s:=by
 rcases g with⟨kvs,k,e,Z,l⟩|⟨kvs,k,b,e,Z,g,l⟩;.subst Z;exact AO (EH I.hok e) λz i vs J dd=>AE (vV.some_of<|l▸J.val k) λw' a b=>wpAny_getItem_of (DD d) dd.mapOf a<|h w' _ (I.tok _) b
 .subst Z;cases(d);refine AO (Ey I.hok e) λz i a J dd=>AE (vV.some_of<|l▸J.val k) λw' a b=>AE (a7.mp a) λp a Y=>wpAny_getItem_heap (f) (E7 I.hok g) dd a ?_;exact Y▸h w' _ (I.tok _) b
def K4(c:A.units+2<cLine)(I:Inv X pins W H s)(g:v7 H a y o)(Y:RelV y u)(h:∀b,Inv X pins W H b->Q (.bool o.isSome) b):wpAny (model X.prog X.w) A (cS .In u<|.ref a) Q E s:=by
 rcases g with⟨kvs,k,e,a,l⟩|⟨kvs,k,b,e,a,d,l⟩;.subst a;refine AO (EH I.hok e) λz b vs J dd=>wpAny_in_of (DD Y) b dd.mapOf ?_;exact(J.val k).se▸l▸h _ (I.tok _)
 .subst a;cases(Y);refine AO (Ey I.hok e) λz b Z J dd=>wpAny_in_heap (c) (E7 I.hok d) b dd ?_;have q:=(J.val k).se;rw[gR]at q;exact q▸l▸h _ (I.tok _)
def Mr(c:A.units+2<cLine)(I:Inv X pins W H s)(g:v7 H a y o)(Y:RelV y u)(h:∀b,Inv X pins W H b->Q (.bool<|!o.isSome) b):wpAny (model X.prog X.w) A (cS .NotIn u<|.ref a) Q E s:=by
 rcases g with⟨kvs,k,e,a,l⟩|⟨kvs,k,b,e,a,d,l⟩;.subst a;refine AO (EH I.hok e) λz b vs J dd=>wpAny_notIn_of (DD Y) b dd.mapOf ?_;exact(J.val k).se▸l▸h _ (I.tok _)
 .subst a;cases(Y);refine AO (Ey I.hok e) λz b Z J dd=>wpAny_notIn_heap (c) (E7 I.hok d) b dd ?_;have q:=(J.val k).se;rw[gR]at q;exact q▸l▸h _ (I.tok _)
def Ju(I:Inv X pins W H s)(mu:Fh<|H a)(c:eD a s.heap h')(h:∃q,h'.get? a=al q)(new:tQ X.prog X.w (upd H a ob) h' a ob):Inv X pins W (upd H a ob) {s with heap:=h',toks:=t'}:=I.write mu (.inl rfl) (λb q a z=>(c.2 b a).trans z) h new
def NF(z:kvs.length<=a9)(b:(a==dI)=ce)(h:KV kvs vs)(dd:h'.DictOf (qc P w) a vs):tQ P w H' h' a<|.dK kvs:=⟨z,b,vs,h,dd⟩
def Qr(m:A.units+2<cLine)(I:Inv X pins W H s)(g:Ci H a y v H')(i:RelV y u)(j:RelV v r)(h:∀b,Inv X pins W H' b->Q () b):wpAny (model X.prog X.w) A (setItem (.ref a) u r) Q E s:=by
 rcases g with⟨kvs,k,e,Y,l,c⟩|⟨kvs,k,b,e,Y,g,l,c⟩
 .subst Y c;refine AO (Lh I.hok e) λz d vs J dd=>?_;have hz:vs.length<=a9:=J.length▸z;have Z:(uU kvs k v).length<=a9:=by have:=jX kvs k v;lia
  refine wpAny_setItem_pairs (DD i) dd λh' b f=>h _ ?_;exact Ju I (e▸True.intro) f (let⟨q,_,_,hq,_⟩:=b;(Ae q hq)) (NF Z d (J.put k j) b)
 .subst Y c;cases(i);refine AO (Rb I.hok e) λz d a J dd=>?_;have hz:a.length<=a9:=fO J▸z;have Z:(uU kvs k v).length<=a9:=by have:=jX kvs k v;lia
  refine wpAny_setItem_heap (m) (E7 I.hok g) dd λh' b f=>h _ ?_;refine AK b λq es b hq h2 h Zz=>AI Zz λh4 _ i=>Ju I (e▸True.intro) f (Ae q hq) ⟨Z,d,_,(J.put k g j).keeps λc a a=>?_,q,es,b,hq,h2,h,h4,i⟩;exact(zd<|Rv a e<|λz=>nomatch z)▸a
end
section
variable{X:Cx}{pins:yA}{W:St}{H:Hp}{s:ag}{a:Addr}{kvs:List<|Key×V}{k:Key}{u:Value}{A:aW}{E:Value->ag->Prop}
end
def OI{W:St}(I:Inv X h W H s)(g:v7 H a y o):s.TypeIs (.ref a) "dict":=by
 rcases g with⟨kvs,k,e,_,_⟩|⟨kvs,k,b,e,_,_,_⟩;.exact AO (EH I.hok e) λ_ _ vs _ dd=>dd.typeIs
 .exact AO (Ey I.hok e) λ_ _ J _ dd=>dd.typeIs
section
variable{X:Cx}{o i e value:Expr}{pos pos' tpos:Pos}{td ty tv:TE}
end
def Pm(h:Heap)(a:dI<h.objs.size):tQ P w H (h.push {cls:=.type "dict",data:=.dict #[]}) h.objs.size<|.dK []:=⟨cz _,beq_eq_false_iff_ne.mpr<|bE<|aJ a,[],.nil,Heap.DictOf.new h⟩
def ZL(h:Heap)(a:dI<h.objs.size):tQ P w H (h.push {cls:=.type "dict",data:=.dict #[]}) h.objs.size<|.dT []:=⟨cz _,beq_eq_false_iff_ne.mpr<|bE<|aJ a,[],.nil,_,#[],0,aY _ rfl,⟨rfl,rfl,rfl⟩,rfl,rfl,gC⟩
def N9:TE:=λ_ H Q=>∀p,H p=aT->Q (.ref p) (upd H p<|.dK [])
def Nv:TE:=λ_ H Q=>∀p,H p=aT->Q (.ref p) (upd H p<|.dT [])
section
variable{X:Cx}{pos:Pos}
def VI:PE X (.Dict [] [] pos) N9:=λJ s W H Q I h=>lX ⟨.ref s.heap.objs.size,_,I.laid (λ_ _ q=>aq _ q) (ak _) (Pm s.heap I.big),rfl,h _<|I.hok.fresh<|ak _⟩
def UY:PE X (.Dict [] [] pos) Nv:=λJ s W H Q I h=>lX ⟨.ref s.heap.objs.size,_,I.laid (λ_ _ q=>aq _ q) (ak _) (ZL s.heap I.big),rfl,h _<|I.hok.fresh<|ak _⟩
end
noncomputable def Im:List (TE×TE)->St->Hp->(List (V×V)->Hp->Prop)->Prop|[],_,H,Q=>Q [] H|(tk,a)::r,W,H,Q=>tk W H λx b=>a W b λy H2=>Im r W H2 λps a=>Q ((x,y)::ps) a
abbrev VV:List (V×V)->List (Value×Value)->Prop:=dz λp q=>RelV p.1 q.1/\RelV p.2 q.2
def Hb(X:Cx)(pos:Pos)(keys:List<|Option Expr)(a:yK)(c:List<|TE×TE):Prop:=∀b s(W:St)H Q,Inv X b W H s->Im c W H Q->wpAny (model X.prog X.w) X.A (evalPairs<|pairTrees keys a X.env pos) (λvs a=>∃ps H',Inv X b W H' a/\VV ps vs/\Q ps H') X.xe s
def Yq:Hb X pos [] [] []:=λJ s W H Q I h=>pairTrees_nil_walk<|Ah [] H I .nil h
def ZK(a:PE X k tk)(b:PE X v Z)(c:Hb X pos ks vs Uu):Hb X pos (al k::ks) (v::vs) ((tk,Z)::Uu):=λJ s W H Q I h=>pairTrees_cons_walk<|gg (a J s W H _ I h) λu s1⟨x,a,d,e,f⟩=>gg (b J s1 W a _ d f) λa a⟨y,H2,b,d,f⟩=>gg (c J a W H2 _ b f) λws a⟨ps,a,b,Y,c⟩=>Ah ((x,y)::ps) a b (.cons (Ad e d) Y) c
def Dt(kvs more:List<|Key×V):List<|Key×V:=more.foldl (λa b=>uU a b.1 b.2) kvs
def KV.merge:∀{more}{J}{kvs}{vs},KV more J->KV kvs vs->KV (Dt kvs more) (merged vs J):=by intro more J kvs vs r;induction r generalizing kvs vs with|nil=>exactλq=>q|@cons p q ps a h t a=>intro b;exact a (have:=b.put p.1 h.2;h.1▸this:KV (uU kvs p.1 p.2) (stored vs q.1 q.2))
theorem O4:∀more kvs,(Dt kvs more).length<=kvs.length+more.length|[],kvs=>by show kvs.length<=kvs.length+0;lia|p::r,kvs=>by have h:=O4 r<|uU kvs p.1 p.2;have J:=jX kvs p.1 p.2;show(Dt (uU kvs p.1 p.2) r).length<=_;grind
theorem Ob:∀{kvs}{ws},VV (kvs.map λa=>(kV a.1,a.2)) ws->∃J,Carries (qc P w) ws J/\KV kvs J|[],_,r=>by cases fA▸r;exact Ac [] True.intro .nil|p::kvs,_,r=>by rw[aS]at r;cases r with|@cons a b a bs h t=>obtain⟨J,c,q⟩:=Ob t;obtain⟨a,a⟩:=b;exact Ac ((p.1,a)::J) ⟨DD h.1,rfl,c⟩<|.cons (Ad rfl h.2) q
def Lv(a:List<|TE×TE):TE:=λW H Q=>∀p,H p=aT->Im a W (upd H p<|.dK []) λps H2=>H2 p=al (.dK [])/\∃kvs,ps=kvs.map (λa=>(kV a.1,a.2))/\kvs.length<=15/\Q (.ref p) (upd H2 p<|.dK<|Dt [] kvs)
def X5(h:Hb X pos keys J Uu)(a:keys.all (·.isSome)=bY)(b:keys.length=J.length)(c:keys≠[])(d:keys.length<=15):PE X (.Dict keys J pos) (Lv Uu):=by
 refineλY s W H Q I q=>have e:=I.hok.fresh<|ak s.heap.objs.size;have f:=I.laid (t':=s.toks) (λ_ _ q=>aq _ q) (ak _) (Pm s.heap I.big);wpAny_Dict_walk (knd:=qc X.prog X.w) a b c d<|gg (h Y _ W _ _ f<|q _ e) λws a⟨ps,H2,a,b,e,kvs,c,lk,d⟩=>?_;subst c;obtain⟨f,c,g⟩:=Ob b;refine AO (Lh a.hok e) λz b h h dd=>?_;cases h;refine Ag f c dd<|λh' Z c=>⟨.ref s.heap.objs.size,_,?_,rfl,d⟩;have hz:(Dt [] kvs).length<=a9:=by have d:=O4 kvs [];rw[fe]at d;rw[fU];lia
 exact Ju a (e▸True.intro) c (let⟨q,_,_,hq,_⟩:=Z;(Ae q hq)) (NF hz b (g.merge .nil) Z)
section
variable{X:Cx}{pins:yA}{W:St}{H:Hp}{s:ag}{a:Addr}{y d:V}{u r:Value}{o:Option V}{A:aW}{E:Value->ag->Prop}
end
section
variable{X:Cx}{o e f:Expr}{apos cpos:Pos}{td ty tx:TE}
end
section
variable{P:aG}{w:World}{A:aW}{E:Value->ag->Prop}{s:ag}
end
section
variable{X:Cx}{pins:yA}{W:St}{H:Hp}{s:ag}
end
section
variable{prog:aG}{w:World}{A:aW}{R:lR->ag->Prop}{I:Addr}{fp wr:List Addr}{n:Nat}{P:Nat->Value->Prop}{St:Nat->Heap->Prop}{kw:List<|Str×Value}
end
def QV(h:Heap)(x Cc:Addr):Prop:=∃a,h.get? x=al a/\a.cls=Value.ref Cc
def QV.type(I:QV h x Cc):PySem.W.Looks M h (nN<|Value.ref x) (Value.ref Cc):=AE I λY a J=>J▸nU (on a) om
noncomputable def zL(h:Heap)(l:List Addr):Heap:={h with objs:=h.objs.mapIdx λi o=>if i∈l then{o with data:=.freed}else o}
def zG(a:b∈l):(zL h l).get? b=none:=by unfold Heap.get? zL;simp only[iV];cases e:h.objs[b]? with|none=>rfl|some o=>simp only[bz,ef a]
def jl(a:b∉l):(zL h l).get? b=h.get? b:=by unfold Heap.get? zL;simp_all
def qA:(zL h l).StaysIn h:=λb o e=>by
 by_cases a:b∈l;.rw[zG a]at e;cases e
 .rwa[jl a]at e
def without_none(e:(zL h l).get? b=aT):b∈l\/h.get? b=none:=by
 by_cases a:b∈l;.exact .inl a
 .exact .inr<|jl a▸e
theorem EM{h:Heap}:∀{l},h.FunFrames base l->(∀b∈oj l,J.get? b=aT)->h.FunFrames J l
 |[],_,_=>True.intro|env::l,⟨k,⟨L,o,b,_,c,d⟩,r⟩,a=>by
  have e:oj (env::l)=L::oj l:=by unfold oj;rw[bA,b]
  rw[e]at a;exact⟨k,(Am L o b (a L<|ao ..) c d),EM r λb z=>a b<|ah _ z⟩
def q8.part(x:q8 P w H h)(k:∀b u o,H b=al u->h.get? b=al o->h'.get? b=al o):q8 P w H h':=λa o e=>(x a o e).t8 (λb u a q=>by
  rcases a with rfl|a;.exact k _ _ _ e q
  .exact k _ _ _ a q) (λ_ q=>q) λ_ _ q=>q
def tQ.at_(x:tQ P w H h a o):∃u,h.get? a=al u:=by cases o with|J a=>exact AY x λ_ _ _ _ e=>Ae _ e|tp a=>exact AQ x λ_ _ _ Zz=>AE Zz λob e _=>Ae _ e|dK kvs=>exact AO x λ_ _ _ _ Zz=>AX Zz λo _ _ e _=>Ae _ e|dT kvs=>exact AO x λ_ _ _ _ Zz=>AX Zz λo _ _ e _=>Ae _ e|set S n=>exact AM x λo _ _ _ e _=>Ae _ e|ins Cc a fs=>exact AW x λ_ _ _ e _=>Ae _ e|own y=>exact x|xd fs=>obtain⟨_,⟨_,_,_,e,_⟩,_⟩:=x;exact Ae _ e|Fw a hi=>exact AJ x λ_ _ _ e=>Ae _ e|sj a u=>exact AB x λe _=>Ae _ e|tbl ps=>exact Ae _<|x|met f y=>exact Ae _<|x|ext C=>exact AI x λ_ e _=>e
structure DL(h0:Heap)(H:Hp)(h:Heap)(a Cc:Addr):Prop where
 new:h0.get? a=aT
 free:H a=aT
 at_:∃a0 oe vs T oT ts,h.get? a=al oe/\(oe.cls=.ref Cc/\vs[0]?=al a0)/\oe.data=.fields vs/\vs[1]?=al (.ref T)/\h0.get? T=aT/\H T=aT/\T≠a/\h.get? T=al oT/\oT.data=.fields ts/\ts[3]?=al .none
section
variable{X:Cx}{pins:yA}{W:St}{H:Hp}{s:ag}{a Cc:Addr}{a0:Value}
def Mp(I:Inv X pins W H s)(Z:X.ex=[])(b:∀b∈oj X.stack,b∈bs)(f:∀b∈bs,b∈oj X.stack\/(X.s₀.heap.get? b=aT/\H b=aT))(g:X.s₀.heap.get? a=aT)(i:H a=aT)(J:∀b∈X.fs,b∈oj X.stack)(L:Heap.LeftW (zL s.heap bs) X.stack a (.ref Cc) a0 s.heap h'):Un X.fs [] X.H₀ H X.s₀.heap h'/\q8 X.prog X.w H h'/\DL X.s₀.heap H h' a Cc:=by
 refine AU L λst ff tr sl=>?_;have un:=I.base;rw[Z]at un;have keep:=λb o n e=>st b o (by rw[jl n];exact e);have a:∀b o,b∈oj X.stack->s.heap.get? b=al o->∃sl,h'.get? b=al {o with slots:=sl}:=λb o n e=>AQ (I.stack.mem n) λ_ j c d=>by simp_all
 have out:∀b o,X.s₀.heap.get? b=al o->b∉oj X.stack->b∉bs:=λb o e n z=>by
  rcases f b z with q|⟨q,_⟩;.exact n q
  .cases e▸q
 have d:∀b o,X.s₀.heap.get? b=al o->b∉X.fs->b∉oj X.stack:=λb o e n z=>by
  rcases aE.mp (I.tG b z)with q|q;.subst q;exact iN (aO e) (mY.mpr I.ok.above)
  .exact n q
 refine Ai ⟨λb o e n h c=>?_,λb o e n h c=>?_,un.free,λb o e c=>?_,un.tF,un.frzs,un.tbls⟩ (I.hok.part λb u o e q=>?_) ⟨g,i,?_⟩;.exact keep b o (out b o e<|d b o e h) (un.keep b o e n h c)
 .exact AF (un.slot b o e n h c) λa2 d=>AF (a b _ (J b h) d) λY g=>Ae Y g
 .refine AF (un.there b o e c) λo1 d=>?_;by_cases z:b∈oj X.stack;.exact AF (a b _ z d) λ_ g=>Ae _ g
  .exact Ae _<|keep b o1 (out b o e z) d
 .refine keep b o (λz=>?_) q;rcases f b z with y|⟨_,y⟩;.cases I.tS b y▸e
  .cases y▸e
 .refine AG tr λoe vs T a ts b h2 g Zz=>AV Zz λh4 c h i k l=>?_;have key:X.s₀.heap.get? T=aT/\H T=none:=by
   rcases without_none c with z|z
   .rcases f T z with y|y;.refine AQ (ff.mem y) λ_ j c d=>?_;simp_all
    .exact y
   .refine Ad ?_ ?_;.cases e:X.s₀.heap.get? T with|none=>rfl|some o=>refine AF (un.there T o e<|by simp) λo' c=>?_;cases z▸c
    .cases e:H T with|none=>rfl|some o=>refine AF ((I.hok T o e).at_) λu c=>?_;cases z▸c
  exact⟨a0,oe,vs,T,a,ts,b,h2,g,h4,key.1,key.2,h,i,k,l⟩
def VT{Z:Obj}{vs:yJ}(I:Inv X pins W H s)(a1:X.ex=[])(h:X.stack=X.env::X.outer)(Y:X.env.frame=some X.env.locals)(n0:X.s₀.heap.get? a=none)(nH:H a=none)(h1:s.heap.get? a=some Z)(h2:Z.cls=.ref Cc)(h3:Z.data=.fields vs)(h4:vs[1]?=some .none)(h5:vs[0]?=some a0){Q:Unit->ag->Prop}{E:Value->ag->Prop}(k:∀h',Un X.fs [] X.H₀ H X.s₀.heap h'->q8 X.prog X.w H h'->DL X.s₀.heap H h' a Cc->Q () {s with heap:=h'}):wpAny (model X.prog X.w) X.A (leaving X.env<|.ref a) Q E s:=by
 have a2:s.heap.FunFrames (zL s.heap<|a::oj X.stack) X.stack:=EM I.stack λb hb=>zG<|ah _ hb;have J:∀b∈X.fs,b∈oj X.stack:=λb hb=>by rw[h];unfold oj;rw[bA,Y];exact ah _ hb
 have Uu:=I.ok.frames;rw[h]at Uu;refine wpAny_leaving_firstW (base:=zL s.heap<|a::oj X.stack) Uu (by rw[<-h];exact a2) Y h1 qA (zG<|ao ..) h3 h4 h5 λh' L=>?_;rw[h2,<-h]at L;exact H5 (Mp I a1 (λb hb=>ah _ hb) (λb hb=>by
  rcases aE.mp hb with q|q;.subst q;exact .inr ⟨n0,nH⟩
  .exact .inl q) n0 nH J L) λu H4=>H5 H4 λo f=>k h' u o f
def aX3(I:Inv X pins W H s)(e:X.ex=[])(h:X.stack=X.env::X.outer)(Y:X.env.frame=al X.env.locals)(F:DL X.s₀.heap H s.heap a Cc)(k:∀h',Un X.fs [] X.H₀ H X.s₀.heap h'->q8 X.prog X.w H h'->DL X.s₀.heap H h' a Cc->Q () {s with heap:=h'}):wpAny (model X.prog X.w) X.A (leaving X.env<|.ref a) Q E s:=by
 obtain⟨c,d,b,f,vs,T,g,ts,i,h2,j,l,m,n,o,p,q,Z⟩:=F;have r:s.heap.FunFrames (zL s.heap<|a::T::oj X.stack) X.stack:=EM I.stack λb a=>zG<|ah _<|ah _ a;have a:=I.ok.frames;rw[h]at a;refine wpAny_leaving_nextW a (h▸r) Y ⟨f,vs,T,g,ts,i,h2,j,l,zG<|by simp,o,p,q,Z⟩ qA (zG<|ao ..) λh' L=>?_;rw[<-h]at L;exact AI (Mp I e (λb a=>ah _<|ah _ a) (λb a=>by
  rcases aE.mp a with q|q;.exact q▸.inr (Ad c d)
  .rcases aE.mp q with q|q;.exact q▸.inr (Ad m n)
   .exact .inl q) c d (λb a=>by rw[h];unfold oj;rw[bA,Y];exact ah _ a) L) λu o f=>k h' u o f
end
def u3(P:aG)(w:World):BW:=λb H s E e c=>∃a Cc H',e=.ref a/\c.os=s.os/\gh c.gens/\Un (oj b) [] H H' s.heap c.heap/\q8 P w H' c.heap/\DL s.heap H' c.heap a Cc/\E e (al Cc) H'
def u3.inv{W:St}(I:Inv X J W H s)(Y:X.ex=[])(h:u3 X.prog X.w X.stack H s E e s'):∃a Cc H',e=.ref a/\Inv X J W H' s'/\DL X.s₀.heap H' s'.heap a Cc/\E e (al Cc) H':=by
 obtain⟨a,Cc,H',rfl,f,c,un,hok,F,q⟩:=h;have d:∀b,s.heap.get? b=aT->X.s₀.heap.get? b=none:=λb z=>by cases e:X.s₀.heap.get? b with|none=>rfl|some o=>obtain⟨g,g⟩:=I.base.there b o e (by simp_all);lia
 obtain⟨e,g,h,i,vs,T,j,ts,Z,h2,k,l,m,n,o⟩:=F;exact Ak a Cc H' rfl (I.wH f un hok c<|λb z=>iN z<|by simp) ⟨d _ e,g,h,i,vs,T,j,ts,Z,h2,k,l,d _ m,n,o⟩ q
section
variable{P:aG}{w:World}{K:ac}{mg:yC}{base:Heap}{N:yH}{qual:Str}{scope:Scope}{f:Addr}{cd:Value}{A:aW}{outer:List Env}{s0:ag}{H0:Hp}{E:XK}
def RU:qz (u3 P w) (u6 (u3 P w) P w K mg base N qual scope f cd A outer s0 H0 E) E:=by intro a W H s e a I h;obtain⟨a,Cc,H',rfl,J,F,q⟩:=u3.inv I rfl h;exact aX3 J rfl rfl rfl F λh' u o F'=>⟨a,Cc,H',rfl,J.os,J.bare,u,o,F',q⟩
def DE(X:Cx)(E:XK):Prop:=∀b(W:St)H s h' a Cc(c:yG),Inv X b W H s->Heap.MadeExcOf s.heap h' a (.ref Cc) c->E (.ref a) (al Cc) H->X.xe (.ref a) {s with heap:=h'}
def RM:DE (u6 (u3 P w) P w K mg base N qual scope f cd A outer s0 H0 E) E:=by
 refineλh W H s h' a Cc b I M q=>have J:=I.kept (t':=s.toks) M.keeps;AE M.there λt b _=>VT J rfl rfl rfl ?_ ?_ b rfl rfl rfl rfl λY u o F=>⟨a,Cc,H,rfl,J.os,J.bare,u,o,F,q⟩;.show s0.heap.get? a=aT;cases e:s0.heap.get? a with|none=>rfl|some o=>refine AF (I.base.there a o e<|by show a∉([]);simp) λZ b=>?_;cases M.new▸b
 .cases e:H a with|none=>rfl|some o=>refine AF ((I.hok a o e).at_) λu b=>?_;cases M.new▸b
end
def B7{p:Prop}(h:ce=bY):p:=lY h
noncomputable def uC:List Value:=[.type "ValueError",.type "Exception",.type "BaseException",.type "object"]
noncomputable def Fz(K:ac)(N:Addr):Bool:=match K.lookup N with|some ⟨_,_,.dict es _,_⟩=>(es.all λe=>match e.key with|.str _ _=>true|_=>false)&&m8.all λn=>(nsFind es n).isNone|_=>false
def IK(K:ac):List Value->Bool|.ref A::tl=>(match K.lookup A with|some ⟨_,_,.cls a,_⟩=>Fz K a.ns|_=>ce)&&IK K tl|l=>l==uC
def HR(K:ac)(Cc:Addr):Bool:=match K.lookup Cc with|some ⟨c,_,.cls cd,⟨[_,_,_,_,b,_]⟩⟩=>c==.type "type"&&(!cd.hasDel&&(Fz K cd.ns&&((match cd.mro with|m::tl=>m==.ref Cc&&IK K tl|[]=>ce)&&b==al (.builtin "ValueError.__new__"))))|_=>ce
def NC{K:ac}{N:Addr}(h:Fz K N=true):∃J:Str->Option Value,(∀n∈m8,J n=none)/\∀h:Heap,K.In h->h.Ns N J:=by unfold Fz at h;cases e:K.lookup N with|none=>rw[e]at h;exact B7 h|some o=>rw[e]at h;obtain⟨c,d,Uu,sl⟩:=o;cases Uu with
  |dict es ep=>
   have h:=(af _ _).mp h;refine⟨nsFind es,λn hn=>?_,λY hK=>⟨_,es,ep,hK _ _ e,rfl,λx hx=>?_,λ_=>rfl⟩⟩;.have:=aK.mp h.2 n hn;exact Option.isNone_iff_eq_none.mp this
   .have:=Array.all_eq_true'.mp h.1 x hx;cases q:x.key with|str _ _=>exact⟨_,_,rfl⟩|_=>rw[q]at this;exact B7 this
  |_=>exact B7 h
theorem Px{K}:∀{l:yG},IK K l=bY->∀h:Heap,K.In h->OwnTailQ h uC l|[],h,b,a=>by cases iF h|v::tl,h,b,a=>by cases v with
  |ref A=>obtain⟨J,f⟩:=(af _ _).mp h;cases e:K.lookup A with|none=>simp_all|some o=>rw[e]at J;obtain⟨c,d,Y,sl⟩:=o;cases Y with|cls c=>exact AE (NC J) λZ q n=>.own (a _ _ e) (n b a) q<|Px f b a|_=>exact B7 J
  |type n=>cases iF h;exact .base|_=>cases iF h
structure sT(K:ac)(Cc:Addr):Prop where obj:∃bm N nm q bs hdct sn sub ab col dd k0 k1 k2 k3 k5 mN,K.lookup Cc=al (excClassObj nm q Cc N bs bm hdct sn sub ab col dd k0 k1 k2 k3 k5 "ValueError.__new__")/\(∀n∈m8,mN n=aT)/\∀h:Heap,K.In h->h.Ns N mN/\OwnTailQ h uC bm
def XT{K}(h:HR K Cc=bY):sT K Cc:=by unfold HR at h;cases e:K.lookup Cc with|none=>simp_all|some o=>rw[e]at h;obtain⟨c,dd,a,⟨sl⟩⟩:=o;cases a with
  |cls a=>
   rcases sl with _|⟨k0,_|⟨k1,_|⟨k2,_|⟨k3,_|⟨b,_|⟨k5,_|⟨b,sl⟩⟩⟩⟩⟩⟩⟩;case cons.cons.cons.cons.cons.cons.nil=>obtain⟨nm,bs,b,N,q,hdct,sn,sub,ab,col,Z⟩:=a;refine AB ((af _ _).mp h) λh1 h=>AB ((af _ _).mp h) λY h=>AB ((af _ _).mp h) λh3 h=>AB ((af _ _).mp h) λJ a=>?_;cases b with|nil=>exact B7 J|cons m tl=>obtain⟨J,c⟩:=(af _ _).mp J;have b:=iF h1;have d:=iF a;have e4:=iF J;subst b d e4;have Y:=(fG _).mp Y;subst Y;exact AE (NC h3) λmN a n=>⟨tl,N,nm,q,bs,hdct,sn,sub,ab,col,dd,k0,k1,k2,k3,k5,mN,e,a,λa b=>⟨n a b,Px c a b⟩⟩
   all_goals exact B7 h|_=>exact B7 h
noncomputable def yj(K:ac)(Cc:Addr):Bool:=bQ K (.ref Cc) (b8 "__getattribute__")==al (al<|.builtin "BaseException.__getattribute__")&&(bQ K (.ref Cc) (b8 "__getattr__")==al aT&&(bQ K (.ref Cc) (b8 "__class__")==al (al<|.builtin "object.__class__")&&(lw K (.builtin "object.__class__") (b8 "__get__")==al (al<|.builtin "getset_descriptor.__get__")&&(mw K (.builtin "object.__class__")==al bY&&nu K Cc (.type "object")==al bY))))
section
variable{X:Cx}{E:XK}{Cc:Addr}{x:Str}
def UZ(T:DE X E)(b:sT X.K Cc)(d:Gl X x)(f:X.mg x=al (.ref Cc))(g:X.A.handled=aT)(i:(x==("__debug__":Str))=ce):PS X (.Raise (al<|.Call (.Name x np) [.Constant (.str y) j p] [] J) aT pos) (λD W H=>∀a,E (.ref a) (al Cc) H):=by refineλh s W H D I q=>AJ b.obj λbm N nm Zz=>AJ Zz λq' bs hdct Zz=>AJ Zz λsn sub ab Zz=>AJ Zz λcol dd k0 Zz=>AJ Zz λk1 k2 k3 Zz=>AL Zz λk5 a e a c=>have Y:=c _ I.sx;wpAny_Raise_call_subT (nm:=nm) (q:=q') (C:=Cc) (N:=N) (bs:=bs) (hdct:=hdct) (sn:=sn) (sub:=sub) (ab:=ab) (col:=col) (dd:=dd) (k0:=k0) (k1:=k1) (k2:=k2) (k3:=k3) (k5:=k5) ko (OwnTail.hasType Y.2.tail ko.hasBase) g rfl (a _<|ao ..) ?_;refine gg (Js (v:=.ref Cc) d f rfl i h s W H (λv a=>v=.ref Cc/\a=H) I ⟨rfl,rfl⟩) λu s1⟨v,a,I1,r,d,f⟩=>?_;subst d f;refine⟨r,kg ?_⟩;have d:PA X [.Constant (.str y) j p]<|yu (tC<|.str y) wR:=zK Nh wN;refine gg (d J h s1 W a (λvs H2=>vs.length=1/\H2=a) I1 ⟨rfl,rfl⟩) λd f⟨vs,H2,b,a,g,Z⟩=>?_;subst Z;have i:d.length=1:=a.length▸g;exact⟨rfl,by rw[i];decide,b.sx _ _ e,(c _ b.sx).1,(c _ b.sx).2.tail,λh' a M=>T h W H2 f h' a Cc d b M<|q a⟩
end
structure Tr(X:Cx)(pins:yA)(W:St)(H:Hp)(s:ag)(a Cc:Addr)(fl:Value):Prop where
 inv:Inv X pins W H s
 n0:X.s₀.heap.get? a=aT
 nH:H a=aT
 np:∀p∈X.pn++pins,p.1≠a
 tr:∃a0 oe vs T oT ts,s.heap.get? a=al oe/\(oe.cls=.ref Cc/\vs[0]?=al a0)/\oe.data=.fields vs/\vs[1]?=al (.ref T)/\X.s₀.heap.get? T=aT/\H T=aT/\(∀p∈X.pn++pins,p.1≠T)/\T≠a/\s.heap.get? T=al oT/\oT.data=.fields ts/\ts[3]?=al fl
section
variable{X:Cx}{pins:yA}{W:St}{H:Hp}{s:ag}{a Cc T:Addr}{fl fl' a0:Value}{h':Heap}
def Tr.Bl(h:X.stack=X.env::X.outer)(J:X.env.frame=al X.env.locals):∀b∈X.fs,b∈oj X.stack:=λb a=>by rw[h];unfold oj;rw[bA,J];exact ah _ a
def Tr.moved(t:Tr X pins W H s a Cc fl)(i:X.ex=[])(d:X.stack=X.env::X.outer)(e:X.env.frame=al X.env.locals){ts:yJ}(Y:X.s₀.heap.get? T=aT)(k:H T=aT)(l:∀p∈X.pn++pins,p.1≠T)(b:s.heap.get? T=al oT)(b:oT.data=.fields ts)(st:(zL s.heap<|a::T::oj X.stack).StaysIn h')(ff:h'.FunFrames (zL s.heap<|a::T::oj X.stack) X.stack)(tr:h'.TracedAtW (zL s.heap<|a::T::oj X.stack) a (.ref Cc) a0 fl')(sl:∀b o,s.heap.get? b=al o->(∀vs,o.data≠.fields vs)->∃sl,h'.get? b=al {o with slots:=sl}):Tr X pins W H {s with heap:=h'} a Cc fl':=by
 have I:=t.inv;have un:=I.base;rw[i]at un;have r:=Tr.Bl d e;refine AJ t.tr λb0 b vs Zz=>AK Zz λ_ _ _ b _ b _=>?_;have w:∀b,b∈a::T::oj X.stack->b=a\/b=T\/b∈oj X.stack:=λb b=>by simp_all
 have keep:=λb o d f g e=>st b o<|by rw[jl λz=>(w b z).elim d λz=>z.elim f g];exact e
 have f:∀b o,b∈oj X.stack->s.heap.get? b=al o->∃sl,h'.get? b=al {o with slots:=sl}:=λb o n e=>AQ (I.stack.mem n) λ_ A j d=>by simp_all
 have v:∀b o,X.s₀.heap.get? b=al o->b∉X.fs->b∉oj X.stack:=λb o e n z=>by
  rcases aE.mp (I.tG b z)with q|q;.subst q;exact iN (aO e) (mY.mpr I.ok.above)
  .exact n q
 have h:∀b o,X.s₀.heap.get? b=al o->b≠a/\b≠T:=λb o e=>Ad (λz=>(by rw[z,t.n0]at e;cases e)) (λz=>(by rw[z,Y]at e;cases e));have j:=sl;have y:Inv X pins W H {s with heap:=h'}:=by
  refine⟨I.ok,I.os,I.bare,?_,?_,λx c e=>?_,I.free,I.freeC,λp g=>?_,I.hok.part λb u o e q=>?_,I.len⟩
  .rw[i];refine⟨λb o e n Z d=>?_,λb o e n Z d=>?_,un.free,λb o e d=>?_,un.tF,un.frzs,un.tbls⟩;.exact keep b o (h b o e).1 (h b o e).2 (v b o e Z) (un.keep b o e n Z d)
   .exact AF (un.slot b o e n Z d) λc1 c=>AF (f b _ (r b Z) c) λUu a=>Ae Uu a
   .refine AF (un.there b o e d) λo1 c=>?_;by_cases z:b∈oj X.stack;.exact AF (f b _ z c) λ_ a=>Ae _ a
    .exact Ae _<|keep b o1 (h b o e).1 (h b o e).2 z c
  .obtain⟨m,⟨o,es,ep,ho,hd,hr⟩,hl⟩:=I.loc;refine AF (j _ o ho<|λvs z=>by lia) λc1 c=>Ac m ⟨_,es,ep,c,hd,hr⟩<|λi x v f h2 h=>AE (hl i x v f h2 h) λu r lk=>Ac u r ?_;rcases lk with z|⟨i,c,m,f,h,d⟩;.exact .inl z
   .exact AF (j c f h<|λvs z=>by rw[d]at z;cases z) λUu a=>.inr ⟨i,c,m,_,a,d⟩
  .exact AD (I.cell x c e) λv f h d=>AF (j c f h<|λvs z=>by rw[d]at z;cases z) λUu a=>⟨v,_,a,d⟩
  .refine AW (I.pin p g) λq1 d a c f=>⟨keep _ _ (t.np p g) (l p g) (λz=>?_) q1,d,a,c,f⟩;rcases aE.mp (I.tG _ z)with q|q;.exact a q
   .exact c q
  .refine keep b o (λz=>?_) (λz=>?_) (λz=>?_) q;.rw[z,t.nH]at e;cases e
   .rw[z,k]at e;cases e
   .cases I.tS b z▸e
 refine⟨y,t.n0,t.nH,t.np,AG tr λb4 b J c i f h2 h Zz=>AV Zz λh4 d a m n q=>?_⟩;have key:X.s₀.heap.get? J=aT/\H J=aT/\∀p∈X.pn++pins,p.1≠J:=by
  rcases without_none d with z|z
  .rcases w J z with y|y|y;.exact iN y a
   .exact y▸(Ai Y k l)
   .refine AQ (ff.mem y) λ_ A j d=>?_;simp_all
  .refine Ai ?_ ?_<|λp g y=>?_;.cases e:X.s₀.heap.get? J with|none=>rfl|some o=>refine AF (un.there J o e<|by simp) λo' j=>?_;lia
   .cases e:H J with|none=>rfl|some o=>refine AF ((I.hok J o e).at_) λu j=>?_;cases z▸j
   .have:=(I.pin p g).1;lia
 exact⟨a0,b4,b,J,c,i,f,h2,h,h4,key.1,key.2.1,key.2.2,a,m,n,q⟩
def Tr.D5(t:Tr X pins W H s a Cc .none)(e:X.ex=[])(h:X.stack=X.env::X.outer)(c:X.env.frame=al X.env.locals)(k:∀h' b,Tr X pins W H {s with heap:=h'} a Cc b->Q () {s with heap:=h'}):wpAny (model X.prog X.w) X.A (lU (.ref a) X.env) Q E s:=by have I:=t.inv;refine AJ t.tr λa0 f vs Zz=>AK Zz λT g ts i h2 j Zz=>AV Zz λh4 l m Z n Zz=>AI Zz λh8 d Y=>?_;have J:=I.ok.frames;rw[h]at J;refine wpAny_noteFrame_onW J (by rw[<-h];exact(EM I.stack λb a=>zG<|ah _<|ah _ a:s.heap.FunFrames (zL s.heap<|a::T::oj X.stack) X.stack)) c ⟨f,vs,T,g,ts,i,h2,j,h4,zG<|by simp,n,h8,d,Y⟩ qA (zG<|ao ..) λh' L=>?_;rw[<-h]at L;exact AU L λst ff tr sl=>k h' _<|t.moved e h c l m Z h8 d st ff tr sl
def Tr.down(t:Tr X pins W H s a Cc fl)(Z:X.ex=[])(J:X.stack=X.env::X.outer)(Y:X.env.frame=al X.env.locals)(k:∀h',Tr X pins W H {s with heap:=h'} a Cc .none->Q () {s with heap:=h'}):wpAny (model X.prog X.w) A (nG (.ref a) aT) Q E s:=have I:=t.inv;AJ t.tr λa0 d vs Zz=>AK Zz λT e ts f h2 g Zz=>AV Zz λh4 i j l m Zz=>AI Zz λh8 c h=>have n:s.heap.FunFrames (zL s.heap<|a::T::oj X.stack) X.stack:=EM I.stack λb a=>zG<|ah _<|ah _ a;wpAny_setFlight_noneW qA n ⟨d,vs,T,e,ts,f,h2,g,h4,zG<|by simp,m,h8,c,h⟩ λh' st ff tr sl=>k h'<|t.moved Z J Y i j l h8 c st ff tr.at λb o e d=>Ae o.slots<|sl b o e d
def u3.tr(I:Inv X pins W H s)(Y:X.ex=[])(h:u3 X.prog X.w X.stack H s E e s'):∃a Cc H',e=.ref a/\Tr X pins W H' s' a Cc .none/\E e (al Cc) H':=by
 have b:=h;obtain⟨a,Cc,H',rfl,g,c,un,hok,F,q⟩:=h;refine AK (u3.inv I Y b) λa' b b e J G b=>?_;have d:∀b,s.heap.get? b=aT->X.s₀.heap.get? b=none:=λb z=>by cases e:X.s₀.heap.get? b with|none=>rfl|some o=>obtain⟨f,f⟩:=I.base.there b o e (by simp_all);lia
 have e:∀b,s.heap.get? b=aT->∀p∈X.pn++pins,p.1≠b:=λb z p b y=>by have:=(I.pin p b).1;lia
 obtain⟨f,h,i,j,vs,T,k,ts,l,h2,m,n,Z,o,p⟩:=F;exact Aq a Cc H' rfl ⟨I.wH g un hok c<|λb z=>iN z<|by simp,d _ f,h,e _ f,i,j,vs,T,k,ts,l,h2,m,n,d _ Z,o,e _ Z,p⟩ q
end
noncomputable abbrev Cx.wA(X:Cx)(a:Addr)(b:Obj):Cx:={X with A:=X.A.mark<|al<|.ref a,calm:=ce,pn:=(a,b)::X.pn,xe:=λ_ _=>False}
section
variable{X:Cx}{pins:yA}{W:St}{H:Hp}{s:ag}{a Cc:Addr}{oe:Obj}{fl:Value}
theorem Cx.Ok.wA(ok:X.Ok)(a:Addr)(h:Obj):(X.wA a h).Ok:=⟨ok.mod,ok.kind,ok.glob,ok.blt,ok.above,ok.inj,ok.has,ok.cab,(λz=>by cases z),ok.frames,ok.Bl,ok.exf,ok.bs,ok.bsz,ok.noex,ok.exfs,ok.sJ,ok.frf⟩
def Inv.apart(I:Inv X pins W H s){vs:yJ}(e:s.heap.get? b=al o)(d:o.data=.fields vs):b≠X.env.locals/\b∉X.fs/\∀v,o.data≠.cell v:=by
 refine⟨λz=>?_,λz=>?_,λv z=>by lia⟩;.obtain⟨m,⟨h,es,ep,ho,hd,_⟩,_⟩:=I.loc;lia
 .refine AQ (I.sJ.mem z) λ_ h a a=>?_;simp_all
theorem Inv.wA{vs:yJ}(I:Inv X pins W H s)(e:s.heap.get? a=al oe)(n:H a=aT)(d:oe.data=.fields vs):Inv (X.wA a oe) pins W H s:=⟨I.ok.wA a oe,I.os,I.bare,I.base,I.loc,I.cell,I.free,I.freeC,λp h=>by
  rcases aE.mp h with z|z;.exact z▸⟨e,n,I.apart e d⟩
  .exact I.pin p z,I.hok,I.len⟩
def Inv.Bj(ok:X.Ok)(I:Inv (X.wA a oe) pins W H s):Inv X pins W H s:=⟨ok,I.os,I.bare,I.base,I.loc,I.cell,I.free,I.freeC,λp h=>I.pin p<|ah _ h,I.hok,I.len⟩
def Tr.own(t:Tr X pins W H s a Cc fl):∃h vs,s.heap.get? a=al h/\h.cls=.ref Cc/\h.data=.fields vs:=AJ t.tr λa0 h vs Zz=>AK Zz λT Y ts a J b _=>Ah h vs a J.1 b
def Tr.again(t:Tr X pins W H s a Cc fl){Q:V->Hp->Prop}(g:∀h,PE (X.wA a h) e<|tC v)(k:∀u b,RelV v u->Tr X pins W H b a Cc fl->R u b):wpAny (model X.prog X.w) (X.A.mark<|al<|.ref a) (eval e X.env) R E s:=by
 refine AJ t.tr λa0 h vs Zz=>AK Zz λT Y ts b h2 d Zz=>AV Zz λh4 i e j l Zz=>AI Zz λh8 f Z=>?_;have I:=t.inv;have J:Inv (X.wA a h) ((T,Y)::pins) W H s:=(I.wA b t.nH d).uB λp c=>by
  rcases aE.mp c with z|z;.exact z▸⟨h8,e,I.apart h8 f⟩
  .exact I.pin p<|aR _ z
 refine bD (g h ((T,Y)::pins) s W H (λw H1=>w=v/\H1=H) J ⟨rfl,rfl⟩) (λu s1⟨w,H1,b,r,c,e2⟩=>?_) (λ_ _ z=>bh z);subst c e2;refine k u s1 r ⟨(b.uB λp c=>b.pin p<|aR _<|ah _ c).Bj I.ok,t.n0,t.nH,t.np,a0,h,vs,T,Y,ts,(b.pin (a,h)<|ao ..).1,h2,d,h4,i,e,j,l,(b.pin (T,Y)<|aR _<|ao ..).1,f,Z⟩
end
section
variable{prog:aG}{w:World}{A:aW}{R:lR->ag->Prop}{I:Addr}{fp wr:List Addr}{n:Nat}{P:Nat->Value->Prop}{St:Nat->Heap->Prop}{h₀:Heap}
end
section
variable{X:Cx}{pins:yA}{W:St}{H:Hp}{s:ag}{a Cc:Addr}{oe:Obj}{fl:Value}
def WR{h:yL}{rest}{D}(t:Tr X pins W H s a Cc .none)(Y:X.ex=[])(J:X.stack=X.env::X.outer)(c:X.env.frame=al X.env.locals)(e:sT X.K Cc)(f:Gl X x)(d:X.mg x=al (.ref Cc))(g:(x==("__debug__":Str))=ce)(i:∀b,b.cls=.ref Cc->sR (X.wA a b) (b₀::h) th)(j:th {nx:=λ_ _=>False,rt:=D.rt} W H):wpAny (model X.prog X.w) X.A (lU (.ref a) X.env) (λ_ b=>wpAny (model X.prog X.w) X.A (nG (.ref a) aT) (λ_ k=>wpAny (model X.prog X.w) X.A (handleBy (.ref a) X.env<|.ExceptHandler (al<|.Name x np) aT (b₀::h) pos::rest) (SP X pins D) X.xe k) X.xe b) X.xe s:=by refine AJ e.obj λbm N nm Zz=>AJ Zz λq bs hdct Zz=>AJ Zz λsn sub ab Zz=>AJ Zz λcol dd k0 Zz=>AJ Zz λk1 k2 k3 Zz=>AL Zz λk5 h e k l=>t.D5 Y J c λh2 b b=>b.down Y J c λb b=>handleBy_own (bmB:=uC) (newId:="ValueError.__new__") (mg:=X.mg) (x:=x) (C:=Cc) rfl ?_;refine b.again (Q:=λ_ _=>True) (v:=.ref Cc) (λb=>Js (X:=X.wA a b) f d rfl g) λu s4 r b=>have f:=l _ b.inv.sx;AL b.own λa1 g g l m=>Au r ⟨d,bm,N,nm,q,bs,hdct,sn,sub,ab,col,dd,k0,k1,k2,k3,k5,h,b.inv.sx _ _ e,f.1,k,f.2⟩ (Ac a1 g l) (b.down Y J c λc b=>AL b.own λZ b1 d e f=>have g:Inv (X.wA a Z) pins W H {s4 with heap:=c}:=b.inv.wA d b.nH f;bD (i Z e pins _ _ H {nx:=λ_ _=>False,rt:=D.rt} g j) (λf a z=>?_) (λ_ _ z=>bh z));cases f with|next=>refine AD z λ_ _ _ z=>?_;simp_all|brk=>refine AD z λ_ _ _ z=>?_;simp_all|cont=>refine AD z λ_ _ _ z=>?_;simp_all|ret a=>exact AR z λv8 a c d e f=>⟨v8,a,c,d.Bj b.inv.ok,e,f⟩
end
theorem PG.nox(h:PG X.nox e t):PG X e t:=λJ s W H v u Q I r a=>bD (h J s W H v u Q (I.sC _) r a) (λ_ _⟨a,H',b,q⟩=>Af a H' b.la q) λ_ _ z=>bh z
theorem PI.nox(h:PI X.nox tg e t):PI X tg e t:=λa s W H R I b=>bD (h a s W H R (I.sC _) b) (λ_ _ z=>bD z (λ_ _ z=>AG z λit a b J H2 e c T Zz=>AI Zz λY Z q=>⟨it,a,b,J,H2,e,c.la,T,Y,Z,q⟩) λ_ _ z=>bh z) λ_ _ z=>bh z
section
variable{X:Cx}{pins:yA}{W:St}{H:Hp}{s:ag}{a Cc D':Addr}{oe:Obj}{fl:Value}
end
section
open PySem.AutoSeq1(wpAny_loadPart')
open PySem.MeetsSeq PySem.MeetsSeq2 PySem.MeetsSeq3 PySem.SeqAt
end
section
variable{A:aW}{s:ag}
end
section
variable{prog:aG}{w:World}{A:aW}{E:Value->ag->Prop}{s:ag}{x y:Str}{t u:Tok}
end
section
variable{X:Cx}{a:Addr}{oe:Obj}
end
def KV.get:∀{l}{m}{i:Nat}{k:κ}{v},KV l m->l[i]?=al (k,v)->∃u,m[i]?=al (k,u)/\RelV v u:=by intro l m i k v r;induction r generalizing i with|nil=>intro e;simp at e|cons h t a=>intro e;cases i with|zero=>cases(az e);exact Ac _ (congrArg al<|hZ h.1.symm rfl) h.2|succ i=>exact a<|by simpa using e
section
variable{X:Cx}{pins:yA}{W:St}{H:Hp}{s:ag}
end
def Jk(a:Addr)(o:Obj)(kvs:List<|Key×V):It:=⟨λi H=>H a=al (.sj o<|.dK kvs)/\i<kvs.length,λi H x H'=>H'=H/\∃k v,kvs[i]?=al (k,v)/\x=kV k,λi H=>H a=al (.sj o<|.dK kvs)/\kvs.length<=i⟩
section
variable{X:Cx}{tg:Expr}
def Rq(tl:TE):TI:=λW H R=>tl W H λx b=>∃a kvs,x=.ref a/\b a=al (.dK kvs)/\∀o,R (Jk a o kvs) (upd b a<|.sj o<|.dK kvs)
end
end L2
end
noncomputable section
namespace L2
open PySem PyProof.Rows
noncomputable def kk(p:Keyed):Int:=numOf p.1
section
variable{prog:aG}{w:World}{A:aW}{E:Value->ag->Prop}{s:ag}
end
end L2
end
noncomputable section
namespace L2
open PySem PyProof.Rows
abbrev wW(κ:Keyed->Int)(l:List Keyed):Prop:=l.Pairwise λx y=>κ x<=κ y
def Mg(κ:Keyed->Int)(A B out:List Keyed)(i j:Nat):Prop:=out.Perm (A.take i++B.take j)/\wW κ out/\(∀x∈out,∀y∈A.drop i,κ x<=κ y)/\∀x∈out,∀y∈B.drop j,κ x<=κ y
section
variable{κ:Keyed->Int}{A B out:List Keyed}{i j k:Nat}
def Mg.add(h:Mg κ A B out i j)(a:wW κ A)k(hk:∀x∈(A.drop i).take k,∀y∈B.drop j,κ x<=κ y):Mg κ A B (out++(A.drop i).take k) (i+k) j:=by
 refine AU h λp s c d=>?_;have e:A.drop i=(A.drop i).take k++A.drop (i+k):=by rw[<-List.drop_drop,iW]
 have J:wW κ<|A.drop i:=a.sublist<|lH _ _;rw[e]at J;refine AI (kq.mp J) λs1 _ f=>⟨?_,kq.mpr ⟨s,s1,λx hx y b=>c x hx y<|et b⟩,λx hx y b=>?_,λx hx y b=>?_⟩;.rw[List.take_add,bf];refine(p.append_right _).trans ?_;rw[bf];exact List.Perm.append_left _ List.perm_append_comm
 .exact(aU.mp hx).elim (λhx=>c x hx y<|by rw[e];exact aR _ b) λhx=>f x hx y b
 .exact(aU.mp hx).elim (λhx=>d x hx y b) λhx=>hk x hx y b
def Mg.fin(h:Mg κ A B out i j)(hi:A.length<=i)(a:B.length<=j):out.Perm (A++B)/\wW κ out:=AI h λp s _=>Ad (cM hi▸cM a▸p) s
def Pt(s:wW κ A)(h:A[i]?=al x):∀y∈A.drop i,κ x<=κ y:=by
 have e:A.drop i=x::A.drop (i+1):=by obtain⟨a,e⟩:=ae.mp h;rw[cO a,e]
 have J:wW κ<|A.drop i:=s.sublist<|lH _ _;simp_all
def Pl(h:A[i]?=al x):(A.drop i).take 1=[x]:=by obtain⟨J,e⟩:=ae.mp h;rw[cO J,e];rfl
def Mg.one(h:Mg κ A B out i j)(Y:wW κ A)(b:wW κ B)(a:A[i]?=al x)(c:B[j]?=al y)(J:κ x<=κ y):Mg κ A B (out++[x]) (i+1) j:=by
 have:=h.add Y 1 λz hz u d=>by rw[Pl a]at hz;cases aI.mp hz;exact fF J<|Pt b c u d
 rwa[Pl a]at this
def Mg.more(h:Mg κ A B out i j)(a:wW κ A)(J:wW κ B)(b:B[j]?=al y)(c:∀x∈(A.drop i).take k,κ x<=κ y):Mg κ A B (out++(A.drop i).take k) (i+k) j:=h.add a k λz hz u a=>fF (c z hz) (Pt J b u a)
end
section
variable{prog:aG}{w:World}{A:aW}{E:Value->ag->Prop}{s:ag}
def Sm(st a:lZ):Prop:=arrOf a=arrOf st/\nI a=nI st/\eO a=eO st/\failedOf a=failedOf st
def Sm.refl st:Sm st st:=⟨rfl,rfl,rfl,rfl⟩
theorem Sm.trans(h:Sm a b)(g:Sm b c):Sm a c:=⟨g.1.trans h.1,g.2.1.trans h.2.1,g.2.2.1.trans h.2.2.1,g.2.2.2.trans h.2.2.2⟩
section
variable{a b:Array Keyed}(sa:wW kk a.toList)(sb:wW kk b.toList)(hl:∀x∈b.toList,∀i,i+1=a.size->∀y∈a.toList.drop i,kk x<=kk y)
include sa sb
end
def tl{a:Array Keyed}{i:Nat}(h:a[i]?=al p):a.toList[i]?=al p:=iX▸h
end
end L2
end
noncomputable section
namespace L2
open PySem PyProof.Rows
section
variable{a b:Array Keyed}
variable(sa:wW kk a.toList)(sb:wW kk b.toList)(hf:∀x∈a.toList,∀y,b[0]?=al y->kk y<=kk x)
include sa sb
end
section
variable{prog:aG}{w:World}{A:aW}{E:Value->ag->Prop}{s:ag}
end
end L2
end
noncomputable section
namespace L2
open PySem PyProof.Rows
section
variable{prog:aG}{w:World}{A:aW}{E:Value->ag->Prop}{s:ag}
end
end L2
end
noncomputable section
namespace L2
open PySem PyProof.Rows
structure SB(P:Array<|Nat×Nat×Nat)(a₀:Array Keyed)(lo:Nat)(st:lZ):Prop where
 perm:(arrOf st).Perm a₀
 kind:eO st=oneType'
 failed:failedOf st=aT
 pend:nI st=P
 pre:∀i,i<lo->(arrOf st)[i]?=a₀[i]?
section
variable{prog:aG}{w:World}{A:aW}{E:Value->ag->Prop}{s:ag}{P:Array<|Nat×Nat×Nat}{a₀:Array Keyed}{lo:Nat}
theorem SB.size{st}(h:SB P a₀ lo st):(arrOf st).size=a₀.size:=h.perm.size_eq
def SB.lt{st}(a:SB P a₀ lo st)(b:IntKeys a₀)(hi:i<a₀.size)(c:j<a₀.size)(h:Q (al<|decide<|K (arrOf st) i<K (arrOf st) j) st):wpS (model prog w) A E s (ltAt' i j) Q st:=by
 have at_:∀i,i<a₀.size->∃t q,(arrOf st)[i]?=al (.int (K (arrOf st) i) t,q):=λi hi=>by have J:i<(arrOf st).size:=a.size▸hi;refine AZ (b _<|(Array.perm_iff_toList_perm.mp a.perm).mem_iff.mp<|aA<|tl<|gD J) λn t d=>Ay t (arrOf st)[i].2 ?_;have b:(arrOf st)[i]=(.int n t,(arrOf st)[i].2):=hZ d rfl;rw[gD J,K_eq J,b];rfl
 exact AZ (at_ i hi) λt p d=>AZ (at_ j c) λu q b=>wpS_ltAt a.kind d b h
end
end L2
end
noncomputable section
namespace L2
open PySem PyProof.Rows
section
variable{prog:aG}{w:World}{A:aW}{E:Value->ag->Prop}{s:ag}{P:Array<|Nat×Nat×Nat}{a₀:Array Keyed}{lo:Nat}
end
end L2
end
noncomputable section
namespace L2
open PySem PyProof.Rows
section
variable{prog:aG}{w:World}{A:aW}{E:Value->ag->Prop}{s:ag}{a₀:Array Keyed}
end
end L2
end
noncomputable section
namespace L2
open PySem PyProof.Rows
section
variable{prog:aG}{w:World}{A:aW}{E:Value->ag->Prop}{s:ag}
end
end L2
end
noncomputable section
namespace L2
open PySem PySem.Spec PyProof.Rows
section
variable{X:Cx}{o e f:Expr}{apos cpos:Pos}{td ty tx:TE}
end
end L2
end
noncomputable section
namespace DV
set_option genInjectivity true in inductive D where|N|T(b:Bool)|int(i:Int)|str(x:List Nat)|tp(l:List D)|ref(n:Nat)|fn(f:String)|sk(f:String)(cs:List D)
noncomputable abbrev D.ctorIdx(x:D):Nat:=D.casesOn x 0 (λ_=>1) (λ_=>2) (λ_=>3) (λ_=>4) (λ_=>5) (λ_=>6) (λ_ _=>7)
noncomputable instance:DecidableEq D:=λa b=>bU<|a=b
noncomputable instance(x:D):Decidable<|x=.N:=match x with|.N=>.isTrue rfl|.T _=>.isFalse nofun|.int _=>.isFalse nofun|.str _=>.isFalse nofun|.tp _=>.isFalse nofun|.ref _=>.isFalse nofun|.fn _=>.isFalse nofun|.sk _ _=>.isFalse nofun
inductive O where|J(l:List D)|ro(l:List D)|dc(l:List<|D×D)|ins(c:String)(fs:List<|D×D)|su(l:List<|D×D)|r7(l:List<|D×D)
noncomputable abbrev O.ctorIdx(x:O):Nat:=O.casesOn x (λ_=>0) (λ_=>1) (λ_=>2) (λ_ _=>3) (λ_=>4) (λ_=>5)
noncomputable instance:DecidableEq O:=λa b=>bU<|a=b
abbrev cn:=List O
noncomputable def O.kd:O->Nat|.J _=>0|.ro _=>1|.dc _=>2|.ins _ _=>3|.su _=>4|.r7 _=>2
set_option genInjectivity true in inductive R(α:Type)where|ok(a:α)(s:cn)|exc(e:D)(s:cn)|B
noncomputable abbrev R.ctorIdx{α:Type}(x:R α):Nat:=R.casesOn x (λ_ _=>0) (λ_ _=>1) 2
noncomputable abbrev M α:=cn->R α
noncomputable def R.bind(r:R α)(f:α->cn->R β):R β:=match r with|.ok a s=>f a s|.exc e s=>.exc e s|.B=>.B
@[simp]theorem R.ax a s(f:α->cn->R β):(R.ok a s).bind f=f a s:=rfl
@[simp]theorem R.EE(f:α->cn->R β):(R.B).bind f=.B:=rfl
@[simp]theorem R.ED e s(f:α->cn->R β):(R.exc e s).bind f=.exc e s:=rfl
def R.yo{r:R α}{b:β}(h:r.bind f=.ok b t):∃a s,r=.ok a s/\f a s=.ok b t:=by cases r with|ok a s=>exact Af a s rfl h|exc e s=>cases h|B=>cases h
@[simp]theorem R.bind_assoc(r:R α)f(g:β->cn->R γ):(r.bind f).bind g=r.bind λa s=>(f a s).bind g:=by cases r<;>rfl
mutual noncomputable def D.eu(n:Nat):D->Bool|.tp l=>D.n7 n l|.ref k=>decide<|k<n|.sk _ l=>D.n7 n l|_=>bY noncomputable def D.n7(n:Nat):List D->Bool|[]=>bY|d::l=>D.eu n d&&D.n7 n l end
def O.eu(n:Nat):O->Bool|.J l=>D.n7 n l|.ro l=>D.n7 n l|.dc l=>D.n7 n (l.map (·.1))&&D.n7 n (l.map (·.2))|.ins _ l=>D.n7 n (l.map (·.1))&&D.n7 n (l.map (·.2))|.r7 l=>D.n7 n (l.map (·.1))&&D.n7 n (l.map (·.2))|.su l=>D.n7 n (l.map (·.1))&&D.n7 n (l.map (·.2))
mutual noncomputable def D.plain:D->Bool|.N=>bY|.int _=>bY|.str _=>bY|.tp l=>D.xY l|_=>ce noncomputable def D.xY:List D->Bool|[]=>bY|d::l=>D.plain d&&D.xY l end
mutual noncomputable def D.eU:D->Bool|.tp l=>D.lj l|.sk _ _=>ce|_=>bY noncomputable def D.lj:List D->Bool|[]=>bY|d::l=>D.eU d&&D.lj l end
def O.eU:O->Bool|.J l=>D.lj l|.ro l=>D.lj l|.dc l=>D.lj (l.map (·.2))|.su l=>D.lj (l.map (·.2))|.r7 l=>D.lj (l.map (·.2))|.ins _ l=>D.lj (l.map (·.2))
noncomputable def D.key:D->Bool|.int _=>bY|.str _=>bY|_=>ce
noncomputable def D.Ej:List D->Bool|.int _::_=>bY|.N::_=>bY|.tp _::_=>bY|_=>ce
noncomputable def D.vh:D->Bool|.int _=>bY|.N=>bY|.str x=>decide<|x.length<=1000|_=>ce
def D.xa:D->Bool|.tp l=>D.Ej l&&(l.all D.vh&&decide (l.length<=1000))|d=>D.vh d
def D.tI:D->Bool|.tp l=>D.Ej l&&(l.all D.xa&&decide (l.length<=1000))|_=>ce
noncomputable def ky:Nat:=1000000
@[irreducible]noncomputable def Kb:Nat:=2^60000
@[irreducible]noncomputable def Bg:Nat:=2^4096
set_option genCtorIdx true in inductive Ka where|add|sub|mul|fdiv|mod|pow|shl|shr|band|bor deriving DecidableEq
set_option genCtorIdx true in inductive Hg where|eq|ne|lt|le|gt|ge|isin|pb deriving DecidableEq
set_option genCtorIdx true in inductive Cn where|N|T(b:Bool)|int(i:Int)|str(x:List Nat)deriving DecidableEq
noncomputable def Cn.d:Cn->D|.N=>.N|.T b=>.T b|.int i=>.int i|.str x=>.str x
set_option genCtorIdx true in inductive Bi where|len|abs|int|str|min2|max2|vf|Q3|isInt|isBool|isStr|isTup|isList|ord deriving DecidableEq
set_option genCtorIdx true in inductive Mk where|tuple|list|all|any|sum|min|max|sorted|B4 deriving DecidableEq
set_option genCtorIdx true in inductive Mt where|append|partition deriving DecidableEq
set_option genCtorIdx true in inductive Tg where|Y(i:Nat)|tp(is:List Nat)deriving DecidableEq
mutual inductive E where|X(i:Nat)|K(c:Cn)|gl(x:String)|G(op:Ka)(a b:E)|not(a:E)|Z(op:Hg)(a b:E)|chain(o p:Hg)(a b c:E)|yg(a:E)|vd(a:E)|and(a b:E)|or(a b:E)|ite(c a b:E)|tp(es:Es)|J(es:Es)|dc(ks vs:Es)|ym|ix(a b:E)|yN(a hi:E)|call(f:String)(as:As)|callC(f:String)(as:As)|tX(i:Nat)(es:Es)|bi(b:Bi)(es:Es)|mk(k:Mk)(l:L)|xE(k:Mk)(l:L)(d:E)|me(m:Mt)(o:E)(es:Es)|attr(o:E)(f:List Nat)|new(c:String)(as:As)|cq(o:E)(m:String)(as:As)inductive Es where|nil|cons(e:E)(es:Es)inductive As where|nil|ex(e:E)(as:As)|lam(id:String)(caps:List Nat)(as:As)|fn(f:String)(as:As)inductive I where|seq(e:E)|rg(a:E)|w3(a b:E)(c:Int)|keys(e:E)inductive L where|comp(tg:Tg)(it:I)(e:E)(caps:yD)|ub(tg:Tg)(it:I)(c e:E)(caps:yD)|yl(es:Es)|seq(e:E)|wF(tg:Tg)(e b:E)(caps:yD)end
noncomputable abbrev E.ctorIdx(x:E):Nat:=E.casesOn x (λ_=>0) (λ_=>1) (λ_=>2) (λ_ _ _=>3) (λ_=>4) (λ_ _ _=>5) (λ_ _ _ _ _=>6) (λ_=>7) (λ_=>8) (λ_ _=>9) (λ_ _=>10) (λ_ _ _=>11) (λ_=>12) (λ_=>13) (λ_ _=>14) 15 (λ_ _=>16) (λ_ _=>17) (λ_ _=>18) (λ_ _=>19) (λ_ _=>20) (λ_ _=>21) (λ_ _=>22) (λ_ _ _=>23) (λ_ _ _=>24) (λ_ _=>25) (λ_ _=>26) (λ_ _ _=>27)
noncomputable abbrev As.ctorIdx(x:As):Nat:=As.casesOn x 0 (λ_ _=>1) (λ_ _ _=>2) (λ_ _=>3)
noncomputable abbrev I.ctorIdx(x:I):Nat:=I.casesOn x (λ_=>0) (λ_=>1) (λ_ _ _=>2) (λ_=>3)
mutual inductive S where|A(tg:Tg)(e:E)|ll(o i e:E)|aug(i:Nat)(e:E)|ex(e:E)|ret(e:E)|uo|ite(c:E)(a b:Ss)|u5(c:E)(b:Ss)|fo(tg:Tg)(it:I)(b:Ss)|cont|raise|BX(i:Nat)|wc(o:E)(f:List Nat)(e:E)inductive Ss where|nil|cons(s:S)(ss:Ss)end
noncomputable abbrev S.ctorIdx(x:S):Nat:=S.casesOn x (λ_ _=>0) (λ_ _ _=>1) (λ_ _=>2) (λ_=>3) (λ_=>4) 5 (λ_ _ _=>6) (λ_ _=>7) (λ_ _ _=>8) 9 10 (λ_=>11) (λ_ _ _=>12)
noncomputable abbrev Ss.ctorIdx(x:Ss):Nat:=Ss.casesOn x 0<|λ_ _=>1
abbrev Env:=List<|Option D
noncomputable def yv(o:O):M D:=λs=>.ok (.ref s.length) (s++[o])
noncomputable def w4(d:D):M D:=λs=>.ok d s
noncomputable def bad:M α:=λ_=>.B
def pE(a b:Int):Bool:=decide (a.natAbs<2^64)||decide (b.natAbs<2^64)||(decide (a.natAbs<Kb)&&decide (b.natAbs<Kb))
noncomputable def rep:Nat->List Nat->List Nat|0,_=>[]|n+1,a=>a++rep n a
def xj:Ka->D->D->M D
 |.add,.int a,.int b=>w4<|.int<|a+b|.add,.str a,.str b=>if a.length+b.length<=ky then w4<|.str (a++b)else bad|.add,.ref a,.ref b=>λs=>match s[a]?,s[b]? with|some<|.J l,al<|.J m=>if l.length+m.length<=ky then yv (.J<|l++m) s else .B|_,_=>.B
 |.sub,.int a,.int b=>w4<|.int<|a-b|.mul,.int a,.int b=>if pE a b then w4<|.int (a*b)else bad|.fdiv,.int a,.int b=>if 0<b/\b<(Bg)then w4<|.int (a/b)else bad|.mod,.int a,.int b=>if 0<b then w4<|.int (a%b)else bad|.pow,.int a,.int b=>if 0<=b/\b<=1000000/\a.natAbs<2^64 then w4<|.int (a^b.toNat)else bad|.bor,.int a,.int b=>if 0<=a/\0<=b then w4<|.int ((a.toNat|||b.toNat))else bad|_,_,_=>bad
noncomputable def kd(s:cn):D->Nat
 |.N=>0|.T _=>1|.int _=>1|.str _=>2|.tp _=>3|.ref r=>match s[r]? with|some<|.J _=>4|_=>9
 |_=>9
noncomputable def Qk(a b:Nat):Bool:=a==9||b==9||a==b
noncomputable def b2i(b:Bool):Int:=if b then 1 else 0
def L6:D->D->Option Bool|.N,.N=>al bY|.T a,.T b=>al<|a==b|.int a,.int b=>al<|a==b|.T a,.int b=>al<|b2i a==b|.int a,.T b=>al<|a==b2i b|.str a,.str b=>al<|a==b|_,_=>aT
def Ji(s:cn)(a b:D):Option Bool:=match L6 a b with|some z=>al z|none=>if Qk (kd s a) (kd s b)then aT else al ce
noncomputable def yR(f:D->D->Option Bool):List D->List D->Option Bool|[],[]=>al bY|[],_::_=>al ce|_::_,[]=>al ce|a::l,b::m=>match f a b,yR f l m with|some x,al y=>al<|x&&y|_,_=>aT
def eqv(s:cn):Nat->D->D->Option Bool|0,a,b=>Ji s a b|n+1,a,b=>match a,b with
  |.tp l,.tp m=>yR (eqv s n) l m|.ref x,.ref y=>match s[x]?,s[y]? with|some<|.J l,some<|.J m=>if l.length=m.length then yR (eqv s n) l m else some false|_,_=>none
  |a,b=>Ji s a b
noncomputable def tO:Nat:=30
def Hx(a b:D):M D:=λs=>match eqv s tO a b with|some r=>.ok (.T r) s|none=>.B
def C8(s:cn)(x:D):List D->Option Bool|[]=>al ce|y::l=>match eqv s tO y x,C8 s x l with|some a,al b=>al<|a||b|_,_=>aT
noncomputable def look(k:D):List (D×D)->Option D|[]=>aT|(a,v)::l=>if a=k then al v else look k l
def xH(a b:D):M Bool:=λs=>match b with
 |.tp l=>match C8 s a l with|some r=>.ok r s|none=>.B
 |.ref r=>match s[r]? with
  |some<|.J l=>match C8 s a l with|some r=>.ok r s|none=>.B
  |some<|.dc l=>if a.key then .ok (look a l).isSome s else .B|some<|.su l=>if a.tI then .ok (look a l).isSome s else .B|_=>.B
 |_=>.B
noncomputable def Gj:D->Option (Int×List Nat)|.tp [.int i,.str x]=>al (i,x)|_=>aT
def K3(f:Int->List Nat->Int->List Nat->Bool)(a b:D):M D:=λs=>match Gj a,Gj b with|some (i,x),al (j,y)=>.ok (.T<|f i x j y) s|_,_=>.B
def qv:Hg->D->D->M D
 |.eq,a,b=>Hx a b|.ne,a,b=>λs=>match eqv s tO a b with|some r=>.ok (.T<|!r) s|none=>.B
 |.lt,.int a,.int b=>w4<|.T<|decide<|a<b|.le,.int a,.int b=>w4<|.T<|decide<|a<=b|.gt,.int a,.int b=>w4<|.T<|decide<|b<a|.ge,.int a,.int b=>w4<|.T<|decide<|b<=a|.isin,a,b=>λs=>(xH a b s).bind λr s=>.ok (.T r) s|.pb,a,b=>λs=>(xH a b s).bind λr s=>.ok (.T<|!r) s|_,_,_=>bad
noncomputable def xF(n:Nat)(i:Int):Option Nat:=if 0<=i then(if i<n then al i.toNat else aT)else if-(n)<=i then al (i+n).toNat else aT
noncomputable def DZ(n:Nat)(i:Int):Nat:=if 0<=i then min i.toNat n else(i+n).toNat
def Ea(n:Nat):Option Int->Nat|none=>0|some i=>DZ n i
def FH(n:Nat):Option Int->Nat|none=>n|some i=>DZ n i
def BO{α:Type}(l:List α)(a hi:Option Int):List α:=(l.drop<|Ea l.length a).take<|FH l.length hi-Ea l.length a
def rW(a b:D):M D:=λs=>match a,b with
 |.tp l,.int i=>match(xF l.length i).bind λj=>l[j]? with|some d=>.ok d s|none=>.B
 |.str l,.int i=>match(xF l.length i).bind λj=>l[j]? with|some c=>.ok (.str [c]) s|none=>.B
 |.ref r,b=>match s[r]? with
  |some<|.J l=>match b with
   |.int i=>match(xF l.length i).bind λj=>l[j]? with|some d=>.ok d s|none=>.B
   |_=>.B
  |some<|.ro l=>match b with
   |.int i=>match(xF l.length i).bind λj=>l[j]? with|some d=>.ok d s|none=>.B
   |_=>.B
  |some<|.dc l=>if b.key then match look b l with|some d=>.ok d s|none=>.B else .B|some<|.su l=>if b.tI then match look b l with|some d=>.ok d s|none=>.B else .B|_=>.B
 |_,_=>.B
def Bm(a:D)(b hi:Option Int):M D:=λs=>match a with
 |.tp l=>.ok (.tp<|BO l b hi) s|.str l=>.ok (.str<|BO l b hi) s|.ref r=>match s[r]? with|some<|.J l=>yv (.J<|BO l b hi) s|_=>.B
 |_=>.B
noncomputable def Fd:List D->Option (List Bool)|[]=>al []|.T b::l=>(Fd l).map (b::·)|_=>aT
noncomputable def qy:List D->Option (List Int)|[]=>al []|.int i::l=>(qy l).map (i::·)|_=>aT
noncomputable def Oz:List D->Option (List<|List Nat)|[]=>al []|.str i::l=>(Oz l).map (i::·)|_=>aT
noncomputable def Ce(d:D):M D:=λs=>match d with
 |.tp l=>.ok (.int l.length) s|.str l=>.ok (.int l.length) s|.ref r=>match s[r]? with|some<|.J l=>.ok (.int l.length) s|some<|.ro l=>.ok (.int l.length) s|_=>.B
 |_=>.B
noncomputable def xG(k:Nat)(d:D):M D:=λs=>match d with
 |.N=>.ok (.T ce) s|.T _=>.ok (.T<|k==1||k==2) s|.int _=>.ok (.T<|k==1) s|.str _=>.ok (.T<|k==3) s|.tp _=>.ok (.T<|k==4) s|.ref r=>match s[r]? with|some<|.J _=>.ok (.T<|k==5) s|_=>.B
 |_=>.B
def Cb(f:D->M D):List D->M D|[d]=>f d|_=>bad
def IP:List D->M D|[.str [c]]=>λs=>if 48<=c/\c<=57 then .ok (.int<|(c-48:Nat)) s else .B|_=>bad
def IL:List D->M D|[.int i]=>λs=>if 0<=i/\i<=9 then .ok (.str [48+i.toNat]) s else .B|[.str w]=>λs=>.ok (.str w) s|_=>bad
def bi:Bi->List D->M D
 |.len,l=>Cb Ce l|.abs,l=>λs=>match qy l with|some [i]=>.ok (.int<|if i<0 then-i else i) s|_=>.B
 |.int,l=>λs=>match Fd l with|some [b]=>.ok (.int<|if b then 1 else 0) s|some _=>.B|none=>IP l s
 |.str,l=>IL l|.min2,l=>λs=>match qy l with|some [a,b]=>.ok (.int<|if b<a then b else a) s|_=>.B
 |.max2,l=>λs=>match qy l with|some [a,b]=>.ok (.int<|if b>a then b else a) s|_=>.B
 |.vf,l=>λs=>match qy l with|some [a,b,c]=>.ok (.int<|max (max a b) c) s|_=>.B
 |.isInt,l=>Cb (xG 1) l|.isBool,l=>Cb (xG 2) l|.isStr,l=>Cb (xG 3) l|.isTup,l=>Cb (xG 4) l|.isList,l=>Cb (xG 5) l|_,_=>bad
noncomputable def tH:List Int->Option Int|[]=>aT|a::l=>al<|l.foldl min a
noncomputable def KW:List Int->Option Int|[]=>aT|a::l=>al<|l.foldl max a
noncomputable def ins(a:Int):List Int->List Int|[]=>[a]|b::l=>if a<=b then a::b::l else b::ins a l
def M9:List Int->List Int|[]=>[]|a::l=>ins a<|M9 l
noncomputable def Uy(a:List Int):Bool:=a.all (λi=>decide<|-1000000000<=i/\i<=1000000000)&&decide (a.length<=1000000)
def mk:Mk->List D->M D
 |.tuple,l=>λs=>.ok (.tp l) s|.list,l=>yv<|.J l|.all,l=>λs=>match Fd l with|some bs=>.ok (.T<|bs.all id) s|none=>.B
 |.any,l=>λs=>match Fd l with|some bs=>.ok (.T<|bs.any id) s|none=>.B
 |.sum,l=>λs=>match qy l with|some a=>if Uy a then .ok (.int a.sum) s else .B|none=>.B
 |.min,l=>λs=>match(qy l).bind tH with|some m=>.ok (.int m) s|none=>.B
 |.max,l=>λs=>match(qy l).bind KW with|some m=>.ok (.int m) s|none=>.B
 |.sorted,l=>λs=>match qy l with|some a=>yv (.J<|(M9 a).map D.int) s|none=>.B
 |.B4,l=>bad
def xE(k:Mk)(l:List D)(d:D):M D:=λs=>match k with
 |.min=>match qy l with|some a=>(match tH a with|some m=>.ok (.int m) s|none=>.ok d s)|none=>.B
 |.max=>match qy l with|some a=>(match KW a with|some m=>.ok (.int m) s|none=>.ok d s)|none=>.B
 |_=>.B
def Ab(k v:D)(l:List<|D×D):List<|D×D:=if(look k l).isSome then l.map (λp=>if p.1=k then(p.1,v)else p)else l++[(k,v)]
def ll(o i v:D):cn->R Unit:=λs=>match o with
 |.ref r=>match s[r]? with
  |some<|.J l=>match i with
   |.int i=>match xF l.length i with|some j=>.ok ()<|s.set r<|.J<|l.set j v|none=>.B
   |_=>.B
  |some<|.dc l=>if i.key&&decide (l.length<ky)then .ok ()<|s.set r<|.dc (Ab i v l)else .B|some<|.su l=>if i.tI&&decide (l.length<ky)then .ok ()<|s.set r<|.su (Ab i v l)else .B|_=>.B
 |_=>.B
def uJ:Mt->D->List D->M D
 |.append,.ref r,[d]=>λs=>match s[r]? with|some<|.J l=>if l.length<ky then .ok .N<|s.set r<|.J<|l++[d]else .B|_=>.B
 |_,_,_=>bad
structure uQ where
 call:String->List D->M D
 lam:String->List D->List D->M D
 con:String->Option D
 xcall:String->List D->cn->Option (String×cn)xc:String->Bool
 xt:String->Bool
 cdc:String->Option (List<|List Nat×List Nat)kd:String->Bool
 cq:String->String->List D->M D
 new:String->List D->M D
 att:String->List Nat->Bool
 xm:String->String->List D->cn->Option (String×cn)
noncomputable def xT(U:Env)(i:Nat):M D:=λs=>match U[i]? with|some<|al d=>.ok d s|_=>.B
noncomputable def EV(U:Env):List Nat->Option (List D)|[]=>al []|i::a=>match U[i]?,EV U a with|some<|al d,al l=>al<|d::l|_,_=>aT
noncomputable def zP(U:Env)(a:yD):Env:=a.map λo=>match o with|none=>aT|some j=>(U[j]?).join
noncomputable def xM(U:Env)(i:Nat)(d:D):Option Env:=if i<U.length then al<|U.set i (al d)else aT
noncomputable def Cz(U:Env)(i:Nat):Option Env:=if i<U.length then al (U.set i aT)else aT
def Cv(U:Env):List Nat->List D->Option Env|[],[]=>al U|i::a,d::l=>(xM U i d).bind λU=>Cv U a l|_,_=>aT
def jB(U:Env):Tg->D->Option Env|.Y i,d=>xM U i d|.tp a,.tp l=>Cv U a l|_,_=>aT
structure Sq where
 its:List D
 src:List Nat
noncomputable def uD(d:D):M Sq:=λs=>match d with
 |.tp l=>.ok ⟨l,[]⟩ s|.str l=>.ok ⟨l.map λc=>.str [c],[]⟩ s|.ref r=>match s[r]? with|some<|.J l=>.ok ⟨l,[r]⟩ s|some<|.ro l=>.ok ⟨l,[]⟩ s|_=>.B
 |_=>.B
noncomputable def Iq(d:D):M Sq:=λs=>match d with
 |.ref r=>match s[r]? with|some<|.dc l=>if l.all (λp=>p.1.vh)then .ok ⟨l.map (·.1),[r]⟩<|s.set r (.r7 l)else .B|_=>.B
 |_=>.B
noncomputable def RB(s:cn)(a:List Nat):Bool:=a.all λr=>match s[r]? with|some<|.r7 _=>ce|_=>bY
noncomputable def RW(b:List Nat)(a:α):cn->R α:=λs=>match b with
 |[r]=>match s[r]? with|some<|.r7 l=>.ok a<|s.set r<|.dc l|_=>.B
 |_=>.B
def UJ(l m:List<|D×D):List<|D×D:=m.foldl (λa p=>Ab p.1 p.2 a) l
def z9(f:List Nat)(x:D):M D:=λs=>match x with
 |.ref r=>match s[r]? with
  |some<|.ins _ fs=>match look (.str f) fs with|some d=>.ok d s|none=>.B
  |_=>.B
 |_=>.B
noncomputable def xi(k v:D):List (D×D)->List (D×D)|[]=>[(k,v)]|(a,x)::r=>if a=k then(a,v)::r else(a,x)::xi k v r
def E2(ok:String->Bool)(f:List Nat)(x v:D):cn->R Unit:=λs=>match x with
 |.ref r=>match s[r]? with|some<|.ins c fs=>if ok c&&decide (fs.length<1000)then .ok ()<|s.set r<|.ins c (xi (.str f) v fs)else .B|_=>.B
 |_=>.B
noncomputable def Bw(x:D):cn->R String:=λs=>match x with
 |.ref r=>match s[r]? with|some<|.ins c _=>.ok c s|_=>.B
 |_=>.B
noncomputable def xK(d:D):cn->R (List D):=λs=>match d with
 |.tp l=>.ok l s|.str l=>.ok (l.map λc=>.str [c]) s|.ref r=>match s[r]? with|some<|.J l=>.ok l s|some<|.ro l=>.ok l s|_=>.B
 |_=>.B
noncomputable def hH:Int:=4611686018427387904
noncomputable def tP(a b:Int):List D:=(av (b-a).toNat).map λ(k:Nat)=>.int<|a+k
noncomputable def Et(a b c:Int):List D:=if 0<c then(av ((b-a+c-1)/c).toNat).map λ(k:Nat)=>.int (a+c*k)else(av ((a-b+(-c)-1)/(-c)).toNat).map λ(k:Nat)=>.int<|a+c*k
noncomputable def n5(s0 s:cn)(a:List Nat):Bool:=a.all λr=>decide<|s[r]?=s0[r]?
noncomputable def uh(r:R D)(f:Bool->cn->R α):R α:=r.bind λd s=>match d with|.T b=>f b s|_=>.B
@[simp]theorem z0 b s(f:Bool->cn->R α):uh (.ok (.T b) s) f=f b s:=rfl
noncomputable def qE(ok:cn->Bool)(g:D->Env->cn->R (Option D×Env)):List D->Env->cn->R (List D)|[],_,s=>if ok s then .ok [] s else .B|d::l,U,s=>if ok s then(g d U s).bind λp s=>(qE ok g l p.2 s).bind λr s=>.ok (match p.1 with|some v=>v::r|none=>r) s else .B
def Hv(x:D)(s:cn):Option Nat:=match x with|.ref r=>s[r]?.map O.kd|_=>aT
def CY(x:D)(s t:cn)(r:R D):R D:=if Hv x s=Hv x t then r else .B
mutual noncomputable def ev(F:uQ):E->Env->cn->R D
 |.X i,U,s=>xT U i s|.K c,_,s=>.ok c.d s|.gl x,_,s=>match F.con x with|some d=>.ok d s|none=>.B
 |.G c a b,U,s=>(ev F a U s).bind λx s=>(ev F b U s).bind<|xj c x|.not a,U,s=>uh (ev F a U s) λb s=>.ok (.T<|!b) s|.Z c a b,U,s=>(ev F a U s).bind λx s=>(ev F b U s).bind<|qv c x|.chain o p a b c,U,s=>(ev F a U s).bind λx s=>(ev F b U s).bind λy s=>uh (qv o x y s) λk s=>if k then(ev F c U s).bind<|qv p y else .ok (.T ce) s|.yg a,U,s=>(ev F a U s).bind λx s=>.ok (.T<|decide<|x=.N) s|.vd a,U,s=>(ev F a U s).bind λx s=>.ok (.T<|!decide (x=.N)) s|.and a b,U,s=>uh (ev F a U s) λc s=>if c then uh (ev F b U s) λc s=>.ok (.T c) s else .ok (.T ce) s|.or a b,U,s=>uh (ev F a U s) λc s=>if c then .ok (.T bY) s else uh (ev F b U s) λc s=>.ok (.T c) s|.ite c a b,U,s=>uh (ev F c U s) λk s=>if k then ev F a U s else ev F b U s|.tp es,U,s=>(vt F es U s).bind λl s=>.ok (.tp l) s|.J es,U,s=>(vt F es U s).bind λl s=>yv (.J l) s|.dc .nil .nil,U,s=>yv (.dc []) s|.dc (.cons k .nil) (.cons v .nil),U,s=>(ev F k U<|s++[.dc []]).bind λkd s1=>(ev F v U s1).bind λb a=>if kd.key=bY/\a[s.length]?=al (.dc [])then .ok (.ref s.length) (a.set s.length<|.dc [(kd,b)])else .B|.dc _ _,U,s=>.B|.ym,_,s=>yv (.su []) s|.ix a b,U,s=>(ev F a U s).bind λx s=>(ev F b U s).bind<|rW x|.yN a hi,U,s=>(ev F a U s).bind λx s=>(ev F hi U s).bind λy s=>match y with|.int i=>Bm x aT (al i) s|_=>.B
 |.call f a,U,s=>(tY F a U s).bind<|F.call f|.callC f a,U,s=>(tY F a U s).bind λl s=>(F.call f l s).bind λd e=>if(d.eU&&e.all O.eU)=bY then .ok d e else .B|.tX i es,U,s=>(vt F es U s).bind λl s=>match U[i]? with|some<|al<|.fn f=>F.call f l s|some<|al<|.sk id cs=>F.lam id cs l s|_=>.B
 |.bi b es,U,s=>(vt F es U s).bind<|bi b|.mk k it,U,s=>(yQ F it U s).bind<|mk k|.xE k it d,U,s=>(yQ F it U s).bind λq s=>(ev F d U s).bind<|xE k q|.me m o es,U,s=>(ev F o U s).bind λx s=>(vt F es U s).bind λl t=>CY x s t<|uJ m x l t|.attr o f,U,s=>(ev F o U s).bind<|z9 f|.new c a,U,s=>(tY F a U s).bind λl s=>(F.new c (.ref s.length::l) (s++[.ins c []])).bind λd e=>if d=.N then .ok (.ref s.length) e else .B|.cq o m a,U,s=>(ev F o U s).bind λx s=>(Bw x s).bind λc s=>(tY F a U s).bind λl s=>F.cq c m (x::l) s noncomputable def vt(F:uQ):Es->Env->cn->R (List D)|.nil,_,s=>.ok [] s|.cons e es,U,s=>(ev F e U s).bind λd s=>(vt F es U s).bind λl s=>.ok (d::l) s noncomputable def tY(F:uQ):As->Env->cn->R (List D)
 |.nil,_,s=>.ok [] s|.ex e a,U,s=>(ev F e U s).bind λd s=>(tY F a U s).bind λl s=>.ok (d::l) s|.lam id b a,U,s=>match EV U b with|some cs=>(tY F a U s).bind λl s=>.ok (.sk id cs::l) s|none=>.B
 |.fn f a,U,s=>(tY F a U s).bind λl s=>.ok (.fn f::l) s noncomputable def wD(F:uQ):I->Env->cn->R Sq
 |.seq e,U,s=>(ev F e U s).bind uD|.rg a,U,s=>(ev F a U s).bind λx s=>match x with|.int i=>if-hH<=i/\i<hH then .ok ⟨tP 0 i,[]⟩ s else .B|_=>.B
 |.w3 a b c,U,s=>(ev F a U s).bind λx s=>(ev F b U s).bind λy s=>match x,y with|.int i,.int j=>if c=2/\(0<=i/\i<1048576)/\0<=j/\j<1048576 then .ok ⟨Et i j c,[]⟩ s else .B|_,_=>.B
 |.keys e,U,s=>(ev F e U s).bind Iq noncomputable def yQ(F:uQ):L->Env->cn->R (List D)|.comp tg it e a,U,s=>(wD F it U s).bind λq s0=>if q.its.length<=ky then qE (λs=>n5 s0 s q.src) (λd U s=>match jB U tg d with|some U=>(ev F e U s).bind λv s=>.ok (al v,U) s|none=>.B) q.its (zP U a) s0 else .B|.ub tg it c e a,U,s=>(wD F it U s).bind λq s0=>if q.its.length<=ky then qE (λs=>n5 s0 s q.src) (λd U s=>match jB U tg d with|some U=>uh (ev F c U s) λk s=>if k then(ev F e U s).bind λv s=>.ok (al v,U) s else .ok (aT,U) s|none=>.B) q.its (zP U a) s0 else .B|.yl es,U,s=>vt F es U s|.seq e,U,s=>(ev F e U s).bind xK|.wF tg e b a,U,s=>((ev F e U s).bind Iq).bind λq s0=>if RB s q.src=bY/\q.its.length<=ky then(qE (λs=>n5 s0 s q.src) (λd U s=>match jB U tg d with|some U=>(ev F b U s).bind λv s=>.ok (al v,U) s|none=>.B) q.its (zP U a) s0).bind<|RW q.src else .B end
inductive Ct where|next(U:Env)|ret(d:D)|cont(U:Env)|brk(U:Env)
noncomputable abbrev Ct.ctorIdx(x:Ct):Nat:=Ct.casesOn x (λ_=>0) (λ_=>1) (λ_=>2) (λ_=>3)
noncomputable def ux(ok:cn->Bool)(g:D->Env->cn->R Ct):List D->Env->cn->R Ct|[],U,s=>if ok s then .ok (.next U) s else .B|d::l,U,s=>if ok s then(g d U s).bind λc s=>match c with|.next U=>ux ok g l U s|.cont U=>ux ok g l U s|.brk U=>.ok (.next U) s|.ret d=>.ok (.ret d) s else .B
def uw(c:Env->cn->R D)(g:Env->cn->R Ct):Nat->Env->cn->R Ct|0,_,_=>.B|n+1,U,s=>uh (c U s) λb s=>if b then(g U s).bind λa s=>match a with|.next U=>uw c g n U s|.cont U=>uw c g n U s|.brk U=>.ok (.next U) s|.ret d=>.ok (.ret d) s else .ok (.next U) s
open Classical in def u5(c:Env->cn->R D)(g:Env->cn->R Ct)(U:Env)(s:cn):R Ct:=if h:∃n,uw c g n U s≠.B then uw c g h.choose U s else .B
mutual noncomputable def ex(F:uQ):S->Env->cn->R Ct
 |.A tg e,U,s=>(ev F e U s).bind λd s=>match jB U tg d with|some U=>.ok (.next U) s|none=>.B
 |.ll o i e,U,s=>(ev F e U s).bind λd s=>(ev F o U s).bind λx s=>(ev F i U s).bind λy s=>(ll x y d s).bind λ_ s=>.ok (.next U) s|.aug i e,U,s=>(xT U i s).bind λx s=>(ev F e U s).bind λy s=>match x,y with
  |.int a,.int b=>match xM U i<|.int (a+b)with|some U=>.ok (.next U) s|none=>.B
  |_,_=>.B
 |.ex e,U,s=>(ev F e U s).bind λ_ s=>.ok (.next U) s|.ret e,U,s=>(ev F e U s).bind λd s=>.ok (.ret d) s|.uo,_,s=>.ok (.ret .N) s|.ite c a b,U,s=>uh (ev F c U s) λk s=>if k then oo F a U s else oo F b U s|.u5 c b,U,s=>u5 (ev F c) (oo F b) U s|.fo tg it b,U,s=>(wD F it U s).bind λq s0=>ux (λs=>n5 s0 s q.src) (λd U s=>match jB U tg d with|some U=>oo F b U s|none=>.B) q.its U s0|.cont,U,s=>.ok (.cont U) s|.raise,_,_=>.B|.BX i,U,s=>match Cz U i with|some U=>.ok (.next U) s|none=>.B
 |.wc o f e,U,s=>(ev F e U s).bind λd s=>(ev F o U s).bind λx s=>(E2 (λc=>F.att c f) f x d s).bind λ_ s=>.ok (.next U) s noncomputable def oo(F:uQ):Ss->Env->cn->R Ct|.nil,U,s=>.ok (.next U) s|.cons st ss,U,s=>(ex F st U s).bind λc s=>match c with|.next U=>oo F ss U s|c=>.ok c s end
structure Df where
 name:String
 ps:Nat
 vs:Nat
 body:Ss
structure Lm where
 id:String
 ps:Nat
 cs:Nat
 body:E
inductive HT where|ve|FG(cs:List String)|Y(c:String)|not(t:HT)|or(a b:HT)
noncomputable abbrev HT.ctorIdx(x:HT):Nat:=HT.casesOn x 0 (λ_=>1) (λ_=>2) (λ_=>3) (λ_ _=>4)
inductive KO where|pl|ls|eq(t:List Nat)
noncomputable abbrev KO.ctorIdx(x:KO):Nat:=KO.casesOn x 0 1<|λ_=>2
inductive Hd where|ret(t:HT)|iff(t:HT)(b:Bool)(h:Hd)|Bs(b:Bool)|zi|xC|B6(t:HT)(h:Hd)|Jf(a b:HT)|sup(x:String)(h:Hd)|wg(f:String)(l:KO)
noncomputable abbrev Hd.ctorIdx(x:Hd):Nat:=Hd.casesOn x (λ_=>0) (λ_ _ _=>1) (λ_=>2) 3 4 (λ_ _=>5) (λ_ _=>6) (λ_ _=>7) (λ_ _=>8)
noncomputable def xW(c d:String):Bool:=c==d||(d=="TollError"||d=="ValueError")
noncomputable def GX:List String:=["NotSteady","TooMuch","TooLong","NoMaking","NoPaper","NoPair","NoText","NoRow","NoName"]
noncomputable def NU:List<|List Nat:=[[115,116,101,97,100,121],[109,117,99,104],[108,111,110,103],[109,97,107,105,110,103],[112,97,112,101,114],[112,97,105,114],[116,101,120,116],[114,111,119],[110,97,109,101]]
noncomputable def JV:List Nat:=[97,110,111,116,104,101,114]
def Ux(bs:List Bool):List Nat:=if bs.countP id=1 then NU.getD (bs.findIdx id) []else JV
def IJ(c:String):List Nat:=Ux<|GX.map<|xW c
def HT.val(c:String):HT->Bool|.FG cs=>cs.any<|xW c|.Y d=>xW c d|.not t=>!t.val c|.or a b=>if a.val c then bY else b.val c|.ve=>bY
noncomputable def HT.ok(p:String->Bool):HT->Bool|.FG cs=>cs.all p|.Y d=>p d|.not t=>t.ok p|.or a b=>a.ok p&&b.ok p|.ve=>bY
noncomputable def Hd.val(c:String):Hd->Bool|.ret t=>t.val c|.iff t b h=>if t.val c then b else h.val c|.Bs b=>b|.zi=>ce|.xC=>ce|.B6 _ h=>h.val c|.Jf a b=>a.val c&&b.val c|.sup _ h=>h.val c|.wg _ _=>ce
noncomputable def Hd.ok(p:String->Bool):Hd->Bool|.ret t=>t.ok p|.iff t _ h=>t.ok p&&h.ok p|.Bs _=>bY|.zi=>bY|.xC=>bY|.B6 t h=>t.ok p&&h.ok p|.Jf a b=>a.ok p&&b.ok p|.sup x h=>p x&&h.ok p|.wg _ _=>GX.all p
noncomputable def Hd.vD(c:String):Hd->D|.ret t=>.T<|t.val c|.iff t b h=>if t.val c then .T b else h.vD c|.Bs b=>.T b|.zi=>.N|.xC=>.N|.B6 t h=>if t.val c then .N else h.vD c|.Jf a b=>if a.val c then(if b.val c then .T bY else .N)else .N|.sup _ h=>h.vD c|.wg _ _=>.N
noncomputable def Hd.kn:Hd->Option (String×KO)|.wg f l=>al (f,l)|.sup _ h=>h.kn|_=>aT
noncomputable def Hd.KD(k:String->Bool)(h:Hd):Bool:=match h.kn with|some (f,_)=>k f|none=>bY
noncomputable def Hd.cls(c:String):Hd->String|.sup x _=>x|_=>c
noncomputable def Hd.nn:Hd->Bool|.Bs _=>bY|.zi=>bY|.xC=>bY|_=>ce
noncomputable def xn(ok:cn->Bool)(g:D->Env->cn->R Ct)(gx:D->Env->cn->Option (String×cn)):List D->Env->cn->Option (String×cn)|[],_,_=>aT|d::l,U,s=>if ok s then match g d U s with|.ok (.next U1) s1=>xn ok g gx l U1 s1|.ok (.cont U1) s1=>xn ok g gx l U1 s1|.ok _ _=>aT|_=>gx d U s else aT
noncomputable def qo(c:Env->cn->R D)(g:Env->cn->R Ct)(gx:Env->cn->Option (String×cn)):Nat->Env->cn->Option (String×cn)|0,_,_=>aT|n+1,U,s=>match c U s with
  |.ok (.T bY) s1=>match g U s1 with|.ok (.next U1) a=>qo c g gx n U1 a|.ok (.cont U1) a=>qo c g gx n U1 a|.ok _ _=>aT|_=>gx U s1
  |_=>aT
open Classical in def tj(c:Env->cn->R D)(g:Env->cn->R Ct)(gx:Env->cn->Option (String×cn))(U:Env)(s:cn):Option<|String×cn:=if h:∃n,(qo c g gx n U s).isSome=bY then qo c g gx h.choose U s else aT
inductive XB where|no|uR(c:String)|call(f:String)(as:As)|ur(c:E)(a r:XB)|seq(s:S)(b:XB)|kind|alt(a b:XB)|cq(o:E)(m:String)(as:As)|B5(f:String)(as:As)|yr(g:String)(v:E)(f:String)(as:As)|yf(c:E)(a r:XB)|vI(tg:Tg)(it:I)(b:Ss)(x:XB)|tj(c:E)(b:Ss)(x:XB)
noncomputable abbrev XB.ctorIdx(x:XB):Nat:=XB.casesOn x 0 (λ_=>1) (λ_ _=>2) (λ_ _ _=>3) (λ_ _=>4) 5 (λ_ _=>6) (λ_ _ _=>7) (λ_ _=>8) (λ_ _ _ _=>9) (λ_ _ _=>10) (λ_ _ _ _=>11) (λ_ _ _=>12)
def xB(F:uQ):XB->Env->cn->Option (String×cn)
 |.no,_,_=>aT|.kind,_,_=>aT|.alt a b,U,s=>match xB F a U s with|some r=>al r|none=>xB F b U s
 |.uR c,_,s=>if F.xc c=bY then al (c,s)else aT|.call f a,U,s=>match tY F a U s with|.ok l s1=>F.xcall f l s1|_=>aT
 |.B5 f a,U,s=>match tY F a U s with|.ok l s1=>F.xcall f l s1|_=>aT
 |.yr g v f a,U,s=>match(ev F v U s).bind λ_ s=>tY F a U s with|.ok l s1=>if@decide (∃l t,F.call g l t≠.B) (bU _)=bY then F.xcall f l s1 else aT|_=>aT
 |.cq o m a,U,s=>match(ev F o U s).bind λx s=>(Bw x s).bind λc s=>(tY F a U s).bind λl s=>.ok (c,x::l) s with|.ok p s1=>F.xm p.1 m p.2 s1|_=>aT
 |.ur c a r,U,s=>match ev F c U s with|.ok (.T b) s1=>if b then xB F a U s1 else xB F r U s1|_=>aT
 |.seq st b,U,s=>match ex F st U s with|.ok (.next U1) s1=>xB F b U1 s1|_=>aT
 |.vI tg it b x,U,s=>match wD F it U s with|.ok q s0=>xn (λs=>n5 s0 s q.src) (λd U s=>match jB U tg d with|some U=>oo F b U s|none=>.B) (λd U s=>match jB U tg d with|some U=>xB F x U s|none=>aT) q.its U s0|_=>aT
 |.yf c a r,U,s=>match ev F c U s with|.ok (.T b) s1=>if b then xB F a U s1 else xB F r U s1|_=>aT
 |.tj c b x,U,s=>DV.tj (ev F c) (oo F b) (xB F x) U s
structure Xf where
 ps:Nat
 vs:Nat
 body:XB
structure Tf where
 ps:Nat
 vs:Nat
 body:Ss
 xb:XB
 c:String
 i:Nat
 h:Hd
 tl:Ss
 pre:Ss
structure Pr where
 df:String->Option Df
 lm:String->Option Lm
 con:String->Option D
 xf:String->Option Xf
 tf:String->Option Tf
 xc:String->Bool
 xt:String->Bool
 cdc:String->Option (List<|List Nat×List Nat)mt:String->String->Option Df
 att:String->List Nat->Bool
 mx:String->String->Option Xf
noncomputable def wM(st a:cn):Bool:=(av st.length).all λi=>decide (a[i]?=st[i]?)||(match a[i]? with|some o=>o.eu st.length|none=>ce)
def nf(st:cn)(d:D)(a:cn):R D:=if wM st a then match d with
  |.ref r=>if r<st.length then .ok d (a.take st.length)else match a[r]? with|some o=>if o.eu st.length then .ok (.ref st.length) (a.take st.length++[o])else .ok d a|none=>.B
  |d=>if d.eu st.length then .ok d (a.take st.length)else .ok d a else .ok d a
def Hd.out(h:Hd)(c:String)(s a:cn):R D:=match h with|.zi=>nf s (.ref a.length) (a++[.J []])|h=>match h.kn with|some (_,.ls)=>nf s (.ref a.length) (a++[.J [.str<|IJ c]])|some (_,.pl)=>nf s (.str<|IJ c) a|some (_,.eq t)=>nf s (.T<|decide<|IJ c=t) a|none=>nf s (h.vD c) a
def Tf.tk(d:Tf)(c:String):Bool:=match d.h with|.sup x _=>xW c x|_=>c==d.c
noncomputable def XB.xG:XB->Bool|.kind=>bY|_=>ce
noncomputable def LU(P:Pr)(f:String):Bool:=match P.xf f with|some d=>d.ps==1&&(d.vs==1&&d.body.xG)|none=>ce
def F6(F:uQ)(d:Tf)(s:cn)(a:Env)(s0:cn):R D:=match xB F d.xb a s0 with|some (c,b)=>if d.tk c=bY/\F.xc c=bY/\d.h.ok F.xt=bY/\d.h.KD F.kd=bY then d.h.out c s b else .B|none=>(oo F d.body a s0).bind λc s1=>match c with
  |.ret v=>nf s v s1|.next U=>(oo F d.tl U s1).bind λc a=>match c with|.ret v=>nf s v a|.next _=>nf s .N a|_=>.B
  |_=>.B
def Di(F:uQ)(d:Tf)(l:List D)(s:cn):R D:=match oo F d.pre (l.map al++ay d.vs aT) s with|.ok (.next a) s0=>F6 F d s a s0|_=>.B
def HV(F:uQ)(d:Df)(l:List D)(s:cn):R D:=if l.length=d.ps then(oo F d.body (l.map al++ay d.vs aT) s).bind λc a=>match c with|.ret v=>nf s v a|.next _=>nf s .N a|_=>.B else .B
def cc(P:Pr):Nat->uQ|0=>⟨λ_ _ _=>.B,λ_ _ _ _=>.B,P.con,λ_ _ _=>aT,P.xc,P.xt,P.cdc,LU P,λ_ _ _ _=>.B,λ_ _ _=>.B,P.att,λ_ _ _ _=>aT⟩|n+1=>⟨λf l s=>match P.df f with|some d=>if l.length=d.ps then(oo (cc P n) d.body (l.map al++ay d.vs aT) s).bind λc a=>match c with|.ret v=>nf s v a|.next _=>nf s .N a|_=>.B else .B|none=>match P.tf f with|some d=>if l.length=d.ps then Di (cc P n) d l s else .B|none=>.B,λid cs l s=>match P.lm id with|some d=>if l.length=d.ps/\cs.length=d.cs/\(D.lj l&&D.lj cs&&s.all O.eU)=bY then(ev (cc P n) d.body (l.map al++cs.map al) s).bind<|nf s else .B|none=>.B,P.con,λf l s=>match P.xf f with|some d=>if l.length=d.ps then xB (cc P n) d.body (l.map al++ay d.vs aT) s else aT|none=>aT,P.xc,P.xt,P.cdc,LU P,λc m l s=>match P.mt c m with|some d=>HV (cc P n) d l s|none=>.B,λc l s=>(cc P n).cq c "__init__" l s,P.att,λc m l s=>match P.mx c m with|some d=>if l.length=d.ps then xB (cc P n) d.body (l.map al++ay d.vs aT) s else aT|none=>aT⟩
end DV
end
open DV renaming cn->oq,D->ot,Env->ow,R->oy,ev->oz,cc->oA,ky->oE,eqv->oF,uQ->oG,Pr->oH,uh->oJ,tY->oK,tO->oM,Ab->oN,look->oO,xB->oQ,yR->oS,kd->oU,jB->oV,Es->oW,xW->oX,O->oZ,Ji->o4,vt->o5,As->o6,BO->o7,EV->o8,Ct->o9,Df->pd,n5->pf,oo->ph,Tg->pi,xM->pj,xi->pp,Bi->pq,DZ->pw,E->pz,qy->pA,Ea->pB,yv->pC,C8->pD,xF->pF,HV->pH,Sq->pI,tH->pJ,Qk->pK,tP->pL,Et->pM,ll->pO,Ss->pP,wD->pQ,zP->pR,Lm->pS,Xf->pT,Hg->pU,FH->pV,Bm->pW,Fd->pX,Cv->pY,Hv->pZ,Oz->p8,nf->p9,bi->rb,qE->re,Mk->rf,Mt->rg,mk->rh,L6->rm,w4->rn,xH->rq,Cb->rA,xT->rB,ux->rC,wM->rD,uJ->rE,M->rG,Ka->rH,xG->rJ,hH->rM,Iq->rN,S->rO,z9->rP,E2->rQ,Bw->rR,Cz->rS,XB->rT,xn->rU,Tf->rV
open DV.D renaming n7->ou,eu->oB,Ej->oI,xa->oY,lj->pG,vh->rF,eU->rK
open DV.O renaming eu->oC,eU->rL
noncomputable section
namespace L2
def fb{p:Prop}(h:(DV.R.B:oy α)=.ok d s):p:=nomatch h
open PySem PySem.Spec PyProof.Rows
structure tZ where
 qual:Str
 params:bH
 body:Expr
 scope:Scope
 ps:List Str
 fr:List Str
 nm:Option<|Str×Pos
def q9(H:Hp)(f:Addr)(J:tZ)(b:List V)(a:yB):Prop:=match J.nm with|none=>BL H f J.qual J.params J.body J.scope J.fr b a|some p=>yt H f p.1 J.qual J.params [.Return (al J.body) p.2] J.scope J.fr b a
def Az(H:Hp)(f:Addr)(J:tZ)(a:yB):Prop:=match J.nm with|none=>∃d b c,H f=al (vk f<|cE "<lambda>" J.qual J.params J.body J.scope a d (.ref b) c)/\H b=al (qM b J.qual)|some p=>∃e d b c,H f=al (vk f<|cY p.1 J.qual J.params [.Return (al J.body) p.2] J.scope a .none .none e d aT (.ref b) c)/\H b=al (qM b J.qual)
structure Gm where
 K:ac
 fa:String->Option Addr
 lg:String->tZ->Prop
 T:List<|Addr×Str
 cls:String->Option Addr
variable(Γ:Gm)
mutual noncomputable def RV(C:Nat->Addr)(H:Hp):ot->V->Prop|.N,v=>v=.N|.T b,v=>v=.T b|.int i,v=>v=.int i|.str x,v=>v=.str ⟨x.toArray⟩/\x.length<=oE|.tp l,v=>∃a xs,v=.ref a/\(sy Γ.K H a xs/\(oI l=true->H a=some (.tp xs)))/\ei C H l xs|.ref n,v=>v=.ref (C n)|.fn f,v=>∃a,Γ.fa f=some a/\v=.ref a|.sk id cs,v=>∃f cap J clos,v=.ref f/\Γ.lg id J/\q9 H f J cap clos/\cap.length=J.fr.length/\ei C H cs cap noncomputable def ei(C:Nat->Addr)(H:Hp):List ot->List V->Prop|[],a=>a=[]|d::l,a=>∃x r,a=x::r/\RV C H d x/\ei C H l r end
noncomputable def FU:HO->Bool|.tp _=>bY|.sj _<|.dK _=>ce|.sj _ _=>bY|.ext _=>bY|_=>ce
def Kp(H H':Hp):Prop:=∀b o,H b=al o->FU o=bY->H' b=al o
def Kp.refl H:Kp H H:=λ_ _ h _=>h
def Kp.trans(a:Kp H J)(b:Kp J H2):Kp H H2:=λc o h f=>b c o (a c o h f) f
def Kp.new(a:Kp H J)(h:J p=aT):Kp H<|upd J p o:=λc u e f=>have b:=a c u e f;zd (zB b h)▸b
def Kp.put(a:Kp H J)(h:J p=al u)(b:FU u=ce):Kp H<|upd J p o:=λc v e f=>by have b:=a c v e f;rw[zd<|λz=>by lia];lia
def Kp.Km{K}(e:Kp H H')(h:sy K H a J):sy K H' a J:=by
 rcases h with(h|⟨o,h⟩)|h;.exact .inl<|.inl<|e _ _ h rfl
 .exact .inl<|.inr ⟨o,e _ _ h rfl⟩
 .exact .inr h
def BL.kp(h:BL H f qual params body scope fr cap J)(e:Kp H H'):BL H' f qual params body scope fr cap J:=by
 refine AK h λY a b c h2 d Zz=>AI Zz λh4 f g=>⟨Y,a,b,e _ _ c rfl,e _ _ h2 rfl,λx c q=>?_,h4,f,λi x v a b=>?_⟩;.exact AD (d x c q) λo v z d=>Af o v (e _ _ z rfl) d
 .exact AR (g i x v a b) λc o u a b Z=>Aq c o u a (e _ _ b rfl) Z
def yt.kp(h:yt H f name qual params body scope fr cap J)(e:Kp H H'):yt H' f name qual params body scope fr cap J:=by
 refine AM h λUu Z a Y b Zz=>AW Zz λh2 d f g h=>⟨Uu,Z,a,Y,e _ _ b rfl,e _ _ h2 rfl,λx c q=>?_,f,g,λi x v a b=>?_⟩;.exact AD (d x c q) λo v z d=>Af o v (e _ _ z rfl) d
 .exact AR (h i x v a b) λc o u a b d=>Aq c o u a (e _ _ b rfl) d
theorem q9.kp{H H':Hp}{f:Addr}{J:tZ}{cap:List V}{Uu:yB}(h:q9 H f J cap Uu)(e:Kp H H'):q9 H' f J cap Uu:=by unfold q9 at h⊢;cases q:J.nm with|none=>rw[q]at h;exact BL.kp h e|some p=>rw[q]at h;exact yt.kp h e
def Az.kp(h:Az H f J Uu)(e:Kp H H'):Az H' f J Uu:=by unfold Az at h⊢;cases q:J.nm with|none=>rw[q]at h;exact AX h λZ a Y b h2=>⟨Z,a,Y,e _ _ b rfl,e _ _ h2 rfl⟩|some p=>rw[q]at h;exact AM h λa0 Z a Y b h2=>Ao a0 Z a Y (e _ _ b rfl) (e _ _ h2 rfl)
theorem q9.fn{K}(h:q9 H f J cap Uu):Cd K H f:=by unfold q9 at h;cases q:J.nm with|none=>rw[q]at h;exact AX h λpm a Y Z _=>.inl<|Ae _ Z|some p=>exact yt.fn<|q▸h
structure Gw(C:Nat->Addr)(n:Nat)(H:Hp)(C':Nat->Addr)(H':Hp):Prop where
 map:∀i,i<n->C' i=C i
 kp:Kp H H'
variable{Γ:Gm}
mutual theorem RV.g5{C b:Nat->Addr}{n:Nat}{H H':Hp}(g:Gw C n H b H'):∀(d:ot)(v:V),d.eu n=bY->RV Γ C H d v->RV Γ b H' d v|.N,_,_,h=>h|.T _,_,_,h=>h|.int _,_,_,h=>h|.str _,_,_,h=>h|.tp l,_,b,h=>AL h λa Y e q r=>⟨a,Y,e,⟨g.kp.Km q.1,λz=>g.kp _ _ (q.2 z) rfl⟩,ei.g5 g l Y b r⟩|.ref k,_,b,h=>by unfold RV at h⊢;exact g.map k (dO b)▸h|.fn _,_,_,h=>h|.sk id cs,_,b,h=>AM h λf a J c e Zz=>AU Zz λZ h2 d h=>⟨f,a,J,c,e,Z,h2.kp g.kp,d,ei.g5 g cs a b h⟩theorem ei.g5{C a:Nat->Addr}{n:Nat}{H H':Hp}(g:Gw C n H a H'):∀(l:List ot)(J:List V),ou n l=bY->ei Γ C H l J->ei Γ a H' l J|[],_,_,h=>h|d::l,_,b,h=>by unfold ou at b;rw[af]at b;exact AL h λx r e q t=>⟨x,r,e,RV.g5 g d x b.1 q,ei.g5 g l r b.2 t⟩end
mutual theorem zm{n m:Nat}(h:n<=m):∀d:ot,d.eu n=bY->d.eu m=bY|.N,_=>rfl|.T _,_=>rfl|.int _,_=>rfl|.str _,_=>rfl|.tp l,b=>vj h l b|.ref k,b=>gv<|aB (dO b) h|.fn _,_=>rfl|.sk _ l,b=>vj h l b theorem vj{n m:Nat}(h:n<=m):∀l:List ot,ou n l=bY->ou m l=bY|[],_=>rfl|d::l,b=>by unfold ou at b⊢;rw[af]at b⊢;exact⟨zm h d b.1,vj h l b.2⟩end
theorem uk:∀{l},ou n l=bY↔∀d∈l,d.eu n=bY|[]=>by unfold ou;simp|d::l=>by unfold ou;rw[af,uk];simp
def jm(h:ou n l=bY)(h':ou n m=bY):ou n (l++m)=true:=uk.mpr λd a=>(aU.mp a).elim (uk.mp h d) (uk.mp h' d)
def PX(h:ou n l=bY)(s:∀d∈m,d∈l):ou n m=true:=uk.mpr λd a=>uk.mp h d<|s d a
def ER{i:Nat}(h:ou n l=bY)(e:l[i]?=al d):d.eu n=true:=uk.mp h d<|aA e
section
variable{C:Nat->Addr}{H:Hp}
def ei.nil:ei Γ C H [] []:=by rfl
def ei.cons(a:RV Γ C H d x)(b:ei Γ C H l h):ei Γ C H (d::l) (x::h):=⟨x,h,rfl,a,b⟩
def ei.qx(h:ei Γ C H [] J):J=[]:=h
def ei.e6(h:ei Γ C H (d::l) J):∃x r,J=x::r/\RV Γ C H d x/\ei Γ C H l r:=h
theorem ei.length:∀{l}{J},ei Γ C H l J->J.length=l.length|[],_,h=>by rw[h.qx];rfl|d::l,_,h=>by obtain⟨x,r,rfl,_,t⟩:=h.e6;rw[aQ,aQ,ei.length t]
theorem ei.get:∀{l}{J}{i:Nat}{d},ei Γ C H l J->l[i]?=al d->∃x,J[i]?=al x/\RV Γ C H d x|[],_,_,_,_,e=>by simp at e|d::l,_,0,a,h,e=>by obtain⟨x,r,rfl,q,t⟩:=h.e6;simp_all|d::l,_,i+1,_,h,e=>by obtain⟨x,r,rfl,q,t⟩:=h.e6;refine AE (ei.get t<|by simpa using e) λy a a=>?_;simp_all
theorem ei.append:∀{l m}{J a},ei Γ C H l J->ei Γ C H m a->ei Γ C H (l++m) (J++a)|[],_,_,_,h,h'=>h.qx▸h'|d::l,_,_,_,h,h'=>by obtain⟨x,r,rfl,q,t⟩:=h.e6;exact .cons q<|ei.append t h'
theorem ei.drop:∀{l}{J}n,ei Γ C H l J->ei Γ C H (l.drop n) (J.drop n)|_,_,0,h=>h|[],_,n+1,h=>h.qx▸.nil|d::l,_,n+1,h=>by obtain⟨x,r,rfl,q,t⟩:=h.e6;exact ei.drop n t
theorem ei.take:∀{l}{J}n,ei Γ C H l J->ei Γ C H (l.take n) (J.take n)|_,_,0,h=>.nil|[],_,n+1,h=>h.qx▸.nil|d::l,_,n+1,h=>by obtain⟨x,r,rfl,q,t⟩:=h.e6;exact .cons q<|ei.take n t
theorem ei.set:∀{l}{J}{d}{x}i,ei Γ C H l J->RV Γ C H d x->ei Γ C H (l.set i d) (J.set i x)|[],_,_,_,_,h,_=>h.qx▸.nil|d::l,_,_,_,0,h,q=>by obtain⟨x,r,rfl,_,t⟩:=h.e6;exact .cons q t|d::l,_,_,_,i+1,h,q=>by obtain⟨x,r,rfl,a,t⟩:=h.e6;exact .cons a<|ei.set i t q
def RV.ez(h:RV Γ C H (.int i) v):v=.int i:=h
def RV.uT(h:RV Γ C H (.T i) v):v=.T i:=h
def RV.t9(h:RV Γ C H .N v):v=.N:=h
def RV.qm(h:RV Γ C H (.str x) v):v=.str ⟨x.toArray⟩:=h.1
def RV.y2(h:RV Γ C H (.str x) v):x.length<=oE:=h.2
def RV.so(h:RV Γ C H (.tp l) v):∃a J,v=.ref a/\sy Γ.K H a J/\ei Γ C H l J:=AL h λa J e q r=>Ah a J e q.1 r
def RV.DN(h:RV Γ C H (.tp l) v):∃a J,(v=.ref a/\(oI l=bY->H a=al (.tp J)))/\sy Γ.K H a J/\ei Γ C H l J:=AL h λa J e q r=>Ah a J (Ad e q.2) q.1 r
def RV.tupK(h:RV Γ C H (.tp l) v)(z:oI l=bY):∃a J,v=.ref a/\H a=al (.tp J)/\ei Γ C H l J:=AL h λa J e q r=>Ah a J e (q.2 z) r
def RV.hW(h:RV Γ C H (.ref n) v):v=.ref (C n):=h
def RV.nC:RV Γ C H (.int i) (.int i):=by rfl
def RV.uO:RV Γ C H (.T i) (.T i):=by rfl
def RV.w7:RV Γ C H .N .N:=by rfl
def RV.vc(h:x.length<=oE):RV Γ C H (.str x) (.str ⟨x.toArray⟩):=⟨rfl,h⟩
def RV.tupI(h:H a=al (.tp J))(q:ei Γ C H l J):RV Γ C H (.tp l) (.ref a):=⟨a,J,rfl,⟨sy.of h,λ_=>h⟩,q⟩
def RV.BY(h:sy Γ.K H a J)(z:oI l=bY->H a=al (.tp J))(q:ei Γ C H l J):RV Γ C H (.tp l) (.ref a):=⟨a,J,rfl,(Ad h z),q⟩
def RV.D1:RV Γ C H (.ref n) (.ref<|C n):=by rfl
end
def Wu(h:(o7 l J hi).length=l.length):o7 l J hi=l:=by
 unfold o7 at h⊢;rw[bL,fL]at h;by_cases z:l=[];.simp_all
 .have Uu:=kM.mpr z;have a:pB l.length J=0:=by lia
  rw[a]at h⊢;exact eA▸cM (by lia)
def BQ(K:ac)(H:Hp)(a:Addr)(b:List V):Prop:=qn K H a b/\∀H',Kp H H'->qn K H' a b
noncomputable def xl:ot->Option Key|.int i=>al<|.inl i|.str x=>al<|.inr ⟨x.toArray⟩|_=>aT
noncomputable def xJ:ot->Option FK|.N=>al aT|.int i=>al<|al<|.inl i|.str x=>al<|al<|.inr ⟨x.toArray⟩|_=>aT
noncomputable def jS{κ:Type}(f:ot->Option κ):List ot->Option (List κ)|[]=>al []|d::l=>match f d,jS f l with|some k,al r=>al<|k::r|_,_=>aT
def FA:ot->Option NI|.tp l=>(jS xJ l).map .inr|d=>(xJ d).map .inl
def Dq:List ot->Option (List NI):=jS FA
def Eo:ot->Option (List NI)|.tp l=>if(oI l&&(l.all oY&&decide (l.length<=1000)))=bY then Dq l else aT|_=>aT
def RVD{κ:Type}(a:ot->Option κ)(Γ:Gm)(C:Nat->Addr)(H:Hp):List (ot×ot)->List (κ×V)->Prop|[],kvs=>kvs=[]|(d,e)::l,kvs=>∃k v r,kvs=(k,v)::r/\a d=al k/\RV Γ C H e v/\RVD a Γ C H l r
noncomputable def Em:ot->Option Str|.str x=>al ⟨x.toArray⟩|_=>aT
variable(Γ)
def RO(C:Nat->Addr)(H:Hp)(a:Addr):oZ->Prop|.J l=>∃b,H a=al (.J b)/\ei Γ C H l b|.ro l=>∃b,BQ Γ.K H a b/\ei Γ C H l b|.dc l=>∃kvs,H a=al (.dK kvs)/\RVD xl Γ C H l kvs|.su l=>∃kvs,H a=al (.dT kvs)/\RVD Eo Γ C H l kvs|.r7 l=>∃o kvs,H a=al (.sj o<|.dK kvs)/\RVD xl Γ C H l kvs|.ins c l=>∃Cc d b,(Γ.cls c=al Cc/\vp Γ.K Cc)/\(∀p∈b,kv Γ.K Cc p.1)/\H a=al (.ins Cc d b)/\RVD Em Γ C H l b
abbrev Br:oZ->Nat:=DV.O.kd
noncomputable def rY:oZ->Bool|.ro _=>ce|_=>bY
structure Rp(C:Nat->Addr)(H:Hp)(s:oq):Prop where
 inj:∀(i j:Nat)(o o':oZ),s[i]?=al o->s[j]?=al o'->rY o=bY->rY o'=bY->C i=C j->i=j
 obj:∀(i:Nat)(o:oZ),s[i]?=al o->RO Γ C H (C i) o
 wf:∀(i:Nat)(o:oZ),s[i]?=al o->o.eu s.length=bY
 tab:hG Γ.T H
structure RE(C:Nat->Addr)(H:Hp)(n:Nat)(U:ow)(W:St):Prop where
 len:U.length=W.length
 val:∀(i:Nat)(d:ot),U[i]?=al (al d)->d.eu n=bY/\∃v,W[i]?=al (al v)/\RV Γ C H d v
structure Gr(C:Nat->Addr)(s:oq)(H:Hp)(C':Nat->Addr)(s':oq)(H':Hp):Prop where
 w:Gw C s.length H C' H'
 le:s.length<=s'.length
 new:∀i:Nat,s.length<=i->i<s'.length->H (C' i)=aT
 kd:∀(i:Nat)(o o':oZ),s[i]?=al o->s'[i]?=al o'->Br o'=Br o
 st:∀b,H b≠aT->H' b≠aT
 fz:∀b o kvs,H b=al (.sj o<|.dK kvs)->H' b=al (.sj o<|.dK kvs)fr:∀b o,H b=al o->(∀ps,o≠.tbl ps)->(∀(i:Nat)(ob:oZ),s[i]?=al ob->rY ob=bY->C i≠b)->H' b=al o
variable{Γ}
def YX(h:Br J=Br o)(m:rY J=bY):rY o=true:=by cases o with
 |ro _=>cases J with|ro _=>cases m|_=>cases h
 |_=>rfl
def Gr.mu(g:Gr C s H C' s' H')(i:Nat)o h(e:s[i]?=al o)(e':s'[i]?=al h)(m:rY h=bY):rY o=true:=YX (g.kd i o h e e') m
theorem Gr.refl C s H:Gr C s H C s H:=⟨⟨λ_ _=>rfl,Kp.refl H⟩,ak _,λi a J=>iN J<|by lia,λi o Y e a=>by lia,λ_ h=>h,λ_ _ _ h=>h,λ_ _ h _ _=>h⟩
theorem Gr.trans(a:Gr C s H C1 s1 Z)(b:Gr C1 s1 Z C2 s2 H2)(c:s.length<=s1.length):Gr C s H C2 s2 H2:=by
 refine⟨⟨λi hi=>(b.w.map i<|aB hi a.le).trans<|a.w.map i hi,a.w.kp.trans b.w.kp⟩,au a.le b.le,λi d h2=>?_,λi o g e j=>?_,λc h=>b.st c<|a.st c h,λc o kvs h=>b.fz c o kvs<|a.fz c o kvs h,λc o h Y ne=>?_⟩
 .by_cases hi:i<s1.length;.exact b.w.map i hi▸a.new i d hi
  .have e:=b.new i (by lia) h2;cases q:H (C2 i)with|none=>rfl|some o=>exact iN e<|a.st _<|by lia
 .have hl:i<s1.length:=aB (ae.mp e).1 a.le;obtain⟨d,f⟩:∃d,s1[i]?=al d:=⟨s1[i],aj hl⟩;exact(b.kd i d g f j).trans<|a.kd i o d e f
 .refine b.fr c o (a.fr c o h Y ne) Y λi b e m z=>?_;by_cases hi:i<s.length;.obtain⟨J,e0⟩:∃J,s[i]?=al J:=⟨s[i],aj hi⟩;exact ne i J e0 (a.mu i J b e0 e m) (a.w.map i hi▸z)
  .have:=a.new i (by lia) (ae.mp e).1;lia
def RV.mono(g:Gr C s H C' s' H')d v(b:d.eu s.length=bY)(h:RV Γ C H d v):RV Γ C' H' d v:=RV.g5 g.w d v b h
def ei.mono(g:Gr C s H C' s' H')d v(b:ou s.length d=bY)(h:ei Γ C H d v):ei Γ C' H' d v:=ei.g5 g.w d v b h
theorem RE.mono(h:RE Γ C H s.length U W)(g:Gr C s H C' s' H')(a:s.length<=s'.length):RE Γ C' H' s'.length U W:=⟨h.len,λi d e=>AQ (h.val i d e) λb v c e=>Aj (zm a d b) v c<|RV.mono g d v b e⟩
def vv(Γ:Gm)(C:Nat->Addr)(s:oq)(H:Hp)(d:ot)(a:oq)(Q:VK):Prop:=∀v b H',Gr C s H b a H'->s.length<=a.length->d.eu a.length=bY->RV Γ b H' d v->Rp Γ b H' a->Q v H'
theorem vv.trans(h:vv Γ C s H d s' Q)(g:Gr C s H C1 s1 J)(l:s.length<=s1.length):vv Γ C1 s1 J d s' Q:=λv a H' c d b r p=>h v a H' (g.trans c l) (au l d) b r p
def vv.here(h:vv Γ C s H d s Q)(p:Rp Γ C H s)(b:d.eu s.length=bY)(r:RV Γ C H d v):Q v H:=h v C H (Gr.refl C s H) (ak _) b r p
theorem RVD.g5(g:Gw C n H C' H'):∀l(kvs:List<|κ×V),ou n (l.map (·.2))=bY->RVD J Γ C H l kvs->RVD J Γ C' H' l kvs|[],_,_,h=>h|(d,e)::l,_,b,h=>by refine AK h λk v r a c Y d=>?_;rw[aS]at b;unfold ou at b;rw[af]at b;exact⟨k,v,r,a,c,RV.g5 g e v b.1 Y,RVD.g5 g l r b.2 d⟩
def RO.mono(h:RO Γ C H a o)(g:Gw C n H C' H')(b:o.eu n=bY)(d:rY o=bY->∀u,H a=al u->H' a=al u):RO Γ C' H' a o:=by cases o with|J l=>exact AE h λJ e r=>⟨J,d rfl _ e,ei.g5 g l J b r⟩|ro l=>exact AE h λJ e r=>⟨J,⟨e.2 _ g.kp,λH2 k=>e.2 _<|g.kp.trans k⟩,ei.g5 g l J b r⟩|dc l=>unfold oC at b;rw[af]at b;exact AE h λkvs e r=>⟨kvs,d rfl _ e,RVD.g5 g l kvs b.2 r⟩|su l=>unfold oC at b;rw[af]at b;exact AE h λkvs e r=>⟨kvs,d rfl _ e,RVD.g5 g l kvs b.2 r⟩|r7 l=>unfold oC at b;rw[af]at b;exact AD h λob kvs e r=>⟨ob,kvs,d rfl _ e,RVD.g5 g l kvs b.2 r⟩|ins c l=>unfold oC at b;rw[af]at b;exact AK h λCc c a Y Z e r=>⟨Cc,c,a,Y,Z,d rfl _ e,RVD.g5 g l a b.2 r⟩
def RO.there(h:RO Γ C H a o)(m:rY o=bY):∃u,H a=al u/\FU u=ce/\(∀ps,u≠.tbl ps)/\((∀l,o≠.r7 l)->∀a kvs,u≠.sj a (.dK kvs)):=by cases o with|J l=>exact AE h λJ e _=>Ap _ e rfl (by nofun) (λ_ _ _ z=>(by cases z))|ro l=>cases m|dc l=>exact AE h λJ e _=>Ap _ e rfl (by nofun) (λ_ _ _ z=>(by cases z))|su l=>exact AE h λJ e _=>Ap _ e rfl (by nofun) (λ_ _ _ z=>(by cases z))|r7 l=>exact AD h λob J e _=>Ap _ e rfl (by nofun) (λz=>iN rfl<|z l)|ins c l=>exact AK h λ_ _ _ _ _ e _=>Ap _ e rfl (by nofun) (λ_ _ _ z=>(by cases z))
def Rp.addr(p:Rp Γ C H s)(e:s[i]?=al (.J l)):∃h,H (C i)=al (.J h)/\ei Γ C H l h:=p.obj i _ e
def qD(h:n<=m)(o:oZ)(b:o.eu n=bY):o.eu m=true:=by cases o with|J l=>exact vj h l b|ro l=>exact vj h l b|dc l=>unfold oC at b⊢;rw[af]at b⊢;exact⟨vj h _ b.1,vj h _ b.2⟩|su l=>unfold oC at b⊢;rw[af]at b⊢;exact⟨vj h _ b.1,vj h _ b.2⟩|r7 l=>unfold oC at b⊢;rw[af]at b⊢;exact⟨vj h _ b.1,vj h _ b.2⟩|ins c l=>unfold oC at b⊢;rw[af]at b⊢;exact⟨vj h _ b.1,vj h _ b.2⟩
def hG.Eh(h:hG T H)(k:∀b o,(FU o=bY\/∃ps,o=.tbl ps)->H b=al o->H' b=al o):hG T H':=λy a=>AH (h y a) λps e t c=>⟨ps,k _ _ (.inr<|Ae _ rfl) e,t,λpos a q=>AE (c pos a q) λJ a b=>Ac J a<|k _ _ (.inl rfl) b⟩
theorem Rp.new(r:Rp Γ C H s)(c:H p=aT)(a:o.eu s.length=bY)(l:∀a H',Gw C s.length H a H'->H' p=al u->RO Γ a H' p o):Gr C s H (λi=>if i=s.length then p else C i) (s++[o]) (upd H p u)/\Rp Γ (λi=>if i=s.length then p else C i) (upd H p u) (s++[o]):=by
 have g:Gw C s.length H (λi=>if i=s.length then p else C i) (upd H p u):=⟨λi hi=>gc<|aJ hi,(Kp.refl H).new c⟩;have key:∀i J,(s++[o])[i]?=al J->(i<s.length/\s[i]?=al J)\/(i=s.length/\J=o):=λi J e=>by
  rcases gS i s.length with h|h|h;.exact .inl<|Ad h<|aC h▸e
  .subst h;simp at e;exact .inr<|Ad rfl e.symm
  .rw[b9<|by simp;lia]at e;cases e
 refine⟨⟨g,by simp,λi a h2=>?_,λi a a a a=>?_,λb a=>?_,λb d kvs a=>zd (zB a c)▸a,λb d a _ _=>zd (zB a c)▸a⟩,λi j Z f Y d h k e=>?_,λi J e=>?_,λi J e=>?_,r.tab.new c⟩;.rw[aN,cK]at h2;rw[ef<|by lia];exact c
 .grind
 .unfold upd;split;.simp
  .exact a
 .rcases key i Z Y with⟨hi,Y⟩|⟨hi,rfl⟩<;>rcases key j f d with⟨b,d⟩|⟨b,m⟩;.rw[gc<|aJ hi,gc<|aJ b]at e;exact r.inj i j Z f Y d h k e
  .rw[gc<|aJ hi,ef b]at e;refine AE ((r.obj i Z Y).there h) λu h _=>?_;lia
  .rw[gc<|aJ b,ef hi]at e;refine AE ((r.obj j f d).there k) λu h _=>?_;lia
  .rw[hi,b]
 .rcases key i J e with⟨hi,e⟩|⟨hi,rfl⟩;.show RO Γ _ _ (if i=s.length then p else C i) J;exact gc (aJ hi)▸(r.obj i J e).mono g (r.wf i J e) λ_ v b=>zd (zB b c)▸b
  .show RO Γ _ _ (if i=s.length then p else C i) J;exact ef hi▸l _ _ g zh
 .rw[aN,cK];rcases key i J e with⟨hi,e⟩|⟨hi,rfl⟩;.exact qD (dG _) _<|r.wf i J e
  .exact qD (dG _) _ a
def Rp.DY(r:Rp Γ C H s)(c:s[k]?=al Uu)(d:rY Uu=bY)(a:o.eu s.length=bY)(p:∀H',Gw C s.length H C H'->H' (C k)=al u->RO Γ C H' (C k) o)(t:Br o=Br Uu):((∀l,Uu≠.r7 l)->Gr C s H C (s.set k o) (upd H (C k) u))/\Rp Γ C (upd H (C k) u) (s.set k o):=by
 refine Aa ((r.obj k Uu c).there d) λv0 Y a b b=>?_;have b:=(ae.mp c).1;have g:Gw C s.length H C<|upd H (C k) u:=⟨λ_ _=>rfl,(Kp.refl H).put Y a⟩;have key:∀i J,(s.set k o)[i]?=al J->(i≠k/\s[i]?=al J)\/(i=k/\J=o):=λi J e=>by
  by_cases h:i=k;.subst h;exact .inr<|Ad rfl (az<|bF b▸e).symm
  .exact .inl<|Ad h<|aD (bE h)▸e
 have n:∀i J,(s.set k o)[i]?=al J->rY J=bY->∃Z,s[i]?=al Z/\rY Z=true:=λi J e m=>by
  rcases key i J e with⟨_,e⟩|⟨h,_⟩;.exact Ac J e m
  .exact Ac Uu (h▸c) d
 refine⟨λa=>⟨g,by simp,λi a h2=>by grind,λi o1 o2 f l=>?_,λb a=>?_,λb e kvs a=>by rw[zd λz=>by simp_all];exact a,λb e a b ne=>zd (bE<|ne k Uu c d)▸a⟩,λi j s u w x y z e=>?_,λi J e=>?_,λi J e=>?_,r.tab.Eh λb v b q=>?_⟩
 .rcases key i o2 l with⟨_,e⟩|⟨h,rfl⟩;.cases f▸e;rfl
  .subst h;cases c▸f;exact t
 .unfold upd;split;.simp
  .exact a
 .exact AE (n i s w y) λo1 f b=>AE (n j u x z) λo2 l h=>r.inj i j o1 o2 f l b h e
 .rcases key i J e with⟨h,e⟩|⟨h,rfl⟩;.exact(r.obj i J e).mono g (r.wf i J e) λm v b=>(zd λz=>h<|r.inj i k J Uu e c m d z)▸b
  .exact h▸p _ g zh
 .rw[bw];rcases key i J e with⟨_,e⟩|⟨_,rfl⟩;.exact r.wf i J e
  .exact a
 .rw[zd λz=>by simp_all];exact q
theorem Rp.set(r:Rp Γ C H s)(a:s[k]?=al J)(b:rY J=bY)(c:o.eu s.length=bY)(d:∀H',Gw C s.length H C H'->H' (C k)=al u->RO Γ C H' (C k) o)(h:autoParam (Br o=Br J) nz._auto_1)(Y:autoParam (∀l,J≠.r7 l) Zq8._auto_1):Gr C s H C (s.set k o) (upd H (C k) u)/\Rp Γ C (upd H (C k) u) (s.set k o):=⟨(r.DY a b c d h).1 Y,(r.DY a b c d h).2⟩
theorem Rp.same(r:Rp Γ C H s)(e:tw H H'):Gr C s H C s H'/\Rp Γ C H' s:=have g:Gw C s.length H C H':=⟨λ_ _=>rfl,λb o h _=>e b o h⟩;⟨⟨g,ak _,λi a J=>iN J<|by omega,λi o Y e a=>by lia,λb a=>by cases q:H b with|none=>lia|some o=>rw[e b o q];simp,λb o kvs h=>e b _ h,λb o h _ _=>e b o h⟩,r.inj,λi o h=>(r.obj i o h).mono g (r.wf i o h) λ_ u a=>e _ u a,r.wf,r.tab.same e⟩
section
variable{C:Nat->Addr}{H:Hp}{s:oq}{Q:VK}
def vv.alloc(h:vv Γ C s H (.ref s.length) (s++[.J l]) Q)(r:Rp Γ C H s)(Y:ei Γ C H l J)(a:ou s.length l=bY)(b:H p=aT):Q (.ref p) (upd H p<|.J J):=by obtain⟨g,Z⟩:=r.new (o:=.J l) b a λb H' g e=>⟨J,e,ei.g5 g l J a Y⟩;have:=h (.ref p) _ _ g (by simp) (by unfold oB;simp) (by unfold RV;simp) Z;simp_all
def vv.tup(h:vv Γ C s H (.tp l) s Q)(r:Rp Γ C H s)(Z:ei Γ C H l J)(a:ou s.length l=bY)(b:H p=aT):Q (.ref p) (upd H p<|.tp J):=AB (r.same<|(tw.refl H).new b) λg Y=>h _ _ _ g (ak _) (a) (RV.tupI zh<|ei.mono g l J a Z) Y
def vv.put(h:vv Γ C s H d (s.set k<|.J l) Q)(r:Rp Γ C H s)(c:s[k]?=al (.J l0))(f:ei Γ C H l J)(a:ou s.length l=bY)(b:d.eu s.length=bY)(i:RV Γ C H d v):Q v<|upd H (C k) (.J J):=AB (r.set (o:=.J l) c rfl a λH' g e=>⟨J,e,ei.g5 g l J a f⟩) λg Y=>h _ _ _ g (by simp) (by rw[bw];exact b) (RV.mono g d v b i) Y
end
variable{Γ:Gm}
def keyOf_inj{a b:ot}{k:Key}(ha:xl a=some k)(hb:xl b=some k):a=b:=by cases a with
 |int i=>cases ha;cases b with|int j=>cases hb;rfl|str y=>cases hb|_=>cases hb
 |str x=>cases ha;cases b with|int j=>cases hb|str y=>have h:=az hb;injection h with h;injection h with h;rw[(by simpa using h:y=x)]|_=>cases hb
 |_=>cases ha
def GB(h:d.key=bY):∃k,xl d=al k:=by cases d with|int i=>exact Ae _ rfl|str x=>exact Ae _ rfl|_=>cases h
def GS(h:xl d=al k)(r:RV Γ C H d v):v=kV k:=by cases d with|int i=>cases h;exact r.ez|str x=>cases h;exact r.qm|_=>cases h
def z3{κ:Type}(c:ot->Option κ):Prop:=∀{a b}{k},c a=al k->c b=al k->a=b
def MK:z3 xJ:=λ{a b k}d c=>by cases a with
 |N=>cases d;cases b with|N=>rfl|_=>cases c
 |int i=>cases d;cases b with|int j=>cases c;rfl|_=>cases c
 |str x=>cases d;cases b with|str y=>cases c;rfl|_=>cases c
 |_=>cases d
set_option tactic.hygienic true in theorem IV{f}(h:z3 f):∀{a b}{k:List κ},jS f a=al k->jS f b=al k->a=b
 |[],[],k,_,_=>rfl|[],y::b,k,c,d=>by cases c;unfold jS at d;split at d<;>cases d|x::a,[],k,c,d=>by cases d;unfold jS at c;split at c<;>cases c|x::a,y::b,k,c,d=>by
  unfold jS at c d;split at c
  .rename_i k1 r1 e1 e2;cases c;split at d;.rename_i k2 Y Uu J;cases d;rw[h e1 Uu,IV h e2 J]
   .cases d
  .cases c
def nOf_cases(h:FA d=al k):(∃l r,d=.tp l/\jS xJ l=al r/\k=.inr r)\/∃f,xJ d=al f/\k=.inl f:=by cases d with|tp l=>exact AE (a7.mp<|h) λr e q=>.inl<|Ah l r rfl e q.symm|N=>exact AE (a7.mp<|show(xJ .N).map .inl=al k from h) λr e q=>.inr<|Ac r e q.symm|int i=>exact AE (a7.mp<|show(xJ<|.int i).map .inl=al k from h) λr e q=>.inr<|Ac r e q.symm|str i=>exact AE (a7.mp<|show(xJ<|.str i).map .inl=al k from h) λr e q=>.inr<|Ac r e q.symm|_=>cases h
def Zc:z3 FA:=λ{a b k}a b=>by
 rcases nOf_cases a with⟨l,r,rfl,e,rfl⟩|⟨f,e,rfl⟩
 .rcases nOf_cases b with⟨m,h,rfl,a,q⟩|⟨f,a,q⟩;.cases q;rw[IV MK e a]
  .cases q
 .rcases nOf_cases b with⟨m,h,rfl,a,q⟩|⟨a,a,q⟩;.cases q
  .cases q;exact MK e a
def JO(h:Eo d=al k):∃l,d=.tp l/\(oI l=bY/\l.all oY=bY/\l.length<=1000)/\Dq l=al k:=by cases d with|tp l=>have h:(if(oI l&&(l.all oY&&decide (l.length<=1000)))=bY then Dq l else aT)=al k:=h;simp_all|_=>cases h
def keyT_inj:z3 Eo:=λa b=>by obtain⟨l,rfl,_,h⟩:=JO a;obtain⟨m,rfl,_,J⟩:=JO b;rw[IV Zc h J]
theorem Jh{p}(J:∀d,p d=bY->∃k,f d=al k):∀{l},l.all p=bY->∃k,jS f l=al k|[],_=>(Ae [] rfl)|d::l,h=>by rw[dj,af]at h;exact AF (J d h.1) λk a=>AF (Jh J h.2) λr b=>⟨k::r,by unfold jS;rw[a,b]⟩
def V4 d(h:d.vh=bY):∃k,xJ d=al k:=by cases d with|int i=>exact Ae _ rfl|str x=>exact Ae _ rfl|N=>exact Ae _ rfl|_=>cases h
def Pj(h:(DV.D.tp l).xa=bY):oI l=bY/\l.all rF=bY/\l.length<=1000:=by have h:(oI l&&(l.all rF&&decide (l.length<=1000)))=true:=h;rw[af,af]at h;exact Ai h.1 h.2.1<|dO h.2.2
def V3 d(h:d.xa=bY):∃k,FA d=al k:=by cases d with|tp l=>exact AF (Jh V4 (Pj h).2.1) λr e=>Ae (.inr r) (by show(jS xJ l).map _=_;rw[e];rfl)|int i=>exact Ae _ rfl|str x=>exact Ae _ rfl|N=>exact Ae _ rfl|_=>cases h
def Ja(h:d.tI=bY):∃k,Eo d=al k:=by cases d with|tp l=>have h:(oI l&&(l.all oY&&decide (l.length<=1000)))=true:=h;have h':=h;rw[af,af]at h';exact AF (Jh V3 h'.2.1) λk a=>Ae k<|by show(if(oI l&&(l.all oY&&decide (l.length<=1000)))=bY then Dq l else aT)=al k;exact ef h▸a|_=>cases h
def KP(h:xJ d=al k)(r:RV Γ C H d v):v=fV k:=by cases d with|N=>cases h;exact r.t9|int i=>cases h;exact r.ez|str x=>cases h;exact r.qm|_=>cases h
set_option tactic.hygienic true in theorem Lq:∀{l}{k}{J},jS xJ l=al k->ei Γ C H l J->J=k.map fV
 |[],k,J,h,r=>by cases h;exact r.qx|d::l,k,J,h,r=>by
  unfold jS at h;split at h;.rename_i k1 r1 e1 e2;cases h;obtain⟨x,a,rfl,a,Y⟩:=r.e6;rw[KP e1 a,Lq e2 Y,aS]
  .cases h
set_option tactic.hygienic true in theorem MV:∀{l}{k}{b},Dq l=al k->l.all oY=bY->ei Γ C H l b->dz (DH H) k b
 |[],k,b,h,_,r=>by cases h;cases r.qx;exact .nil|d::l,k,b,h,z,r=>by
  unfold Dq jS at h;rw[dj,af]at z;split at h
  .rename_i k1 r1 e1 e2;cases h;obtain⟨x,b,rfl,J,Y⟩:=r.e6;refine .cons ?_<|MV e2 z.2 Y;rcases nOf_cases e1 with⟨m,q,rfl,e,rfl⟩|⟨f,e,rfl⟩;.exact AL (J.tupK (Pj z.1).1) λa b b Z h2=>⟨a,b,(Lq e h2▸Z)⟩
   .exact KP e J
  .cases h
def Jv(h:Eo d=al k)(r:RV Γ C H d v):∃b,v=.ref b/\NK H k b:=by obtain⟨l,rfl,z,b⟩:=JO h;exact AL (r.tupK z.1) λa J e Y c=>⟨a,e,J,Y,MV b z.2.1 c⟩
section
variable{κ:Type}[DecidableEq κ]{kf:ot->Option κ}
theorem RVD.val(J:z3 kf)(b:kf d=al k):∀{l}{kvs},RVD kf Γ C H l kvs->(oO d l=aT/\v5 kvs k=aT)\/∃e v,oO d l=al e/\v5 kvs k=al v/\RV Γ C H e v/\e∈l.map (·.2)
 |[],kvs,h=>have h:=h;h▸.inl (Ad rfl rfl)|(a,e)::l,kvs,h=>by
  obtain⟨f,v,r,rfl,c,Z,g⟩:=h;by_cases z:a=d;.subst z;cases b▸c;exact .inr<|Am e v (by unfold oO;rw[ef rfl]) (Gv rfl) Z<|by simp
  .have Y:¬f=k:=λq=>z<|J c<|q▸b;have c:oO d ((a,e)::l)=oO d l:=by
    conv=>lhs;unfold oO
    rw[gc z]
   rw[c,Gy<|Y];rcases RVD.val J b g with q|⟨b,c,d,e,f,a⟩;.exact .inl q
   .exact .inr<|Am b c d e f<|by simp at a⊢;exact .inr a
theorem RVD.wd(c:z3 kf)(b:kf d=al k)(f:RV Γ C H e v):∀{l}{kvs},RVD kf Γ C H l kvs->RVD kf Γ C H (l.map λp=>if p.1=d then(p.1,e)else p) (kvs.map λJ=>if J.1=k then(J.1,v)else J)
 |[],kvs,h=>by cases h;exact(rfl)|(a,e)::l,kvs,h=>by
  obtain⟨g,v0,r,rfl,e,i,Y⟩:=h;rw[aS,aS];by_cases z:a=d;.subst z;cases b▸e;exact ef rfl▸ef rfl▸⟨k,v,_,rfl,b,f,RVD.wd c b f Y⟩
  .have Z:¬g=k:=λq=>z<|c e<|q▸b;exact gc z▸gc Z▸⟨g,v0,_,rfl,e,i,RVD.wd c b f Y⟩
theorem RVD.snoc{C:Nat->Addr}{H:Hp}{d e:ot}{k:κ}{v:V}(Y:z3 kf)(hk:kf d=some k)(hv:RV Γ C H e v):∀{l:List<|ot×ot}{kvs:List<|κ×V},RVD kf Γ C H l kvs->RVD kf Γ C H (l++[(d,e)]) (kvs++[(k,v)])|[],kvs,h=>by have h:kvs=[]:=h;subst h;exact⟨k,v,[],rfl,hk,hv,rfl⟩|(a,e0)::l,kvs,h=>by obtain⟨k',v0,r,rfl,e2,Uu,J⟩:=h;exact⟨k',v0,_,rfl,e2,Uu,RVD.snoc Y hk hv J⟩
def RVD.put(J:z3 kf)(a:kf d=al k)(f:RV Γ C H e v)(h:RVD kf Γ C H l kvs):RVD kf Γ C H (oN d e l) (uU kvs k v):=by
 unfold oN uU;rw[JN];rcases h.val J a with⟨b,c⟩|⟨b,b,b,c,_⟩;.exact b▸c▸h.snoc J a f
 .exact b▸c▸h.wd J a f
theorem RVD.get:∀{l}{kvs}{i:Nat}{d e},RVD kf Γ C H l kvs->l[i]?=al (d,e)->∃k v,kvs[i]?=al (k,v)/\kf d=al k/\RV Γ C H e v|[],_,_,_,_,_,h=>by cases h|(a,b)::l,kvs,0,d,e,h,q=>by obtain⟨k,v,r,rfl,c,f,J⟩:=h;grind|(a,b)::l,kvs,i+1,d,e,h,q=>by obtain⟨k,v,r,rfl,c,f,J⟩:=h;exact RVD.get (i:=i) J<|q
theorem RVD.keys:∀{l}{kvs},RVD kf Γ C H l kvs->∀c∈kvs,∃d,kf d=al c.1
 |[],kvs,h,c,d=>by cases h;cases d|(a,b)::l,kvs,h,c,d=>by
  obtain⟨k,v,r,rfl,b,e,J⟩:=h;rcases aE.mp d with z|z;.exact z▸⟨a,b⟩
  .exact RVD.keys J c z
theorem RVD.length:∀{l}{kvs},RVD kf Γ C H l kvs->kvs.length=l.length|[],kvs,h=>by have h:=h;subst h;rfl|(a,e)::l,kvs,h=>by obtain⟨a,v,r,rfl,a,a,J⟩:=h;rw[aQ,aQ,RVD.length J]
end
def P1(h:(DV.O.dc l).eu n=bY)(g:d.eu n=bY)(Y:e.eu n=bY):(DV.O.dc<|oN d e l).eu n=true:=by
 unfold oC at h⊢;rw[af]at h⊢;refine AB h λh1 Z=>?_;have a:=uk.mp h1;have c:=uk.mp Z;unfold oN;refine⟨uk.mpr λx b=>?_,uk.mpr λx b=>?_⟩
 .obtain⟨p,J,rfl⟩:=ar.mp b;split at J
  .obtain⟨q,hq,rfl⟩:=ar.mp J;split;.exact a _ (bB (f:=(·.1)) hq)
   .exact a _<|bB hq
  .rcases aU.mp J with q|q;.exact a _<|bB q
   .exact aI.mp q▸g
 .obtain⟨p,J,rfl⟩:=ar.mp b;split at J
  .obtain⟨q,hq,rfl⟩:=ar.mp J;split;.exact Y
   .exact c _<|bB hq
  .rcases aU.mp J with q|q;.exact c _<|bB q
   .exact aI.mp q▸Y
def Vr(h:(DV.O.su l).eu n=bY)(a:d.eu n=bY)(J:e.eu n=bY):(DV.O.su<|oN d e l).eu n=true:=P1 h a J
def GH(h:oS f (a::l) (b::m)=al z):∃x y,f a b=al x/\oS f l m=al y/\z=(x&&y):=by unfold oS at h;cases c:f a b with|none=>cases c▸h|some x=>cases a:oS f l m with|none=>cases c▸a▸h|some y=>rw[c,a]at h;exact Ah x y rfl rfl (az h).symm
theorem H7:∀{l m}{z},oS f l m=al z->∃e,(∀j d c,l[j]?=al d->m[j]?=al c->f d c=al (e j))/\((l.length==m.length)&&(av<|min l.length m.length).all e)=z
 |[],[],z,h=>by unfold oS at h;simp_all|[],b::m,z,h=>by unfold oS at h;simp_all|a::l,[],z,h=>by unfold oS at h;simp_all|a::l,b::m,z,h=>by
  refine AL (GH h) λx y b a Z=>AE (H7 a) λe Y f=>Ac (λj=>match j with|0=>x|j+1=>e j) (λj d c a J=>?_) ?_;.cases j with|zero=>simp at a J;subst a;subst J;exact b|succ j=>exact Y j d c (by simpa using a) (by simpa using J)
  .rw[aQ,aQ,show min (l.length+1) (m.length+1)=min l.length m.length+1 by lia,cL,dj,nJ,Z,<-f];grind
section
variable{X:Cx}{pins:yA}{W:St}{H:Hp}{sh:ag}{C:Nat->Addr}{s:oq}
def OF(I:Inv X pins W H sh)(h:H a=al (.J J))(h':sy X.K H a ys):False:=by
 rcases h' with(z|⟨o,z⟩)|⟨o,its,n,hk,_⟩;.lia
 .lia
 .have:=(I.bs a o<|I.mod.wg a o hk).2;lia
def rv_two(I:Inv X pins W H sh)(d:X.K=Γ.K)(R:Rp Γ C H s)(Y:RV Γ C H a x)(J:RV Γ C H b x)(f:oU s a≠9)(c:oU s b≠9):a=b\/∃l m p Z,a=.tp l/\b=.tp m/\x=.ref p/\ei Γ C H l Z/\ei Γ C H m Z:=by
 have g:∀{r:Nat},oU s (.ref r)≠9->∃l,s[r]?=al (.J l):=λ{r}h=>by have h:(match s[r]? with|some<|DV.O.J l=>4|_=>9:Nat)≠9:=h;cases e:s[r]? with|none=>exact iN rfl<|e▸h|some o=>rw[e]at h;cases o with|J l=>exact Ae l rfl|_=>exact iN rfl h
 cases a with
 |N=>have e:=Y.t9;subst e;cases b with|N=>exact .inl rfl|T _=>cases J.uT|int _=>cases J.ez|str _=>cases J.qm|tp _=>refine AD J.so λ_ _ e _=>?_;cases e|ref _=>cases J.hW|fn _=>exact iN rfl c|sk _ _=>exact iN rfl c
 |T p=>have e:=Y.uT;subst e;cases b with|N=>cases J.t9|T _=>cases J.uT;exact .inl rfl|int _=>cases J.ez|str _=>cases J.qm|tp _=>refine AD J.so λ_ _ e _=>?_;cases e|ref _=>cases J.hW|fn _=>exact iN rfl c|sk _ _=>exact iN rfl c
 |int p=>have e:=Y.ez;subst e;cases b with|N=>cases J.t9|T _=>cases J.uT|int _=>cases J.ez;exact .inl rfl|str _=>cases J.qm|tp _=>refine AD J.so λ_ _ e _=>?_;cases e|ref _=>cases J.hW|fn _=>exact iN rfl c|sk _ _=>exact iN rfl c
 |str p=>have e:=Y.qm;subst e;cases b with
  |N=>cases J.t9|T _=>cases J.uT|int _=>cases J.ez|str q=>
   have a:p.toArray=q.toArray:=Str.mk.inj<|V.str.inj J.qm;have e:p=q:=by simpa using congrArg lu a
   exact e▸.inl rfl|tp _=>refine AD J.so λ_ _ e _=>?_;cases e|ref _=>cases J.hW|fn _=>exact iN rfl c|sk _ _=>exact iN rfl c
 |tp l=>refine AL Y.so λp Z e h i=>?_;subst e;cases b with|N=>cases J.t9|T _=>cases J.uT|int _=>cases J.ez|str _=>cases J.qm|tp m=>refine AL J.so λp' k e a j=>?_;cases e;rw[<-d]at h a;exact .inr<|Ax l m p Z rfl rfl rfl i<|I.sU a h▸j|ref r=>cases J.hW;exact AF (g c) λm i=>AE (R.addr i) λys a _=>(OF I a<|d▸h).elim|fn _=>exact iN rfl c|sk _ _=>exact iN rfl c
 |ref r=>cases Y.hW;refine AF (g f) λl h=>AE (R.addr h) λZ i _=>?_;cases b with|N=>cases J.t9|T _=>cases J.uT|int _=>cases J.ez|str _=>cases J.qm|tp m=>refine AL J.so λp' k e a j=>?_;cases e;exact(OF I i<|d▸a).elim|ref a=>exact AF (g c) λm i=>have e:C r=C a:=V.ref.inj J.hW;R.inj r a _ _ h i rfl rfl e▸.inl rfl|fn _=>exact iN rfl c|sk _ _=>exact iN rfl c
 |fn _=>exact iN rfl f|sk _ _=>exact iN rfl f
def jR(h:o4 s a b=al z):rm a b=al z\/(rm a b=aT/\pK (oU s a) (oU s b)=ce/\z=ce):=by unfold o4 at h;cases e:rm a b with|some w=>rw[e]at h;exact .inl h|none=>rw[e]at h;cases q:pK (oU s a) (oU s b)with|true=>rw[q]at h;cases h|false=>rw[q]at h;exact .inr<|Ai rfl rfl (az h).symm
def Vm(h:rm a b=al z):oU s a≠9/\oU s b≠9:=by cases a<;>cases b<;>first|(cases h;done)|(constructor<;>(intro z;cases z))
def ak2{a b:ot}{z:Bool}(h:o4 s a b=some z):oU s a≠9/\oU s b≠9:=by
 rcases jR h with h|⟨_,h,_⟩;.exact Vm h
 .unfold pK at h;simp only[kr,beq_eq_false_iff_ne]at h;exact⟨h.1.1,h.1.2⟩
def aL4(h:o4 s a a=al z):z=true:=by
 rcases jR h with h|⟨_,h,_⟩;.cases a<;>cases h<;>first|rfl|exact beq_self_eq_true _
 .unfold pK at h;simp at h
set_option tactic.hygienic true in def P4(I:Inv X pins W H sh)(j:X.K=Γ.K)(R:Rp Γ C H s):∀n a b x z,oF s n a b=al z->RV Γ C H a x->RV Γ C H b x->z=true:=by
 have Y:∀a b x z,o4 s a b=al z->RV Γ C H a x->RV Γ C H b x->z=true:=by
  intro a b x z h J c;rcases rv_two I j R J c (ak2 h).1 (ak2 h).2 with e|⟨l,m,_,_,rfl,rfl,_⟩;.subst e;exact aL4 h
  .rcases jR h with h|⟨_,h,_⟩;.cases h
   .unfold pK at h;simp[oU]at h
 intro n;induction n with|zero=>exactλa b x z h=>Y a b x z h|succ n g=>
  have k:∀l m Z z,oS (oF s n) l m=al z->ei Γ C H l Z->ei Γ C H m Z->z=true:=by intro l;induction l with
   |nil=>intro m Z z h J c;cases m with|nil=>exact(az h).symm|cons b m=>refine AD c.e6 λx r e _=>?_;cases J.qx▸e
   |cons a l f=>intro m Z z h J c;cases m with|nil=>refine AD J.e6 λx r e _=>?_;cases c.qx▸e|cons b m=>refine AL (GH h) λp q d i h=>?_;obtain⟨v,r,rfl,n,o⟩:=J.e6;refine AL c.e6 λv' c e c s=>?_;cases e;rw[h,g a b v p d n c,f m r q i o s];rfl
  intro a b x z h J c;unfold oF at h;split at h;.rename_i l m;obtain⟨a,Z,rfl,d,f⟩:=J.so;refine AL c.so λb ys e i g=>?_;cases e;rw[<-j]at d i;exact k l m Z z h f<|I.sU i d▸g
  .rename_i p q;split at h
   .rename_i l m hl hm;refine AE (R.addr hl) λZ d f=>AE (R.addr hm) λys i g=>?_;have e:=J.hW.symm.trans c.hW;rw[(V.ref.inj e),i]at d;have e:=by injection(az d)
    subst e;split at h;.exact k l m ys z h f g
    .rename_i a1;exact iN (f.length.symm.trans g.length) a1
   .cases h
  .exact Y a b x z h J c
end
variable{Γ:Gm}
inductive Vw(sh:ag):Nat->Value->Prop where|N:Vw sh 0 .none|T(b:Bool):Vw sh 1<|.bool b|int(i:Int)(t:Tok):Vw sh 1<|.int i t|str(x:Str)(t:Tok):Vw sh 2<|.str x t|tp{l:Addr}{items:yJ}(h:sh.heap.IsTuple l items):Vw sh 3<|.ref l|J{l:Addr}{items:yJ}(h:sh.heap.IsList l items):Vw sh 4<|.ref l
def Vw.eq(a:Vw sh k u)(b:Vw sh k' v)(J:k≠k')(c:A.units<cLine):iA A sh u v false:=by cases a with
 |N=>cases b with|N=>simp_all|T b=>exact SeqAt.EqAt.none_bool b|int i t=>exact kE i t|str x t=>exact kF x t|tp h=>exact iL h c|J h=>exact SeqAt.EqAt.none_list h c
 |T a=>cases b with|N=>exact SeqAt.EqAt.bool_none a|T b=>simp_all|int i t=>simp_all|str x t=>exact SeqAt.EqAt.bool_str a x t|tp h=>exact SeqAt.EqAt.bool_tuple a h c|J h=>exact SeqAt.EqAt.bool_list a h c
 |int a q=>cases b with|N=>exact kG a q|T b=>simp_all|int i t=>simp_all|str x t=>exact kS a q x t|tp h=>exact i0 a q h c|J h=>exact SeqAt.EqAt.int_list a q h c
 |str a q=>cases b with|N=>exact kH a q|T b=>exact SeqAt.EqAt.str_bool a q b|int i t=>exact kT a q i t|str x t=>simp_all|tp h=>exact i3 a q h c|J h=>exact SeqAt.EqAt.str_list a q h c
 |tp g=>cases b with|N=>exact iM g c|T b=>exact SeqAt.EqAt.tuple_bool b g c|int i t=>exact i6 i t g c|str x t=>exact i7 x t g c|tp h=>simp_all|J h=>exact SeqAt.EqAt.tuple_list g h c
 |J g=>cases b with|N=>exact SeqAt.EqAt.list_none g c|T b=>exact SeqAt.EqAt.list_bool b g c|int i t=>exact SeqAt.EqAt.list_int i t g c|str x t=>exact SeqAt.EqAt.list_str x t g c|tp h=>exact SeqAt.EqAt.list_tuple g h c|J h=>simp_all
def Vw.rc{A:aW}{sh:ag}{k k':Nat}{u v:Value}(a:Vw sh k u)(b:Vw sh k' v)(J:k≠k')(hu:A.units<cLine):ol A sh u v false:=by cases a with
 |N=>cases b with|N=>exact absurd rfl J|T b=>exact SeqAt.RcAt.none_bool b|int i t=>exact SeqAt.RcAt.none_int i t|str x t=>exact SeqAt.RcAt.none_str x t|tp h=>exact SeqAt.RcAt.none_tuple h hu|J h=>exact SeqAt.RcAt.none_list h hu
 |T a=>cases b with|N=>exact SeqAt.RcAt.bool_none a|T b=>exact absurd rfl J|int i t=>exact absurd rfl J|str x t=>exact SeqAt.RcAt.bool_str a x t|tp h=>exact SeqAt.RcAt.bool_tuple a h hu|J h=>exact SeqAt.RcAt.bool_list a h hu
 |int a q=>cases b with|N=>exact SeqAt.RcAt.int_none a q|T b=>exact absurd rfl J|int i t=>exact absurd rfl J|str x t=>exact SeqAt.RcAt.int_str a q x t|tp h=>exact SeqAt.RcAt.int_tuple a q h hu|J h=>exact SeqAt.RcAt.int_list a q h hu
 |str a q=>cases b with|N=>exact SeqAt.RcAt.str_none a q|T b=>exact SeqAt.RcAt.str_bool a q b|int i t=>exact SeqAt.RcAt.str_int a q i t|str x t=>exact absurd rfl J|tp h=>exact SeqAt.RcAt.str_tuple a q h hu|J h=>exact SeqAt.RcAt.str_list a q h hu
 |tp g=>cases b with|N=>exact SeqAt.RcAt.tuple_none g hu|T b=>exact SeqAt.RcAt.tuple_bool b g hu|int i t=>exact SeqAt.RcAt.tuple_int i t g hu|str x t=>exact SeqAt.RcAt.tuple_str x t g hu|tp h=>exact absurd rfl J|J h=>exact SeqAt.RcAt.tuple_list g h hu
 |J g=>cases b with|N=>exact SeqAt.RcAt.list_none g hu|T b=>exact SeqAt.RcAt.list_bool b g hu|int i t=>exact SeqAt.RcAt.list_int i t g hu|str x t=>exact SeqAt.RcAt.list_str x t g hu|tp h=>exact SeqAt.RcAt.list_tuple g h hu|J h=>exact absurd rfl J
def Vw.ne(a:Vw sh k u)(b:Vw sh k' v)(J:k≠k')(c:A.units<cLine):nO A sh u v true:=by cases a with
 |N=>cases b with|N=>simp_all|T b=>exact SeqAt.RcNeAt.none_bool b|int i t=>exact SeqAt.RcNeAt.none_int i t|str x t=>exact SeqAt.RcNeAt.none_str x t|tp h=>exact SeqAt.RcNeAt.none_tuple h c|J h=>exact SeqAt.RcNeAt.none_list h c
 |T a=>cases b with|N=>exact SeqAt.RcNeAt.bool_none a|T b=>simp_all|int i t=>simp_all|str x t=>exact SeqAt.RcNeAt.bool_str a x t|tp h=>exact SeqAt.RcNeAt.bool_tuple a h c|J h=>exact SeqAt.RcNeAt.bool_list a h c
 |int a q=>cases b with|N=>exact SeqAt.RcNeAt.int_none a q|T b=>simp_all|int i t=>simp_all|str x t=>exact SeqAt.RcNeAt.int_str a q x t|tp h=>exact SeqAt.RcNeAt.int_tuple a q h c|J h=>exact SeqAt.RcNeAt.int_list a q h c
 |str a q=>cases b with|N=>exact SeqAt.RcNeAt.str_none a q|T b=>exact SeqAt.RcNeAt.str_bool a q b|int i t=>exact SeqAt.RcNeAt.str_int a q i t|str x t=>simp_all|tp h=>exact SeqAt.RcNeAt.str_tuple a q h c|J h=>exact SeqAt.RcNeAt.str_list a q h c
 |tp g=>cases b with|N=>exact SeqAt.RcNeAt.tuple_none g c|T b=>exact SeqAt.RcNeAt.tuple_bool b g c|int i t=>exact SeqAt.RcNeAt.tuple_int i t g c|str x t=>exact SeqAt.RcNeAt.tuple_str x t g c|tp h=>simp_all|J h=>exact SeqAt.RcNeAt.tuple_list g h c
 |J g=>cases b with|N=>exact SeqAt.RcNeAt.list_none g c|T b=>exact SeqAt.RcNeAt.list_bool b g c|int i t=>exact SeqAt.RcNeAt.list_int i t g c|str x t=>exact SeqAt.RcNeAt.list_str x t g c|tp h=>exact SeqAt.RcNeAt.list_tuple g h c|J h=>simp_all
def Sk(a b:List Nat):((⟨a.toArray⟩:Str)==⟨b.toArray⟩)=(a==b):=by lia
structure J8(A:aW)(sh:ag)(u v:Value)(z:Bool):Prop where
 rc:ol A sh u v z
 ne:nO A sh u v<|!z
section
variable{X:Cx}{pins:yA}{W:St}{H:Hp}{sh:ag}{C:Nat->Addr}{s:oq}
def LJ(I:Inv X pins W H sh)(c:X.K=Γ.K)(R:Rp Γ C H s)(h:RV Γ C H d x)(r:RelV x u)(a:oU s d≠9):Vw sh (oU s d) u:=by cases d with
 |N=>have e:=h.t9;subst e;exact r▸.N|T b=>have e:=h.uT;subst e;exact r▸.T b|int i=>cases h.ez;obtain⟨t,rfl⟩:=r;exact .int i t|str y=>have e:=h.qm;subst e;obtain⟨t,rfl⟩:=r;exact .str _ t|tp l=>refine AL h.so λa J e q _=>?_;subst e;cases r;rw[<-c]at q;exact AH (I.tuple q) λits _ t _=>.tp t|ref n=>have e:=h.hW;subst e;cases r;have a:(match s[n]? with|some<|DV.O.J l=>4|_=>9:Nat)≠9:=a;show Vw sh (match s[n]? with|some<|DV.O.J l=>4|_=>9:Nat) _;cases b:s[n]? with|none=>simp_all|some o=>rw[b]at a;cases o with|J l=>exact AE (R.addr b) λJ e _=>AH (I.list<|qn.of e) λits _ t _=>.J t.isList|_=>simp_all
 |fn _=>exact iN rfl a|sk _ _=>exact iN rfl a
def Qu(I:Inv X pins W H sh)(g:X.K=Γ.K)(R:Rp Γ C H s)(h:o4 s a b=al z)(Y:RV Γ C H a x)(c:RV Γ C H b y)(d:RelV x u)(J:RelV y v)(f:A.units<cLine):iA A sh u v z/\J8 A sh u v z:=by
 rcases jR h with h|⟨_,e,hz⟩
 .cases a<;>cases b<;>try cases h
  .cases Y.t9;cases c.t9;cases d;cases J;exact⟨eY _,SeqAt.RcAt.none_none,SeqAt.RcNeAt.none_none⟩
  .cases Y.uT;cases c.uT;cases d;exact J▸⟨SeqAt.EqAt.bool_bool _ _,SeqAt.RcAt.bool_bool _ _,SeqAt.RcNeAt.bool_bool _ _⟩
  .cases Y.uT;cases c.ez;cases d;obtain⟨t',rfl⟩:=J;exact⟨SeqAt.EqAt.bool_int _ _ _,SeqAt.RcAt.bool_int _ _ _,SeqAt.RcNeAt.bool_int _ _ _⟩
  .cases Y.ez;cases c.uT;obtain⟨t,rfl⟩:=d;exact J▸⟨SeqAt.EqAt.int_bool _ _ _,SeqAt.RcAt.int_bool _ _ _,SeqAt.RcNeAt.int_bool _ _ _⟩
  .cases Y.ez;cases c.ez;obtain⟨t,rfl⟩:=d;obtain⟨t',rfl⟩:=J;exact⟨SeqAt.EqAt.int_int _ _ _ _,SeqAt.RcAt.int_int _ _ _ _,SeqAt.RcNeAt.int_int _ _ _ _⟩
  .cases Y.qm;cases c.qm;obtain⟨t,rfl⟩:=d;obtain⟨t',rfl⟩:=J;rw[<-Sk];exact⟨SeqAt.EqAt.str_str _ _ _ _,SeqAt.RcAt.str_str _ _ _ _,SeqAt.RcNeAt.str_str _ _ _ _⟩
 .subst hz;unfold pK at e;simp only[kr,beq_eq_false_iff_ne]at e;have Z:=LJ I g R Y d e.1.1;have a:=LJ I g R c J e.1.2;exact⟨Z.eq a e.2 f,Z.rc a e.2 f,Z.ne a e.2 f⟩
set_option tactic.hygienic true in def H8(I:Inv X pins W H sh)(o:X.K=Γ.K)(R:Rp Γ C H s):∀n a b x y u v A z,oF s n a b=al z->RV Γ C H a x->RV Γ C H b y->RelV x u->RelV y v->eX n A->iA A sh u v z/\J8 A sh u v z:=by intro n;induction n with|zero=>exactλa b x y u v A z h k h2 r t g=>Qu I o R h k h2 r t g.sD|succ n h=>
  have J:∀{l m:List ot}{B D:List V}{its its':yG}{A:aW}{e:Nat->Bool},ei Γ C H l B->ei Γ C H m D->Vals B its->Vals D its'->eX n A->(∀j d a,l[j]?=al d->m[j]?=al a->oF s n d a=al (e j))->∀j(k:j<its.toArray.size)(h2:j<its'.toArray.size),iA A sh its.toArray[j] its'.toArray[j]<|e j:=by
   intro l m B D its its' A e d Y i Z g n j k h2;have G:=i.length;have H:=Z.length;have E:=d.length;have F:=Y.length;have k:j<its.length:=by simp_all
   have r:j<its'.length:=by simp_all
   have a:j<l.length:=by lia
   have b:j<m.length:=by lia
   refine AE (d.get<|aj a) λx ex d=>AE (Y.get<|aj b) λy s t=>AE (i.get ex) λu i v=>AE (Z.get s) λw s z=>?_;have B:its.toArray[j]=u:=by have:=aj k;rw[i]at this;simpa using(az this).symm
   have i:its'.toArray[j]=w:=by have:=aj r;rw[s]at this;simpa using(az this).symm
   exact B▸i▸(h _ _ x y u w A (e j) (n j _ _ (aj a) (aj b)) d t v z g).1
  intro a b x y u v A z h k h2 r t g;have hz:=h;unfold oF at h;split at h
  .rename_i l m;refine AL (id k.so) λp B ex a d=>AL (id h2.so) λq D s j Y=>?_;subst ex;subst s;cases r;cases t;rw[<-o]at a j;refine AH (I.tuple a) λits i b _=>AH (I.tuple j) λits' Z j _=>AE (H7 h) λe n u=>?_;have G:=i.length;have H:=Z.length;have E:=d.length;have F:=Y.length;have sz:((av<|min its.toArray.size its'.toArray.size).all e&&its.toArray.size==its'.toArray.size)=z:=by grind
   have key:=ln b j g.sD<|J d Y i Z g.in1 n;have v:=SeqAt.RcNeAt.tuples b j g.sD<|J d Y i Z g.in1 n;rw[sz]at key v;refine⟨?_,key,v⟩;by_cases a:p=q;.subst a;exact P4 I o R _ _ _ _ _ hz k h2▸eY _
   .exact gq a key
  .rename_i p q;split at h
   .rename_i l m hl hm;refine AE (R.addr hl) λxs E d=>AE (R.addr hm) λys F Y=>?_;have ex:=k.hW;have s:=h2.hW;subst ex;subst s;cases r;cases t;refine AH (I.list<|qn.of E) λits i b _=>AH (I.list<|qn.of F) λits' Z j _=>?_;have G:=i.length;have H:=Z.length;have a:=d.length;have a:=Y.length;have fin:J8 A sh (.ref<|C p) (.ref<|C q) z:=by
     split at h
     .rename_i a0;refine AE (H7 h) λe n u=>?_;have sz:(av its.toArray.size).all e=z:=by simp_all
      have key:=SeqAt.RcAt.lists b.isList j.isList (by simp;lia) g.sD<|J d Y i Z g.in1 n;have v:=SeqAt.RcNeAt.lists (e:=e) b.isList j.isList (by simp;omega) g.sD<|J d Y i Z g.in1 n;rw[sz]at key v;exact⟨key,v⟩
     .rename_i a0;cases h;have a:(its.toArray.size !=its'.toArray.size)=true:=by simp_all
      exact⟨SeqAt.RcAt.lists_lengths b.isList j.isList a g.sD,SeqAt.RcNeAt.lists_lengths b.isList j.isList a g.sD⟩
    refine Ad ?_ fin;by_cases a:C p=C q;.exact P4 I o R _ _ _ _ _ hz RV.D1 (by simp_all)▸a▸eY _
    .exact gq a fin.rc
   .cases h
  .exact Qu I o R h k h2 r t g.sD
end
variable{Γ:Gm}{X:Cx}
noncomputable def HL:rH->mR|.add=>.Add|.sub=>.Sub|.mul=>.Mult|.fdiv=>.FloorDiv|.mod=>.Mod|.pow=>.Pow|.shl=>.LShift|.shr=>.RShift|.band=>.BitAnd|.bor=>.BitOr
noncomputable def BA:pU->CmpOp|.eq=>.Eq|.ne=>.NotEq|.lt=>.Lt|.le=>.LtE|.gt=>.Gt|.ge=>.GtE|.isin=>.In|.pb=>.NotIn
def CV(Γ:Gm)(f:ot->ot->oq->oy ot):R2:=λx y H Q=>∃C s a b d c,Rp Γ C H s/\RV Γ C H a x/\RV Γ C H b y/\a.eu s.length=bY/\b.eu s.length=bY/\f a b s=.ok d c/\vv Γ C s H d c Q
def jE(h:rn d s=.ok e t):d=e/\s=t:=by unfold rn at h;lia
def qI(h:pC o s=.ok e t):e=.ref s.length/\t=s++[o]:=by unfold pC at h;lia
def MG(a b:List Nat):(⟨a.toArray⟩:Str)++⟨b.toArray⟩=⟨(a++b).toArray⟩:=by show Str.append _ _=_;unfold Str.append;simp
def qH:oE<=a9:=by rw[fU];decide
def Xj:uz X (eR .Mult) (rI (λi j=>DV.pE i j=true) λi j=>.int<|i*j):=Fy λi j _ _ _ _ _ hc q=>mul_int q<|by
 unfold DV.pE at hc;simp only[cf,af,decide_eq_true_eq]at hc;rcases hc with(h|h)|⟨J,Uu⟩;.exact FY.ok<|.inl<|by omega
 .exact FY.ok<|.inr<|by omega
 .unfold DV.Kb at J Uu;exact IntMulOk.of_le (m:=60000) (n:=60000) (intBits_le_iff.mpr J) (intBits_le_iff.mpr Uu) (by decide)
def Vv(a:0<=x)(a:0<=y):gX x y=((x.toNat|||y.toNat)):=by
 have nn:∀z:Int,fI (fI z)=z:=λz=>by unfold fI;lia
 unfold gX;rw[bitAnd_nn (by unfold fI;lia) (by unfold fI;lia),nn,nn,nn]
set_option tactic.hygienic true in def TM(hK:X.K=Γ.K)(op:rH):uz X (eR<|HL op) (CV Γ<|DV.xj op):=by intro Uu s W H x y v u Q I Z ry h;obtain⟨C,st,a,b,d,a0,R,ha,hb,na,nb,J,q⟩:=h;cases op with
 |add=>cases a with
  |int a=>cases b with|int b=>change(rn _) st=_ at J;obtain⟨rfl,rfl⟩:=jE J;have ex:=ha.ez;have Y:=hb.ez;subst ex;subst Y;exact R8 Uu s W H _ _ v u Q I Z ry ⟨_,_,rfl,rfl,q.here R rfl RV.nC⟩|_=>exact fb J
  |str a=>
   cases b with|str b=>
    change(if _ then _ else _:rG ot) st=_ at J;split at J
    .rename_i hl;obtain⟨rfl,rfl⟩:=jE J;have ex:=ha.qm;have Y:=hb.qm;subst ex;subst Y;refine W2 Uu s W H _ _ v u Q I Z ry ⟨_,_,rfl,rfl,?_,?_⟩;.show a.toArray.size+b.toArray.size<=_;simp only[aL];exact au hl qH
     .rw[MG];exact q.here R rfl<|RV.vc<|by rw[aN];exact hl
    .exact fb J|_=>exact fb J
  |ref a=>
   cases b with|ref b=>
    change(match st[a]?,st[b]? with|some<|DV.O.J l,some<|DV.O.J m=>if l.length+m.length<=oE then pC (.J<|l++m) st else .B|_,_=>.B:oy ot)=_ at J;split at J
    .rename_i l m h1 h2;split at J
     .rename_i hl;obtain⟨rfl,rfl⟩:=qI J;obtain⟨xs,e1,d1⟩:=R.addr h1;obtain⟨ys,e2,d2⟩:=R.addr h2;have ex:=ha.hW;have Y:=hb.hW;subst ex;subst Y;have b1:=R.wf _ _ h1;have b2:=R.wf _ _ h2;unfold oC at b1 b2;refine Tz Uu s W H _ _ v u Q I Z ry ⟨C a,C b,xs,ys,rfl,rfl,e1,e2,?_,λp hp=>?_⟩;.rw[d1.length,d2.length];exact au hl qH
      .exact q.alloc R (d1.append d2) (jm b1 b2) hp
     .exact fb J
    .exact fb J|_=>exact fb J
  |_=>exact fb J
 |sub=>cases a with
  |int a=>cases b with|int b=>change(rn _) st=_ at J;obtain⟨rfl,rfl⟩:=jE J;have ex:=ha.ez;have Y:=hb.ez;subst ex;subst Y;exact Sb Uu s W H _ _ v u Q I Z ry ⟨_,_,rfl,rfl,q.here R rfl RV.nC⟩|_=>exact fb J
  |_=>exact fb J
 |mul=>cases a with
  |int a=>
   cases b with|int b=>
    change(if _ then _ else _:rG ot) st=_ at J;split at J;.rename_i hc;obtain⟨rfl,rfl⟩:=jE J;have ex:=ha.ez;have Y:=hb.ez;subst ex;subst Y;exact Xj Uu s W H _ _ v u Q I Z ry ⟨_,_,rfl,rfl,hc,q.here R rfl RV.nC⟩
    .exact fb J|_=>exact fb J
  |_=>exact fb J
 |fdiv=>cases a with
  |int a=>
   cases b with|int b=>
    change(if _ then _ else _:rG ot) st=_ at J;split at J;.rename_i hc;obtain⟨rfl,rfl⟩:=jE J;have ex:=ha.ez;have Y:=hb.ez;subst ex;subst Y;refine Vi Uu s W H _ _ v u Q I Z ry ⟨_,_,rfl,rfl,⟨hc.1,?_⟩,q.here R rfl RV.nC⟩;have:=hc.2;unfold DV.Bg at this;simpa using this
    .exact fb J|_=>exact fb J
  |_=>exact fb J
 |mod=>cases a with
  |int a=>
   cases b with|int b=>
    change(if _ then _ else _:rG ot) st=_ at J;split at J;.rename_i hc;obtain⟨rfl,rfl⟩:=jE J;have ex:=ha.ez;have Y:=hb.ez;subst ex;subst Y;exact Tw Uu s W H _ _ v u Q I Z ry ⟨_,_,rfl,rfl,hc,q.here R rfl RV.nC⟩
    .exact fb J|_=>exact fb J
  |_=>exact fb J
 |pow=>cases a with
  |int a=>
   cases b with|int b=>
    change(if _ then _ else _:rG ot) st=_ at J;split at J;.rename_i hc;obtain⟨rfl,rfl⟩:=jE J;have ex:=ha.ez;have Y:=hb.ez;subst ex;subst Y;exact Ui Uu s W H _ _ v u Q I Z ry ⟨_,_,rfl,rfl,hc,q.here R rfl RV.nC⟩
    .exact fb J|_=>exact fb J
  |_=>exact fb J
 |shl=>exact fb J|shr=>exact fb J|band=>exact fb J|bor=>cases a with
  |int a=>
   cases b with|int b=>
    change(if _ then _ else _:rG ot) st=_ at J;split at J;.rename_i hc;obtain⟨rfl,rfl⟩:=jE J;have ex:=ha.ez;have Y:=hb.ez;subst ex;subst Y;exact Rf Uu s W H _ _ v u Q I Z ry ⟨_,_,rfl,rfl,by show Q (V.int<|gX a b) H;rw[Vv hc.1 hc.2];exact q.here R rfl RV.nC⟩
    .exact fb J|_=>exact fb J
  |_=>exact fb J
variable{Γ:Gm}{X:Cx}{pins:yA}{W:St}{H:Hp}{sh:ag}{C:Nat->Addr}{s:oq}
set_option tactic.hygienic true in def aP9(h:oF s n a b=al z):oU s a≠9:=by cases n with|zero=>exact(ak2 h).1|succ n=>
  unfold oF at h;split at h;.simp[oU]
  .split at h;.rename_i J _;simp[oU,J]
   .cases h
  .exact(ak2 h).1
def Wb(I:Inv X pins W H sh)(j:X.K=Γ.K)(R:Rp Γ C H s):∀n a b c x p q,RV Γ C H a x->RV Γ C H b x->oF s n a c=al p->oF s n b c=al q->p=q:=by
 intro n;induction n with|zero=>
  intro a b c x p q J h d f;rcases rv_two I j R J h (aP9 d) (aP9 f)with e|⟨l,m,_,_,rfl,rfl,_⟩;.subst e;exact az<|d▸f
  .unfold oF at d f;have:o4 s (.tp l) c=o4 s (.tp m) c:=by cases c<;>rfl
   rw[this,f]at d;exact(az d).symm|succ n o=>
  have Y:∀l m k g p q,ei Γ C H l g->ei Γ C H m g->oS (oF s n) l k=al p->oS (oF s n) m k=al q->p=q:=by intro l;induction l with|nil=>intro m k g p q J h d f;cases J.qx;have a:=have:=h.length;fm.mp this.symm;subst a;exact az<|d▸f|cons a l i=>intro m k g p q J h d f;obtain⟨x,r,rfl,g,l⟩:=J.e6;cases m with|nil=>cases h.qx|cons b m=>refine AL h.e6 λx' c e h n=>?_;cases e;cases k with|nil=>rw[<-az d,<-az f]|cons c k=>refine AL (GH d) λp1 Z d e p=>AL (GH f) λq1 f q t u=>?_;rw[p,u,o a b c x p1 q1 g h d q,i m k r Z f l n e t]
  intro a b c x p q J h d f;rcases rv_two I j R J h (aP9 d) (aP9 f)with e|⟨l,m,_,g,rfl,rfl,_,a,b⟩;.subst e;exact az<|d▸f
  .cases c with|tp k=>exact Y l m k g p q a b d f|_=>
    unfold oF at d f;simp only at d f;have a:o4 s (.tp l)=o4 s (.tp m):=by funext c;cases c<;>rfl
    exact az<|(a▸d).symm.trans f
theorem Nj:∀{l}{z},pD s x l=al z->∃e:Nat->Bool,(∀j d,l[j]?=al d->oF s oM d x=al (e j))/\(z=bY↔∃j,j<l.length/\e j=bY)|[],z,h=>by unfold pD at h;simp_all|y::l,z,h=>by unfold pD at h;cases c:oF s oM y x with|none=>simp_all|some a=>cases d:pD s x l with|none=>simp_all|some b=>
    rw[c,d]at h;refine AE (Nj d) λe b J=>Ac (λj=>match j with|0=>a|j+1=>e j) (λj d g=>?_) ?_;.cases j with|zero=>simp at g;exact g▸c|succ j=>exact b j d<|by simpa using g
    .rw[<-(az h),cf,J];constructor
     .rintro(q|⟨j,hj,q⟩);.exact Ac 0 (by simp) q
      .exact Ac (j+1) (by simp_all) q
     .rintro⟨j,hj,q⟩;cases j with|zero=>exact .inl q|succ j=>exact .inr<|Ac j (by simpa using hj) q
def Nl(I:Inv X pins W H sh)(n:X.K=Γ.K)(R:Rp Γ C H s)(o:RV Γ C H x xv)(p:RelV xv xu){a:yG}(c:ei Γ C H l ys)(f:Vals ys a)(h:pD s x l=al z)(r:eX oM A):∃e:Value->Bool,(∀y,y∈a.toArray->iA A sh y xu (e y))/\a.toArray.any e=z:=by
 refine AE (Nj h) λe i h2=>?_;have len:a.length=l.length:=f.length▸c.length;have J:∀j u,a[j]?=al u->∃d y,l[j]?=al d/\ys[j]?=al y/\RV Γ C H d y/\RelV y u:=λj u g=>by have b:j<l.length:=len▸(ae.mp g).1;refine AE (c.get<|aj b) λy c l=>AE (f.get c) λu' h Y=>?_;cases g▸h;exact Am _ y (aj b) c l Y
 classical
 let f:Value->Bool:=λu=>decide<|∃j,a[j]?=al u/\e j=bY;have m:∀j u,a[j]?=al u->f u=e j:=λj u g=>by refine AS (J j u g) λd y c l h Y=>?_;cases q:e j with|true=>exact gv<|Ac j g q|false=>refine ij λ⟨k,e,l⟩=>AS (J k u e) λd' e k1 k2 k3 e=>?_;cases e.inj Y;have:=Wb I n R _ d d' x _ _ _ h k3 (i j d c) (i k d' k1);lia
 refine Ac f (λu k=>?_) ?_
 .obtain⟨j,b,g⟩:=d9.mp (by simp_all:u∈a);have e:a[j]?=al u:=by rw[aj b,g]
  exact AS (J j u e) λd y c l h Y=>m j u e▸(H8 I n R _ d x y xv u xu A _ (i j d c) h o Y p r).1
 .have e1:a.toArray.any f=bY↔z=true:=by
   rw[h2,List.any_toArray,lV];constructor
   .rintro⟨u,k,q⟩;obtain⟨j,b,g⟩:=d9.mp k;have e:a[j]?=al u:=by rw[aj b,g]
    exact Ac j (by lia) (m j u e▸q)
   .rintro⟨j,b,q⟩;have Z:j<a.length:=by lia
    exact Ac (a[j]) (List.getElem_mem Z) (m j _ (aj Z)▸q)
  cases z<;>cases q:a.toArray.any f;.rfl
  .cases e1.mp q
  .rw[q]at e1;cases e1.mpr rfl
  .rfl
variable{Γ:Gm}{X:Cx}
def fE{r:oy α}{b:β}(h:r.bind f=.ok b t):∃a s,r=.ok a s/\f a s=.ok b t:=DV.R.yo h
set_option tactic.hygienic true in def NZ(m:X.K=Γ.K)(g:eX (oM+1) X.A)(neg:Bool){st}(I:Inv X Uu W H sh)(Y:RelV x v)(n:RelV y u)(R:Rp Γ C H st)(s:RV Γ C H a x)(x:RV Γ C H b y)(h:rq a b st=.ok z a1):a1=st/\∀Q:Value->ag->Prop,(∀c,Inv X Uu W H c->Q (.bool<|if neg then !z else z) c)->wpAny (model X.prog X.w) X.A (cS (if neg then .NotIn else .In) v u) Q X.xe sh:=by unfold rq at h;cases b with
 |tp l=>simp only at h;cases e:pD st a l with|none=>cases e▸h|some w=>rw[e]at h;cases h;obtain⟨p,b,rfl,q,d⟩:=x.so;cases n;rw[<-m]at q;refine AH (I.tuple q) λits p t _=>AE (Nl I m R s Y d p e (A:=X.A.in1) g.in1) λf Z h2=>Ad rfl<|λQ b=>?_;cases neg with|false=>exact SeqAt.in_tupleAt f t Z<|h2▸b _ I|true=>exact SeqAt.notIn_tupleAt f t Z<|h2▸b _ I
 |ref r=>simp only at h;cases i:st[r]? with|none=>cases i▸h|some o=>rw[i]at h;cases o with
   |J l=>simp only at h;cases e:pD st a l with|none=>cases e▸h|some w=>rw[e]at h;cases h;refine AE (R.addr i) λys c d=>?_;have j:=x.hW;subst j;cases n;refine AH (I.list<|qn.of c) λits p t _=>AE (Nl I m R s Y d p e (A:=X.A.in1) g.in1) λf Z h2=>Ad rfl<|λQ b=>?_;cases neg with|false=>exact SeqAt.in_listAt f t.isList Z<|h2▸b _ I|true=>exact SeqAt.notIn_listAt f t.isList Z<|h2▸b _ I
   |dc l=>
    simp only at h;split at h;case isFalse=>exact fb h
    rename_i J;cases h;refine AF (GB J) λk e=>AE (R.obj r _ i) λkvs c d=>?_;have j:=x.hW;subst j;cases n;have ex:=GS e s;subst ex;have o:(oO a l).isSome=(v5 kvs k).isSome:=by rcases d.val keyOf_inj e with⟨f,m⟩|⟨_,_,f,m,_⟩<;>rw[f,m]<;>rfl
    refine Ad rfl<|λQ b=>?_;rw[o]at b;cases neg with|false=>exact K4 (Ds g) I (v7.k c) Y b|true=>exact Mr (Ds g) I (v7.k c) Y b
   |su l=>
    simp only at h;split at h;case isFalse=>exact fb h
    rename_i J;cases h;refine AF (Ja J) λk e=>AE (R.obj r _ i) λkvs c d=>?_;have j:=x.hW;subst j;cases n;refine AE (Jv e s) λkb ex i=>?_;subst ex;have o:(oO a l).isSome=(v5 kvs k).isSome:=by rcases d.val keyT_inj e with⟨f,m⟩|⟨_,_,f,m,_⟩<;>rw[f,m]<;>rfl
    refine Ad rfl<|λQ b=>?_;rw[o]at b;cases neg with|false=>exact K4 (Ds g) I (v7.t c i) Y b|true=>exact Mr (Ds g) I (v7.t c i) Y b
   |ro l=>exact fb h|ins c l=>exact fb h|r7 l=>exact fb h
 |_=>exact fb h
def SX{st}(h:DV.qv .le a b st=.ok d J):∃i j,a=.int i/\b=.int j:=by cases a with|int i=>(cases b with|int j=>exact Af i j rfl rfl|_=>exact fb h)|_=>exact fb h
def QC(h:DV.Gj a=al (i,x)):a=.tp [.int i,.str x]:=by
 unfold DV.Gj at h;split at h;.cases h;rfl
 .cases h
set_option tactic.hygienic true in def Vz{st}(h:DV.K3 f a b st=.ok d J):∃i x j y,a=.tp [.int i,.str x]/\b=.tp [.int j,.str y]:=by
 unfold DV.K3 at h;split at h;.rename_i i x j y e1 e2;exact Ao i x j y (QC e1) (QC e2)
 .exact fb h
def ord_inv{st}(c:op=.lt\/op=.gt\/op=.ge)(h:DV.qv op a b st=.ok d J):(∃i j,a=.int i/\b=.int j)\/∃i x j y,a=.tp [.int i,.str x]/\b=.tp [.int j,.str y]:=by rcases c with rfl|rfl|rfl<;>
 (cases a with|int i=>(cases b with|int j=>exact .inl<|Af i j rfl rfl|_=>exact fb h)|tp l=>(cases b with
  |tp m=>first|exact .inr<|Vz h|exact fb h
  |_=>exact fb h)|_=>exact fb h)
section
variable{pins:yA}{sh:ag}{W:St}{H:Hp}{C:Nat->Addr}{st:oq}
end
def Io(hK:X.K=Γ.K)(hr:eX (oM+1) X.A)(op:pU):uz X (cS<|BA op) (CV Γ<|DV.qv op):=by intro Uu s W H x y v u Q I rx Z h;obtain⟨C,st,a,b,d,Y,R,ha,hb,na,nb,J,q⟩:=h;cases op with
 |eq=>have J:DV.Hx a b st=.ok d Y:=J;unfold DV.Hx at J;cases e:oF st oM a b with|none=>rw[e]at J;cases J|some z=>rw[e]at J;cases J;exact(H8 I hK R _ a b x y v u X.A z e ha hb rx Z<|hr.mono<|by omega).2.rc X.prog X.w X.xe _ ⟨.T z,H,I,rfl,q.here R rfl RV.uO⟩
 |ne=>have J:(match oF st oM a b with|some r=>.ok (.T<|!r) st|none=>.B:oy ot)=.ok d Y:=J;cases e:oF st oM a b with|none=>rw[e]at J;cases J|some z=>rw[e]at J;cases J;exact(H8 I hK R _ a b x y v u X.A z e ha hb rx Z<|hr.mono<|by omega).2.ne X.prog X.w X.xe _ ⟨.T<|!z,H,I,rfl,q.here R rfl RV.uO⟩
 |lt=>
  rcases ord_inv (.inl rfl) J with⟨i,j,rfl,rfl⟩|⟨i,x0,j,y0,rfl,rfl⟩;.cases J;have ex:=ha.ez;have ey:=hb.ez;subst ex;subst ey;exact Rx Uu s W H _ _ v u Q I rx Z ⟨_,_,rfl,rfl,q.here R rfl RV.uO⟩
  .exact fb J|le=>obtain⟨i,j,rfl,rfl⟩:=SX J;cases J;have ex:=ha.ez;have ey:=hb.ez;subst ex;subst ey;exact Rr Uu s W H _ _ v u Q I rx Z ⟨_,_,rfl,rfl,q.here R rfl RV.uO⟩|gt=>
  rcases ord_inv (.inr<|.inl rfl) J with⟨i,j,rfl,rfl⟩|⟨i,x0,j,y0,rfl,rfl⟩;.cases J;have ex:=ha.ez;have ey:=hb.ez;subst ex;subst ey;exact R0 Uu s W H _ _ v u Q I rx Z ⟨_,_,rfl,rfl,q.here R rfl RV.uO⟩
  .exact fb J|ge=>
  rcases ord_inv (.inr<|.inr rfl) J with⟨i,j,rfl,rfl⟩|⟨i,x0,j,y0,rfl,rfl⟩;.cases J;have ex:=ha.ez;have ey:=hb.ez;subst ex;subst ey;exact RG Uu s W H _ _ v u Q I rx Z ⟨_,_,rfl,rfl,q.here R rfl RV.uO⟩
  .exact fb J|isin=>have J:(rq a b st).bind (λr s=>.ok (.T r) s)=.ok d Y:=J;obtain⟨z,s1,e1,e2⟩:=fE J;obtain⟨rfl,w⟩:=NZ hK hr false I rx Z R ha hb e1;cases e2;exact w _ λs' I'=>⟨.T z,H,I',rfl,q.here R rfl RV.uO⟩|pb=>have J:(rq a b st).bind (λr s=>.ok (.T<|!r) s)=.ok d Y:=J;obtain⟨z,s1,e1,e2⟩:=fE J;obtain⟨rfl,w⟩:=NZ hK hr true I rx Z R ha hb e1;cases e2;exact w _ λs' I'=>⟨.T<|!z,H,I',rfl,q.here R rfl RV.uO⟩
def Il(h:ei Γ C H l J)(e:((pF l.length i).bind λj=>l[j]?)=al d):∃v,BB J i=al v/\RV Γ C H d v:=by cases a:pF l.length i with|none=>simp_all|some j=>rw[a]at e;refine AE (h.get<|e) λv b b=>Ac v ?_ b;unfold BB;have:C7 J.length i=al j:=h.length▸a;simp_all
def JB{l:List ot}(e:((pF l.length i).bind λj=>l[j]?)=al d):d∈l:=by cases a:pF l.length i with|none=>simp_all|some j=>exact aA ((a▸e))
set_option tactic.hygienic true in def RS(A:X.K=Γ.K)(B:X.A.units+2<cLine):CP X<|CV Γ DV.rW:=by refineλY z Z s W H x y v u Q I j m h n=>AJ h λC st a Zz=>AK Zz λb d d R o hb Zz=>AU Zz λna d J q=>?_;unfold DV.rW at J;cases a with
 |tp l=>cases b with
  |int i=>
   simp only at J;split at J;.rename_i d' e;cases J;obtain⟨p,xs,rfl,a,d⟩:=o.so;have t:=hb.ez;subst t;exact AE (Il d e) λw f g=>Zd A Y z Z s W H _ _ v u Q I j m ⟨p,xs,i,w,rfl,rfl,a,f,q.here R (uk.mp na _<|JB e) g⟩ n
   simp_all|_=>exact fb J
 |str l=>cases b with
  |int i=>
   simp only at J;split at J;.rename_i c e;cases J;have a:=o.y2;have ex:=o.qm;have t:=hb.ez;subst ex;subst t;exact ye Y z Z s W H _ _ v u Q I j m ⟨⟨l.toArray⟩,i,c,rfl,rfl,by show l.toArray.size<=_;exact aL▸au a qH,e,q.here R rfl<|RV.vc<|by simp;decide⟩ n
   simp_all|_=>exact fb J
 |ref r=>cases o.hW;simp only at J;cases a:st[r]? with|none=>simp_all|some o=>rw[a]at J;cases o with
   |J l=>cases b with
    |int i=>
     simp only at J;split at J;.rename_i d' e;cases J;cases hb.ez;exact AE (R.addr a) λxs f d=>AE (Il d e) λw g o=>have c:=R.wf _ _ a;P9 A Y z Z s W H _ _ v u Q I j m ⟨C r,xs,i,w,rfl,rfl,qn.of f,g,q.here R (uk.mp c _<|JB e) o⟩ n
     simp_all|_=>exact fb J
   |ro l=>cases b with
    |int i=>
     simp only at J;split at J;.rename_i d' e;cases J;cases hb.ez;exact AE (R.obj _ _ a) λxs f d=>AE (Il d e) λw g o=>have c:=R.wf _ _ a;P9 A Y z Z s W H _ _ v u Q I j m ⟨C r,xs,i,w,rfl,rfl,f.1,g,q.here R (uk.mp c _<|JB e) o⟩ n
     simp_all|_=>exact fb J
   |dc l=>
    simp only at J;split at J;case isFalse=>simp_all
    rename_i p;refine AF (GB p) λk b=>AE (R.obj r _ a) λkvs f d=>?_;cases GS b hb;cases j;rcases d.val keyOf_inj b with⟨i,_⟩|⟨e,o,i,s,u,v⟩;.simp_all
    .cases i▸J;have c:=R.wf _ _ a;unfold oC at c;rw[af]at c;have g:v7 H (C r) (kV k) (al o):=s▸v7.k f;exact mU (OI I g) gE.lookup (QE B I g m λx y k w=>⟨o,H,k,w,q.here R (uk.mp c.2 _ v) u⟩) n|su l=>
    simp only at J;split at J;case isFalse=>simp_all
    rename_i p;refine AF (Ja p) λk b=>AE (R.obj r _ a) λkvs f d=>AE (Jv b hb) λkb t a2=>?_;subst t;cases j;rcases d.val keyT_inj b with⟨i,_⟩|⟨e,o,i,s,u,v⟩;.simp_all
    .rw[i]at J;cases J;have c:=R.wf _ _ a;unfold oC at c;rw[af]at c;have g:v7 H (C r) (.ref kb) (al o):=s▸v7.t f a2;exact mU (OI I g) gE.lookup (QE B I g m λx y k w=>⟨o,H,k,w,q.here R (uk.mp c.2 _ v) u⟩) n|ins c l=>simp_all|r7 l=>simp_all
 |_=>simp_all
def Mb(n d:Nat)(i:Int):HT.l3 n d (some i)=pw n i:=by
 show(if i<0 then(i+(n:Int)).toNat else min i.toNat n)=_;unfold pw;by_cases h:i<0;.rw[if_pos h,if_neg<|by omega]
 .rw[if_neg h,if_pos<|by omega]
def NY(h:ei Γ C H l Uu)J hi:ei Γ C H (o7 l J hi) (yq Uu J hi):=by
 unfold o7 yq;have a:HT.l3 Uu.length 0 J=pB l.length J:=by cases J with|none=>rfl|some i=>rw[Mb,h.length];rfl
 have b:HT.l3 Uu.length Uu.length hi=pV l.length hi:=by cases hi with|none=>exact h.length|some i=>rw[Mb,h.length];rfl
 exact a▸b▸(h.drop _).take _
def PN:∀d∈o7 l h hi,d∈l:=λd a=>List.mem_of_mem_drop<|et a
def UR(l:List α)h hi:(o7 l h hi).length<=l.length:=by unfold o7;rw[bL,fL];lia
def RY(J hi:Option Int)(n:Nat):b7 J hi 1 n=(av<|pV n hi-pB n J).map (pB n J+·):=by
 rw[<-sliceRange_one];unfold b7;have cl:∀i:Int,max 0 (min (if i<0 then i+(n:Int)else i) (n:Int))=((pw n i:Nat):Int):=λi=>by
  unfold pw;by_cases h:i<0;.rw[if_pos h,if_neg<|by omega];omega
  .rw[if_neg h,if_pos<|by omega];omega
 simp only[show((1:Int)>0)=True by simp,if_true];cases J<;>cases hi<;>simp only[cl,pB,pV]<;>rfl
theorem Pq{l:List Nat}:∀a k,a+k<=l.length->((av k).map (a+·)).filterMap (λx=>l.toArray[x]?)=(l.drop a).take k|a,0,_=>by simp|a,k+1,h=>by rw[dS,aP,List.filterMap_append,Pq a k<|by lia];rw[List.take_add_one,List.getElem?_drop];simp[(by lia:a+k<l.length)]
def V5 l h hi:f6 ⟨l.toArray⟩ h hi=⟨(o7 l h hi).toArray⟩:=by
 unfold f6;have a:(⟨l.toArray⟩:Str).length=l.length:=by show l.toArray.size=_;simp
 rw[a,RY];have a:pV l.length hi<=l.length:=by cases hi with|none=>exact ak _|some i=>show pw l.length i<=_;unfold pw;lia
 unfold o7;generalize pV l.length hi=b at*;generalize pB l.length h=a at*;by_cases c:((1:Int)==1&&((av<|b-a).map (a+·)).length==l.length)=bY
 .rw[ef c];have:b-a=l.length:=by simp_all
  have d:a=0\/l.length=0:=by lia
  grind
 .rw[gc c];by_cases c:a<=b;.have e:=Pq (l:=l) a (b-a) (by omega);lia
  grind
def Fx(Γ:Gm):V->Option Int->Option Int->Hp->VK->Prop:=λx c hi H Q=>∃C s a d b,Rp Γ C H s/\RV Γ C H a x/\a.eu s.length=bY/\pW a c hi s=.ok d b/\vv Γ C s H d b Q
def Rt(m:X.K=Γ.K):CM X<|Fx Γ:=by refineλJ s W H x v vl f Y hi sl Q I i j pl k h=>AG h λC st a d b R b d Zz=>AB Zz λUu q=>?_;unfold pW at Uu;cases a with
 |tp l=>
  cases Uu;obtain⟨p,xs,⟨rfl,o⟩,a,c⟩:=b.DN;refine Xt m J s W H _ v vl f Y hi sl Q I i j pl k ⟨p,xs,rfl,a,λt H' e p a=>AB (R.same e) λg r=>have n:=NY (ei.mono g _ _ d c) Y hi;q _ _ _ g (ak _) (PX d PN) (RV.BY p (λz=>?_) n) r⟩;rcases a with a|⟨rfl,ex⟩;.exact a
  .rw[ex];refine e _ _<|o ?_;have Z:(o7 l Y hi).length=l.length:=by rw[<-n.length,ex,c.length]
   rwa[Wu Z]at z|str l=>cases Uu;have Z:=b.y2;cases b.qm;refine S3 J s W H _ v vl f Y hi sl Q I i j pl k ⟨_,rfl,by show l.toArray.size<=_;exact aL▸au Z qH,?_⟩;rw[V5];exact q.here R rfl<|RV.vc<|au (UR l Y hi) Z|ref r=>have ex:=b.hW;subst ex;simp only at Uu;cases a:st[r]? with|none=>simp_all|some o=>rw[a]at Uu;cases o with|J l=>obtain⟨rfl,rfl⟩:=qI Uu;exact AE (R.addr a) λxs b c=>have d:=R.wf _ _ a;VG m J s W H _ v vl f Y hi sl Q I i j pl k ⟨C r,xs,rfl,qn.of b,λp a=>q.alloc R (NY c Y hi) (PX d PN) a⟩|_=>exact fb Uu
 |_=>exact fb Uu
variable{Γ:Gm}{X:Cx}
def Bp(Γ:Gm)(f:List ot->oq->oy ot):List V->Hp->VK->Prop:=λb H Q=>∃C s l d a,Rp Γ C H s/\ei Γ C H l b/\ou s.length l=bY/\f l s=.ok d a/\vv Γ C s H d a Q
def ei.one(h:ei Γ C H [d] J):∃x,J=[x]/\RV Γ C H d x:=by obtain⟨x,r,rfl,Y,a⟩:=h.e6;exact a.qx▸(Ac x rfl Y)
def Xs a b c:Bt a b c=max (max a b) c:=by unfold Bt mx;lia
noncomputable def Wj:pq->Option (String×Nat)|.len=>al ("len",1)|.abs=>al ("abs",1)|.min2=>al ("min",2)|.max2=>al ("max",2)|.vf=>al ("max",3)|_=>aT
theorem qg:∀{l}{a},pA l=al a->l=a.map DV.D.int|[],a,h=>by unfold pA at h;simp_all|d::l,a,h=>by cases d with
  |int i=>have h:(pA l).map (i::·)=al a:=h;cases e:pA l with|none=>simp_all|some m=>cases e▸h;rw[qg e];rfl
  |_=>cases h
theorem Qz:∀{l}{a},pX l=al a->l=a.map DV.D.T|[],a,h=>by unfold pX at h;simp_all|d::l,a,h=>by cases d with
  |T i=>have h:(pX l).map (i::·)=al a:=h;cases e:pX l with|none=>simp_all|some m=>cases e▸h;rw[Qz e];rfl
  |_=>cases h
theorem ei.ints:∀{a:List Int}{J},ei Γ C H (a.map DV.D.int) J->J=a.map V.int|[],_,h=>h.qx|i::a,_,h=>by obtain⟨x,r,rfl,Y,a⟩:=ei.e6 h;rw[Y.ez,ei.ints a];rfl
theorem ei.Mx{C:Nat->Addr}{H:Hp}:∀{is:List Bool}{J:List V},ei Γ C H (is.map DV.D.T) J->J=is.map V.T|[],_,h=>h.qx|i::is,_,h=>by obtain⟨x,r,rfl,Y,Uu⟩:=ei.e6 h;rw[Y.uT,ei.Mx Uu];rfl
def L9(h:rA f l s=.ok d s'):∃a,l=[a]/\f a s=.ok d s':=by match l,h with|[a],h=>exact Ac a rfl h|[],h=>exact fb h|_::_::_,h=>exact fb h
set_option tactic.hygienic true in def Ex(hK:X.K=Γ.K)(hc:X.calm=true){b:pq}{nm:String}{k:Nat}(hn:Wj b=some (nm,k)):t4 X (.builtin nm) (Bp Γ<|rb b):=by intro J s W H xs us Q I r h;obtain⟨C,st,l,d,Z,R,hl,nl,Uu,q⟩:=h;cases b with
 |len=>cases hn;have Uu:rA DV.Ce l st=.ok d Z:=Uu;obtain⟨a,rfl,Y⟩:=L9 Uu;clear Uu;obtain⟨x,rfl,hx⟩:=hl.one;unfold DV.Ce at Y;cases a with
  |tp l=>cases Y;obtain⟨p,ys,rfl,h1,d1⟩:=hx.so;refine I0 hK J s W H _ us Q I r ⟨p,ys,rfl,.inr h1,?_⟩;rw[d1.length];exact q.here R rfl RV.nC|str l=>cases Y;have hL:=hx.y2;have e:=hx.qm;subst e;refine aG7 J s W H _ us Q I r ⟨_,rfl,by show l.toArray.size<=_;rw[aL];exact au hL qH,?_⟩;show Q (.int ((l.toArray.size:Nat):Int)) H;rw[aL];exact q.here R rfl RV.nC|ref n=>have e:=hx.hW;subst e;simp only at Y;cases hs:st[n]? with|none=>rw[hs]at Y;cases Y|some o=>rw[hs]at Y;cases o with|J l=>cases Y;obtain⟨ys,e1,d1⟩:=R.addr hs;refine I0 hK J s W H _ us Q I r ⟨C n,ys,rfl,.inl<|qn.of e1,?_⟩;rw[d1.length];exact q.here R rfl RV.nC|ro l=>cases Y;obtain⟨ys,e1,d1⟩:=R.obj _ _ hs;refine I0 hK J s W H _ us Q I r ⟨C n,ys,rfl,.inl e1.1,?_⟩;rw[d1.length];exact q.here R rfl RV.nC|dc l=>exact fb Y|su l=>exact fb Y|ins c l=>exact fb Y|r7 l=>exact fb Y
  |_=>exact fb Y
 |abs=>
  cases hn;have Uu:(match pA l with|some [i]=>.ok (.int<|if i<0 then-i else i) st|_=>.B:oy ot)=.ok d Z:=Uu;split at Uu;.rename_i i e;cases Uu;have:=qg e;subst this;have:=ei.ints hl;subst this;exact Zt J s W H _ us Q I r ⟨i,rfl,q.here R rfl RV.nC⟩
  .exact fb Uu|min2=>
  cases hn;have Uu:(match pA l with|some [a,b]=>.ok (.int<|if b<a then b else a) st|_=>.B:oy ot)=.ok d Z:=Uu;split at Uu;.rename_i a b e;cases Uu;have:=qg e;subst this;have:=ei.ints hl;subst this;exact Wv hc J s W H _ us Q I r ⟨_,_,rfl,q.here R rfl RV.nC⟩
  .exact fb Uu|max2=>
  cases hn;have Uu:(match pA l with|some [a,b]=>.ok (.int<|if b>a then b else a) st|_=>.B:oy ot)=.ok d Z:=Uu;split at Uu;.rename_i a b e;cases Uu;have:=qg e;subst this;have:=ei.ints hl;subst this;exact VU hc J s W H _ us Q I r ⟨_,_,rfl,q.here R rfl RV.nC⟩
  .exact fb Uu|vf=>
  cases hn;have Uu:(match pA l with|some [a,b,c]=>.ok (.int<|max (max a b) c) st|_=>.B:oy ot)=.ok d Z:=Uu;split at Uu;.rename_i a b c e;cases Uu;have:=qg e;subst this;have:=ei.ints hl;subst this;refine WL hc J s W H _ us Q I r ⟨_,_,_,rfl,?_⟩;rw[Xs];exact q.here R rfl RV.nC
  .exact fb Uu|_=>cases hn
def Qd:∀j:Nat,j<=9->b8 (toString (j:Int))=(⟨[48+j].toArray⟩):=by decide
set_option tactic.hygienic true in def S2:t4 X (.type "int") (Bp Γ<|rb .int):=by
 refineλUu s W H a f Q I r h=>AG h λC st l d Z R a nl Zz=>AB Zz λJ q=>?_;have J:(match pX l with|some [b]=>.ok (.int<|if b then 1 else 0) st|some _=>.B|none=>DV.IP l st:oy ot)=.ok d Z:=J;split at J;.rename_i b e;cases J;have:=Qz e;subst this;have:=ei.Mx a;subst this;exact VQ Uu s W H _ f Q I r<|.inr<|Ac b rfl<|q.here R rfl RV.nC
 .simp_all
 .unfold DV.IP at J;split at J
  .rename_i c _ _;split at J;.rename_i hc;cases J;obtain⟨x,Y,rfl,b,c⟩:=a.e6;cases(c);have:=b.qm;subst this;obtain⟨u,rfl,t,rfl⟩:=wJ r;obtain⟨j,hj,rfl⟩:∃j,j<=9/\c=48+j:=⟨c-48,by omega,by omega⟩;rw[(Qd j hj).symm];refine PySem.W.KIN.call_num (by lia) (by lia) ⟨.int<|j,H,I.tok _,⟨_,rfl⟩,?_⟩;have:=q.here R rfl<|RV.nC;simp_all
   simp_all
  .exact fb J
set_option tactic.hygienic true in def Um:t4 X (.type "str") (Bp Γ<|rb .str):=by
 refineλa0 s W H a a Q I r h=>AG h λC st l d Z R b a Zz=>AB Zz λJ q=>?_;have J:DV.IL l st=.ok d Z:=J;unfold DV.IL at J;split at J
 .rename_i i _;split at J
  .rename_i hi;cases J;obtain⟨x,c,rfl,a,Y⟩:=b.e6;cases(Y);have:=a.ez;subst this;obtain⟨u,rfl,t,rfl⟩:=wJ r;obtain⟨j,rfl⟩:∃j:Nat,i=(j):=⟨i.toNat,by lia⟩;have a:j<=9:=by lia
   refine PySem.P.str_of_int ?_ ⟨.str ⟨[48+j].toArray⟩,H,I.tok _,⟨s.toks,?_⟩,?_⟩;.have:(j:Int).natAbs.log2<=(j:Int).natAbs:=Nat.log2_le_self _;lia
   .rw[<-Qd j a]
   .have:=q.here R rfl<|RV.vc<|by show 1<=oE;decide
    simp_all
  simp_all
 .rename_i w _;cases J;obtain⟨x,c,rfl,a,Y⟩:=b.e6;cases(Y);have e:=a.qm;subst e;obtain⟨u,rfl,t,rfl⟩:=wJ r;exact PySem.P.str_of_str ⟨.str ⟨w.toArray⟩,H,I,⟨_,rfl⟩,q.here R rfl a⟩
 .exact fb J
noncomputable def yW:Nat->String|1=>"int"|2=>"bool"|3=>"str"|4=>"tuple"|_=>"list"
def YM{K}k(hk:1<=k/\k<=5):bJ K (.type "NoneType") (.type<|yW k)=al ce/\bJ K (.type "bool") (.type<|yW k)=al (k==1||k==2)/\bJ K (.type "int") (.type<|yW k)=al (k==1)/\bJ K (.type "str") (.type<|yW k)=al (k==3)/\bJ K (.type "tuple") (.type<|yW k)=al (k==4)/\bJ K (.type "list") (.type<|yW k)=al (k==5):=by obtain⟨J,Uu⟩:=hk;rcases(by lia:k=1\/k=2\/k=3\/k=4\/k=5)with h|h|h|h|h<;>subst h<;>refine⟨?_,?_,?_,?_,?_,?_⟩<;>with_unfolding_all rfl
def W5{s}(I:Inv X J W H s)(d:sy X.K H a Y)(e:bJ X.K (.type "tuple") c=al b)(h:∀tk,Q (.bool b) {s with toks:=tk}):wpAny (model X.prog X.w) A (call (.builtin "isinstance") [.ref a,c]) Q E s:=by obtain⟨a,_,⟨o,a,Z,_⟩,_⟩:=I.tuple d;exact cu kY I.sx ⟨o,a,Z⟩ e (λz=>nomatch z) h
def SM(f:X.K=Γ.K)(g:1<=k/\k<=5):t4 X (.builtin "isinstance") (λZ H Q=>∃x,Z=[x,.ty<|yW k]/\Bp Γ (rA<|rJ k) [x] H Q):=by intro a s W H Z a Q I r h;obtain⟨x,rfl,C,st,l,d,i,R,e,nl,b,q⟩:=h;obtain⟨a,rfl,J⟩:=L9 b;clear b;obtain⟨u,b,rfl,c,b⟩:=IE r;cases b;refine AE e.one λx' b e=>?_;cases b;obtain⟨k0,k1,k2,k3,h,k5⟩:=YM k g;cases a with
 |N=>cases J;cases e.t9;exact jK I c .N k0 λtk=>⟨.T _,H,I.tok _,rfl,q.here R rfl RV.uO⟩|T b=>cases J;cases e.uT;exact jK I c (.T b) k1 λtk=>⟨.T _,H,I.tok _,rfl,q.here R rfl RV.uO⟩|int b=>cases J;cases e.ez;exact jK I c (.int b) k2 λtk=>⟨.T _,H,I.tok _,rfl,q.here R rfl RV.uO⟩|str b=>cases J;cases e.qm;exact jK I c (.str _) k3 λtk=>⟨.T _,H,I.tok _,rfl,q.here R rfl RV.uO⟩|tp l=>cases J;obtain⟨p,a,rfl,Y,b⟩:=e.so;cases c;exact W5 I (f▸Y) h λtk=>⟨.T _,H,I.tok _,rfl,q.here R rfl RV.uO⟩|ref n=>cases e.hW;have J:(match st[n]? with|some<|.J _=>.ok (.T<|k==5) st|_=>.B:oy ot)=.ok d i:=J;cases a:st[n]? with|none=>simp_all|some o=>rw[a]at J;cases o with|J l=>cases J;exact AE (R.addr a) λys a b=>jK I c (.J a) k5 λtk=>⟨.T _,H,I.tok _,rfl,q.here R rfl RV.uO⟩|_=>exact fb J
 |_=>exact fb J
variable{X:Cx}
noncomputable def wb(x:List Nat):List V:=x.map λc=>.str ⟨#[c]⟩
def Xo{J:yG}(b:vs.length=J.length)(h:∀(i:Nat)(x:V)(u:Value),vs[i]?=al x->J[i]?=al u->RelV x u):Vals vs J:=by induction vs generalizing J with
 |nil=>cases J with|nil=>exact .nil|cons _ _=>cases b
 |cons v vs c=>cases J with|nil=>cases b|cons a J=>exact .cons (h 0 v a rfl rfl) (c (by simpa using b) λi x u a b=>h (i+1) x u a b)
def Ot{J:yJ}(h:ItemsOf (SignAt ⟨x.toArray⟩) J x.length):Vals (wb x) J.toList:=by
 refine Xo (by unfold wb;rw[aw];simpa using h.1.symm) λi v u a b=>AD (h.2 i u<|by simp_all) λc t b Z=>?_;unfold wb at a;rw[aF]at a;have b:=by simpa using b
 cases b▸a;exact⟨t,Z⟩
def aO8(b:X.calm=bY):t4 X (.type "tuple") (λa H Q=>∃x,a=[.str ⟨x.toArray⟩]/\x.length<=oE/\∀l,H l=aT->Q (.ref l) (upd H l<|.tp<|wb x)):=by
 intro J s W H a a Q I r h;obtain⟨x,rfl,Z,q⟩:=h;obtain⟨u,rfl,a⟩:=wJ r;obtain⟨t,rfl⟩:=a;have hz:(wb x).length<=a9:=by unfold wb;rw[aw];exact au Z qH
 refine call_tuple_str (I.ok.hd b) _ t (λh' tk a kp hi=>?_) (aL▸au Z qH);have c:=Ot (by simp_all:ItemsOf (SignAt ⟨x.toArray⟩) a x.length);have Y:=I.kept (t':=tk) kp;exact⟨.ref h'.objs.size,_,(Y.laid (t':=tk) (λb o e=>aq _ e) (ak _) (show tQ X.prog X.w _ _ _<|.tp (wb x)from⟨hz,a.toList,c,nF _ _⟩)),rfl,q _<|Y.hok.fresh<|ak _⟩
def aW7(b:X.calm=bY):t4 X (.type "list") (λY H Q=>∃x,Y=[.str ⟨x.toArray⟩]/\x.length<=oE/\∀l,H l=aT->Q (.ref l) (upd H l<|.J<|wb x)):=by
 intro Z s W H Y a Q I r h;obtain⟨x,rfl,a,q⟩:=h;obtain⟨u,rfl,c⟩:=wJ r;obtain⟨t,rfl⟩:=c;have hz:(wb x).length<=a9:=by unfold wb;rw[aw];exact au a qH
 refine call_list_str (I.ok.hd b) _ t (λh' tk J b kp e hi=>?_) (aL▸au a qH);have a:=Ot (by simp_all:ItemsOf (SignAt ⟨x.toArray⟩) J x.length);exact⟨.ref s.heap.objs.size,_,I.laid kp (ak _) (show tQ X.prog X.w _ h' _<|.J (wb x)from⟨hz,J.toList,b,a,e⟩),rfl,q _<|I.hok.fresh<|ak _⟩
section
variable{Γ:Gm}{C C':Nat->Addr}{H H' H1 H2 H3:Hp}{clos:yB}{s s':oq}
def zT(b:Cells clos H)(e:H a=al u)(c:∀o,u≠.sj o (.own a)):nL clos a≠true:=λz=>AD (b.at z) λo v q _=>by grind
def sy.gK{K}(b:Cells clos H)(h:sy K H a J):sy K (hI clos H) a J:=by
 rcases h with(h|⟨o,h⟩)|h;.exact .inl<|.inl<|(hI.ne<|zT b h<|λ_ z=>by cases z)▸h
 .exact .inl<|.inr ⟨o,(hI.ne<|zT b h<|λ_ z=>by cases z)▸h⟩
 .exact .inr h
def qn.gK{K}(b:Cells clos H)(h:qn K H a J):qn K (hI clos H) a J:=by
 rcases h with(h|⟨o,h⟩)|h;.exact .inl<|.inl<|(hI.ne<|zT b h<|λ_ z=>by cases z)▸h
 .exact .inl<|.inr ⟨o,(hI.ne<|zT b h<|λ_ z=>by cases z)▸h⟩
 .exact .inr h
theorem BQ.gK{K}(c:Cells clos H)(h:BQ K H a J):BQ K (hI clos H) a J:=by
 refine⟨qn.gK c h.1,λH2 k=>?_⟩;have d:Kp H<|λb=>if nL clos b=bY then H b else H2 b:=λb o e f=>by
  by_cases z:nL clos b=bY;.show(if nL clos b=bY then H b else H2 b)=_;exact ef z▸e
  .show(if nL clos b=bY then H b else H2 b)=_;exact gc z▸k b o (hI.ne z▸e) f
 have q:=h.2 _ d;have at_:∀u,(if nL clos a=bY then H a else H2 a)=al u->(∀o,u≠.sj o (.own a))->H2 a=al u:=λu e b=>by
  by_cases z:nL clos a=bY;.rw[ef z]at e;exact iN z<|zT c e b
  .rw[gc z]at e;exact e
 rcases q with(q|⟨o,q⟩)|q;.exact .inl<|.inl<|at_ _ q<|λ_ z=>by cases z
 .exact .inl<|.inr ⟨o,at_ _ q<|λ_ z=>by cases z⟩
 .exact .inr q
mutual theorem RV.gK(b:Cells clos H):∀(d:ot)(v:V),d.eU=bY->RV Γ C H d v->RV Γ C (hI clos H) d v|.N,_,_,h=>h|.T _,_,_,h=>h|.int _,_,_,h=>h|.str _,_,_,h=>h|.tp l,_,n,h=>AL h λa J e q r=>⟨a,J,e,⟨sy.gK b q.1,λz=>(hI.ne<|zT b (q.2 z) (λ_ z=>by cases z))▸q.2 z⟩,ei.gK b l J n r⟩|.ref k,_,_,h=>h|.fn _,_,_,h=>h|.sk id cs,_,n,h=>by cases n theorem ei.gK(a:Cells clos H):∀(l:List ot)(J:List V),pG l=bY->ei Γ C H l J->ei Γ C (hI clos H) l J|[],_,_,h=>h|d::l,_,n,h=>by unfold pG at n;rw[af]at n;exact AL h.e6 λx r e Y b=>e▸.cons (RV.gK a d x n.1 Y) (ei.gK a l r n.2 b)end
theorem RVD.gK(a:Cells clos H):∀l kvs,pG (l.map (·.2))=bY->RVD J Γ C H l kvs->RVD J Γ C (hI clos H) l kvs|[],_,_,h=>h|(d,e)::l,_,n,h=>by refine AK h λk v r b c Y d=>?_;rw[aS]at n;unfold pG at n;rw[af]at n;exact⟨k,v,r,b,c,RV.gK a e v n.1 Y,RVD.gK a l r n.2 d⟩
theorem RO.gK(b:Cells clos H)(h:RO Γ C H a o)(n:o.eU=bY):RO Γ C (hI clos H) a o:=by cases o with|J l=>exact AE h λJ e r=>⟨J,(hI.ne<|zT b e<|λ_ z=>by cases z)▸e,ei.gK b l J n r⟩|ro l=>exact AE h λJ e r=>⟨J,BQ.gK b e,ei.gK b l J n r⟩|dc l=>exact AE h λJ e r=>⟨J,(hI.ne<|zT b e<|λ_ z=>by cases z)▸e,RVD.gK b l J n r⟩|su l=>exact AE h λJ e r=>⟨J,(hI.ne<|zT b e<|λ_ z=>by cases z)▸e,RVD.gK b l J n r⟩|r7 l=>exact AD h λob J e r=>⟨ob,J,(hI.ne<|zT b e<|λ_ z=>by cases z)▸e,RVD.gK b l J n r⟩|ins c l=>exact AK h λCc c a Z Y e r=>⟨Cc,c,a,Z,Y,(hI.ne<|zT b e<|λ_ z=>by cases z)▸e,RVD.gK b l a n r⟩
def hG.gK(a:Cells clos H)(h:hG T H):hG T<|hI clos H:=λy b=>AH (h y b) λps e t c=>⟨ps,(hI.ne<|zT a e<|λ_ z=>by cases z)▸e,t,λpos b q=>AE (c pos b q) λJ c b=>Ac J c<|(hI.ne<|zT a b<|λ_ z=>by unfold qM at z;cases z)▸b⟩
theorem Rp.gK(a:Cells clos H)(r:Rp Γ C H s)(n:s.all rL=bY):Rp Γ C (hI clos H) s:=⟨r.inj,λi o e=>RO.gK a (r.obj i o e) (aK.mp n o<|aA e),r.wf,hG.gK a r.tab⟩
def Gr.tJ{kd:Str->Option cB}(h:r8 clos N kd W H1 H2)(g:Gr C s H2 C' s' H3):Gr C s H1 C' s'<|hI clos H3:=by
 have a:∀b o,H1 b=al o->nL clos b≠true:=λb o e z=>by cases h.free b z▸e
 have c:∀b o,H1 b=al o->H2 b=al o:=λb o e=>h.ne b (a b o e)▸e;refine⟨⟨g.w.map,λb o e f=>?_⟩,g.le,λi Y d=>?_,g.kd,λb e=>?_,λb o kvs e=>?_,λb o e J Z=>?_⟩;.exact hI.ne (a b o e)▸g.w.kp b o (c b o e) f
 .have:=g.new i Y d;by_cases z:nL clos (C' i)=bY;.exact h.free _ z
  .exact h.ne _ z▸this
 .cases q:H1 b with|none=>exact iN q e|some o=>exact hI.ne (a b o q)▸g.st b (by rw[c b o q];simp)
 .exact hI.ne (a b _ e)▸g.fz b o kvs (c b _ e)
 .exact hI.ne (a b o e)▸g.fr b o (c b o e) J Z
def VN(h:∀b,nL clos b=bY->H' b=aT):tw H'<|tN clos H H':=λb o e=>by rw[tN.ne<|λz=>by simp_all];exact e
def Gr.put(a:Cells clos H)(a:∀b,nL clos b=bY->H' b=aT)(b:∀b o,Γ.K.lookup b=al o->H b=aT)(c:Rp Γ C' H' s')(g:Gr C s (hI clos H) C' s' H'):Gr C s H C' s'<|tN clos H H':=by
 refine⟨⟨g.w.map,λb o e f=>?_⟩,g.le,λi d Z=>?_,g.kd,λb e=>?_,λb o kvs e=>?_,λb o e j k=>?_⟩
 .by_cases z:nL clos b=bY;.exact tN.cell z▸e
  .exact tN.ne z▸g.w.kp b o (hI.ne z▸e) f
 .have hd:=g.new i d Z;by_cases z:nL clos (C' i)=bY;.have J:=a _ z;obtain⟨o,a⟩:∃o,s'[i]?=al o:=⟨s'[i],aj Z⟩;have h:=c.obj i o a;cases o with|J l=>refine AE h λY e _=>?_;cases J▸e|ro l=>refine AE h λY e _=>?_;rcases e.1 with(e|⟨_,e⟩)|⟨ob,its,n,e,_⟩;all_goals simp_all|dc l=>refine AE h λY e _=>?_;cases J▸e|su l=>refine AE h λY e _=>?_;cases J▸e|r7 l=>refine AD h λ_ Y e _=>?_;cases J▸e|ins _ _=>refine AK h λ_ _ _ _ _ e _=>?_;lia
  .rw[hI.ne z]at hd;exact hd
 .by_cases z:nL clos b=bY;.exact tN.cell z▸e
  .exact tN.ne z▸g.st b (hI.ne z▸e)
 .by_cases z:nL clos b=bY;.exact tN.cell z▸e
  .exact tN.ne z▸g.fz b o kvs (hI.ne z▸e)
 .by_cases z:nL clos b=bY;.exact tN.cell z▸e
  .exact tN.ne z▸g.fr b o (hI.ne z▸e) j k
def ZU(hT:hG T H)(s:(T.map (·.1)).Nodup)(n:(P,q)∈T)(p:∀(f:Addr)(H':Hp),EA H H'->(∀b,H b≠aT->H' b≠aT)->hG T H'->H f=aT->(∃c Y g,H' f=al (vk f<|cE "<lambda>" q params body scope (sf cells scope.names []) c (.ref Y) g)/\H' Y=al (qM Y q))->Q (.ref f) H'):LY cells P q params body scope pos W H Q:=by
 refine AH (hT _ n) λps j m r=>⟨ps,j,m,λa Y f c g k a ne=>?_,λi e=>?_⟩
 .have cP:Y≠P:=λz=>by lia
  have i:f≠P:=λz=>by lia
  have J:∀b,b≠P->H b≠aT->∀d e h,upd (upd (upd H P d) Y e) f h b=H b:=λb l b d e h=>by rw[zd λz=>by subst z;exact b a,zd λz=>by subst z;exact b k,zd l]
  refine p f _ (λb o d e=>?_) (λb k=>?_) (λy f=>?_) a ⟨c,Y,g,zh,by rw[zd ne,zh]⟩;.rw[J b (λz=>by subst z;cases j▸e;exact d _ rfl) (by rw[e];simp)];exact e
  .by_cases z:b=P;.subst z;rw[zd<|bE i,zd<|bE cP,zh];simp
   .rw[J b z k];exact k
  .by_cases z:y.1=P
   .have ey:=by
     have:∀(l:List<|Addr×Str),(l.map (·.1)).Nodup->y∈l->(P,q)∈l->y=(P,q):=by intro l;induction l with|nil=>intro _ h;simp at h|cons a l a=>grind
     exact this T s f n
    subst ey;refine⟨_,by rw[zd<|bE i,zd<|bE cP,zh],?_,λZ i e=>?_⟩;.rw[eP];exact TriplesOk_snoc _ _ _ _ m
    .rw[eP]at e;rcases codeAmong_add _ m e with c|c;.exact AE (r Z i c) λc2 b a=>Ac c2 b<|by rw[J c2 (λz=>by subst z;rw[j]at a;unfold qM at a;lia) (by rw[a];simp)];exact a
     .exact Ac Y c<|by rw[zd ne,zh]
   .exact AH (hT y f) λqs b a c=>⟨qs,by rw[J y.1 z<|by rw[b];simp];exact b,a,λZ i e=>AE (c Z i e) λc2 b a=>Ac c2 b<|by rw[J c2 (λz=>by subst z;rw[j]at a;unfold qM at a;lia) (by rw[a];simp)];exact a⟩
 .exact AE (r pos i e) λY b a=>Ac Y b<|λf c g n=>p f _ (.of<|(tw.refl H).new n) (λb k=>by
   by_cases z:b=f;.subst z;rw[zh];simp
   .exact zd z▸k) (hT.new n) n ⟨c,Y,g,zh,zd (zB a n)▸a⟩
set_option tactic.hygienic true in def Xn{K:ac}{body:yL}{h:yB}(S:si N ps fr scope)(len:∀vs H Q E,sp vs H Q E->vs.length=ps.length)(u:cap.length=fr.length)(Z:∀(a0 g:Value)(d:Addr)(i:Value)(a:yG),a.length=ps.length->eV (cY name qual params body scope h .none .none a0 g aT (.ref d) i) ⟨a,[]⟩=pure (ps.zip a))(z:∀(A:aW)(c:List Env)(s:ag)(H:Hp)(a:Value)(vs:List V)(Q:VK),eX k (A.deeper<|dJ qual scope s.heap.objs.size f a<|aX (s.heap.objs.size+1) scope.names h)->yt H f name qual params body scope fr cap h->(∀b o,K.lookup b=al o->H b=aT)->sp vs H Q E0->∃t,sR (CC P w K mg base N qual scope f a h A c s H) body t/\t {nx:=λ_ H'=>(∀b,nL h b=bY->H' b=aT)->Q .N (tN h H H'),rt:=λv H'=>(∀b,nL h b=bY->H' b=aT)->Q v (tN h H H')} (vs.map al++cap.map al) (hI h H)):u0 P w K mg base (k+1) (λH=>yt H f name qual params body scope fr cap h) f sp:=by
 refine⟨λA c s H a vs Q j Y m r n=>have p:=len _ _ _ _ n;AM (id m) λa0 g d i t Zz=>AW Zz λh2 k v B C=>have D:s.heap.NoLimit:=Y.mod.nolimit.keeps λb o e=>(Y.bs b o e).1;iT j.depth (JU Y.hok t) rfl S.co S.gen rfl (QQ Y.hok h2) ?_⟩;rw[Z a0 g d i a<|r.length▸p];refine aH<|Oj S.kind (λy b=>?_) λenv e s1 x=>?_;.exact(S.par y.1 (eZ<|show(y.1,y.2)∈ps.zip a from b).1).elim (λq=>.inl q) λq=>.inr ⟨q,ql q⟩
 .subst e;refine⟨D.keeps x.toInCall.keep,codeAny_func ?_⟩;refine AE (z A c s H (.ref d) vs Q (j.deeper _) m (λb o e=>(Y.bs b o<|Y.mod.wg b o e).2) n) λt a b=>have I:=ME S j.hd Y p u r k v B C x;bD (a [] s1 _ _ _ I b) (λi g a=>?_) λe g a=>a.elim;have fin:∀{e:St}{H':Hp}{v:V}{u:Value},Inv (CC P w K mg base N qual scope f (.ref d) h A c s H) [] e H' g->RelV v u->((∀b,nL h b=bY->H' b=aT)->Q v (tN h H H'))->CE c P w H s Q u g:=λ{e H' v u}J d q=>by obtain⟨un,e⟩:=Mj Y.hok k Y.frf J.base J.hok;have f:∀b,nL h b=bY->H' b=none:=λb y=>AD (k.at y) λo v z _=>(show Un (oj c) [] (hI h H) H' s.heap g.heap from J.base).free b o (Y.hok b _ z).1 (hI.cell y) (by simp);exact⟨v,_,J.os,J.bare,un,e,d,q f⟩
  cases i with|ret u=>exact AR a λv e H' J d q=>fin J d q|next=>exact AD a λW' H' J q=>fin (v:=V.N) (u:=Value.none) J rfl q|brk=>refine AD a λ_ _ _ q=>?_;simp_all|cont=>refine AD a λ_ _ _ q=>?_;simp_all
def Xc{K:ac}{h:yB}(S:si N ps fr scope)(len:∀vs H Q E,sp vs H Q E->vs.length=ps.length)(n:cap.length=fr.length)(Z:∀(pm:Value)(c:Addr)(g:Value)(a:yG),a.length=ps.length->eV (cE "<lambda>" qual params body scope h pm (.ref c) g) ⟨a,[]⟩=pure (ps.zip a))(p:∀(A:aW)(d:List Env)(s:ag)(H:Hp)(a:Value)(vs:List V)(Q:VK),eX k (A.deeper<|dJ qual scope s.heap.objs.size f a<|aX (s.heap.objs.size+1) scope.names h)->BL H f qual params body scope fr cap h->(∀b o,K.lookup b=al o->H b=aT)->sp vs H Q E0->∃t,PE (CC P w K mg base N qual scope f a h A d s H) body t/\t (vs.map al++cap.map al) (hI h H) λv H'=>(∀b,nL h b=bY->H' b=aT)->Q v (tN h H H')):u0 P w K mg base (k+1) (λH=>BL H f qual params body scope fr cap h) f sp:=by
 refine⟨λA d s H a vs Q f Y k r l=>have m:=len _ _ _ _ l;AK (id k) λpm c g t h2 i Zz=>AI Zz λh4 u v=>have w:s.heap.NoLimit:=Y.mod.nolimit.keeps λb o e=>(Y.bs b o e).1;PySem.W.kla_callFunE f.depth (JU Y.hok t) rfl S.co S.gen rfl (QQ Y.hok h2) ?_⟩;rw[Z pm c g a<|r.length▸m];refine aH<|Oj S.kind (λy b=>?_) λenv e s1 x=>?_;.exact(S.par y.1 (eZ<|show(y.1,y.2)∈ps.zip a from b).1).elim (λq=>.inl q) λq=>.inr ⟨q,ql q⟩
 .subst e;refine⟨w.keeps x.toInCall.keep,PySem.W.kla_codeExpr ?_⟩;refine AE (p A d s H (.ref c) vs Q (f.deeper _) k (λb o e=>(Y.bs b o<|Y.mod.wg b o e).2) l) λt a b=>have I:=ME S f.hd Y m n r i h4 u v x;bD (a [] s1 _ _ _ I b) (λu c a=>?_) λe c a=>a.elim;refine AL a λv H' J a q=>AB (Mj Y.hok i Y.frf J.base J.hok) λun e=>?_;have f:∀b,nL h b=bY->H' b=none:=λb y=>AD (i.at y) λo v z _=>(show Un (oj d) [] (hI h H) H' s.heap c.heap from J.base).free b o (Y.hok b _ z).1 (hI.cell y) (by simp);exact⟨v,_,J.os,J.bare,un,e,a,q f⟩
def Rp.Bn(r:Rp Γ C H s)(e:EA H H')(st:∀b,H b≠aT->H' b≠aT)(tb:hG Γ.T H'):Gr C s H C s H'/\Rp Γ C H' s:=by have kp:Kp H H':=λb o h f=>e b o (λps z=>by subst z;cases f) h;have Z:Gw C s.length H C H':=⟨λ_ _=>rfl,kp⟩;refine⟨⟨Z,ak _,λi a h2=>iN h2<|by omega,λi o a e a=>by lia,st,λb o kvs h=>e b _ (by nofun) h,λb o h a _=>e b o a h⟩,r.inj,λi o Y=>?_,r.wf,tb⟩;exact(r.obj i o Y).mono Z (r.wf i o Y) λm u b=>by refine Aa ((r.obj i o Y).there m) λu' J _ a _=>?_;cases b▸J;exact e _ _ a b
def Cells.kp(h:Cells clos H)(k:Kp H H'):Cells clos H':=λx c e=>AD (h x c e) λo v q d=>Af o v (k _ _ q rfl) d
def BR(Γ:Gm)(a:yB)(N:yH)(W:St)(C:Nat->Addr)(H:Hp)(d:ot)(v:V):Prop:=RV Γ C H d v\/∃id cs,d=.sk id cs/\∃f J,v=.ref f/\Γ.lg id J/\Az H f J (sf a J.scope.names [])/\cs.length=J.fr.length/\(∀x,J.scope.names.lookup x=al .free->∃c,a.lookup x=al c)/\∃a,ei Γ C H cs a/\∀(i:Nat)x v,J.fr[i]?=al x->a[i]?=al v->J.scope.names.lookup x=al .free/\∃j:Nat,N[j]?=al x/\W[j]?=al (al v)
inductive CN(Γ:Gm)(cells:yB)(N:yH)(W:St)(C:Nat->Addr)(H:Hp):List ot->List V->Prop where|nil:CN Γ cells N W C H [] []|cons{d v l vs}(a:BR Γ cells N W C H d v)(b:CN Γ cells N W C H l vs):CN Γ cells N W C H (d::l) (v::vs)
theorem BR.mono(g:Gr C s H C' s' H')(b:d.eu s.length=bY)(h:BR Γ cells N W C H d v):BR Γ cells N W C' H' d v:=by
 rcases h with h|⟨id,cs,rfl,h⟩;.exact .inl<|RV.mono g _ _ b h
 .exact AS h λf J e c Z Zz=>AO Zz λh4 Y a d h=>.inr ⟨id,cs,rfl,f,J,e,c,Z.kp g.w.kp,h4,Y,a,ei.mono g cs a b d,h⟩
def BR.tJ(g:r8 cells N kd W H1 H2)(l:∀x c,cells.lookup x=al c->kd x=al .cell\/kd x=al .free)(b:d.eu n=bY)(h:BR Γ cells N W C H1 d v):RV Γ C H2 d v:=by
 have d:Gw C n H1 C H2:=⟨λ_ _=>rfl,λb o e _=>g.same b o e⟩;rcases h with h|⟨id,cs,rfl,h⟩;.exact RV.g5 d _ _ b h
 .refine AS h λf J e m Y Zz=>AO Zz λh4 Z a h n=>?_;have k:∀(i:Nat)(x:Str)(v:V),J.fr[i]?=al x->a[i]?=al v->J.scope.names.lookup x=al .free/\(kd x=al .cell\/kd x=al .free)/\∃j:Nat,N[j]?=al x/\W[j]?=al (al v):=λi x v j o=>AB (n i x v j o) λq1 i=>AF (Z x q1) λc j=>Ai q1 (l x c j) i;have c:q9 H2 f J a<|sf cells J.scope.names []:=by unfold q9;unfold Az at Y;cases q:J.nm with|none=>rw[q]at Y;exact UL g Y Z k|some p=>rw[q]at Y;exact ZX g Y Z k
  exact⟨f,a,J,_,e,m,c,by rw[h.length,h4],ei.g5 d cs a b h⟩
theorem CN.tJ(Y:r8 cells N kd W Uu H2)(J:∀x c,cells.lookup x=al c->kd x=al .cell\/kd x=al .free)(h:CN Γ cells N W C Uu l vs)(b:ou n l=bY):ei Γ C H2 l vs:=by induction h with|nil=>exact .nil|cons a _ c=>unfold ou at b;rw[af]at b;exact .cons (a.tJ Y J b.1) (c b.2)
end
variable{Γ:Gm}{X:Cx}
def ek(Γ:Gm)(m:ow->oq->oy ot):TE:=λW H Q=>∃C U s d a,RE Γ C H s.length U W/\Rp Γ C H s/\m U s=.ok d a/\vv Γ C s H d a Q
def TJ(Γ:Gm)(C:Nat->Addr)(s:oq)(H:Hp)(l:List ot)(a:oq)(Q:List V->Hp->Prop):Prop:=∀vs b H',Gr C s H b a H'->s.length<=a.length->ou a.length l=bY->ei Γ b H' l vs->Rp Γ b H' a->Q vs H'
def s6(Γ:Gm)(m:ow->oq->oy (List ot)):TA:=λW H Q=>∃C U s l a,RE Γ C H s.length U W/\Rp Γ C H s/\m U s=.ok l a/\TJ Γ C s H l a Q
def GP(Γ:Gm)(C:Nat->Addr)(s:oq)(H:Hp)(b:Bool)(a:oq)(Q:Bool->Hp->Prop):Prop:=∀c H',Gr C s H c a H'->s.length<=a.length->Rp Γ c H' a->Q b H'
def tM(Γ:Gm)(m:ow->oq->oy ot):TT:=λW H Q=>∃C U s b a,RE Γ C H s.length U W/\Rp Γ C H s/\m U s=.ok (.T b) a/\GP Γ C s H b a Q
def PE.imp(h:PE X e t)(i:∀W H Q,t' W H Q->t W H Q):PE X e t':=λJ s W H Q I q=>h J s W H Q I<|i W H Q q
def PT.imp(h:PT X e t)(i:∀W H Q,t' W H Q->t W H Q):PT X e t':=λJ s W H Q I q=>h J s W H Q I<|i W H Q q
def PA.imp(h:PA X e t)(i:∀W H Q,t' W H Q->t W H Q):PA X e t':=λpos J s W H Q I q=>h pos J s W H Q I<|i W H Q q
theorem GP.trans(h:GP Γ C s H b s' Q)(g:Gr C s H C1 s1 J)(l:s.length<=s1.length):GP Γ C1 s1 J b s' Q:=λa H' b c p=>h a H' (g.trans b l) (au l c) p
set_option tactic.hygienic true in def SW i(h:ek Γ (λU s=>rB U i s) W H Q):Cm i W H Q:=by
 refine AG h λC U s d a E R J q=>?_;simp only[rB]at J;split at J;.rename_i d' e;cases J;exact AQ (E.val i _ e) λb v a c=>⟨v,a,q.here R b c⟩
 .exact fb J
def E3(a:∀n,c.eu n=bY)(b:∀C H,RV Γ C H c v)(h:ek Γ (λU s=>.ok c s) W H Q):tC v W H Q:=by refine AG h λC U s d c E R J q=>?_;cases J;exact q.here R (a _) (b _ _)
def Ga(h:ek Γ (λU s=>(m1 U s).bind λx s=>(Z U s).bind λy s=>f x y s) W H Q):DP (CV Γ f) (ek Γ m1) (ek Γ Z) W H Q:=AG h λC U s d g E R J q=>AD (fE J) λx s1 a J=>AD (fE J) λy b f J=>⟨C,U,s,x,s1,E,R,a,λh i a c a e j k=>⟨i,U,s1,y,b,E.mono c a,k,f,λf i H2 Y f k l R2=>⟨i,b,x,y,d,g,R2,RV.mono Y x h e j,l,zm f x e,k,J,q.trans (c.trans Y a) (au a f)⟩⟩⟩
def zX{a:α}(h:oJ r f=.ok a t):∃b s,r=.ok (.T b) s/\f b s=.ok a t:=by refine AD (fE h) λd s e h=>?_;cases d with|T b=>exact Af b s e h|_=>exact fb h
def GV(h:tM Γ m W H Q):tB (ek Γ m) W H Q:=AG h λC U s b a E R J q=>⟨C,U,s,.T b,a,E,R,J,λv a H' g l Y r c=>Ac b r.uT<|q a H' g l c⟩
def MN(h:tM Γ m W H Q):IB (ek Γ m) W H Q:=GV h
def Uj(h:tM Γ (λU s=>oJ (m U s) λb s=>.ok (.T<|!b) s) W H Q):L4 (tM Γ m) W H Q:=by refine AG h λC U s b a E R J q=>AD (zX J) λc s1 a J=>?_;cases J;exact⟨C,U,s,c,_,E,R,a,q⟩
def Nz(h:tM Γ (λU s=>oJ (Y U s) λc s=>if c then oJ (Uu U s) λc s=>.ok (.T c) s else .ok (.T ce) s) W H Q):LN (tM Γ Y) (tM Γ Uu) W H Q:=by refine AG h λC U s b a E R J q=>AD (zX J) λc s1 e1 J=>⟨C,U,s,c,s1,E,R,e1,λd Z a b e=>?_⟩;cases c with|true=>rw[ef rfl]at J⊢;refine AD (zX J) λc' c c J=>?_;cases J;exact⟨d,U,s1,_,_,E.mono a b,e,c,q.trans a b⟩|false=>rw[gc bu]at J⊢;cases J;exact q d Z a b e
def Na(h:tM Γ (λU s=>oJ (Y U s) λc s=>if c then .ok (.T bY) s else oJ (Uu U s) λc s=>.ok (.T c) s) W H Q):Kk (tM Γ Y) (tM Γ Uu) W H Q:=by refine AG h λC U s b a E R J q=>AD (zX J) λc s1 e1 J=>⟨C,U,s,c,s1,E,R,e1,λd Z a b e=>?_⟩;cases c with|true=>rw[ef rfl]at J⊢;cases J;exact q d Z a b e|false=>rw[gc bu]at J⊢;refine AD (zX J) λc' c c J=>?_;cases J;exact⟨d,U,s1,_,_,E.mono a b,e,c,q.trans a b⟩
def S1(h:ek Γ (λU s=>oJ (m U s) λb s=>.ok (.T<|!b) s) W H Q):Lz (ek Γ m) W H Q:=by refine AG h λC U s d a E R J q=>AD (zX J) λc s1 a J=>?_;cases J;exact⟨C,U,s,.T c,_,E,R,a,λv a d g l b r b=>Ac c r.uT<|q _ a d g l rfl RV.uO b⟩
def NP(h:ek Γ (λU s=>oJ (Y U s) λc s=>if c then oJ (Uu U s) λc s=>.ok (.T c) s else .ok (.T ce) s) W H Q):Lc (ek Γ Y) (ek Γ Uu) W H Q:=by refine AG h λC U s d a E R J q=>AD (zX J) λc s1 e1 J=>⟨C,U,s,.T c,s1,E,R,e1,λv d Z a b b1 f e=>Ac c f.uT ?_⟩;cases c with|true=>rw[ef rfl]at J⊢;refine AD (zX J) λc f f J=>?_;cases J;exact⟨d,U,s1,.T c,_,E.mono a b,e,f,q.trans a b⟩|false=>rw[gc bu]at J⊢;cases J;exact q _ d Z a b rfl RV.uO e
def LG(h:ek Γ (λU s=>oJ (Y U s) λc s=>if c then .ok (.T bY) s else oJ (Uu U s) λc s=>.ok (.T c) s) W H Q):LM (ek Γ Y) (ek Γ Uu) W H Q:=by refine AG h λC U s d a E R J q=>AD (zX J) λc s1 e1 J=>⟨C,U,s,.T c,s1,E,R,e1,λv d Z a b b1 f e=>Ac c f.uT ?_⟩;cases c with|true=>rw[ef rfl]at J⊢;cases J;exact q _ d Z a b rfl RV.uO e|false=>rw[gc bu]at J⊢;refine AD (zX J) λc f f J=>?_;cases J;exact⟨d,U,s1,.T c,_,E.mono a b,e,f,q.trans a b⟩
def Uc(h:ek Γ (λU s=>oJ (mc U s) λk s=>if k then Y U s else Uu U s) W H Q):Kl (tM Γ mc) (ek Γ Y) (ek Γ Uu) W H Q:=by refine AG h λC U s d e E R J q=>AD (zX J) λc s1 e1 J=>⟨C,U,s,c,s1,E,R,e1,λf Z a b g=>?_⟩;cases c with|true=>rw[ef rfl]at J⊢;exact⟨f,U,s1,d,e,E.mono a b,g,J,q.trans a b⟩|false=>rw[gc bu]at J⊢;exact⟨f,U,s1,d,e,E.mono a b,g,J,q.trans a b⟩
def PV(h:ek Γ (λU s=>(ma U s).bind λx s=>(mb U s).bind λy s=>oJ (f x y s) λk s=>if k then(mc U s).bind λz s=>g y z s else .ok (.T ce) s) W H Q):HY (CV Γ f) (CV Γ g) (ek Γ ma) (ek Γ mb) (ek Γ mc) W H Q:=by refine AG h λC U s d m E R J q=>AD (fE J) λx s1 a J=>AD (fE J) λy f b J=>AD (zX J) λc g e3 J=>⟨C,U,s,x,s1,E,R,a,λn e a h a i o j=>⟨e,U,s1,y,f,E.mono h a,j,b,λp r H2 j b e k R2=>⟨r,f,x,y,.T c,g,R2,RV.mono j x n i o,k,zm b x i,e,e3,λf f n i Y b3 o l=>Ac c o.uT ?_⟩⟩⟩;have G:=(h.trans j a).trans i<|au a b;have L:=au (au a b) Y;cases c with|true=>rw[ef rfl]at J⊢;exact AD (fE J) λz s4 a J=>⟨f,U,g,z,s4,E.mono G L,l,a,λa b a a Z c g h=>⟨b,s4,y,z,d,m,h,RV.mono (i.trans a Y) y p e k,g,zm (au Y Z) y e,c,J,q.trans (G.trans a L) (au L Z)⟩⟩|false=>rw[gc bu]at J⊢;cases J;exact q _ f n G L rfl RV.uO l
def Dk(h:s6 Γ (λU s=>.ok [] s) W H Q):wR W H Q:=by refine AG h λC U s d a E R J q=>?_;cases J;exact q [] C H (Gr.refl _ _ _) (ak _) rfl .nil R
def YH(h:s6 Γ (λU s=>(m U s).bind λd s=>(ms U s).bind λl s=>.ok (d::l) s) W H Q):yu (ek Γ m) (s6 Γ ms) W H Q:=by refine AG h λC U s l a E R J q=>AD (fE J) λx s1 a J=>AD (fE J) λy b e J=>?_;cases J;refine⟨C,U,s,x,s1,E,R,a,λb f a c a d g h=>⟨f,U,s1,y,_,E.mono c a,h,e,λf h H2 Y e i Z R2=>q (b::f) h H2 (c.trans Y a) (au a e) ?_ (.cons (RV.mono Y x b d g) Z) R2⟩⟩;unfold ou;rw[zm e x d,i];rfl
def Jp(h:ek Γ (λU s=>(ms U s).bind λl s=>f l s) W H Q):Ft (Bp Γ f) (s6 Γ ms) W H Q:=AG h λC U s d a E R J q=>AD (fE J) λl s1 b J=>⟨C,U,s,l,s1,E,R,b,λvs b c c e f g h=>⟨b,s1,l,d,a,h,g,f,J,q.trans c e⟩⟩
def RC:(ek Γ (λU s=>(m U s).bind λx s=>(ml U s).bind λy s=>match y with|.int i=>pW x (al i) aT s|_=>.B) W H Q->Fs (Fx Γ) (ek Γ m) (EC<|ek Γ ml) Jj W H Q)/\(ek Γ (λU s=>(m U s).bind λx s=>(mh U s).bind λy s=>match y with|.int i=>pW x aT (al i) s|_=>.B) W H Q->Fs (Fx Γ) (ek Γ m) Jj (EC<|ek Γ mh) W H Q)/\(ek Γ (λU s=>(m U s).bind λx s=>(ml U s).bind λy s=>match y with|.int i=>(mh U s).bind (λz s=>match z with|.int j=>pW x (al i) (al j) s|_=>.B)|_=>.B) W H Q->Fs (Fx Γ) (ek Γ m) (EC<|ek Γ ml) (EC<|ek Γ mh) W H Q):=by
 refine⟨λh=>?_,λh=>?_,λh=>?_⟩;.refine AG h λC U s d g E R J q=>AD (fE J) λx s1 j J=>AD (fE J) λy e k J=>⟨C,U,s,x,s1,E,R,j,λl m r c a f n o=>⟨m,U,s1,y,e,E.mono c a,o,k,λt p H2 Y b u Z R2=>?_⟩⟩;cases y with|int i=>exact⟨i,Z.ez,p,e,x,d,g,R2,RV.mono Y x l f n,zm b x f,J,q.trans (c.trans Y a) (au a b)⟩|_=>exact fb J
 .refine AG h λC U s d g E R J q=>AD (fE J) λx s1 j J=>AD (fE J) λy e k J=>⟨C,U,s,x,s1,E,R,j,λl m r c a f n o=>⟨m,U,s1,y,e,E.mono c a,o,k,λt p H2 Y b u Z R2=>?_⟩⟩;cases y with|int i=>exact⟨i,Z.ez,p,e,x,d,g,R2,RV.mono Y x l f n,zm b x f,J,q.trans (c.trans Y a) (au a b)⟩|_=>exact fb J
 .refine AG h λC U s d g E R J q=>AD (fE J) λx s1 j J=>AD (fE J) λy e k J=>⟨C,U,s,x,s1,E,R,j,λl m r c a f n o=>⟨m,U,s1,y,e,E.mono c a,o,k,λt p H2 Y b u Z R2=>?_⟩⟩;cases y with
  |int i=>refine AD (fE J) λz h e3 J=>⟨i,Z.ez,p,U,e,z,h,E.mono (c.trans Y a) (au a b),R2,e3,λe k e e i b3 m o=>?_⟩;cases z with|int j=>exact⟨j,m.ez,k,h,x,d,g,o,RV.mono (Y.trans e b) x l f n,zm (au b i) x f,J,q.trans ((c.trans Y a).trans e<|au a b) (au (au a b) i)⟩|_=>exact fb J
  |_=>exact fb J
variable{Γ:Gm}{X:Cx}
def BD(Γ:Gm)(J:It)(C0:Nat->Addr)(H0:Hp)(s0:oq)(q:pI):Prop:=∀C H s,Gr C0 s0 H0 C s H->s0.length<=s.length->Rp Γ C H s->pf s0 s q.src=bY->∀i:Nat,(i<q.its.length->J.go i H/\∀x H',J.yld i H x H'->tw H H'/\∀d,q.its[i]?=al d->RV Γ C H' d x)/\(q.its.length<=i->J.stop i H)
def u9(Γ:Gm)(m:ow->oq->oy pI):TI:=λW H R=>∃C U s q a,RE Γ C H s.length U W/\Rp Γ C H s/\m U s=.ok q a/\∀J b H',Gr C s H b a H'->s.length<=a.length->ou a.length q.its=bY->Rp Γ b H' a->BD Γ J b H' a q->R J H'
def PI.imp(h:PI X tg e t)(i:∀W H R,t' W H R->t W H R):PI X tg e t':=λJ s W H R I q=>h J s W H R I<|i W H R q
def PI.or(h:PI X tg e t)(h':PI X tg e t'):PI X tg e<|λW H R=>t W H R\/t' W H R:=λJ s W H R I q=>q.elim (h J s W H R I) (h' J s W H R I)
def Zv(h:sy Γ.K H0 a J)(Z:ei Γ C0 H0 l J)(b:ou s0.length l=bY):BD Γ (Fl Γ.K a) C0 H0 s0 ⟨l,[]⟩:=by refineλC H s g _ R _ i=>have h':=g.w.kp.Km h;have a:=ei.mono g l J b Z;⟨λb=>Ad ⟨J,J[i]'(a.length▸b),h',aj _⟩<|λx H' y=>?_,λY=>⟨J,h',a.length▸Y⟩⟩;refine AB y λe y=>?_;subst e;refine⟨tw.refl _,λd b=>AE (a.get b) λv a a=>?_⟩;simp_all
def Za(h:BQ Γ.K H0 a J)(Z:ei Γ C0 H0 l J)(b:ou s0.length l=bY):BD Γ (DJ Γ.K a) C0 H0 s0 ⟨l,[]⟩:=by refineλC H s g _ R _ i=>have h':=h.2 _ g.w.kp;have a:=ei.mono g l J b Z;⟨λb=>Ad ⟨J,J[i]'(a.length▸b),h',aj _⟩<|λx H' y=>?_,λY=>⟨J,h',a.length▸Y⟩⟩;refine AB y λe y=>?_;subst e;refine⟨tw.refl _,λd b=>AE (a.get b) λv a a=>?_⟩;simp_all
def Zu(a:s0[r]?=al (.J l)):BD Γ (DJ Γ.K<|C0 r) C0 H0 s0 ⟨l,[r]⟩:=by
 intro C H s g _ R Y i;have b:s[r]?=al (.J l):=by unfold pf at Y;simp only[dj,nQ,fS,iS]at Y;exact Y▸a
 refine AE (R.addr b) λUu e h=>?_;rw[g.w.map r<|(ae.mp a).1]at e;have h':qn Γ.K H (C0 r) Uu:=qn.of e;refine⟨λa=>Ad ⟨Uu,Uu[i]'(h.length▸a),h',aj _⟩<|λx H' y=>?_,λZ=>⟨Uu,h',h.length▸Z⟩⟩;refine AB y λe y=>?_;subst e;refine⟨tw.refl _,λd a=>AE (h.get a) λv a a=>?_⟩;simp_all
def Vg{l:List Nat}:BD Γ (DI ⟨l.toArray⟩) C0 H0 s0 ⟨l.map λc=>.str [c],[]⟩:=by
 intro C H s g _ R _ i;have a:(⟨l.toArray⟩:Str).cps.size=l.length:=by simp
 refine⟨λb=>?_,λh=>?_⟩
 .simp only[aw]at b;refine⟨show i<(⟨l.toArray⟩:Str).cps.size by exact a▸b,λx H' y=>?_⟩;obtain⟨e,c,c,rfl⟩:=y;subst e;refine⟨tw.refl _,λd b=>?_⟩;have J:=by simpa using c
  rw[aF,J]at b;cases b;exact RV.vc<|by simp;decide
 .simp only[aw]at h;show(⟨l.toArray⟩:Str).cps.size<=i;exact a▸h
def Ve:BD Γ (Hc a (b-a).toNat) C0 H0 s0 ⟨pL a b,[]⟩:=by
 intro C H s g _ R _ i;have d:(pL a b).length=(b-a).toNat:=by simp[pL]
 refine⟨λc=>⟨show i<(b-a).toNat by exact d▸c,λx H' y=>?_⟩,λh=>show(b-a).toNat<=i by exact d▸h⟩;obtain⟨e,rfl⟩:=y;subst e;refine⟨tw.refl _,λd a=>?_⟩;simp only[pL]at a c;rw[aF,bW<|by simp_all]at a;cases a;exact RV.nC
def Wz:BD Γ (HD a ((b-a+1)/2).toNat) C0 H0 s0 ⟨pM a b 2,[]⟩:=by
 intro C H s g _ R _ i;have Uu:pM a b 2=(av ((b-a+1)/2).toNat).map λ(k)=>.int<|a+2*k:=by unfold pM;lia
 have f:(pM a b 2).length=((b-a+1)/2).toNat:=by simp_all
 refine⟨λc=>⟨show i<((b-a+1)/2).toNat by exact f▸c,λx H' y=>?_⟩,λJ=>show((b-a+1)/2).toNat<=i by exact f▸J⟩;obtain⟨e,rfl⟩:=y;subst e;refine⟨tw.refl _,λd d=>?_⟩;simp only[Uu]at d;rw[aF,bW (f▸c:i<((b-a+1)/2).toNat)]at d;cases d;rw[Int.mul_comm];exact RV.nC
set_option tactic.hygienic true in def YE(h:u9 Γ (λU s=>(Y U s).bind λx s=>(Uu U s).bind λy s=>match x,y with|.int i,.int j=>if(2:Int)=2/\(0<=i/\i<1048576)/\0<=j/\j<1048576 then .ok ⟨pM i j 2,[]⟩ s else .B|_,_=>.B) W H R):Nf (yu (ek Γ Y) (yu (ek Γ Uu) (yu (tC<|.int 2) wR))) W H R:=by refine AG h λC U s q a E P J k=>AD (fE J) λx s1 a J=>AD (fE J) λy c d J=>⟨C,U,s,x,s1,E,P,a,λv a b g l b r b=>⟨a,U,s1,y,c,E.mono g l,b,d,λa C2 H2 b c d Z P2=>?_⟩⟩;cases x with
 |int i=>
  cases y with|int j=>
   simp only at J;split at J;.rename_i hi;cases J;refine⟨i,j,by rw[r.ez,Z.ez],(Au hi.2.1.1 hi.2.1.2 hi.2.2.1 hi.2.2.2),k _ C2 H2 (g.trans b l) (au l c) ?_ P2 Wz⟩;refine uk.mpr λd a=>?_;unfold pM at a;rw[ef<|by decide,ar]at a;obtain⟨_,_,rfl⟩:=a;rfl
   .exact fb J|_=>exact fb J
 |_=>cases y<;>cases J
set_option tactic.hygienic true in def Xi(h:u9 Γ (λU s=>(m U s).bind λx s=>match x with|.int i=>if-rM<=i/\i<rM then .ok ⟨pL 0 i,[]⟩ s else .B|_=>.B) W H R):Lr (yu (ek Γ m) wR) W H R:=by
 refine AG h λC U s q f E P J k=>AD (fE J) λx s1 b J=>⟨C,U,s,x,s1,E,P,b,λv c e g l b r Y=>?_⟩
 cases x with|int i=>
  simp only at J;split at J
  .rename_i hi;cases J;have d:rM=2^62:=by decide
   rw[d]at hi;refine⟨i,by rw[r.ez],hi.1,hi.2,k _ c e g l ?_ Y ?_⟩;.refine uk.mpr λd d=>?_;simp only[pL,ar]at d;obtain⟨_,_,rfl⟩:=d;rfl
   .have:=Ve (Γ:=Γ) (C0:=c) (H0:=e) (s0:=f) (a:=0) (b:=i);rwa[Int.sub_zero]at this
  .exact fb J|_=>exact fb J
def Ud(h:u9 Γ (λU s=>(m U s).bind λd s=>DV.uD d s) W H R):HA Γ.K (ek Γ m) W H R\/IT Γ.K (ek Γ m) W H R\/LL (ek Γ m) W H R:=by refine AG h λC U s q a E P J k=>AD (fE J) λx s1 h J=>?_;unfold DV.uD at J;cases x with
 |tp l=>cases J;refine .inl ⟨C,U,s,_,_,E,P,h,λv e Y g l b r c=>?_⟩;obtain⟨a,Z,rfl,d,i⟩:=r.so;exact Ag a rfl (Ae Z d) (k _ e Y g l b c<|Zv d i b)|str l=>cases J;refine .inr<|.inr ⟨C,U,s,_,_,E,P,h,λv e Y g f b r c=>Ac _ r.qm<|k _ e Y g f ?_ c Vg⟩;refine uk.mpr λd a=>?_;simp only[ar]at a;obtain⟨_,_,rfl⟩:=a;rfl|ref r=>simp only at J;cases a:s1[r]? with|none=>cases a▸J|some o=>rw[a]at J;cases o with|J l=>cases J;refine .inr<|.inl ⟨C,U,s,_,_,E,P,h,λv e Y g f b m c=>?_⟩;cases m.hW;exact AE (c.addr a) λZ d i=>have j:=c.wf _ _ a;(Ag (e r) rfl (Ae Z<|qn.of d) (k _ e Y g f j c<|Zu a))|ro l=>cases J;refine .inr<|.inl ⟨C,U,s,_,_,E,P,h,λv e Y g f b m c=>?_⟩;cases m.hW;exact AE (c.obj _ _ a) λZ d i=>have j:=c.wf _ _ a;(Ag (e r) rfl (Ae Z d.1) (k _ e Y g f j c<|Za d i j))|dc l=>exact fb J|su l=>exact fb J|ins c l=>exact fb J|r7 l=>exact fb J
 |_=>exact fb J
def X2(h:xl d=al k)(J:d.vh=bY):RV Γ C H d<|kV k:=by cases d with|int i=>cases h;exact RV.nC|str x=>cases h;exact RV.vc<|au (dO J) (by decide)|_=>cases h
theorem RVD.Bu:∀{l}{kvs}{i:Nat}{k}{v},RVD xl Γ C H l kvs->kvs[i]?=al (k,v)->∃p,l[i]?=al p/\xl p.1=al k|[],_,_,_,_,h,e=>by cases(h);simp at e|(d,a)::l,_,0,_,_,h,e=>by obtain⟨b,c,r,rfl,f,g,J⟩:=h;simp_all|(d,a)::l,_,i+1,_,_,h,e=>by obtain⟨b,c,r,rfl,f,g,J⟩:=h;exact RVD.Bu (i:=i) J<|by simpa using e
def Wa(h:H0 a=al (.sj o<|.dK kvs))(b:RVD xl Γ C0 H0 l kvs)(c:l.all (λp=>p.1.vh)=bY):BD Γ (Jk a o kvs) C0 H0 s0 ⟨l.map (·.1),[r]⟩:=by refineλC H s g _ R _ i=>have h':=g.fz _ _ _ h;have len:=b.length;⟨λa=>Ad ⟨h',by simp_all⟩<|λx H' y=>?_,λJ=>⟨h',by simp_all⟩⟩;obtain⟨e,k,v,Y,rfl⟩:=y;subst e;refine⟨tw.refl _,λd a=>AE (b.Bu Y) λp b d=>?_⟩;have a:=a;rw[aF,b]at a;cases a;exact X2 d<|aK.mp c p<|aA b
set_option tactic.hygienic true in def V7(h:rN d s=.ok q s'):∃r l,d=.ref r/\s[r]?=al (.dc l)/\l.all (λp=>p.1.vh)=bY/\q=⟨l.map (·.1),[r]⟩/\s'=s.set r (.r7 l):=by
 unfold rN at h;split at h
 .split at h
  .rename_i l e;split at h;.rename_i hk;cases h;exact⟨_,l,rfl,e,hk,rfl,rfl⟩
   .exact fb h
  .exact fb h
 .exact fb h
def cs4(h:u9 Γ (λU s=>(m U s).bind λd s=>rN d s) W H R):Rq (ek Γ m) W H R:=by refine AG h λC U s q a E P Y k=>AD (fE Y) λx s1 b Y=>?_;obtain⟨r,l,rfl,a,f,rfl,rfl⟩:=V7 Y;refine⟨C,U,s,_,s1,E,P,b,λv c b g Z b rr b=>AE (b.obj r _ a) λkvs h d=>?_⟩;have e:=b.wf _ _ a;have J:=e;unfold oC at J;rw[af]at J;exact Ah (c r) kvs rr.hW h<|λo=>AB (b.set (o:=.r7 l) a rfl e λH' g e=>⟨o,kvs,e,RVD.g5 g l kvs J.2 d⟩) λg2 R2=>k _ c _ (g.trans g2 Z) (by simp_all) (by simp_all) R2<|Wa zh (RVD.g5 g2.w l kvs J.2 d) f
variable{Γ:Gm}{X:Cx}
noncomputable def FZ:List Nat->CL|[]=>KZ|i::a=>Ln (BN i) (FZ a)
def zk(K:ac):pi->TG|.Y i=>BN i|.tp a=>Hz K a.length<|FZ a
set_option tactic.hygienic true in def Ia(E:RE Γ C H n U W)(r:RV Γ C H d v)(b:d.eu n=bY)(h:pj U i d=al U'):RE Γ C H n U'<|W.set i<|al v:=by
 unfold pj at h;split at h
 .rename_i hi;cases h;refine⟨by rw[bw,bw];exact E.len,λj e c=>?_⟩;by_cases a:j=i;.subst a;rw[bF hi]at c;cases c;exact Aj b v (by rw[bF<|E.len▸hi]) r
  .rw[aD<|bE a]at c;exact AQ (E.val j e c) λJ w b c=>Aj J w (by rw[aD<|bE a];exact b) c
 .cases h
theorem LB:∀a l J U c W,RE Γ C H n U W->ei Γ C H l J->ou n l=bY->pY U a l=al c->(∀b,RE Γ C H n c b->Q b H)->FZ a J W H Q|[],[],J,U,c,W,E,r,_,h,k=>by cases h;exact⟨r.qx,k W E⟩|[],d::l,_,_,_,_,_,_,_,h,_=>by cases h|i::a,[],_,_,_,_,_,_,_,h,_=>by cases h|i::a,d::l,J,U,c,W,E,r,b,h,k=>by have h:(pj U i d).bind (λU=>pY U a l)=al c:=h;obtain⟨x,f,rfl,Z,Y⟩:=r.e6;unfold ou at b;rw[af]at b;cases e:pj U i d with|none=>simp_all|some U1=>rw[e]at h;exact⟨x,f,rfl,LB a l f U1 c _ (Ia E Z b.1 e) Y b.2 h k⟩
def VL:∀{a}{U b},pY U a l=al b->a.length=l.length:=by induction l with
 |nil=>intro a U b h;cases a with|nil=>rfl|cons i a=>cases h
 |cons d l c=>intro a U b h;cases a with|nil=>cases h|cons i a=>have h:(pj U i d).bind (λU=>pY U a l)=al b:=h;cases e:pj U i d with|none=>simp_all|some U1=>rw[e]at h;rw[aQ,aQ,c h]
def F1(E:RE Γ C H n U W)(r:RV Γ C H d v)(b:d.eu n=bY)(h:oV U tg d=al U')(k:∀a,RE Γ C H n U' a->Q a H):zk Γ.K tg v W H Q:=by cases tg with|Y i=>exact k _<|Ia E r b h|tp e=>cases d with|tp l=>have h:=h;obtain⟨a,J,rfl,d,c⟩:=r.so;exact⟨a,J,rfl,d,by rw[c.length,VL h],LB e l J U U' W E c b h k⟩|_=>cases h
def Off(C:Nat->Addr)(s:oq)(b:Addr):Prop:=∀i a,s[i]?=al a->rY a=bY->C i≠b
def Off.mono(h:Off C s b)(g:Gr C s H C' s' H')(a:H b=al o):Off C' s' b:=λi a e m z=>by
 by_cases hi:i<s.length;.obtain⟨J,Uu⟩:∃J,s[i]?=al J:=⟨s[i],aj hi⟩;exact h i J Uu (g.mu i J a Uu e m) (g.w.map i hi▸z)
 .have:=g.new i (by lia) (ae.mp e).1;lia
def Off.new(r:Rp Γ C H s)(h:H b=aT):Off C s b:=λi a e m z=>AE ((r.obj i a e).there m) λu a _=>by lia
def Rp.foreign(r:Rp Γ C H s)(a:H b=al (.J ys))(c:Off C s b):Rp Γ C (upd H b<|.J h) s:=have g:Gw C s.length H C<|upd H b<|.J h:=⟨λ_ _=>rfl,(Kp.refl H).put a rfl⟩;⟨r.inj,λi o e=>(r.obj i o e).mono g (r.wf i o e) λm u b=>zd (c i o e m)▸b,r.wf,r.tab.put a⟩
def Gr.foreign(g:Gr C s H C' s' H')(a:H b=aT)(c:H' b=al (.J ys)):Gr C s H C' s'<|upd H' b<|.J J:=by
 have ne:∀c o,H c=al o->c≠b:=λc o e=>zB e a;refine⟨⟨g.w.map,λc o e f=>?_⟩,g.le,g.new,g.kd,λc a=>?_,λc o kvs e=>zd (ne c _ e)▸g.fz c o kvs e,λc o e h b=>?_⟩;.exact zd (ne c o e)▸g.w.kp c o e f
 .unfold upd;split;.simp
  .exact g.st c a
 .exact zd (ne c o e)▸g.fr c o e h b
def TU(Γ:Gm)(C:Nat->Addr)(s:oq)(H:Hp)(l:List ot)(a:oq)(Q:VK):Prop:=∀p c b H',Gr C s H b a H'->s.length<=a.length->ou a.length l=bY->H' p=al (.J c)->H p=aT->Off b a p->ei Γ b H' l c->Rp Γ b H' a->Q (.ref p) H'
def vW(Γ:Gm)(m:ow->oq->oy (List ot)):TE:=λW H Q=>∃C U s l a,RE Γ C H s.length U W/\Rp Γ C H s/\m U s=.ok l a/\TU Γ C s H l a Q
def Jr(h:ek Γ (λU s=>(m U s).bind λl s=>pC (.J l) s) W H Q):vW Γ m W H Q:=by
 refine AG h λC U s d a E R a q=>AD (fE a) λl s1 b a=>?_;obtain⟨rfl,rfl⟩:=qI a;refine⟨C,U,s,l,s1,E,R,b,λp f b H' g a k t c m r a=>?_⟩;have n:Gw b s1.length H' (λi=>if i=s1.length then p else b i) H':=⟨λi hi=>gc<|aJ hi,Kp.refl _⟩;have key:∀i J,(s1++[DV.O.J l])[i]?=al J->(i<s1.length/\s1[i]?=al J)\/(i=s1.length/\J=.J l):=λi J e=>by
  rcases gS i s1.length with h|h|h;.exact .inl<|Ad h<|aC h▸e
  .subst h;simp at e;exact .inr<|Ad rfl e.symm
  .rw[b9<|by simp;lia]at e;cases e
 have G:Gr C s H (λi=>if i=s1.length then p else b i) (s1++[.J l]) H':=by
  refine⟨⟨λi hi=>by rw[gc<|by lia];exact g.w.map i hi,g.w.kp⟩,by simp;lia,λi d h2=>?_,λi o J e h=>?_,g.st,g.fz,g.fr⟩
  .by_cases hi:i=s1.length;.exact ef hi▸c
   .exact gc hi▸g.new i d (by simp at h2;lia)
  .rcases key i J h with⟨_,c⟩|⟨hi,_⟩;.exact g.kd i o J e c
   simp_all
 have P:Rp Γ (λi=>if i=s1.length then p else b i) H'<|s1++[.J l]:=by
  refine⟨λi j Z d Y c g h e=>?_,λi o e=>?_,λi o e=>?_,a.tab⟩
  .rcases key i Z Y with⟨hi,Y⟩|⟨hi,_⟩<;>rcases key j d c with⟨b,c⟩|⟨b,_⟩;.rw[gc<|aJ hi,gc<|aJ b]at e;exact a.inj i j Z d Y c g h e
   .rw[gc<|aJ hi,ef b]at e;exact iN e<|m i Z Y g
   .exact iN (gc (aJ b)▸ef hi▸e).symm<|m j d c h
   .rw[hi,b]
  .rcases key i o e with⟨hi,e⟩|⟨hi,rfl⟩;.exact gc (aJ hi)▸(a.obj i o e).mono n (a.wf i o e) λ_ u b=>b
   .exact ef hi▸⟨f,t,ei.g5 n l f k r⟩
  .rw[aN,cK];rcases key i o e with⟨_,e⟩|⟨_,rfl⟩;.exact qD (dG _) _<|a.wf i o e
   .exact qD (dG _) _<|k
 exact q (.ref p) _ H' G (by simp;omega) (by unfold oB;simp) (by unfold RV;simp) P
def SV(E:RE Γ C H n U W)h:RE Γ C H n (pR U h) (BJ h W):=by refine⟨by unfold pR BJ;simp,λi d e=>?_⟩;unfold pR at e;rw[aF]at e;cases q:h[i]? with|none=>simp_all|some o=>rw[q]at e;cases o with|none=>cases e|some j=>
   have a:(U[j]?).join=al d:=az e;have e:U[j]?=al (al d):=by cases c:U[j]? with|none=>cases c▸a|some f=>rw[c]at a;exact congrArg al a
   refine AQ (E.val j d e) λb v a J=>Aj b v ?_ J;unfold BJ;simp_all
set_option tactic.hygienic true in def MJ (h:vW Γ (λU s=>(mI U s).bind λq s0=>if q.its.length<=oE then re (λs=>pf s0 s q.src) (λd U s=>match oV U tg d with|some U=>oJ (mc U s) λk s=>if k then(me U s).bind λv s=>.ok (al v,U) s else .ok (aT,U) s|none=>.B) q.its (pR U Z) s0 else .B) W H Q):vC Z (u9 Γ mI) (zk Γ.K tg) (tM Γ mc) (ek Γ me) W H Q:=by
 refine AG h λC U s l A E R a k=>AD (fE a) λq s0 b a=>?_;split at a;case isFalse=>exact fb a
 rename_i d;refine⟨C,U,s,q,s0,E,R,b,λJ b j u y r n B D hD=>?_⟩;have I:H D=none:=by cases e:H D with|none=>rfl|some o=>exact iN hD<|u.st D<|by rw[e];simp
 refine Ac (λi m p H'=>∃f e t h o rest,Gr b s0 j f t H'/\Rp Γ f H' t/\RE Γ f H' t.length e p/\H' D=al (.J o)/\Off f t D/\ei Γ f H' h o/\ou t.length h=bY/\h.length<=i/\i<=q.its.length/\m=q.its.length-i/\re (λs=>pf s0 s q.src) (λd U s=>match oV U tg d with|some U=>oJ (mc U s) λk s=>if k then(me U s).bind λv s=>.ok (al v,U) s else .ok (aT,U) s|none=>.B) (q.its.drop i) e t=.ok rest A/\l=h++rest) (Ae q.its.length ?_) ?_;.exact AB (n.same<|(tw.refl j).new hD) λg2 R2=>⟨b,pR U Z,s0,[],[],l,g2,R2,SV ((E.mono u y).mono g2<|ak _) Z,zh,Off.new n hD,.nil,rfl,ak _,cz _,by simp,by rw[eA];exact a,rfl⟩
 .rintro i m p H'⟨f,e,t,h,o,rest,g,R',E',hy,a5,ra,ba,c0,hil,rfl,hc,hl⟩;have Y:=g.le;rcases iB i q.its.length with a|m
  .have hd:=aj a;rw[cO a]at hc;unfold re at hc;split at hc;case isFalse=>exact fb hc
   rename_i s;refine AB ((B f H' t g Y R' s i).1 a) λb3 b=>.inr<|Aj b3 _ (λd H2 n=>Ac (q.its.length-(i+1)) (by omega) n) (λx H2 d=>AB (b x H2 d) λsm b=>AB (R'.same sm) λg2 R2=>have j:=b _ hd;have bd:=zm Y _<|ER r hd;AD (fE hc) λp n b hc=>AD (fE hc) λr2 d x hc=>?_);cases d:oV e tg q.its[i]with|none=>rw[d]at b;cases b|some p=>rw[d]at b;refine F1 (E'.mono g2<|ak _) j bd d λd q=>AD (zX b) λc e ec b=>⟨f,p,t,c,e,q,R2,ec,λC d d l E=>?_⟩;have j:=sm _ _ hy;have s:=d.fr D _ j (by nofun) a5;have t:=a5.mono d j;have F:=(g.trans g2 Y).trans d Y;cases c with
    |true=>
     rw[ef rfl]at b;refine ur ?_;refine AD (fE b) λv b ev b=>?_;cases b;refine⟨C,p,e,v,n,q.mono d l,E,ev,λw j r c H J K L=>have e:=c.fr D _ s (by nofun) t;have z:=t.mono c s;(Ag o e ?_ ?_)⟩;.rw[ra.length];have:=qH;lia
     .have gw:Gw j n.length r j<|upd r D<|.J<|o++[w]:=⟨λ_ _=>rfl,(Kp.refl r).put e rfl⟩;have r:=g2.trans (d.trans c l) (ak _);have G:ou n.length (h++[v])=true:=jm (vj r.le _ ba) (by unfold ou;rw[J];rfl);refine⟨j,p,n,h++[v],o++[w],r2,(F.trans c<|au Y l).foreign hD e,L.foreign e z,?_,zh,z,ei.g5 gw _ _ G<|(ei.mono r _ _ ba ra).append<|.cons K .nil,G,by simp;omega,a,rfl,?_,?_⟩;.have E5:=(q.mono d l).mono c H;exact⟨E5.len,λj e c=>AQ (E5.val j e c) λh1 z h2 c=>Aj h1 z h2<|RV.g5 gw _ _ h1 c⟩
      .cases hc;exact x
      .cases hc;rw[hl];simp|false=>rw[gc bu]at b;refine UG ?_;cases b;exact⟨C,p,n,h,o,r2,F,E,q.mono d l,s,t,ei.mono (g2.trans d<|ak _) _ _ ba ra,vj l _ ba,by lia,a,rfl,by cases hc;exact x,by cases hc;exact hl⟩
  .have hi:=by omega
   rw[fJ m]at hc;unfold re at hc;split at hc;case isFalse=>exact fb hc
   rename_i s;cases hc;refine .inl<|Ad ((B f H' A g Y R' s i).2 m) ?_;rw[aZ]at hl;subst hl;exact k D o f H' (u.trans g y) (au y Y) ba hy I a5 ra R'
variable{Γ:Gm}{X:Cx}
def LR(Γ:Gm)(C:Nat->Addr)(H:Hp)(n:Nat)(D:Ends):o9->Prop|.next U=>∀W,RE Γ C H n U W->D.nx W H|.ret d=>∀v,d.eu n=bY->RV Γ C H d v->D.rt v H|.cont U=>∀W,RE Γ C H n U W->D.ct W H|.brk U=>∀W,RE Γ C H n U W->D.bk W H
def Cw(Γ:Gm)(C:Nat->Addr)(s:oq)(H:Hp)(c:o9)(a:oq)(D:Ends):Prop:=∀b H',Gr C s H b a H'->s.length<=a.length->Rp Γ b H' a->LR Γ b H' a.length D c
def q7(Γ:Gm)(m:ow->oq->oy o9):TS:=λD W H=>∃C U s c a,RE Γ C H s.length U W/\Rp Γ C H s/\m U s=.ok c a/\Cw Γ C s H c a D
def PS.imp(h:PS X e t)(i:∀D W H,t' D W H->t D W H):PS X e t':=λJ s W H Q I q=>h J s W H Q I<|i Q W H q
def sR.imp(h:sR X e t)(i:∀D W H,t' D W H->t D W H):sR X e t':=λJ s W H Q I q=>h J s W H Q I<|i Q W H q
theorem Cw.trans{D}(h:Cw Γ C s H c s' D)(g:Gr C s H C1 s1 J)(l:s.length<=s1.length):Cw Γ C1 s1 J c s' D:=λa H' b c p=>h a H' (g.trans b l) (au l c) p
def Cw.here{D}(h:Cw Γ C s H c s D)(p:Rp Γ C H s):LR Γ C H s.length D c:=h C H (Gr.refl C s H) (ak _) p
variable{D:Ends}{W:St}{H:Hp}
def Xp(J:∀U s,m U s=.ok (.next U) s)(h:q7 Γ m D W H):Ll D W H:=by refine AG h λC U s c a E R e q=>?_;rw[J]at e;cases e;exact q.here R W E
def X6(h:q7 Γ (λU s=>.ok (.cont U) s) D W H):LF D W H:=by refine AG h λC U s c a E R e q=>?_;cases e;exact q.here R W E
def YD(h:q7 Γ (λU s=>.ok (.ret .N) s) D W H):Ly D W H:=by refine AG h λC U s c a E R e q=>?_;cases e;exact q.here R .N rfl RV.w7
def Ul(h:q7 Γ (λU s=>(m U s).bind λd s=>.ok (.ret d) s) D W H):LV (ek Γ m) D W H:=by refine AG h λC U s c a E R e q=>AD (fE e) λx s1 a e=>?_;cases e;exact⟨C,U,s,x,_,E,R,a,λv a J b c d e f=>q a J b c f v d e⟩
def XA(h:q7 Γ (λU s=>(m U s).bind λ_ s=>.ok (.next U) s) D W H):LD (ek Γ m) D W H:=by refine AG h λC U s c a E R e q=>AD (fE e) λx s1 a e=>?_;cases e;exact⟨C,U,s,x,_,E,R,a,λv c J a b d d d=>q c J a b d W<|E.mono a b⟩
def HZ(h:q7 Γ (λU s=>(m U s).bind λd s=>match oV U tg d with|some U=>.ok (.next U) s|none=>.B) D W H):z7 (ek Γ m) (zk Γ.K tg) D W H:=by refine AG h λC U s c a E R e q=>AD (fE e) λx s1 a e=>⟨C,U,s,x,s1,E,R,a,λv d f a b g h i=>?_⟩;cases c:oV U tg x with|none=>simp_all|some U1=>cases c▸e;exact F1 (E.mono a b) h g c<|q d f a b i
def Zw(h:q7 Γ (λU s=>((m U s).bind λl s=>pC (.J l) s).bind λd s=>match oV U tg d with|some U=>.ok (.next U) s|none=>.B) D W H):z7 (vW Γ m) (zk Γ.K tg) D W H:=Jr<|HZ h
def Lo(Γ:Gm):HS:=λo i v H Q=>∃C s x y d a,Rp Γ C H s/\RV Γ C H x o/\RV Γ C H y i/\RV Γ C H d v/\x.eu s.length=bY/\y.eu s.length=bY/\d.eu s.length=bY/\pO x y d s=.ok () a/\∀b H',Gr C s H b a H'->s.length<=a.length->Rp Γ b H' a->Q H'
def ZW(h:q7 Γ (λU s=>(me U s).bind λd s=>(mo U s).bind λx s=>(mi U s).bind λy s=>(pO x y d s).bind λ_ s=>.ok (.next U) s) D W H):z7 (ek Γ me) (K2 (ek Γ mo) (ek Γ mi) (Lo Γ)) D W H:=by refine AG h λC U s c a E R e q=>AD (fE e) λd s1 a e=>AD (fE e) λx b g e=>AD (fE e) λy c j e=>AD (fE e) λu s4 k e=>?_;cases e;exact⟨C,U,s,d,s1,E,R,a,λl h a e a f m i=>⟨h,U,s1,x,b,E.mono e a,i,g,λn o H2 g J h p R2=>have i:=e.trans g a;have L2:=au a J;⟨o,U,b,y,c,E.mono i L2,R2,j,λa a b Y b e j o=>⟨a,c,x,y,d,_,o,RV.mono Y x n h p,j,RV.mono (g.trans Y J) d l f m,zm b x h,e,zm (au J b) d f,k,λe f c Z g=>have d:=i.trans Y L2;have a:=au L2 b;q e f (d.trans c a) (au a Z) g W<|E.mono (d.trans c a) (au a Z)⟩⟩⟩⟩
set_option tactic.hygienic true in def Sw(hu:X.A.units+2<cLine):HI X<|Lo Γ:=by intro a1 sh W H o i v ov iv u Q I ro ri rv h;obtain⟨C,s,x,y,d,s',R,rx,ry,rd,bx,a0,bd,J,q⟩:=h;cases x with
 |ref r=>have J:(match s[r]? with|some<|.J l=>(match y with|.int i=>(match pF l.length i with|some j=>DV.R.ok ()<|s.set r<|.J<|l.set j d|none=>.B)|_=>.B)|some<|.dc l=>if y.key&&decide (l.length<oE)then .ok ()<|s.set r<|.dc (oN y d l)else .B|some<|.su l=>if y.tI&&decide (l.length<oE)then .ok ()<|s.set r<|.su (oN y d l)else .B|_=>.B)=.ok () s':=J;cases e:s[r]? with|none=>rw[e]at J;cases J|some ob=>rw[e]at J;cases ob with
   |J l=>cases y with
    |int k=>have J:(match pF l.length k with|some j=>DV.R.ok ()<|s.set r<|.J<|l.set j d|none=>.B)=.ok () s':=J;cases ej:pF l.length k with|none=>rw[ej]at J;cases J|some j=>
      rw[ej]at J;cases J;obtain⟨xs,Z,Uu⟩:=R.addr e;have hb:ou s.length (l.set j d)=true:=uk.mpr λz hz=>by
       rcases gG hz with h|h;.exact uk.mp (by have:=R.wf r _ e;unfold oC at this;exact this) z h
       .subst h;exact bd
      refine VB a1 sh W H o i v ov iv u Q I ro ri rv ⟨C r,xs,k,j,rx.hW,ry.ez,Z,?_,?_⟩;.rw[Uu.length];exact ej
      .obtain⟨g,R'⟩:=R.set (o:=.J<|l.set j d) (u:=.J<|xs.set j v) e rfl hb λH' g e=>⟨_,e,ei.g5 g _ _ hb<|Uu.set j rd⟩;exact q _ _ g (by simp) R'
    |_=>exact fb J
   |dc l=>
    have J:(if y.key&&decide (l.length<oE)then DV.R.ok ()<|s.set r<|.dc (oN y d l)else .B)=.ok () s':=J;split at J;case isFalse=>exact fb J
    rename_i hc;cases J;rw[af]at hc;obtain⟨k,hk⟩:=GB hc.1;have hlt:=of_decide_eq_true hc.2;obtain⟨kvs,Z,Uu⟩:=R.obj r _ e;have ex:=rx.hW;subst ex;cases ro;have ey:=GS hk ry;subst ey;have hb:(DV.O.dc<|oN y d l).eu s.length=true:=P1 (R.wf r _ e) a0 bd;have Y:ou s.length ((oN y d l).map (·.2))=true:=by unfold oC at hb;rw[af]at hb;exact hb.2
    obtain⟨g,R'⟩:=R.set (o:=.dc<|oN y d l) (u:=.dK<|uU kvs k v) e rfl hb λH' g e=>⟨_,e,RVD.g5 g _ _ Y<|Uu.put keyOf_inj hk rd⟩;exact Qr hu I (Ci.k Z<|by rw[Uu.length];exact aB hlt qH) ri rv λs4 I4=>⟨_,I4,q _ _ g (by simp) R'⟩|su l=>
    have J:(if y.tI&&decide (l.length<oE)then DV.R.ok ()<|s.set r<|.su (oN y d l)else .B)=.ok () s':=J;split at J;case isFalse=>exact fb J
    rename_i hc;cases J;rw[af]at hc;obtain⟨k,hk⟩:=Ja hc.1;have hlt:=of_decide_eq_true hc.2;obtain⟨kvs,Z,Uu⟩:=R.obj r _ e;have ex:=rx.hW;subst ex;cases ro;obtain⟨kb,ey,a2⟩:=Jv hk ry;subst ey;have hb:(DV.O.su<|oN y d l).eu s.length=true:=Vr (R.wf r _ e) a0 bd;have Y:ou s.length ((oN y d l).map (·.2))=true:=by unfold oC at hb;rw[af]at hb;exact hb.2
    obtain⟨g,R'⟩:=R.set (o:=.su<|oN y d l) (u:=.dT<|uU kvs k v) e rfl hb λH' g e=>⟨_,e,RVD.g5 g _ _ Y<|Uu.put keyT_inj hk rd⟩;exact Qr hu I (Ci.t Z a2<|by rw[Uu.length];exact aB hlt qH) ri rv λs4 I4=>⟨_,I4,q _ _ g (by simp) R'⟩|_=>exact fb J
 |_=>exact fb J
set_option tactic.hygienic true in def S6(h:q7 Γ (λU s=>(rB U i s).bind λx s=>(m U s).bind λy s=>match x,y with
  |.int a,.int b=>match pj U i<|.int (a+b)with|some U=>.ok (.next U) s|none=>.B
  |_,_=>.B) D W H):KN i (ek Γ m) (KH λi j=>i+j) D W H:=by
 refine AG h λC U s c h E R b q=>AD (fE b) λx s1 a J=>AD (fE J) λy f e2 e=>?_;clear b J;unfold rB at a;split at a;case h_2=>cases a
 rename_i d b;cases a;refine AQ (E.val i _ b) λb v Y h2=>⟨v,Y,C,U,s,y,f,E,R,e2,λw j Z d g b1 r1 k=>?_⟩;cases x with
 |int a=>cases y with
  |int b=>refine⟨a,b,h2.ez,r1.ez,?_⟩;have e:(match pj U i<|.int (a+b)with|some U=>DV.R.ok (DV.Ct.next U) f|none=>.B)=.ok c h:=e;cases c:pj U i<|.int (a+b)with|none=>simp_all|some U1=>rw[c]at e;cases e;exact q j Z d g k _<|Ia (E.mono d g) RV.nC rfl c
  |_=>cases e
 |_=>cases e
def Ru(h:q7 Γ (λU s=>oJ (mc U s) λk s=>if k then Y U s else Uu U s) D W H):KU (tM Γ mc) (q7 Γ Y) (q7 Γ Uu) D W H:=by refine AG h λC U s d e E R J q=>AD (zX J) λc s1 e1 J=>⟨C,U,s,c,s1,E,R,e1,λf Z a b g=>?_⟩;cases c with|true=>rw[ef rfl]at J⊢;exact⟨f,U,s1,d,e,E.mono a b,g,J,q.trans a b⟩|false=>rw[gc bu]at J⊢;exact⟨f,U,s1,d,e,E.mono a b,g,J,q.trans a b⟩
set_option tactic.hygienic true in def Nq(h:q7 Γ (λU s=>(Z U s).bind λc s=>match c with|.next U=>Y U s|c=>.ok c s) D W H):HF (q7 Γ Z) (q7 Γ Y) D W H:=by refine AG h λC U s c d E R J q=>AD (fE J) λc1 s1 e1 J=>⟨C,U,s,c1,s1,E,R,e1,λa g b e f=>?_⟩;cases c1 with|next U1=>exactλh h=>⟨a,U1,s1,c,d,h,f,J,q.trans b e⟩|ret d=>cases J;exact q a g b e f|cont U=>cases J;exact q a g b e f|brk U=>cases J;exact q a g b e f
set_option tactic.hygienic true in def UO(h:q7 Γ (DV.u5 mc mb) D W H):Ip (tM Γ mc) (q7 Γ mb) D W H:=by
 refine AG h λC U s c a E R J q=>?_;unfold DV.u5 at J;split at J;case isFalse=>exact fb J
 rename_i d;generalize d.choose=n at J;refine⟨λn W H=>∃C U s,RE Γ C H s.length U W/\Rp Γ C H s/\DV.uw mc mb n U s=.ok c a/\Cw Γ C s H c a D,⟨n,C,U,s,E,R,J,q⟩,?_⟩;clear E R J q d;rintro n W H⟨C,U,s,E,R,J,q⟩;cases n with|zero=>exact fb J|succ n=>refine AD (zX J) λb s1 e1 J=>⟨C,U,s,b,s1,E,R,e1,λe Z c a f=>?_⟩;cases b with|false=>rw[gc bu]at J⊢;cases J;exact q e Z c a f W<|E.mono c a|true=>rw[ef rfl]at J⊢;refine AD (fE J) λc1 d e2 J=>⟨_,λg H' w=>Ac n (dC n) w,e,U,s1,c1,d,E.mono c a,f,e2,λb H2 e Y R2=>?_⟩;have G:=c.trans e a;have L:=au a Y;cases c1 with|next U1=>exactλc a=>Ak b U1 d a R2 J<|q.trans G L|cont U1=>exactλc a=>Ak b U1 d a R2 J<|q.trans G L|ret d=>cases J;exact q b H2 G L R2|brk U=>cases J;exact q b H2 G L R2
set_option tactic.hygienic true in def Si(h:q7 Γ (λU s=>(mI U s).bind λq s0=>rC (λs=>pf s0 s q.src) (λd U s=>match oV U tg d with|some U=>mb U s|none=>.B) q.its U s0) D W H):HQ (u9 Γ mI) (zk Γ.K tg) (q7 Γ mb) D W H:=by
 refine AG h λC U s c p E R a k=>AD (fE a) λq s0 b a=>⟨C,U,s,q,s0,E,R,b,λJ f d l e j n r=>Ac (λi m o H'=>∃b h t,Gr f s0 d b t H'/\Rp Γ b H' t/\RE Γ b H' t.length h o/\i<=q.its.length/\m=q.its.length-i/\rC (λs=>pf s0 s q.src) (λd U s=>match oV U tg d with|some U=>mb U s|none=>.B) (q.its.drop i) h t=.ok c p) (Ae q.its.length ?_) ?_⟩;.exact Aw f U s0 (Gr.refl _ _ _) n (E.mono l e) (cz _) (by simp) (eA▸a)
 .rintro i m o H'⟨b,h,t,g,Z,E',hil,rfl,hc⟩;have c:=g.le;rcases iB i q.its.length with a|f
  .have hd:=aj a;rw[cO a]at hc;unfold rC at hc;split at hc;case isFalse=>exact fb hc
   rename_i Y;refine AB ((r b H' t g c Z Y i).1 a) λa2 d=>.inr<|Aj a2 _ (λm H2 n=>Ac (q.its.length-(i+1)) (by omega) n) (λx H2 m=>AB (d x H2 m) λsm d=>AB (Z.same sm) λg2 R2=>have n:=d _ hd;have bd:=zm c _<|ER j hd;AD (fE hc) λc1 d hs hc=>?_);cases m:oV h tg q.its[i]with|none=>cases m▸hs|some h=>rw[m]at hs;refine F1 (E'.mono g2<|ak _) n bd m λm m=>⟨b,h,t,c1,d,m,R2,hs,λh q n t j=>?_⟩;have m:=(g.trans g2 c).trans n c;have s:=au c t;have t:=l.trans m e;cases c1 with|next U1=>exactλu n=>Aw h U1 d m j n a rfl hc|cont U1=>exactλu n=>Aw h U1 d m j n a rfl hc|ret d=>cases hc;exact k h q t (au e s) j|brk U=>cases hc;exact k h q t (au e s) j
  .rw[fJ f]at hc;unfold rC at hc;split at hc;case isFalse=>exact fb hc
   rename_i Y;cases hc;exact .inl<|Ad ((r b H' p g c Z Y i).2 f) (k b H' (l.trans g e) (au e c) Z o E')
structure Ck where
 N:List Str
 sc:Scope
 lk:String->List Nat->Expr->Bool
noncomputable abbrev Dc(N:yH)(a:Scope):Ck:=⟨N,a,λ_ _ _=>ce⟩
noncomputable def Ck.vis(c:Ck)(x:Str):Bool:=match c.sc.names.lookup x with|some .local=>bY|some .cell=>bY|some .free=>bY|_=>ce
noncomputable def Ck.loc(c:Ck)(x:Str):Bool:=match c.sc.names.lookup x with|some .local=>true|some .cell=>true|_=>false
noncomputable def Ck.gl(c:Ck)(x:Str):Bool:=(match c.sc.names.lookup x with|some .globalImplicit=>bY|_=>ce)&&!(x==("__debug__"))&&!decide (x=("__name__"))
noncomputable def Ck.var(c:Ck)(i:Nat)(x:Str):Bool:=decide (c.N[i]?=al x)&&c.vis x&&!(x==("__debug__"))&&!(x==("__classdict__"))
noncomputable def rX:Expr->Bool|.Starred ..=>ce|.Set ..=>ce|.SetComp ..=>ce|.DictComp ..=>ce|.GeneratorExp ..=>ce|.Slice ..=>ce|.NamedExpr ..=>ce|_=>bY
noncomputable def Cr:Expr->Bool|.ListComp ..=>ce|.SetComp ..=>ce|.DictComp ..=>ce|_=>bY
noncomputable def La:Expr->Bool|.Tuple ..=>ce|_=>bY
noncomputable def En:Expr->Bool|.Call _ [] [] _=>ce|_=>bY
noncomputable def mC:DV.Cn->Const->Bool|.N,.none=>bY|.T b,.bool c=>b==c|.int i,.int j=>decide<|i=j|.str x,.str y=>decide (y=⟨x.toArray⟩)&&decide (x.length<=1000)|_,_=>ce
noncomputable def FV(a:Ck):List Nat->List Expr->Bool|[],[]=>bY|i::b,.Name x _::es=>decide (a.N[i]?=al x)&&a.loc x&&FV a b es|_,_=>ce
def CZ(ck:Ck):pi->Expr->Bool|.Y i,.Name x _=>decide (ck.N[i]?=some x)&&ck.loc x|.tp is,.Tuple es _ _=>FV ck is es|_,_=>false
noncomputable def Q0:Expr->List Str
 |.Name x _=>[x]|.Tuple es _ _=>es.filterMap λe=>match e with|.Name x _=>al x|_=>aT
 |_=>[]
structure DK where
 x:Str
 y:Str
 ob:Expr
 sc:Scope
 p1:Pos
 p2:Pos
 p3:Pos
 p4:Pos
 p5:Pos
 p6:Pos
 p7:Pos
 k1:Nat
 k2:Nat
 ap:Pos
 cp:Pos
 pos:Pos
noncomputable def DK.tg(q:DK):Expr:=.Tuple [.Name q.x q.p5,.Name q.y q.p6] q.k2 q.p7
noncomputable def DK.it(q:DK):Expr:=.Call (.Attribute q.ob "items" q.ap) [] [] q.cp
noncomputable def DK.text(q:DK):Expr:=.ListComp (.BinOp (.Name q.x q.p1) .Add (.Tuple [.Name q.y q.p2] q.k1 q.p3) q.p4) [⟨q.tg,q.it,[],0⟩] q.sc q.pos
def wk(c:Ck)(b:Expr)(a:yD)(scope:Scope):Ck:=⟨Q0 b++(a.filterMap id).map λj=>c.N.getD j "",scope,λ_ _ _=>ce⟩
def De(c:Ck)(tg:pi)(b iter:Expr)(a:yD)(scope:Scope):Bool:=qp (wk c b a scope).N a scope c.N c.sc&&decide ((wk c b a scope).N.Nodup)&&CZ (wk c b a scope) tg b&&rX iter
noncomputable def xG:DV.L->Bool|.wF ..=>bY|_=>ce
def Ks:pz->Bool|.mk _ l=>!xG l|_=>bY
noncomputable def Gb:pq->Option Str|.len=>al "len"|.abs=>al "abs"|.min2=>al "min"|.max2=>al "max"|.vf=>al "max"|.int=>al "int"|.str=>al "str"|_=>aT
noncomputable def Gd:pq->Option (Nat×Str)|.isInt=>al (1,"int")|.isBool=>al (2,"bool")|.isStr=>al (3,"str")|.isTup=>al (4,"tuple")|.isList=>al (5,"list")|_=>aT
noncomputable def Kt:rf->Option Str|.tuple=>al "tuple"|.list=>al "list"|_=>aT
noncomputable def Hn:rf->Option Str|.min=>al "min"|_=>aT
noncomputable def D6:rg->Option (Str×Nat)|.append=>al ("append",1)|_=>aT
noncomputable def F9:o6->Bool|.nil=>ce|.ex _ a=>F9 a|.lam _ _ _=>bY|.fn _ a=>F9 a
def FO(ck:Ck)(b:pq)(x:Str)(xs:yK)(m1 m2:Bool):Bool:=match Gd b with|some p=>(match xs with|[_,.Name y _]=>decide (x=("isinstance":Str))&&ck.gl x&&decide (y=p.2)&&ck.gl y&&m2|_=>false)|none=>(match xs with|_::_=>decide (Gb b=some x)&&ck.gl x&&m1|[]=>false)
noncomputable def sY:bH->Option (List Str)|⟨[],a,aT,[],[],aT,[]⟩=>al (a.map (·.arg))|_=>aT
mutual noncomputable def mE(ck:Ck):pz->Expr->Bool
 |.X i,E=>match E with|.Name x _=>ck.var i x|_=>false
 |.K c,E=>match E with|.Constant v _ _=>mC c v|_=>false
 |.gl g,E=>match E with|.Name x _=>decide (x=(g:Str))&&ck.gl x|_=>false
 |.G op a b,E=>match E with|.BinOp l o r _=>decide (o=HL op)&&mE ck a l&&mE ck b r|_=>false
 |.not a,E=>match E with|.UnaryOp .Not l _=>mE ck a l|_=>false
 |.Z op a b,E=>match E with|.Compare l [o] [r] _=>decide (o=BA op)&&mE ck a l&&mE ck b r|_=>false
 |.chain o p a b c,E=>match E with|.Compare l [o1,o2] [m,r] _=>decide (o1=BA o)&&decide (o2=BA p)&&mE ck a l&&mE ck b m&&mE ck c r|_=>false
 |.yg a,E=>match E with|.Compare l [.Is] [.Constant .none _ _] _=>mE ck a l|_=>false
 |.vd a,E=>match E with|.Compare l [.IsNot] [.Constant .none _ _] _=>mE ck a l|_=>false
 |.and a b,E=>match E with|.BoolOp .And [l,r] _=>mE ck a l&&mE ck b r|.BoolOp .And (l::m::r::es) p=>mE ck a l&&mE ck b (.BoolOp .And (m::r::es) p)|_=>false
 |.or a b,E=>match E with|.BoolOp .Or [l,r] _=>mE ck a l&&mE ck b r|.BoolOp .Or (l::m::r::es) p=>mE ck a l&&mE ck b (.BoolOp .Or (m::r::es) p)|_=>false
 |.ite c a b,E=>match E with|.IfExp t l r _=>mE ck c t&&mE ck a l&&mE ck b r|_=>false
 |.tp es,E=>match E with|.Tuple xs _ _=>tq ck es xs&&decide (xs.length<=1000)|_=>false
 |.J es,E=>match E with|.List xs _=>tq ck es xs&&decide (xs.length<=1000)|_=>false
 |.dc ks vs,E=>match E with|.Dict a b _=>(match a,b with|[],[]=>tq ck ks []&&tq ck vs []|[some x],[y]=>tq ck ks [x]&&tq ck vs [y]|_,_=>false)|_=>false
 |.yN a hi,E=>match E with|.Subscript o (.Slice none (some h) none _) _=>mE ck a o&&mE ck hi h|_=>false
 |.ym,E=>match E with|.Dict [] [] _=>true|_=>false
 |.ix a b,E=>match E with|.Subscript o i _=>mE ck a o&&mE ck b i|_=>false
 |.call f as,E=>match E with|.Call (.Name x _) xs [] _=>decide (x=(f:Str))&&ck.gl x&&uS ck as xs|_=>false
 |.callC f as,E=>match E with|.Call (.Name x _) (y::ys) [] _=>decide (x=(f:Str))&&ck.gl x&&F9 as&&Dg ck as (y::ys)|_=>false
 |.tX i es,E=>match E with|.Call (.Name x _) (y::ys) [] _=>ck.var i x&&tq ck es (y::ys)|_=>false
 |.bi b es,E=>match E with|.Call (.Name x _) xs [] _=>FO ck b x xs (tq ck es xs) (tq ck es<|xs.take 1)|_=>false
 |.mk k l,E=>match E with|.Call (.Name x _) [a] [] _=>ck.gl x&&rX a&&((decide (Kt k=some x)&&mL ck 2 l a)||(decide (Hn k=some x)&&mL ck 1 l a))|.ListComp e gs sc p=>decide (k=.list)&&(mL ck 0 l (.ListComp e gs sc p)||(xG l&&mL ck 1 l (.ListComp e gs sc p)))|_=>false
 |.xE k l d,E=>match E with|.Call (.Name x _) [a] [⟨some y,de,_⟩] _=>(decide (k=.min)&&decide (x=("min":Str)))&&decide (y=("default":Str))&&ck.gl x&&rX a&&mL ck 1 l a&&mE ck d de|_=>false
 |.me m o es,E=>match E with|.Call (.Attribute ob x ap) xs [] cp=>decide (D6 m=some (x,xs.length))&&En ob&&(ap.endLine==cp.line)&&mE ck o ob&&tq ck es xs|_=>false
 |.attr o f,E=>match E with|.Attribute ob x _=>decide (x=⟨f.toArray⟩)&&En ob&&mE ck o ob|_=>false
 |.new c as,E=>match E with|.Call (.Name x _) xs [] _=>decide (x=(c:Str))&&ck.gl x&&uS ck as xs|_=>false
 |.cq o m as,E=>match E with|.Call (.Attribute ob x ap) xs [] cp=>(match ob with|.Name y py=>decide (x=(m:Str))&&mE ck o (.Name y py)&&(ap.endLine==cp.line)&&decide (xs.length<29)&&uS ck as xs|_=>false)|_=>false noncomputable def tq(b:Ck):oW->List Expr->Bool
 |.nil,a=>match a with|[]=>bY|_=>ce
 |.cons e es,a=>match a with|x::a=>mE b e x&&rX x&&tq b es a|_=>ce noncomputable def Hr(b:Ck):oW->List Expr->Bool
 |.nil,a=>match a with|[]=>bY|_=>ce
 |.cons e es,a=>match a with|.FormattedValue v c aT _::a=>decide (c=-1)&&mE b e v&&Hr b es a|.Constant v j p::a=>mE b e (.Constant v j p)&&Hr b es a|_=>ce noncomputable def uS(b:Ck):o6->List Expr->Bool
 |.nil,a=>match a with|[]=>bY|_=>ce
 |.ex e es,a=>match a with|x::a=>mE b e x&&rX x&&uS b es a|_=>ce
 |.lam _ _ _,_=>ce|.fn _ _,_=>ce noncomputable def Dg(c:Ck):o6->List Expr->Bool
 |.nil,a=>match a with|[]=>bY|_=>ce
 |.ex e es,a=>match a with|x::a=>mE c e x&&rX x&&Dg c es a|_=>ce
 |.lam id b es,a=>match a with|x::a=>c.lk id b x&&rX x&&Dg c es a|_=>ce
 |.fn _ _,_=>ce noncomputable def mI(d:Ck)(a:Expr):DV.I->Expr->Bool
 |.rg a,E=>match E with|.Call (.Name x _) [l] [] _=>decide (x=("range":Str))&&d.gl x&&mE d a l&&rX l|_=>ce
 |.seq e,x=>mE d e x&&rX x|.w3 a b c,E=>match E with|.Call (.Name x _) [l,r,.Constant v _ _] [] _=>decide (x=("range":Str))&&d.gl x&&mE d a l&&rX l&&mE d b r&&rX r&&decide (c=2)&&decide (v=.int 2)|_=>ce
 |.keys _,_=>ce noncomputable def mL(d:Ck)(k:Nat):DV.L->Expr->Bool
 |.comp tg it e a,E=>match E with|.ListComp f [⟨b,iter,[],z⟩] scope _=>decide (z=0)&&De d tg b iter a scope&&mI d b it iter&&mE (wk d b a scope) e f|_=>ce
 |.ub tg it c e a,E=>match E with|.ListComp f [⟨b,iter,[i],z⟩] scope _=>decide (z=0)&&De d tg b iter a scope&&mI d b it iter&&mE (wk d b a scope) c i&&mE (wk d b a scope) e f|_=>ce
 |.yl es,E=>match E with|.List a _=>decide (1<=k)&&tq d es a&&decide (a.length<=1000)|_=>ce
 |.seq e,x=>decide (k=2)&&mE d e x|.wF _ _ _ _,_=>ce end
def ff{p:Prop}(h:ce=bY):p:=lY h
noncomputable def IQ:bH->Bool|⟨[],a,aT,[],[],aT,[]⟩=>a.all λy=>y.annotation.isNone|_=>ce
noncomputable def LQ:List Stmt->Option (Str×bH×Expr×Pos×Scope×Pos×List Stmt)|.FunctionDef nm a [.Return (al b) d] [] aT [] scope aT c pos::e=>if c=nm then al (nm,a,b,d,scope,pos,e)else aT|_=>aT
noncomputable def K5(nm:Str):List Stmt->Option (Str×Pos×Expr×Pos×Pos×Pos)|[.Return (al<|.Call (.Name g c) [a,.Name x d] [] e) b]=>if x=nm then al (g,c,a,d,e,b)else aT|_=>aT
noncomputable def HB:rO->pP->Option (Nat×String×pz×String×List Nat)|.BX i,.cons (.ret<|.callC g<|.ex e<|.lam id caps .nil) .nil=>some (i,g,e,id,caps)|_,_=>none
def Lj(a:Ck)(s:rO)(b:pP)(S:yL):Bool:=(HB s b).any λd=>(LQ S).any λq=>(K5 q.1 q.2.2.2.2.2.2).any λr=>decide (a.N[d.1]?=al q.1)&&a.loc q.1&&a.var d.1 q.1&&a.lk d.2.2.2.1 d.2.2.2.2 (.NamedExpr (.Name q.1 q.2.2.2.1) (.Lambda q.2.1 q.2.2.1 q.2.2.2.2.1 q.2.2.2.2.2.1) q.2.2.2.2.2.1)&&decide (r.1=(d.2.1))&&a.gl r.1&&mE a d.2.2.1 r.2.2.1&&rX r.2.2.1&&IQ q.2.1
mutual noncomputable def mS(d:Ck):rO->Stmt->Bool
 |.A tg e,S=>match S with|.Assign [t] v _=>CZ d tg t&&mE d e v&&(match tg with|.Y _=>Ks e|.tp _=>La v&&Cr v)|_=>ce
 |.ll o i e,S=>match S with|.Assign [.Subscript g a _] v _=>mE d o g&&mE d i a&&mE d e v&&Cr v|_=>ce
 |.aug i e,S=>match S with|.AugAssign (.Name x _) .Add v _=>decide (d.N[i]?=al x)&&d.loc x&&mE d e v|_=>ce
 |.ex e,S=>match S with|.Expr v _=>mE d e v&&Cr v|_=>ce
 |.ret e,S=>match S with|.Return (al v) _=>mE d e v|_=>ce
 |.uo,S=>match S with|.Return aT _=>bY|_=>ce
 |.ite c a b,S=>match S with|.If t l r _=>mE d c t&&vg d a l&&vg d b r|_=>ce
 |.u5 c b,S=>match S with|.While t l [] _=>mE d c t&&vg d b l|_=>ce
 |.fo tg it b,S=>match S with|.For a iter l [] _=>CZ d tg a&&mI d a it iter&&vg d b l|_=>ce
 |.cont,S=>match S with|.Continue _=>bY|_=>ce
 |.raise,_=>bY|.BX _,_=>ce|.wc o f e,S=>match S with|.Assign [.Attribute g x _] v _=>decide (x=⟨f.toArray⟩)&&mE d o g&&mE d e v&&Cr v|_=>ce noncomputable def vg(b:Ck):pP->List Stmt->Bool
 |.nil,a=>match a with|[]=>bY|_=>ce
 |.cons s c,a=>match a with|x::a=>Lj b s c (x::a)||(mS b s x&&vg b c a)|_=>ce end
def Fc(h:mE J e E=bY):rX E=true:=by cases E<;>first|rfl|(exfalso;cases e<;>exact ff h)
def Nw(h:mI Uu J e E=bY):rX E=true:=by cases e with|seq e=>have h:(mE Uu e E&&rX E)=true:=h;rw[af]at h;exact h.2|_=>cases E<;>first|rfl|exact ff h
def YO(h:DV.CY x s t r=.ok d s'):pZ x s=pZ x t/\r=.ok d s':=by unfold DV.CY at h;lia
def Rw(h:s[a]?=al o)(g:t[a]?=al J)(n:o.kd≠J.kd):¬pZ (.ref a) s=pZ (.ref a) t:=by unfold pZ;simp_all
def ze{es:yK}(h:rX e=bY):be (e::es) env=(ce,eval e env)::be es env:=by cases e<;>first|rfl|cases h
theorem zu:∀{es:yK},(∀e∈es,rX e=bY)->(cV pos<|be es env).any (·.1)=ce/\(cV pos<|be es env).all (λx=>!x.1)=bY|[],_=>(Ad rfl rfl)|e::es,h=>by obtain⟨J,a⟩:=zu (env:=env) (pos:=pos) λx c=>h x<|ah _ c;rw[(ze (es:=es) (env:=env)<|h e<|ao ..)];unfold cV at J a⊢;simp only[aS,hJ,dj,J,a];exact Ad rfl rfl
def Gn(h:rX e=bY)x:d5 e env x=pure x:=by cases e<;>first|rfl|cases h
def Jd(h:rX e=bY):dk op e=false:=by cases e<;>first|rfl|cases h
def EL(h:Cr e=bY):fK e t l env=pure false:=by cases e<;>first|rfl|cases h
def G6(h:En e=bY):eT e f env (eval e env)=eval e env:=by cases e with
 |Call g a k p=>cases g with
  |Name x b=>cases a with
   |nil=>cases k with|nil=>cases h|cons _ _=>rfl
   |cons _ _=>rfl
  |_=>rfl
 |_=>rfl
def aZ3{es:yK}(h:La e=bY):kQ [.Tuple es k p] e env=pure none:=by cases e<;>first|rfl|cases h
def aX8:kQ [.Subscript o i p] e env=pure none:=by cases e<;>rfl
def aW1(h:rX e=bY):MT e:=λo i=>by cases e<;>first|rfl|cases h
def vE(Γ:Gm)(c:List ot->oq->oy ot):Sp:=λvs H Q _=>Bp Γ c vs H Q
noncomputable def tK:List Str:=["len","abs","min","max","int","isinstance","bool","str","tuple","list","range","sum","all","any","sorted","zip","enumerate","ord"]
def DR(Γ:Gm)(c:List ot->List ot->oq->oy ot)(a:List V):Sp:=λvs H Q _=>∃C s cs l d b,Rp Γ C H s/\ei Γ C H l vs/\ei Γ C H cs a/\ou s.length l=bY/\ou s.length cs=bY/\c cs l s=.ok d b/\vv Γ C s H d b Q
noncomputable def tZ.own(J:tZ):Str:=match J.nm with|none=>"<lambda>"|some p=>p.1
noncomputable def sX(J:tZ)(a:bH)(body:Expr)(scope:Scope)(pos:Pos):Expr:=match J.nm with|none=>.Lambda a body scope pos|some p=>.NamedExpr (.Name p.1 p.2) (.Lambda a body scope pos) pos
structure wY(Γ:Gm)(X:Cx)(N:yH)(id:String)(caps:List Nat)(params:bH)(body:Expr)(scope:Scope)(c P:Addr)(J:tZ):Prop where
 code:X.env.code=.ref c
 hd:bK X.base c P
 bm:BM X.mg X.base
 ck:sG scope X.env.scope=bY
 df:mZ params X.env=([],[])lg:Γ.lg id J
 q:J.qual=X.env.qual++J.own
 p:J.params=params
 b:J.body=body
 s:J.scope=scope
 len:J.fr.length=caps.length
 at_:∀(i j:Nat)(x:Str),caps[i]?=al j->J.fr[i]?=al x->N[j]?=al x
 fr:∀x∈J.fr,scope.names.lookup x=al .free
 cl:∀x,scope.names.lookup x=al .free->∃c,X.env.cells.lookup x=al c
 tab:(P,J.qual)∈Γ.T
 nd:(Γ.T.map (·.1)).Nodup
 fn:∀x,X.fn x=bY
 kd:∀x c,X.env.cells.lookup x=al c->X.env.kindOf x=al .cell\/X.env.kindOf x=al .free
 gs:si (J.ps++J.fr) J.ps J.fr J.scope
 gp:sY J.params=al J.ps
 gb:∀(clos:yB)(pm:Value)(c':Addr)(ctv:Value)(us:yG),us.length=J.ps.length->eV (cE "<lambda>" J.qual J.params J.body J.scope clos pm (.ref c') ctv) ⟨us,[]⟩=pure (J.ps.zip us)
noncomputable def BZ(kvs:List<|List Nat×List Nat):List<|PyData×PyData:=kvs.map λp=>(.str ⟨p.1.toArray⟩,.str ⟨p.2.toArray⟩)
structure CO(Γ:Gm)(prog:aG)(w:World)(K:ac)(mg:yC)(base:Heap)(F:oG)(n:Nat):Prop where att:∀(c:String)(f:List Nat)(Cc:Addr),F.att c f=bY->Γ.cls c=al Cc->kv K Cc ⟨f.toArray⟩mc:∀c m:String,(∀l s,F.cq c m l s=.B)\/∃Cc a fd ps,Γ.cls c=al Cc/\vp K Cc/\Meth K Cc (m:Str) a/\k6 prog w K mg base t7 n a fd ps (vE Γ<|F.cq c m)/\Binds K fd ps []nw:∀c:String,(∀l s,F.new c l s=.B)\/∃k Cc a fd ps,k+1<=n/\(Γ.cls c=al Cc/\vp K Cc)/\mg (c:Str)=al (.ref Cc)/\Mk K Cc a/\k6 prog w K mg base t7 k a fd ps (vE Γ<|F.new c)/\Binds K fd ps []
structure CG(Γ:Gm)(F:oG)(n:Nat)(X:Cx)(ck:Ck):Prop where
 K:X.K=Γ.K
 N:X.N=ck.N
 nd:ck.N.Nodup
 xe:X.xe=λ_ _=>False
 calm:X.calm=bY
 deep:oM+1<=n
 room:eX n X.A
 sc:∀x k,ck.sc.names.lookup x=al k->X.env.scope.names.lookup x=al k\/(k=.free/\X.env.scope.names.lookup x=al .cell)fn:∀x,ck.sc.names.lookup x=al .cell->X.fn x=bY
 bi:∀x∈tK,X.mg x=aT
 call:∀f:String,(∀l s,F.call f l s=.B)\/∃a fd ps,k6 X.prog X.w X.K X.mg X.base t7 n a fd ps (vE Γ<|F.call f)/\X.mg (f:Str)=al (.ref a)/\bR X.K (.ref a)=bY/\Binds X.K fd ps []con:∀x d,F.con x=al d->∃v u,X.mg (x:Str)=al u/\RelV v u/\(∀m,d.eu m=bY)/\∀C H,RV Γ C H d v
 lam:∀id caps E,ck.lk id caps E=bY->∃c P params body scope pos J,E=sX J params body scope pos/\wY Γ X ck.N id caps params body scope c P J
 cl:∀(id:String)(J:tZ)(f:Addr)(cap:List V)(clos:yB),Γ.lg id J->cap.length=J.fr.length->u0 X.prog X.w X.K X.mg X.base n (λH=>q9 H f J cap clos) f (DR Γ (F.lam id) cap)fa:∀(f:String)(a:Addr),Γ.fa f=al a->X.mg (f:Str)=al (.ref a)/\∃oc od fd sl,X.K.lookup a=al ⟨oc,od,.func fd,sl⟩cdc:∀c kvs,F.cdc c=al kvs->∃a,X.mg (c:Str)=al (.ref a)/\∀h:Heap,X.K.In h->StrTab X.prog X.w h a (BZ kvs)ob:CO Γ X.prog X.w X.K X.mg X.base F n
section
variable{Γ:Gm}{F:oG}{n:Nat}{X:Cx}{ck:Ck}
set_option tactic.hygienic true in theorem CG.vis(G:CG Γ F n X ck)(h:ck.vis x=bY):CK X.env.scope x:=by
 unfold Ck.vis at h;split at h
 .rename_i e;rcases G.sc _ _ e with z|⟨z,_⟩;.exact .inl z
  .cases z
 .rename_i e;rcases G.sc _ _ e with z|⟨z,_⟩;.exact .inr<|.inl z
  .cases z
 .rename_i e;rcases G.sc _ _ e with z|⟨_,z⟩;.exact .inr<|.inr z
  .exact .inr<|.inl z
 .cases h
set_option tactic.hygienic true in theorem CG.loc(G:CG Γ F n X ck)(h:ck.loc x=bY):Loc X.env.scope x/\(X.fn x=bY\/X.env.scope.names.lookup x=al .local):=by
 unfold Ck.loc at h;split at h
 .rename_i e;rcases G.sc _ _ e with z|⟨z,_⟩;.exact⟨.inl z,.inr z⟩
  .cases z
 .rename_i e;rcases G.sc _ _ e with z|⟨z,_⟩;.exact⟨.inr z,.inl<|G.fn _ e⟩
  .cases z
 .cases h
set_option tactic.hygienic true in theorem CG.gl(G:CG Γ F n X ck)(h:ck.gl x=bY):Gl X x/\(x==("__debug__"))=ce/\x≠"__name__":=by
 unfold Ck.gl at h;simp only[af,fG]at h;obtain⟨⟨J,a⟩,b⟩:=h;refine Ai ?_ a<|of_decide_eq_false b;split at J
 .rename_i e;rcases G.sc _ _ e with z|⟨z,_⟩;.exact z
  .cases z
 .cases J
theorem NW(G:CG Γ F n X ck):∀{b}{es:yK},FV ck b es=bY->DG X es (FZ b)/\(c8 es X.env).length=b.length/\(c8 es X.env).findIdx? (·.1)=aT|[],[],_=>(Ai Yw rfl rfl)|[],_::_,h=>by cases h|i::b,[],h=>by cases h|i::b,e::es,h=>by cases e with|Name x p=>unfold FV at h;simp only[af,iS]at h;obtain⟨⟨d,J⟩,b⟩:=h;refine AB (G.loc J) λl1 Y=>AI (NW G b) λa b c=>have b:c8 (.Name x p::es) X.env=(ce,ik (.Name x p) X.env)::c8 es X.env:=rfl;(Ai (U3 (MW (G.N▸G.nd) (G.N▸d) l1 Y) a<|by rw[b];rfl) (by simp_all) ?_);rw[b,List.findIdx?_cons];simp[c]|_=>cases h
def Gh(G:CG Γ F n X ck)(h:CZ ck tg e=bY):PG X e<|zk Γ.K tg:=by
 unfold CZ at h;split at h;.simp only[af,iS]at h;exact AB (G.loc h.2) λl1 J=>MW (G.N▸G.nd) (G.N▸h.1) l1 J
 .exact AI (NW G h) λa b c=>Y1 G.K G.calm a b c
 .cases h
set_option tactic.hygienic true in def CG.comp(G:CG Γ F n X ck)(h:De ck tg Uu iter J scope=bY):qp (wk ck Uu J scope).N J scope X.N X.env.scope=bY/\rX iter=bY/\∀Cc a s H ex,CG Γ F n (zZ X (wk ck Uu J scope).N scope Cc a s H ex) (wk ck Uu J scope)/\PG (zZ X (wk ck Uu J scope).N scope Cc a s H ex) Uu (zk Γ.K tg):=by
 unfold De at h;simp only[af,iS]at h;obtain⟨⟨⟨Y,h2⟩,c⟩,a⟩:=h;refine Ai ?_ a<|λCc a s H ex=>?_
 .rw[G.N];unfold qp at Y⊢;simp only[af]at Y⊢;obtain⟨⟨⟨⟨⟨d,b⟩,e⟩,f⟩,g⟩,h⟩:=Y;refine Ad (Ad (Ad (Ad (Ad d ?_) e) f) g) h;rw[aK]at b⊢;intro y d;have:=b y d;rw[cf]at this⊢;rcases this with q|q;.exact .inl q
  .right;rw[cf]at q⊢;rcases q with q|q
   .rcases G.sc _ _ (iF q)with z|⟨z,_⟩;.left;exact z▸beq_self_eq_true _
    .cases z
   .rcases G.sc _ _ (iF q)with z|⟨_,z⟩;.right;exact z▸beq_self_eq_true _
    .left;exact z▸beq_self_eq_true _
 .have Z:CG Γ F n (zZ X (wk ck Uu J scope).N scope Cc a s H ex) (wk ck Uu J scope):=by
   refine⟨G.K,rfl,h2,rfl,G.calm,G.deep,G.room,λx k e=>?_,λx e=>?_,G.bi,G.call,G.con,λ_ _ _ h=>(by cases h),G.cl,G.fa,G.cdc,G.ob⟩
   .have q:=qZ (env:=X.env) e;have a:(fR scope X.env).names.lookup x=al (if(k==NameKind.free&&X.env.scope.kind==.function&&X.env.kindOf x==al .cell)then NameKind.cell else k):=q;show(fR scope X.env).names.lookup x=al k\/_;rw[a];split;.rename_i hc;simp only[af]at hc;exact .inr<|Ad (iF hc.1.1) rfl
    .exact .inl rfl
   .show(scope.names.lookup x==al .cell)=bY;rw[show scope.names.lookup x=al .cell from e];rfl
  exact Ad Z<|Gh Z c
end
section
variable{Γ:Gm}{F:oG}{n:Nat}{X:Cx}{ck:Ck}{W:St}{H:Hp}{Q:VK}
def ek.eq(e:∀U s,m U s=m' U s)(q:ek Γ m W H Q):ek Γ m' W H Q:=by have:=funext λU=>funext<|e U;simp_all
def tM.eq{Q}(e:∀U s,m U s=m' U s)(q:tM Γ m W H Q):tM Γ m' W H Q:=by have:=funext λU=>funext<|e U;simp_all
def s6.eq{Q}(e:∀U s,m U s=m' U s)(q:s6 Γ m W H Q):s6 Γ m' W H Q:=by have:=funext λU=>funext<|e U;simp_all
def vW.eq(e:∀U s,m U s=m' U s)(q:vW Γ m W H Q):vW Γ m' W H Q:=by have:=funext λU=>funext<|e U;simp_all
def u9.eq(e:∀U s,m U s=m' U s)(q:u9 Γ m W H R):u9 Γ m' W H R:=by have:=funext λU=>funext<|e U;simp_all
def q7.eq(e:∀U s,m U s=m' U s)(q:q7 Γ m D W H):q7 Γ m' D W H:=by have:=funext λU=>funext<|e U;simp_all
def n4(Γ:Gm)(X:Cx)(E:Expr)(m:ow->oq->oy ot):Prop:=PE X E (ek Γ m)/\PT X E (tM Γ m)
def n4.val(h:PE X E<|ek Γ m)(a:autoParam (∀J,gW E X.env J=(do let v<-J;lr E.pos;gI [v]<|truthy v)) DF._auto_1):n4 Γ X E m:=⟨h,(Su h a).imp λW H Q q=>GV q⟩
def Vb(f:PT X c Y)(g:PT X a tb)(i:PT X b tc):PT X (.IfExp c a b pos) (λW H Q=>Y W H λk d=>if k=bY then tb W d Q else tc W d Q):=by intro J s W H Q I h;rw[(rfl:gW (.IfExp c a b pos) X.env (eval (.IfExp c a b pos) X.env)=(do if<-gW c X.env (eval c X.env)then gW a X.env (eval a X.env)else gW b X.env<|eval b X.env))];refine ai<|gg (f J s W H _ I h) λk s1⟨d,Z,a⟩=>?_;cases k with|true=>exact g J s1 W d Q Z a|false=>exact i J s1 W d Q Z a
def Td{Q}(h:tM Γ (λU s=>oJ (mc U s) λk s=>if k then Z U s else Y U s) W H Q):tM Γ mc W H λk a=>if k=bY then tM Γ Z W a Q else tM Γ Y W a Q:=by refine AG h λC U s d e E R J q=>AD (zX J) λc s1 e1 J=>⟨C,U,s,c,s1,E,R,e1,λf a a b g=>?_⟩;cases c with|true=>rw[ef rfl]at J⊢;exact⟨f,U,s1,d,e,E.mono a b,g,J,q.trans a b⟩|false=>rw[gc bu]at J⊢;exact⟨f,U,s1,d,e,E.mono a b,g,J,q.trans a b⟩
section
variable{a b c:pz}{l r t:Expr}{pos:Pos}
def Xm(G:CG Γ F n X ck)op(ha:n4 Γ X l<|oz F a)(hb:n4 Γ X r<|oz F b):n4 Γ X (.BinOp l (HL op) r pos) (oz F<|.G op a b):=.val<|(Ri (TM G.K op) ha.1 hb.1).imp λW H Q q=>Ga<|ek.eq (λU s=>rfl) q
def Zb(b:n4 Γ X l<|oz F a):n4 Γ X (.UnaryOp .Not l pos) (oz F<|.not a):=⟨(T3 b.1).imp λW H Q q=>S1<|ek.eq (λU s=>rfl) q,(SH b.2).imp λW H Q q=>Uj<|tM.eq (λU s=>rfl) q⟩
def Y2(G:CG Γ F n X ck)op(hs:rX r=bY)(ha:n4 Γ X l<|oz F a)(hb:n4 Γ X r<|oz F b):n4 Γ X (.Compare l [BA op] [r] pos) (oz F<|.Z op a b):=have a:=Io G.K (G.room.mono G.deep) op;⟨(X7 a ha.1 hb.1<|Jd hs).imp λW H Q q=>Ga<|ek.eq (λU s=>rfl) q,(XG a ha.1 hb.1<|Jd hs).imp λW H Q q=>have q:=MN q;Ga<|ek.eq (λU s=>rfl) q⟩
def WA(G:CG Γ F n X ck)o p(Uu:rX t=bY)(ha:n4 Γ X l<|oz F a)(hb:n4 Γ X r<|oz F b)(hc:n4 Γ X t<|oz F c):n4 Γ X (.Compare l [BA o,BA p] [r,t] pos) (oz F<|.chain o p a b c):=by
 have a:=Io G.K (G.room.mono G.deep) o;have h:=Io G.K (G.room.mono G.deep) p;have J:=by show dk (BA p) t=ce;exact Jd Uu
 exact⟨(U9 a h ha.1 hb.1 hc.1 J).imp λW H Q q=>PV<|ek.eq (λU s=>rfl) q,(Zs a h ha.1 hb.1 hc.1 J).imp λW H Q q=>have q:=MN q;PV<|ek.eq (λU s=>rfl) q⟩
def RV.yb(r:RV Γ C H x v):decide (v=.N)=decide (x=.N):=by cases x with|N=>rw[r.t9];rfl|T b=>rw[r.uT];rfl|int i=>rw[r.ez];rfl|str z=>rw[r.qm];rfl|tp l=>obtain⟨a,h,rfl,_⟩:=r.so;rfl|ref k=>rw[r.hW];rfl|fn f=>obtain⟨a,_,rfl⟩:=r;rfl|sk f cs=>obtain⟨f,_,_,_,rfl,_⟩:=r;rfl
def YF(b:n4 Γ X l<|oz F a):n4 Γ X (.Compare l [.Is] [.Constant .none j pos'] pos) (oz F<|.yg a):=by
 have key:∀W H Q,ek Γ (oz F<|.yg a) W H Q->LO (ek Γ<|oz F a) W H Q:=λW H Q q=>by refine AG q λC U s d a E R h k=>AD (fE h) λx s1 a h=>?_;cases h;refine⟨C,U,s,x,_,E,R,a,λv a J c d e e f=>?_⟩;show Q (.T<|decide<|v=.N) J;exact e.yb▸k _ a J c d rfl RV.uO f
 exact⟨(Nk<|NJ b.1).imp key,(Nm<|NJ b.1).imp λW H Q q=>key _ _ _<|GV q⟩
def VA(b:n4 Γ X l<|oz F a):n4 Γ X (.Compare l [.IsNot] [.Constant .none j pos'] pos) (oz F<|.vd a):=by
 have key:∀W H Q,ek Γ (oz F<|.vd a) W H Q->Lu (ek Γ<|oz F a) W H Q:=λW H Q q=>by refine AG q λC U s d a E R h k=>AD (fE h) λx s1 a h=>?_;cases h;refine⟨C,U,s,x,_,E,R,a,λv a J c d e e f=>?_⟩;show Q (.T<|!decide (v=.N)) J;exact e.yb▸k _ a J c d rfl RV.uO f
 exact⟨(Nk<|ML b.1).imp key,(Nm<|ML b.1).imp λW H Q q=>key _ _ _<|GV q⟩
def Mq{es:yK}{t}(h:PT X (.BoolOp op es pos) t):PW X (.BoolOp op es pos) t:=by intro a J s W H Q I q;have:=h J s W H Q I q;have e:∀w,gW (.BoolOp op es pos) X.env w=allTrue op es X.env:=λw=>rfl;simp_all
def Xg(c:n4 Γ X l<|oz F a)(d:n4 Γ X r<|oz F b):n4 Γ X (.BoolOp .And [l,r] pos) (oz F<|.and a b):=⟨(N1 c.1<|NG d.1).imp λW H Q q=>NP<|ek.eq (λU s=>rfl) q,(NL c.2<|Xy d.2).pt.imp λW H Q q=>Nz<|tM.eq (λU s=>rfl) q⟩
def Xv{es:yK}(c:n4 Γ X l<|oz F a)(d:n4 Γ X (.BoolOp .And (r::es) pos) (oz F b)):n4 Γ X (.BoolOp .And (l::r::es) pos) (oz F<|.and a b):=⟨(N1 c.1 d.1).imp λW H Q q=>NP<|ek.eq (λU s=>rfl) q,(NL c.2<|Mq d.2).pt.imp λW H Q q=>Nz<|tM.eq (λU s=>rfl) q⟩
def Tt(c:n4 Γ X l<|oz F a)(d:n4 Γ X r<|oz F b):n4 Γ X (.BoolOp .Or [l,r] pos) (oz F<|.or a b):=⟨(LH c.1<|NG d.1).imp λW H Q q=>LG<|ek.eq (λU s=>rfl) q,(M7 c.2<|Sf d.2).pt.imp λW H Q q=>Na<|tM.eq (λU s=>rfl) q⟩
def T8{es:yK}(c:n4 Γ X l<|oz F a)(d:n4 Γ X (.BoolOp .Or (r::es) pos) (oz F b)):n4 Γ X (.BoolOp .Or (l::r::es) pos) (oz F<|.or a b):=⟨(LH c.1 d.1).imp λW H Q q=>LG<|ek.eq (λU s=>rfl) q,(M7 c.2<|Mq d.2).pt.imp λW H Q q=>Na<|tM.eq (λU s=>rfl) q⟩
def YW(d:n4 Γ X t<|oz F c)(e:n4 Γ X l<|oz F a)(f:n4 Γ X r<|oz F b):n4 Γ X (.IfExp t l r pos) (oz F<|.ite c a b):=⟨(Vy d.2 e.1 f.1).imp λW H Q q=>Uc<|ek.eq (λU s=>rfl) q,(Vb d.2 e.2 f.2).imp λW H Q q=>Td<|tM.eq (λU s=>rfl) q⟩
def SD(G:CG Γ F n X ck)(c:rX r=bY)(d:n4 Γ X l<|oz F a)(e:n4 Γ X r<|oz F b):n4 Γ X (.Subscript l r pos) (oz F<|.ix a b):=.val<|(RJ (RS G.K<|Ds G.room) d.1 e.1<|aW1 c).imp λW H Q q=>Ga<|ek.eq (λU s=>rfl) q
def Xl(G:CG Γ F n X ck)(c:n4 Γ X l<|oz F a)(d:n4 Γ X r<|oz F b):n4 Γ X (.Subscript l (.Slice aT (al r) aT h) pos) (oz F<|.yN a b):=.val<|(U8 (Rt G.K) c.1 XQ<|Y0 d.1).imp λW H Q q=>(RC (ml:=oz F b)).2.1<|ek.eq (λU s=>rfl) q
end
end
section
variable{Γ:Gm}{F:oG}{n:Nat}{X:Cx}{ck:Ck}{W:St}{H:Hp}{Q:VK}
theorem G4:∀{es}{U}{s a}{l}{J:yK}{b},o5 F es U s=.ok l a->tq b es J=bY->l.length=J.length
 |.nil,U,s,a,l,J,b,h,m=>by cases h;cases J with|nil=>rfl|cons _ _=>rw[tq]at m<;>first|cases m|(intros;simp_all)
 |.cons e es,U,s,a,l,J,b,h,m=>by refine AD (fE h) λd s1 a h=>AD (fE h) λr a a h=>?_;cases h;cases J with
  |nil=>rw[tq]at m<;>first|cases m|(intros;simp_all)
  |cons x J=>rw[tq,af]at m;rw[aQ,aQ,G4 a m.2]
theorem Gp:∀{es}{J:yK},tq ck es J=bY->∀x∈J,rX x=bY
 |.nil,[],_,x,a=>by cases a|.nil,_::_,m,_,_=>by rw[tq]at m<;>first|cases m|(intros;simp_all)
 |.cons e es,[],m,x,a=>by cases a|.cons e es,y::J,m,x,a=>by
  rw[tq,af,af]at m;rcases aE.mp a with h|h;.exact h▸m.1.2
  .exact Gp m.2 x h
theorem j7:∀{es}{J:yK},uS ck es J=bY->∀x∈J,rX x=bY
 |.nil,[],_,x,a=>by cases a|.nil,_::_,m,_,_=>by rw[uS]at m<;>first|cases m|(intros;simp_all)
 |.ex e es,[],m,x,a=>by cases a|.lam _ _ _,_,m,_,_=>by rw[uS]at m<;>first|cases m|(intros;simp_all)
 |.fn _ _,_,m,_,_=>by rw[uS]at m<;>first|cases m|(intros;simp_all)
 |.ex e es,y::J,m,x,a=>by
  rw[uS,af,af]at m;rcases aE.mp a with h|h;.exact h▸m.1.2
  .exact j7 m.2 x h
def P0(a:rX x=bY)(b:PE X x<|ek Γ<|oz F e)(J:PA X h<|s6 Γ ms):PA X (x::h) (s6 Γ<|λU s=>(oz F e U s).bind λd s=>(ms U s).bind λl s=>.ok (d::l) s):=(zK b J<|ze a).imp λW H Q q=>YH q
def GU(h:k<=1000):k<=a9:=by rw[fU];lia
theorem Xx{J:yK}(m:tq ck es J=bY)(hz:J.length<=1000)(h:PA X J<|s6 Γ<|o5 F es):n4 Γ X (.Tuple J k pos) (oz F<|.tp es):=.val<|(TV h).imp λW H Q q=>tv_tup' hz m q where tv_tup'{es}{J}{W}{H}{Q}(hz:J.length<=1000)(m:tq ck es J=bY)(q:ek Γ (oz F<|.tp es) W H Q):K1 (s6 Γ<|o5 F es) W H Q:=by refine AG q λC U s d a E R a q=>AD (fE a) λl s1 b a=>?_;cases a;exact⟨C,U,s,l,_,E,R,b,λvs a Z c d e a f=>⟨a.length▸G4 b m▸GU hz,λp Y=>(q.trans c d).tup f a e Y⟩⟩
def X1{J:yK}(m:tq ck es J=bY)(hz:J.length<=1000)(h:PA X J<|s6 Γ<|o5 F es):n4 Γ X (.List J pos) (oz F<|.J es):=by refine .val<|(Ig h).imp λW H Q q=>AG q λC U s d a E R a q=>AD (fE a) λl s1 b a=>?_;obtain⟨rfl,rfl⟩:=qI a;exact⟨C,U,s,l,_,E,R,b,λvs a Z c d e a f=>⟨a.length▸G4 b m▸GU hz,λp Y=>(q.trans c d).alloc f a e Y⟩⟩
def Vh{f:String}{b:yK}(G:CG Γ F n X ck)(a:ck.gl (f:Str)=bY)(m:uS ck J b=bY)(h:PA X b<|s6 Γ<|oK F J):n4 Γ X (.Call (.Name (f) p) b [] pos) (oz F<|.call f J):=by
 refine .val ?_;refine AI (G.gl a) λg1 c a=>?_;rcases G.call f with a|⟨a,a,ps,a,Y,e,g⟩;.refineλa0 s W H Q I q=>AG q λC U s d d E R Z q=>AD (fE Z) λl s1 d Z=>?_;simp_all
 have key:∀W H Q,ek Γ (oz F<|.call f J) W H Q->DC (vE Γ<|F.call f) [] E0 (s6 Γ<|oK F J) W H Q:=λW H Q q=>by have:=Jp<|ek.eq (λU s=>rfl) q;unfold Ft at this;unfold DC vE;simp_all
 cases b with
 |nil=>have b:PE X (.Call (.Name (f) p) [] [] pos) (DC (vE Γ<|F.call f) [] E0 wR):=Va a G.room g1 Y e g .nil CF c;cases J with|nil=>exact b.imp λW H Q q=>have b:=key W H Q q;Dk<|s6.eq (λU s=>rfl) b|_=>rw[uS]at m<;>first|cases m|(intros;simp_all)
 |cons x b=>have b:=j7 m;exact(Jn a G.room g1 Y e g .nil CF h c (ze<|b x<|ao ..) (zu λe a=>b e<|ah _ a).1).imp key
def BiC(Γ:Gm)(X:Cx)(b:pq)(x:Str):Prop:=(∃id,bN x=al (.builtin id)/\t4 X (.builtin id) (Bp Γ<|rb b))\/∃T,bN x=al (.type T)/\t4 X (.type T) (Bp Γ<|rb b)
def So(G:CG Γ F n X ck){b:pq}{x:Str}(h:Gb b=al x):x∈tK/\BiC Γ X b x:=by
 cases b<;>first|cases h|skip
 .exact Ad (by decide) (.inl<|Ac _ Rz<|Ex G.K G.calm (k:=1) rfl)
 .exact Ad (by decide) (.inl<|Ac _ RP<|Ex G.K G.calm (k:=1) rfl)
 .exact Ad (by decide) (.inr<|Ac _ Lk S2)
 .exact Ad (by decide) (.inr<|Ac _ LC Um)
 .exact Ad (by decide) (.inl<|Ac _ IG<|Ex G.K G.calm (k:=2) rfl)
 .exact Ad (by decide) (.inl<|Ac _ K8<|Ex G.K G.calm (k:=2) rfl)
 .exact Ad (by decide) (.inl<|Ac _ K8<|Ex G.K G.calm (k:=3) rfl)
def Sg{J:yK}(G:CG Γ F n X ck)(a:Gb b=al x)(c:ck.gl x=bY)(m:tq ck es (y::J)=bY)(h:PA X (y::J) (s6 Γ<|o5 F es)):n4 Γ X (.Call (.Name x p) (y::J) [] pos) (oz F<|.bi b es):=by
 refine .val ?_;refine AI (G.gl c) λg1 b c=>AB (So G a) λZ f=>?_;have a:=Gp m;have s1:=ze (es:=J) (env:=X.env)<|a y<|ao ..;have d:=(zu (env:=X.env) (pos:=pos) λe g=>a e<|ah _ g).1;rcases f with⟨id,a,Y⟩|⟨T,a,Y⟩;.exact(JX Y g1 (G.bi _ Z) a h c b s1 d).imp λW H Q q=>Jp<|ek.eq (λU s=>rfl) q
 .exact(IX Y g1 (G.bi _ Z) a h c b s1 d).imp λW H Q q=>Jp<|ek.eq (λU s=>rfl) q
def R3(h:Gd b=al (k,t)):(1<=k/\k<=5)/\t∈tK/\bN t=al (.type<|yW k)/\rb b=rA (rJ k):=by
 cases b<;>cases h;.exact Au (by lia) (by decide) Lk rfl
 .exact Au (by lia) (by decide) Tq rfl
 .exact Au (by lia) (by decide) LC rfl
 .exact Au (by lia) (by decide) MH rfl
 .exact Au (by lia) (by decide) NB rfl
def Fg(Γ:Gm)(F:oG)(X:Cx):oW->List Expr->Prop|.nil,[]=>True|.cons e es,x::a=>(rX x=bY/\n4 Γ X x (oz F e))/\Fg Γ F X es a|_,_=>False
theorem Cu:∀{es}{J:yK},Fg Γ F X es J->PA X J (s6 Γ<|o5 F es)|.nil,[],_=>wN.imp λW H Q q=>Dk<|s6.eq (λU s=>rfl) q|.nil,_::_,h=>h.elim|.cons _ _,[],h=>h.elim|.cons e es,x::J,h=>(P0 h.1.1 h.1.2.1<|Cu h.2).imp λW H Q q=>s6.eq (λU s=>rfl) q
def XF(G:CG Γ F n X ck)(c:Gd b=al (k,t))(d:ck.gl "isinstance"=bY)(e:ck.gl t=bY)(h:Fg Γ F X es [a]):n4 Γ X (.Call (.Name "isinstance" p) [a,.Name t Y] [] pos) (oz F<|.bi b es):=by refine .val ?_;refine AI (G.gl d) λg1 d f=>AI (G.gl e) λt1 b e=>AU (R3 c) λhk J c Z=>?_;have g:PE X (.Name t Y) (tC<|.ty<|yW k):=Ya t1 (G.bi _ J) c rfl e b;cases es with|nil=>exact h.elim|cons e es=>cases es with|cons _ _=>exact h.2.elim|nil=>obtain⟨⟨b,c,_⟩,_⟩:=h;refine(JX (SM G.K hk) g1 (G.bi _<|by decide) aF5 (zK c (zK g wN<|ze rfl) (ze b)) f d (ze b) (zu λe a=>by rw[aI.mp a];rfl).1).imp λW H Q q=>AG q λC U s d b E R J q=>AD (fE J) λl s1 a J=>AD (fE a) λx a c a=>AD (fE a) λl2 a e a=>?_;cases e;cases a;rw[Z]at J;exact⟨C,U,s,x,_,E,R,c,λv a c g1 c e f g=>⟨v,rfl,a,_,[x],d,b,g,.cons f .nil,by unfold ou;rw[e];rfl,J,q.trans g1 c⟩⟩
end
section
variable{Γ:Gm}{F:oG}{n:Nat}{X:Cx}{ck:Ck}{W:St}{H:Hp}
def xy(Γ:Gm)(a:yB)(N:yH)(m:ow->oq->oy (List ot)):TA:=λW H Q=>∃C U s l b,RE Γ C H s.length U W/\Rp Γ C H s/\m U s=.ok l b/\∀vs c H',Gr C s H c b H'->s.length<=b.length->ou b.length l=bY->CN Γ a N W c H' l vs->Rp Γ c H' b->Q vs H'
def xy.eq(e:∀U s,m U s=m' U s)(q:xy Γ cells N m W H Q):xy Γ cells N m' W H Q:=AG q λC U s l a E R h q=>⟨C,U,s,l,a,E,R,by rw[<-e];exact h,q⟩
def Xh(h:xy Γ cells N (λU s=>.ok [] s) W H Q):wR W H Q:=by refine AG h λC U s l a E R J q=>?_;cases J;exact q [] C H (Gr.refl _ _ _) (ak _) rfl .nil R
def TR(h:xy Γ cells N (λU s=>(m U s).bind λd s=>(ms U s).bind λl s=>.ok (d::l) s) W H Q):yu (ek Γ m) (xy Γ cells N ms) W H Q:=by refine AG h λC U s l d E R J q=>AD (fE J) λx s1 a J=>AD (fE J) λy b e J=>?_;cases J;exact⟨C,U,s,x,s1,E,R,a,λv f a b a c g h=>⟨f,U,s1,y,d,E.mono b a,h,e,λvs e H2 Y d f Z R2=>q (v::vs) e H2 (b.trans Y a) (au a d) (by unfold ou;rw[zm d x c,f];rfl) (.cons (BR.mono Y c<|.inl g) Z) R2⟩⟩
theorem I7:∀{a}{cs},o8 U a=al cs->cs.length=a.length/\∀(i j:Nat),a[i]?=al j->∃d,cs[i]?=al d/\U[j]?=al (al d)|[],cs,h=>by cases h;exact Ad rfl<|λi j e=>by cases e|k::a,cs,h=>by unfold o8 at h;cases e:U[k]? with|none=>cases e▸h|some o=>cases o with|none=>cases e▸h|some d=>cases b:o8 U a with|none=>rw[e,b]at h;cases h|some l=>rw[e,b]at h;cases h;refine AB (I7 b) λY a=>Ad (by rw[aQ,aQ,Y]) (λi j J=>?_);cases i with|zero=>cases J;exact Ac d rfl e|succ i=>exact a i j J
theorem Ie(E:RE Γ C H s.length U W):∀{b}{cs},o8 U b=al cs->∃cap,ei Γ C H cs cap/\ou s.length cs=bY/\∀(i j:Nat)v,b[i]?=al j->cap[i]?=al v->W[j]?=al (al v)|[],cs,h=>by cases h;exact Ag [] .nil rfl<|λi j v e=>by cases e|k::b,cs,h=>by unfold o8 at h;cases e:U[k]? with|none=>simp_all|some o=>cases o with|none=>simp_all|some d=>cases c:o8 U b with|none=>simp_all|some l=>cases e▸c▸h;refine AH (Ie E c) λcap b Z c=>AQ (E.val k d e) λhb v Y d=>Ag (v::cap) (.cons d b) (by rw[ou,hb,Z];rfl) (λi j w a J=>?_);cases i with|zero=>cases a;exact J▸Y|succ i=>exact c i j w a J
def Tx{id}(L:wY Γ X X.N id h params body scope c P J)(b:J.nm=aT)(h2:PA X xs<|xy Γ X.env.cells X.N ms):PA X (.Lambda params body scope pos::xs) (xy Γ X.env.cells X.N<|λU s=>match o8 U h with|some cs=>(ms U s).bind λl s=>.ok (.sk id cs::l) s|none=>.B):=by refine(zK (Wi L.code L.hd L.bm L.ck L.df) h2).imp λW H Q q=>AG q λC U s l d E R a q=>?_;have a:(match o8 U h with|some cs=>(ms U s).bind λl s=>DV.R.ok (DV.D.sk id cs::l) s|none=>DV.R.B)=.ok l d:=a;cases c:o8 U h with|none=>simp_all|some cs=>
  rw[c]at a;refine AD (fE a) λy a g a=>?_;cases a;refine AH (Ie E c) λcap Z Y j=>?_;have i:=(I7 c).1;have a:J.qual=X.env.qual++"<lambda>":=by rw[L.q];unfold tZ.own;rw[b]
  rw[<-a];refine ZU R.tab L.nd L.tab λf H' e st tb a k=>AB (R.Bn e st tb) λg1 a=>⟨C,U,s,y,d,E.mono g1<|ak _,a,g,λvs d H2 c a e g R2=>q (.ref f::vs) d H2 (g1.trans c<|ak _) a (by unfold ou oB;rw[vj a cs Y,e];rfl) (.cons ?_ g) R2⟩;have d:BR Γ X.env.cells X.N W C H' (.sk id cs) (.ref f):=by refine .inr ⟨id,cs,rfl,f,J,rfl,L.lg,by unfold Az;rw[b];exact L.p▸L.b▸L.s▸k,by rw[i,L.len],L.s▸L.cl,cap,ei.mono g1 cs cap Y Z,λi x v a e=>?_⟩;have hi:i<h.length:=L.len▸(ae.mp a).1;have b:=aj hi;exact Aj (L.s▸L.fr x (aA a)) (h[i]) (L.at_ i _ x b a) (j i _ v b e)
  exact d.mono c<|Y
set_option tactic.hygienic true in def We{f:String}{es:yK}(G:CG Γ F n X ck)(a:ck.gl (f:Str)=bY)(g:∀x,X.fn x=bY)(Y:∀x c,X.env.cells.lookup x=al c->X.env.kindOf x=al .cell\/X.env.kindOf x=al .free)(c:∀y∈e::es,rX y=bY)(h:PA X (e::es) (xy Γ X.env.cells X.N ms)):PE X (.Call (.Name (f) p) (e::es) [] pos) (ek Γ<|λU s=>(ms U s).bind λl s=>(F.call f l s).bind λd b=>if(d.eU&&b.all rL)=bY then .ok d b else .B):=by
 refine AI (G.gl a) λg1 i a=>?_;rcases G.call f with f|⟨a,a,ps,j,Z,k,m⟩;.refineλa1 s W H Q I q=>AG q λC U s d b E R J q=>AD (fE J) λl s1 a J=>?_;rw[f]at J;exact fb J
 .refine(P6 j G.room g1 Z k m g h i (ze<|c e<|ao ..) (zu λy a=>c y<|ah _ a).1).imp λW H Q q=>AG q λC U s d b E R J q=>AD (fE J) λl s1 a J=>AD (fE J) λd2 c g J=>?_;split at J;case isFalse=>exact fb J
  rename_i c;cases J;rw[af]at c;exact⟨C,U,s,l,s1,E,R,a,λvs h a i e f j k=>λH2 a=>AB (k.same a.same) λgs R2=>⟨h,s1,l,d,b,R2,j.tJ a Y f,f,g,λv g h b j k l m=>have f:=a.cells.kp b.w.kp;q v g (hI X.env.cells h) (i.trans (Gr.tJ a b) e) (au e j) k (RV.gK f d v c.1 l) (m.gK f c.2)⟩⟩
def V0{b:yK}(G:CG Γ F n X ck)(c:ck.var i x=bY)(c:∀y∈e::b,rX y=bY)(h:PA X (e::b) (s6 Γ<|o5 F es))(d:PE X (.Name x p) (Cm i)):PE X (.Call (.Name x p) (e::b) [] pos) (ek Γ<|oz F<|.tX i es):=by refine(Vk rfl rfl rfl rfl rfl G.room d h (ze<|c e<|ao ..) (zu λy b=>c y<|ah _ b).1).imp λW H Q q=>AG q λC U s d h E R b q=>have b:=b;AD (fE b) λl s1 p b=>?_;cases c:U[i]? with
 |none=>exact fb<|c▸b|some o=>cases o with|none=>exact fb<|c▸b|some v0=>refine AQ (E.val i v0 c) λhb v r t=>?_;cases v0 with|fn f=>
    rw[c]at b;have b:F.call f l s1=.ok d h:=b;refine AE t λa e i=>?_;subst i;refine AB (G.fa f a e) λh1 h2=>?_;rcases G.call f with hb|⟨e,e,ps,i,e,g,v⟩;.rw[hb]at b;exact fb b
    .cases h1▸e;exact⟨a,r,.inr h2,C,U,s,l,s1,E,R,p,λvs k u e g m n o=>⟨.inr h2,_,_,u0.ofFn i v,trivial,k,s1,l,d,h,o,n,m,b,q.trans e g⟩⟩|sk id cs=>rw[c]at b;refine AM t λf a J Z i Zz=>AU Zz λa3 a0 hcl v=>?_;subst i;have fin:∀H',q9 H' f J a Z->Cd X.K H' f:=λH' h'=>h'.fn;exact⟨f,r,fin H a0,C,U,s,l,s1,E,R,p,λvs k u e g m n o=>have Y:=a0.kp e.w.kp;⟨fin u Y,_,_,G.cl id J f a Z a3 hcl,Y,k,s1,cs,l,d,h,o,n,ei.mono e cs a hb v,m,vj g cs hb,b,q.trans e g⟩⟩|_=>exact fb<|c▸b
end
section
variable{Γ:Gm}{F:oG}{n:Nat}{X:Cx}{ck:Ck}{W:St}{H:Hp}{Q:VK}
def Uz(K:ac)(H:Hp)(v:V)(b:List V)(z:Bool):Prop:=(∃a,v=.ref a/\(qn K H a b\/(sy K H a b/\(z=bY->H a=al (.tp b)))))\/∃x,v=.str ⟨x.toArray⟩/\x.length<=oE/\b=wb x
def yy(Γ:Gm)(m:ow->oq->oy (List ot)):TE:=λW H Q=>∃C U s l a,RE Γ C H s.length U W/\Rp Γ C H s/\m U s=.ok l a/\∀v c b H',Gr C s H b a H'->s.length<=a.length->ou a.length l=bY->Uz Γ.K H' v c (oI l)->ei Γ b H' l c->Rp Γ b H' a->Q v H'
def Pf(h:yy Γ m W H Q):vW Γ m W H Q:=AG h λC U s l a E R Z q=>⟨C,U,s,l,a,E,R,Z,λp a b H' g Y c J d d r d=>q (.ref p) a b H' g Y c (.inl<|Ac p rfl<|.inl<|qn.of J) r d⟩
theorem Qt:∀x:List Nat,ei Γ C H (x.map λc=>.str [c]) (wb x)|[]=>.nil|c::x=>.cons (RV.vc<|by unfold oE;simp) (Qt x)
theorem Ou:∀x:List Nat,ou k (x.map λc=>.str [c])=bY|[]=>rfl|c::x=>by rw[aS];rw[ou,Ou x];rfl
def Ub(h:yy Γ (λU s=>(m U s).bind λd s=>DV.xK d s) W H Q):ek Γ m W H Q:=by refine AG h λC U s l j E R J q=>AD (fE J) λd s1 a J=>⟨C,U,s,d,s1,E,R,a,λv c f g h b1 e b=>?_⟩;cases d with
 |tp i=>cases J;obtain⟨a,Uu,⟨rfl,i⟩,Z,Y⟩:=e.DN;exact q _ Uu c f g h b1 (.inl<|Ac a rfl<|.inr<|Ad Z i) Y b|str x=>cases J;exact q v (wb x) c f g h (Ou x) (.inr<|Ag x e.qm e.y2 rfl) (Qt x) b|ref k=>have J:(match s1[k]? with|some<|.J l=>DV.R.ok l s1|some<|.ro l=>.ok l s1|_=>.B)=.ok l j:=J;rw[e.hW];cases e:s1[k]? with|none=>exact fb<|e▸J|some a=>rw[e]at J;cases a with|J i=>cases J;exact AE (b.addr e) λUu Z Y=>have:=b.wf k _ e;q _ Uu c f g h this (.inl<|Ac _ rfl<|.inl<|qn.of Z) Y b|ro i=>cases J;exact AE (b.obj k _ e) λUu Z Y=>have:=b.wf k _ e;q _ Uu c f g h this (.inl<|Ac _ rfl<|.inl Z.1) Y b|_=>exact fb J
 |_=>exact fb J
def yy.eq(e:∀U s,m U s=m' U s)(q:yy Γ m W H Q):yy Γ m' W H Q:=by have:=funext λU=>funext<|e U;simp_all
def WV(G:CG Γ F n X ck)(c:ck.gl "tuple"=bY)(b:rX a=bY)(h:PE X a<|yy Γ m):PE X (.Call (.Name "tuple" p) [a] [] pos) (ek Γ<|λU s=>(m U s).bind λl s=>rh .tuple l s):=by
 refine AI (G.gl c) λg1 Z a=>(IX ((aO5 G.K).or<|aO8 G.calm) g1 (G.bi _<|by decide) MH (zK h wN<|ze b) a Z (ze b) rfl).imp λW H Q q=>AG q λC U s d a E R a q=>AD (fE a) λl s1 b a=>?_;cases a;refine⟨C,U,s,l,_,E,R,b,λv g h Y g1 c d b e f=>?_⟩;rcases b with⟨a,rfl,b|b⟩|⟨x,rfl,i,rfl⟩;.exact .inl<|Af a g rfl<|.inl<|Ad b<|λp J=>(q.trans g1 c).tup f e d J
 .exact .inl<|Af a g rfl<|.inr<|Ad b.1<|q _ h Y g1 c (d) (RV.BY b.1 b.2 e) f
 .exact .inr<|Ag x rfl i<|λp J=>(q.trans g1 c).tup f e d J
def Wn(G:CG Γ F n X ck)(c:ck.gl "list"=bY)(b:rX a=bY)(h:PE X a<|yy Γ m):PE X (.Call (.Name "list" p) [a] [] pos) (ek Γ<|λU s=>(m U s).bind λl s=>rh .list l s):=by
 refine AI (G.gl c) λg1 Y Z=>(IX ((aZ7 G.K).or<|aW7 G.calm) g1 (G.bi _<|by decide) NB (zK h wN<|ze b) Z Y (ze b) rfl).imp λW H Q q=>AG q λC U s d a E R a q=>AD (fE a) λl s1 b a=>?_;obtain⟨rfl,rfl⟩:=qI a;refine⟨C,U,s,l,_,E,R,b,λv g a a g1 c d b e f=>?_⟩;rcases b with⟨a,rfl,b⟩|⟨x,rfl,h,rfl⟩;.exact .inl (Ah a g rfl (b.imp id (·.1))<|λp J=>(q.trans g1 c).alloc f e d J)
 .exact .inr<|Ag x rfl h<|λp J=>(q.trans g1 c).alloc f e d J
def Tu(G:CG Γ F n X ck)(c:Kt k=al x)(J:ck.gl x=bY)(b:rX a=bY)(h:PE X a<|yy Γ m):PE X (.Call (.Name x p) [a] [] pos) (ek Γ<|λU s=>(m U s).bind λl s=>rh k l s):=by
 cases k<;>cases c;.exact WV G J b h
 .exact Wn G J b h
def tD(Γ:Gm)(X:Cx)(x:Str)(k:rf):Prop:=∃id r,bN x=al (.builtin id)/\x∈tK/\t4 X (.builtin id) r/\∀C H s l a p d b Q,Rp Γ C H s->ei Γ C H l a->H p=al (.J a)->rh k l s=.ok d b->vv Γ C s H d b Q->r [.ref p] H Q
theorem PQ:∀(l:List Int)a,(l.foldl min a=a\/l.foldl min a∈l)/\l.foldl min a<=a/\∀y∈l,l.foldl min a<=y|[],a=>⟨.inl rfl,cC _,λy c=>by grind⟩|b::l,a=>by refine AI (PQ l<|min a b) λJ a a=>?_;rw[iK];refine⟨?_,by lia,λy c=>?_⟩;all_goals grind
def Qg(h:pJ l=al m):m∈l/\∀y∈l,m<=y:=by cases l with|nil=>cases h|cons a l=>cases h;refine AI (PQ l a) λUu J a=>?_;simp_all
def XU(G:CG Γ F n X ck)(b:Hn k=al x):tD Γ X x k:=by cases k<;>cases b;.refine⟨_,_,IG,by decide,Wy G.calm G.K,λC H s l b p d b Q R r f h q=>?_⟩;unfold rh at h;dsimp only at h;cases e:pA l with|none=>exact fb<|e▸h|some c=>rw[e]at h;have h:(match pJ c with|some m=>DV.R.ok (DV.D.int m) s|none=>.B)=.ok d b:=h;cases b:pJ c with|none=>exact fb<|b▸h|some d=>cases b▸h;cases qg e;exact Am p c rfl (qn.of<|r.ints▸f) (λ(z)=>by cases z▸b) (λm h J=>AB (Qg b) λa b=>have:=mB (J d a) (b m h);this▸q.here R rfl RV.nC)
def SY(G:CG Γ F n X ck)(c:Hn k=al x)(d:ck.gl x=bY)(b:rX a=bY)(h:PE X a<|vW Γ m):PE X (.Call (.Name x p) [a] [] pos) (ek Γ<|λU s=>(m U s).bind λl s=>rh k l s):=AI (G.gl d) λg1 Z a=>AS (XU G c) λid r c d e f=>(JX e g1 (G.bi _ d) c (zK h wN<|ze b) a Z (ze b) rfl).imp λW H Q q=>AG q λC U s d a E R J q=>AD (fE J) λl s1 b J=>⟨C,U,s,l,_,E,R,b,λp b c Y g1 e g g h h h i=>f c Y s1 l b p d a Q i h g J<|q.trans g1 e⟩
def Se(G:CG Γ F n X ck)(b:ck.gl "min"=bY)(e:rX a=bY)(h:PE X a<|vW Γ ml)(f:PE X de<|ek Γ md):PE X (.Call (.Name "min" p) [a] [⟨al "default",de,kp⟩] pos) (ek Γ<|λU s=>(ml U s).bind λl s=>(md U s).bind λd s=>DV.xE .min l d s):=by refine AI (G.gl b) λg1 c a=>(Y3 rfl G.calm g1 (G.bi _<|by decide) h f<|ze e).imp λW H Q q=>AG q λC U s d i E R J q=>AD (fE J) λl s1 e1 J=>AD (fE J) λd0 f a J=>⟨C,U,s,l,s1,E,R,e1,λp b b c g1 g b1 e c h j c=>⟨b,U,s1,d0,f,E.mono g1 g,c,a,λv b H2 c k n o R2=>?_⟩⟩;have r:=c.fr p _ e (by nofun) (h);unfold DV.xE at J;cases e:pA l with|none=>exact fb<|e▸J|some b=>
  rw[e]at J;have h:(match pJ b with|some m=>DV.R.ok (DV.D.int m) f|none=>DV.R.ok d0 f)=.ok d i:=J;cases qg e;have d:=q.trans (g1.trans c g) (au g k);refine⟨p,b,rfl,qn.of<|j.ints▸r,λz=>?_,λm Z Y=>?_⟩;.subst z;cases h;exact d.here R2 n o
  .clear a;cases a:pJ b with
   |none=>cases b with|nil=>cases Z|cons _ _=>cases a
   |some b=>cases a▸h;exact AB (Qg a) λx y=>have:=mB (Y b x) (y m Z);this▸d.here R2 rfl RV.nC
def bu4(R:Rp Γ C H s)(g:Gr C s H C' s' H')(a:r<s.length)(e:s'[r]?=al (.J l)):Fp Γ.K "list" (.ref<|C r) H:=by obtain⟨h,J⟩:∃h,s[r]?=al h:=⟨s[r],aj a⟩;have Y:=g.mu r h _ J e rfl;have a:=R.obj r h J;cases h with|J b=>exact AE a λUu Z _=>.inl ⟨rfl,Uu,qn.of Z⟩|ro _=>cases Y|_=>have:=g.kd r _ _ J e;cases this
def D7(Γ:Gm)(m:rg):V->List V->Hp->VK->Prop:=λx vs H Q=>∃C s a l d b,Rp Γ C H s/\RV Γ C H a x/\ei Γ C H l vs/\a.eu s.length=bY/\ou s.length l=bY/\rE m a l s=.ok d b/\vv Γ C s H d b Q
def TX:oE<a9:=by rw[fU];decide
def Pp(Y:D6 m=al (x,k))(h:rE m a l s=.ok d s'):∃r l0,a=.ref r/\s[r]?=al (.J l0):=by
 have c:∀{r:Nat}{f:List ot->oy ot},(match s[r]? with|some<|.J l=>f l|_=>.B)=.ok d s'->∃l0,s[r]?=al (.J l0):=λ{r f}h=>by cases e:s[r]? with|none=>exact fb<|e▸h|some b=>cases b with|J l0=>exact Ae l0 rfl|_=>exact fb<|e▸h
 cases a with
 |ref r=>have J:∀{f:List ot->oy ot},(match s[r]? with|some<|.J l=>f l|_=>.B)=.ok d s'->∃a l0,DV.D.ref r=.ref a/\s[a]?=al (.J l0):=λh=>AF (c h) λl0 e=>Af _ l0 rfl e;cases m with
  |append=>match l with|[d]=>exact J h|[]=>exact fb h|_::_::_=>exact fb h
  |_=>exact fb h
 |_=>cases m<;>exact fb h
set_option tactic.hygienic true in def Vj:Fi X "list.append"<|D7 Γ .append:=by refineλUu sh W H x vs v b Q I c f h=>AJ h λC s a Zz=>AK Zz λl d a R a d Zz=>AU Zz λba g J q=>?_;obtain⟨r,e,rfl,e⟩:=Pp rfl J;cases l with|nil=>exact fb J|cons y t=>cases t with|cons _ _=>exact fb J|nil=>
   simp only[rE,e]at J;split at J;case isFalse=>exact fb J
   rename_i h;cases J;obtain⟨z,rfl,rz⟩:=d.one;refine AE (R.addr e) λxs d Z=>?_;exact QI Uu sh W H x [z] v b Q I c f ⟨C r,xs,z,a.hW,rfl,d,by rw[Z.length];have:=TX;lia,q.put R e (Z.append<|.cons rz .nil) (jm (have:=R.wf r _ e;this) g) rfl RV.w7⟩
structure J7(Γ:Gm)(X:Cx)(m:rg)(x:Str):Prop where ex:∃id,PySem.Slot "list" x id/\nN (.builtin id)=pure (.type "method_descriptor")/\Fi X id (D7 Γ m)
def Uh(a:X.K=Γ.K)(J:eX (oM+1) X.A)(h:D6 m=al (x,k)):J7 Γ X m x:=by cases m<;>cases h;.exact⟨_,iU,PySem.F.type_list_append,Vj⟩
def VD{b:yK}(G:CG Γ F n X ck)(Z:D6 m=al (x,b.length))(e:En ob=bY)(w:(ap.endLine==cp.line)=bY)(z:PE X ob<|ek Γ<|oz F o)(d:tq ck es b=bY)(h:Fg Γ F X es b):n4 Γ X (.Call (.Attribute ob x ap) b [] cp) (oz F<|.me m o es):=by
 refine .val ?_;refine AH ((Uh (Γ:=Γ) (X:=X) G.K (G.room.mono G.deep) Z).ex) λid c A B=>?_;have p:=Gp d;have key:∀W H Q,ek Γ (oz F<|.me m o es) W H Q->Hi Γ.K "list" (D7 Γ m) (ek Γ<|oz F o) (s6 Γ<|o5 F es) W H Q:=λW H Q q=>by
  refine AG q λC U s d t E R J q=>AD (fE J) λa s1 b J=>AD (fE J) λl h y J=>AB (YO J) λhq J=>⟨C,U,s,a,s1,E,R,b,λv i u j a f g n=>?_⟩;obtain⟨r,k,rfl,s⟩:=Pp Z J;rw[g.hW];have Y:s6 Γ (o5 F es) W u λb H2=>D7 Γ m (.ref<|i r) b H2 Q:=by refine⟨i,U,s1,l,h,E.mono j a,n,y,λvs k H2 b i u v R2=>⟨k,h,.ref r,l,d,t,R2,?_,v,zm i _ f,u,J,q.trans (j.trans b a) (au a i)⟩⟩;have:=RV.mono b _ _ f g;rw[g.hW]at this;simp_all
  refine Ad ?_ Y;have b:r<s1.length:=by unfold oB at f;lia
  obtain⟨a,d⟩:∃a,s1[r]?=al a:=⟨s1[r],aj b⟩;have f:=n.obj r a d;cases a with|J k=>obtain⟨b,h1,_⟩:=f;exact .inl<|Al rfl b<|qn.of h1|ro k=>obtain⟨b,h1,_⟩:=f;exact .inl<|Al rfl b h1.1|_=>exact iN hq<|Rw d s<|λh=>by cases h
 cases b with
 |nil=>have a:PE X (.Call (.Attribute ob x ap) [] [] cp) (LX X.K "list" (D7 Γ m) (ek Γ<|oz F o)):=Sh ie c A B z (G6 e) w;rw[G.K]at a;refine a.imp λW H Q q=>?_;cases es with|cons _ _=>exact h.elim|nil=>exact AG (key W H Q q) λC U s d t E R J k=>⟨C,U,s,d,t,E,R,J,λv i u j a f g n=>AB (k v i u j a f g n) λh1 h2=>Ad h1<|Dk<|s6.eq (λU s=>rfl) h2⟩
 |cons y a=>
  refine(TL G.K ie c A B z (Cu h) (G6 e) ?_ w (ze<|p y<|ao ..) (zu λe b=>p e<|ah _ b).1).imp key;rw[(zu p).2];have:(y::a).length<=1:=by unfold D6 at Z;lia
  simp only[dr,fe,nT];show(bY&&decide ((y::a).length+0+0<30))=bY;lia
end
section
variable{Γ:Gm}{F:oG}{n:Nat}{X:Cx}{ck:Ck}{W:St}{H:Hp}{Q:VK}
def Bd.imp(h:Bd X e t)(i:∀W H Q,t' W H Q->t W H Q):Bd X e t':=λJ s W H Q I q=>h J s W H Q I<|i W H Q q
structure tE(Γ:Gm)(X:Cx)(m:ow->oq->oy (List ot))(E:Expr):Prop where ex:∃elt tgt iter ifs scope pos N' caps wi g tc te,E=.ListComp elt [⟨tgt,iter,ifs,0⟩] scope pos/\qp N' caps scope X.N X.env.scope=bY/\PI X tgt iter wi/\(∀(Cc:Addr)(cells:yB)(s:ag)(H:Hp)(ex:List Addr),PG (zZ X N' scope Cc cells s H ex) tgt g/\Bd (zZ X N' scope Cc cells s H ex) ifs tc/\PE (zZ X N' scope Cc cells s H ex) elt te)/\(∀x,d5 iter X.env x=pure x)/\∀W H Q,vW Γ m W H Q->vC caps wi g tc te W H Q
def tE.pe(h:tE Γ X m E)(a:X.calm=bY):PE X E<|vW Γ m:=by obtain⟨Z,b,iter,b,scope,pos,b,J,c,g,c,c,rfl,c,h2,d,e,Y⟩:=h.ex;exact(Mf b J c h2 a d e).imp Y
def Xd{mI}(G:CG Γ F n X ck)(Z:De ck tg J iter h scope=bY)(hi:PI X J iter<|u9 Γ mI)(b:∀Cc a s H ex,PT (zZ X (wk ck J h scope).N scope Cc a s H ex) i<|tM Γ mc)(c:∀Cc a s H ex,PE (zZ X (wk ck J h scope).N scope Cc a s H ex) Uu<|ek Γ Y):tE Γ X (λU s=>(mI U s).bind λq s0=>if q.its.length<=oE then re (λs=>pf s0 s q.src) (λd U s=>match oV U tg d with|some U=>oJ (mc U s) λk s=>if k then(Y U s).bind λv s=>.ok (al v,U) s else .ok (aT,U) s|none=>.B) q.its (pR U h) s0 else .B) (.ListComp Uu [⟨J,iter,[i],0⟩] scope pos):=AI (G.comp Z) λc1 d e=>⟨Uu,J,iter,[i],scope,pos,_,h,_,_,_,_,rfl,c1,hi,λCc a s H ex=>⟨(e Cc a s H ex).2,XZ<|b Cc a s H ex,c Cc a s H ex⟩,Gn d,λW H Q q=>MJ q⟩
def UN{mI}(G:CG Γ F n X ck)(Y:De ck tg J iter h scope=bY)(hi:PI X J iter<|u9 Γ mI)(b:∀Cc a s H ex,PE (zZ X (wk ck J h scope).N scope Cc a s H ex) Uu<|ek Γ Z):tE Γ X (λU s=>(mI U s).bind λq s0=>if q.its.length<=oE then re (λs=>pf s0 s q.src) (λd U s=>match oV U tg d with|some U=>(Z U s).bind λv s=>.ok (al v,U) s|none=>.B) q.its (pR U h) s0 else .B) (.ListComp Uu [⟨J,iter,[],0⟩] scope pos):=by
 refine AI (G.comp Y) λc1 c d=>⟨Uu,J,iter,[],scope,pos,_,h,_,_,tM Γ<|λU s=>.ok (.T bY) s,_,rfl,c1,hi,λCc a s H ex=>⟨(d Cc a s H ex).2,YY.imp λW H Q q=>?_,b Cc a s H ex⟩,Gn c,λW H Q q=>MJ<|vW.eq (λU s=>?_) q⟩;.refine AG q λC U s b a E R Y q=>?_;cases Y;exact q C H (Gr.refl _ _ _) (ak _) R
 .congr 1
def Xz(G:CG Γ F n X ck)(h:PE X E<|ek Γ<|oz F e):PI X tg E<|u9 Γ<|pQ F<|.seq e:=by refine(PI.or (YU G.K h) (PI.or (Vn G.K h) (Sa h))).imp λW H R q=>Ud<|u9.eq (λU s=>rfl) q
def VH(G:CG Γ F n X ck)(J:ck.gl "range"=bY)(b:rX l=bY)(h:PE X l<|ek Γ<|oz F a):PI X tg (.Call (.Name "range" p) [l] [] pos) (u9 Γ<|pQ F<|.rg a):=(WQ (G.gl J).1 (G.bi _<|by decide) (zK h wN<|ze b) (ze b)).imp λW H R q=>Xi<|u9.eq (λU s=>rfl) q
def U6{Dc:Nat}(G:CG Γ F n X ck)(Y:ck.gl "range"=bY)(c:rX l=bY)(J:rX r=bY)(h:PE X l<|ek Γ<|oz F a)(d:PE X r<|ek Γ<|oz F b):PI X tg (.Call (.Name "range" p) [l,r,.Constant (.int 2) Dc cp] [] pos) (u9 Γ<|pQ F<|.w3 a b 2):=(W4 (G.gl Y).1 (G.bi _<|by decide) (zK h (zK d (zK N4 wN rfl) (ze J)) (ze c)) (ze c) (by rw[ze J];rfl)).imp λW H R q=>YE<|u9.eq (λU s=>rfl) q
def Ta(h:ek Γ (λU s=>pC (.dc []) s) W H Q):N9 W H Q:=by refine AG h λC U s d a E R Y q=>?_;obtain⟨rfl,rfl⟩:=qI Y;exactλp J=>AB (R.new (o:=.dc []) J rfl λa H' g e=>⟨[],e,rfl⟩) λg a=>q (.ref p) _ _ g (by simp) (by unfold oB;simp) (by unfold RV;simp) a
set_option tactic.hygienic true in def Tn(h:ek Γ (λU s=>(mk U<|s++[.dc []]).bind λkd s1=>(mv U s1).bind λY b=>if kd.key=bY/\b[s.length]?=al (.dc [])then .ok (.ref s.length) (b.set s.length<|.dc [(kd,Y)])else .B) W H Q):Lv [(ek Γ mk,ek Γ mv)] W H Q:=by
 refine AG h λC U s d a E R a q=>AD (fE a) λkd s1 c a=>AD (fE a) λY b h a=>?_;split at a;case isFalse=>exact fb a
 rename_i d;cases a;refineλp a=>AB (R.new (o:=.dc []) a rfl λa H' g e=>⟨[],e,rfl⟩) λg0 e=>?_;have a:s.length<=(s++[DV.O.dc []]).length:=by simp
 refine⟨_,U,s++[DV.O.dc []],kd,s1,E.mono g0 a,e,c,λe i c f c g m j=>⟨i,U,s1,Y,b,(E.mono g0 a).mono f c,j,h,λi l H2 h Z j n R2=>?_⟩⟩;have J:l s.length=p:=by rw[h.w.map s.length<|aB (by simp) c,f.w.map s.length<|by simp];simp
 refine AF (GB d.1) λk l=>have o:=GS l<|RV.mono h kd e g m;AE (R2.obj s.length _ d.2) λkvs m e=>?_;have e:=e;subst e;rw[J]at m;refine⟨m,[(k,i)],by rw[o];rfl,by simp,?_⟩;have e:(DV.O.dc [(kd,Y)]).eu b.length=true:=by unfold oC;simp only[aS,fA,ou,fS,af];exact⟨zm Z _ g,j⟩
 refine AB (R2.set d.2 rfl e λH' g e=>⟨_,e,k,i,[],rfl,l,RV.g5 g _ _ j n,rfl⟩) λg3 d=>?_;rw[J]at g3 d;have L:=au a<|au c Z;have lt:s.length<b.length:=aB (by simp) (au c Z);exact q (.ref p) _ _ (((g0.trans f a).trans h<|au a c).trans g3 L) (by simp_all) (by unfold oB;simp_all) (by unfold RV;rw[J]) d
def Yb(h:ek Γ (λU s=>pC (.su []) s) W H Q):Nv W H Q:=by refine AG h λC U s d a E R Y q=>?_;obtain⟨rfl,rfl⟩:=qI Y;exactλp J=>AB (R.new (o:=.su []) J rfl λa H' g e=>⟨[],e,rfl⟩) λg a=>q (.ref p) _ _ g (by simp) (by unfold oB;simp) (by unfold RV;simp) a
section
variable{c:String}{kvs:List<|List Nat×List Nat}{a:Addr}
end
end
section
variable{Γ:Gm}{F:oG}{n:Nat}{X:Cx}{ck:Ck}
end
section
variable{Γ:Gm}{F:oG}{n:Nat}{X:Cx}{ck:Ck}
def TJv(Γ:Gm)(m:ow->oq->oy (List ot))(out:List Nat):TE:=λW H Q=>∃C U s l a ws,RE Γ C H s.length U W/\Rp Γ C H s/\m U s=.ok l a/\p8 l=al ws/\(out++ws.flatten).length<=oE/\∀b H',Gr C s H b a H'->s.length<=a.length->Rp Γ b H' a->Q (.str ⟨(out++ws.flatten).toArray⟩) H'
def PF(Γ:Gm)(X:Cx)(vs:yK)(m:ow->oq->oy (List ot)):Prop:=∀out a s(W:St)H Q,Inv X a W H s->TJv Γ m out W H Q->wpAny (model X.prog X.w) X.A (joinParts ⟨out.toArray⟩<|evalEach vs X.env) (EP X a W Q) X.xe s
def PF.eq(e:∀U s,m U s=m' U s)(h:PF Γ X vs m):PF Γ X vs m':=λout J s W H Q I q=>AJ q λC U s0 Zz=>AK Zz λl a ws E R b q=>h out J s W H Q I ⟨C,U,s0,l,a,ws,E,R,by rw[e];exact b,q⟩
def JE(w:List Nat):(⟨w.toArray⟩:Str).length=w.length:=by simp[Str.length]
def Sx:PF Γ X []<|λ_ s=>.ok [] s:=λout h s W H Q I q=>by refine AJ q λC U s0 Zz=>AK Zz λl a ws E R a Zz=>AI Zz λhw J q=>?_;cases a;cases hw;rw[List.flatten_nil,aZ]at q J;exact joinParts_nilE<|joinParts_nil ⟨.str ⟨out.toArray⟩,H,I.tok _,⟨_,rfl⟩,q C H (Gr.refl _ _ _) (ak _) R⟩<|by rw[JE];exact au J qH
def Ws(h:p8 (d::l)=al ws):∃w J,d=.str w/\p8 l=al J/\ws=w::J:=by cases d with
 |str w=>have h:(p8 l).map (w::·)=al ws:=h;cases e:p8 l with|none=>simp_all|some J=>simp_all
 |_=>cases h
def Mu(h2:PF Γ X vs m2)(a:∀(h:yA)(s:ag)(W:St)(H:Hp)(w:List Nat)(Q:VK),w.length<=oE->Inv X h W H s->ek Γ m1 W H (λx J=>x=.str ⟨w.toArray⟩/\Q x J)->wpAny (model X.prog X.w) X.A (eval v X.env) (λu s1=>∃t J,u=.str ⟨w.toArray⟩ t/\Inv X h W J s1/\Q (.str ⟨w.toArray⟩) J) X.xe s):PF Γ X (v::vs) (λU s=>(m1 U s).bind λd s=>(m2 U s).bind λl s=>.ok (d::l) s):=λout h s W H Q I q=>by
 refine AJ q λC U s0 Zz=>AK Zz λl f ws E R Y Zz=>AI Zz λhw e q=>AD (fE Y) λd s1 b Y=>AD (fE Y) λl2 c g Y=>?_;cases Y;obtain⟨w,i,rfl,j,rfl⟩:=Ws hw;rw[gN,<-bf]at e q;have c:w.length<=oE:=by grind
 refine joinParts_consE<|joinParts_cons<|bD (a h s W H w (λx J=>∃a,Gr C s0 H a s1 J/\s0.length<=s1.length/\Rp Γ a J s1) c I ⟨C,U,s0,.str w,s1,E,R,b,λv a J c b d k d=>⟨k.qm,a,c,b,d⟩⟩) (λu k l=>?_) λ_ _ x=>x;obtain⟨t,J,rfl,m,a,c,b,d⟩:=l;show(_++_:Str).length<=a9/\_;rw[MG];refine Ad (by rw[JE];exact au (by grind) qH) (h2 (out++w) h k W J Q m ⟨a,U,s1,l2,f,i,E.mono c b,d,g,j,e,λa H2 d l2 R2=>q a H2 (c.trans d b) (au b l2) R2⟩)
def ND(a:PE X v<|ek Γ Uu)h s(W:St)H(w:List Nat)(Q:VK)(I:Inv X h W H s)(q:ek Γ Uu W H<|λx J=>x=.str ⟨w.toArray⟩/\Q x J):wpAny (model X.prog X.w) X.A (eval v X.env) (λu s1=>∃t J,u=.str ⟨w.toArray⟩ t/\Inv X h W J s1/\Q (.str ⟨w.toArray⟩) J) X.xe s:=bD (a h s W H _ I q) (λu s1 a=>by refine AS a λx J Y a ex Z=>?_;subst ex;obtain⟨t,rfl⟩:=(a);exact Ah t J rfl Y Z) λ_ _ x=>x
def R7(a:PE X v<|ek Γ Uu)(h2:PF Γ X vs J):PF Γ X (.FormattedValue v (-1) aT p::vs) (λU s=>(Uu U s).bind λd s=>(J U s).bind λl s=>.ok (d::l) s):=Mu h2 λh s W H w Q b I q=>FormattedValue_plain<|bD (ND a h s W H w Q I q) (λu s1 a=>by obtain⟨t,Y,rfl,Z,c⟩:=a;exact formatField_str (λt' tk=>Ah t' Y rfl (Z.tok tk) c) (by rw[JE];exact au b qH)) λ_ _ x=>x
def S9(a:PE X v<|ek Γ J)(Y:PF Γ X vs Uu):PF Γ X (v::vs) (λU s=>(J U s).bind λd s=>(Uu U s).bind λl s=>.ok (d::l) s):=Mu Y λh s W H w Q b I q=>ND a h s W H w Q I q
end
section
variable{Γ:Gm}{F:oG}{n:Nat}{X:Cx}{ck:Ck}{W:St}{H:Hp}{Q:VK}
def Qi:z3 Em:=λ{a b k}c d=>by cases a with
 |str x=>cases c;cases b with|str y=>have h:=az d;lia|_=>cases d
 |_=>cases c
set_option tactic.hygienic true in theorem RVD.lk:∀{l}{a},RVD Em Γ C H l a->oO (.str f) l=al d->∃v,a.lookup ⟨f.toArray⟩=al v/\RV Γ C H d v/\((⟨f.toArray⟩,v))∈a/\d∈l.map (·.2)
 |[],_,_,e=>by cases e|(a,e0)::l,_,h,e=>by
  obtain⟨b,a,r,rfl,a,c,J⟩:=h;unfold oO at e;split at e;.rename_i ha;subst ha;cases a;simp_all
  .rename_i ha;refine Aa (RVD.lk J e) λv Y c d e=>Ap v ?_ c (ah _ d) (by simp_all);rw[bo,(beq_eq_false_iff_ne.mpr λz=>ha<|Qi a<|by rw[<-z];rfl)];exact Y
theorem RVD.D2(c:RV Γ C H d v):∀{l}{a},RVD Em Γ C H l a->RVD Em Γ C H (pp (.str f) d l) (uW ⟨f.toArray⟩ v a)
 |[],_,h=>by cases(h);exact⟨_,v,[],rfl,rfl,c,rfl⟩|(a,b)::l,_,h=>by
  obtain⟨b,d,r,rfl,e,i,J⟩:=h;rw[show uW ⟨f.toArray⟩ v ((b,d)::r)=(if b=⟨f.toArray⟩then(b,v)::r else(b,d)::uW ⟨f.toArray⟩ v r)from rfl];unfold pp;by_cases g:a=.str f;.subst g;cases e;exact ef rfl▸ef rfl▸⟨_,v,r,rfl,rfl,c,J⟩
  .rw[gc g,gc λz=>g<|Qi e<|by rw[z];rfl];exact⟨b,d,_,rfl,e,i,RVD.D2 c J⟩
set_option tactic.hygienic true in theorem putA_mem:∀{l},p∈pp k v l->p∈l\/(p.1=k/\p.2=v)
 |[],h=>by simp[pp]at h;exact .inr<|h▸(Ad rfl rfl)|(a,e)::l,h=>by
  unfold pp at h;split at h
  .rename_i ha;rcases aE.mp h with z|z;.exact z▸.inr (Ad ha rfl)
   .exact .inl<|ah _ z
  .rcases aE.mp h with z|z;.exact z▸.inl (ao ..)
   .exact(putA_mem z).elim (λz=>.inl<|ah _ z) λz=>.inr z
def Zx(h:(DV.O.ins c l).eu n=bY)(b:d.eu n=bY):(DV.O.ins c<|pp (.str f) d l).eu n=true:=by
 unfold oC at h⊢;rw[af]at h⊢;refine⟨uk.mpr λx a=>?_,uk.mpr λx a=>?_⟩
 .obtain⟨p,J,rfl⟩:=ar.mp a;rcases putA_mem J with z|⟨z,_⟩;.exact(uk.mp h.1) _<|bB z
  .rw[z];rfl
 .obtain⟨p,J,rfl⟩:=ar.mp a;rcases putA_mem J with z|⟨_,z⟩;.exact(uk.mp h.2) _<|bB z
  .exact z▸b
set_option tactic.hygienic true in def VR(h:rP f x s=.ok d s'):∃r c fs,x=.ref r/\s[r]?=al (.ins c fs)/\oO (.str f) fs=al d/\s'=s:=by
 unfold rP at h;split at h
 .split at h
  .rename_i c fs e;split at h;.rename_i e2;cases h;exact Ak _ c fs rfl e e2 rfl
   .exact fb h
  .exact fb h
 .exact fb h
def Vl(G:CG Γ F n X ck)(a:En o=bY)(h:PE X o<|ek Γ m):PE X (.Attribute o ⟨f.toArray⟩ pos) (ek Γ<|λU s=>(m U s).bind λx s=>rP f x s):=by refine(Ts h<|G6 a).imp λW H Q q=>AG q λC U s d a E R J q=>AD (fE J) λx s1 a J=>?_;obtain⟨r,c,fs,rfl,c,b,rfl⟩:=VR J;refine⟨C,U,s,.ref r,_,E,R,a,λv d a e f a g a=>?_⟩;obtain⟨Cc,h,i,⟨j,hcl⟩,j,Y,k⟩:=a.obj r _ c;refine Aa (k.lk b) λv' Z k l m=>?_;have b:=a.wf _ _ c;unfold oC at b;rw[af]at b;exact G.K▸⟨d r,Cc,h,i,v',g.hW,Y,hcl,j _ l,Z,(q.trans e f).here a (uk.mp b.2 _ m) k⟩
set_option tactic.hygienic true in def Wl(h:rQ ok f x v s=.ok u s'):∃r c fs,x=.ref r/\s[r]?=al (.ins c fs)/\ok c=bY/\fs.length<1000/\s'=s.set r (.ins c<|pp (.str f) v fs):=by
 unfold rQ at h;split at h
 .split at h
  .rename_i c fs e;split at h;.rename_i hc;rw[af]at hc;cases h;exact Av _ c fs rfl e hc.1 (dO hc.2) rfl
   .exact fb h
  .exact fb h
 .exact fb h
def UQ(G:CG Γ F n X ck)(a:PE X o<|ek Γ mo)(b:PE X h<|ek Γ me)(e:Cr h=bY):PS X (.Assign [.Attribute o ⟨f.toArray⟩ Y] h pos) (q7 Γ<|λU s=>(me U s).bind λd s=>(mo U s).bind λx s=>(rQ (λc=>F.att c f) f x d s).bind λ_ s=>.ok (.next U) s):=by
 refine(R6 a b<|EL e).imp λD W H q=>AG q λC U s c a E R e q=>AD (fE e) λd s1 a e=>AD (fE e) λx j c e=>AD (fE e) λu s4 b e=>?_;cases e;obtain⟨r,m,fs,rfl,hs,g,Z,rfl⟩:=Wl b;refine⟨C,U,s,d,s1,E,R,a,λb i a n h a k l=>⟨i,U,s1,.ref r,j,E.mono n h,l,c,λc o H2 t u c B R2=>?_⟩⟩;obtain⟨Cc,v,C,⟨w,hcl⟩,D,F,y⟩:=R2.obj r _ hs;have A:kv Γ.K Cc ⟨f.toArray⟩:=G.K▸G.ob.att m f Cc g w;have c:=R2.wf _ _ hs;have g:=Zx (f:=f) c<|zm u d a;have i:=g;unfold oC at i;rw[af]at i;have key:∀{l},(∀p∈l,kv Γ.K Cc p.1)->∀p∈uW ⟨f.toArray⟩ b l,kv Γ.K Cc p.1:=by intro l;induction l with
  |nil=>intro _ p J;cases(J)with|head=>exact A|tail _ z=>cases z
  |cons a l I=>
   intro c p J;obtain⟨k,x⟩:=a;rw[show uW ⟨f.toArray⟩ b ((k,x)::l)=(if k=⟨f.toArray⟩then(k,b)::l else(k,x)::uW ⟨f.toArray⟩ b l)from rfl]at J;split at J
   .rcases aE.mp J with z|z;.exact z▸c (k,x) (ao ..)
    .exact c _<|ah _ z
   .rcases aE.mp J with z|z;.exact z▸c _ (ao ..)
    .exact I (λp J=>c p<|ah _ J) p z
 obtain⟨a,k⟩:=R2.set hs rfl g λH' g e=>⟨Cc,v,_,(Ad w hcl),key D,e,RVD.g5 g _ _ i.2<|RVD.D2 (RV.mono t d b a k) y⟩;have b:=n.trans t h;have L2:=au h u;have c:s.length<=(j.set r<|.ins m<|pp (.str f) d fs).length:=by simp_all
 rw[G.K];refine⟨o r,Cc,v,C,B.hW,F,hcl,A,y.length▸Z,q o _ (b.trans a L2) c k W<|E.mono (b.trans a L2) c⟩
set_option tactic.hygienic true in def Md(i:Γ.cls c=al Cc/\vp Γ.K Cc)(q:ek Γ (oz F<|.new c as) W H Q):Gf Cc (vE Γ<|F.new c) [] E0 (s6 Γ<|oK F as) W H Q:=by
 refine AG q λC U s d a E R h q=>AD (fE h) λl s1 a h=>AD (fE h) λd0 b j h=>?_;split at h;case isFalse=>exact fb h
 rename_i Z;subst Z;cases h;refine⟨C,U,s,l,s1,E,R,a,λvs a b k a d m e x f g h ne=>?_⟩;obtain⟨n,R2⟩:=e.same<|(tw.refl b).new h;have e:upd b f (.own x) x=none:=zd (bE ne)▸g;obtain⟨b,r⟩:=R2.new (o:=.ins c []) e rfl λh H' g e=>⟨Cc,f,[],i,(λp f=>by cases f),e,rfl⟩;have e:=n.trans b<|ak _;have Y:s1.length<=(s1++[DV.O.ins c []]).length:=by simp
 refine⟨_,s1++[.ins c []],.ref s1.length::l,.N,_,r,.cons (by unfold RV;lia) (by rw[aZ];exact ei.mono e l vs d m),by rw[ou,vj Y l d];unfold oB;simp,j,λv h H' g d b r b=>Ad r.t9 ?_⟩;refine q (.ref x) h H' ((k.trans e a).trans g<|au a Y) (au a<|au Y d) (gv<|aB (show s1.length<(s1++[DV.O.ins c []]).length by simp) d) ?_ b;unfold RV;rw[g.w.map s1.length<|by simp];lia
def Y7{c:String}{J:yK}(G:CG Γ F n X ck)(a:ck.gl (c:Str)=bY)(m:uS ck Z J=bY)(h:PA X J<|s6 Γ<|oK F Z):n4 Γ X (.Call (.Name (c) p) J [] pos) (oz F<|.new c Z):=by
 refine .val ?_;refine AI (G.gl a) λg1 b a=>?_;rcases G.ob.nw c with a|⟨k,Cc,a,a,ps,f,a,Y,M,a,e⟩;.refineλa0 s W H Q I q=>AG q λC U s d d E R d q=>AD (fE d) λl s1 d d=>?_;simp_all
 have d:=G.room.mono f;have f:Γ.cls c=al Cc/\vp Γ.K Cc:=by rw[<-G.K];lia
 cases J with
 |nil=>cases Z with|nil=>exact(by4 M a d g1 Y e .nil CF b).imp λW H Q q=>have c:=Md f q;Dk<|s6.eq (λU s=>rfl) c|_=>rw[uS]at m<;>first|cases m|(intros;simp_all)
 |cons x J=>have c:=j7 m;exact(Ys M a d g1 Y e .nil CF h b (ze<|c x<|ao ..) (zu λe a=>c e<|ah _ a).1).imp λW H Q q=>Md f q
set_option tactic.hygienic true in def P8(h:rR x s=.ok c s'):∃r fs,x=.ref r/\s[r]?=al (.ins c fs)/\s'=s:=by
 unfold rR at h;split at h
 .split at h;.rename_i c fs e;cases h;exact Ah _ fs rfl e rfl
  .exact fb h
 .exact fb h
theorem Jz{K}(J:Meth K Cc m a):∀{a:List<|Str×V},(∀p∈a,kv K Cc p.1)->a.lookup m=aT|[],_=>rfl|(k,v)::a,h=>by rw[bo];cases e:m==k with|true=>have a:=iF e;subst a;have z:=h (m,v)<|ao ..;unfold kv at z;cases J.at_▸z|false=>exact Jz J λp a=>h p<|ah _ a
def QL{a:yK}(Y:ku (a.length+([]:List fx).length) (cV pos<|be a env) (fw pos<|di [] env)=bY)(b:(h.endLine==pos.line)=bY):∃pl,eval (.Call (.Attribute (.Name x px) m h) a [] pos) env=(do
  let ov<-eval (.Name x px) env
  lr h.atName let(f,first)<-gI [ov]<|kz ov m pl
  callWith pos f first (cV pos<|be a env) (fw pos<|di [] env)):=by rw[arm_eval_Call,G6 rfl];unfold methodCall;rw[Y];simp only[(by unfold methodCallPos;simp[b]:methodCallPos bY (.Name x px) env h pos=pure pos)];exact Ae _ rfl
def WB{g:pz}{m:String}{e:o6}{b:yK}{y:Str}{i k pos:Pos}(G:CG Γ F n X ck)(z:PE X (.Name y i) (ek Γ<|oz F g))(u:uS ck e b=bY)(M:(k.endLine==pos.line)=bY)(a:b.length<29)(h:PA X b<|s6 Γ<|oK F e):n4 Γ X (.Call (.Attribute (.Name y i) (m:Str) k) b [] pos) (oz F<|.cq g m e):=by
 refine .val λY sh W H Q I q=>AG q λC U s d v E R Z q=>AD (fE Z) λx s1 f a=>AD (fE a) λc x a j=>AD (fE j) λl A N Z=>?_;obtain⟨r,fs,rfl,O,rfl⟩:=P8 a;rcases G.ob.mc c m with a|⟨Cc,a,j,ps,P,hcl,J,B,D⟩;.simp_all
 have key:F5 Cc (m:Str) (vE Γ<|F.cq c m) [] E0 (ek Γ<|oz F g) (s6 Γ<|oK F e) W H Q:=by refine⟨C,U,s,.ref r,x,E,R,f,λK j L n f o p t=>?_⟩;obtain⟨s,w,L,⟨s,K⟩,K,R,S⟩:=t.obj r _ O;rw[P]at s;cases s;rw[<-G.K]at K;refine⟨j r,w,L,p.hW,R,Jz J K,j,U,x,l,A,E.mono n f,t,N,λvs t H2 j s w x R2=>⟨t,A,.ref r::l,d,v,R2,.cons (RV.mono j _ _ o p) (by simp_all),by rw[ou,w,zm s _ o];rfl,Z,q.trans (n.trans j f) (au f s)⟩⟩
 have d:ku (b.length+([]:List fx).length) (cV pos<|be b X.env) (fw pos<|di [] X.env)=true:=by show((cV pos<|be b X.env).all (λx=>!x.1)&&(fw pos<|di [] X.env).all (λx=>x.1.isSome)&&decide (b.length+([]:List fx).length+(if([]:List fx).isEmpty then 0 else 1)<30))=bY;rw[(zu<|j7 u).2];simp only[dr,af,iS];exact Ad rfl<|by grind
 refine AF (QL (x:=y) (px:=i) (m:=(m:Str)) d M) λpl l=>?_;cases b with
 |nil=>have b:PE X (.Call (.Attribute (.Name y i) (m:Str) k) [] [] pos) (F5 Cc (m:Str) (vE Γ<|F.cq c m) [] E0 (ek Γ<|oz F g) wR):=UX (pl:=pl) z hcl J B G.room D .nil CF l;refine b Y sh W H Q I ?_;cases e with|nil=>exact AG key λC U s d v E R Z k=>⟨C,U,s,d,v,E,R,Z,λK j L n f o p t=>AK (k K j L n f o p t) λa w fs b c d e=>Ak a w fs b c d<|Dk<|s6.eq (λU s=>rfl) e⟩|_=>rw[uS]at u<;>first|grind|(intros;simp_all)
 |cons e es=>have a:=j7 u;exact Mv (pl:=pl) z hcl J B G.room D .nil CF h (ze<|a e<|ao ..) (zu λe b=>a e<|ah _ b).1 l Y sh W H Q I key
end
section
variable{Γ:Gm}{F:oG}{n:Nat}{X:Cx}{ck:Ck}
theorem RVD.merge:∀{m l}{more kvs},RVD xl Γ C H l kvs->RVD xl Γ C H m more->RVD xl Γ C H (DV.UJ l m) (Dt kvs more)|[],l,more,kvs,h,g=>have g:=g;g▸h|(d,e)::m,l,_,kvs,h,g=>by obtain⟨k,v,r,rfl,a,b,J⟩:=g;exact RVD.merge (l:=oN d e l) (kvs:=uU kvs k v) (RVD.put keyOf_inj a b h) J
end
section
variable{Γ:Gm}{F:oG}{n:Nat}
set_option tactic.hygienic true in def TC(h:mC c v=bY):n4 Γ X (.Constant v k pos) (oz F<|.K c):=by
 refine .val ?_;unfold mC at h;split at h;.exact Np.imp λW H Q q=>E3 (λ_=>rfl) (λ_ _=>RV.w7) (ek.eq (λU s=>rfl) q)
 .rename_i b c;have e:=iF h;exact e▸Ls.imp λW H Q q=>E3 (λ_=>rfl) (λ_ _=>RV.uO) (ek.eq (λU s=>rfl) q)
 .rename_i i j;have e:=dO h;exact e▸N4.imp λW H Q q=>E3 (λ_=>rfl) (λ_ _=>RV.nC) (ek.eq (λU s=>rfl) q)
 .rename_i x y;rw[af]at h;have e:=dO h.1;exact e▸Nh.imp λW H Q q=>E3 (λ_=>rfl) (λ_ _=>RV.vc<|by unfold oE;lia) (ek.eq (λU s=>rfl) q)
 .cases h
def YZ{J:yK}(m:tq ck es J=bY)(hz:J.length<=1000)(h:PA X J<|s6 Γ<|o5 F es):PE X (.List J pos) (vW Γ<|DV.yQ F<|.yl es):=by refine(Ig h).imp λW H Q q=>AG q λC U s l a E R Z q=>⟨C,U,s,l,a,E,R,Z,λvs g Y b c d e f=>⟨e.length▸G4 Z m▸GU hz,λp a=>AB (f.same<|(tw.refl Y).new a) λg2 R2=>q p vs g _ (b.trans g2 c) c d zh ?_ (Off.new f a) (ei.mono g2 _ _ d e) R2⟩⟩;cases e:H p with|none=>rfl|some o=>exact iN a<|b.st p<|by lia
def tE.eq(c:tE Γ X m E)(e:∀U s,m' U s=m U s):tE Γ X m' E:=by have:=funext λU=>funext<|e U;simp_all
def zl(h:(a&&b)=bY):a=bY/\b=true:=by rw[af]at h;exact h
def Yg{g:String}(G:CG Γ F n X Uu)(h:Uu.gl (g:Str)=bY):n4 Γ X (.Name (g) p) (oz F<|.gl g):=by refine .val ?_;refine AI (G.gl h) λg1 a b=>?_;cases e:F.con g with|none=>refineλY s W H Q I q=>AG q λC U s d b E R J q=>?_;have J:(match F.con g with|some d=>DV.R.ok d s|none=>.B)=.ok d b:=J;simp_all|some d=>exact AS (G.con g d e) λv u Z h2 b c=>(Js g1 Z h2 a).imp λW H Q q=>E3 b c<|ek.eq (λU s=>by show(match F.con g with|some d=>DV.R.ok d s|none=>.B)=DV.R.ok d s;rw[e]) q
def S4(G:CG Γ F n X J)(h:J.var i x=bY):n4 Γ X (.Name x p) (oz F<|.X i):=by
 refine .val ?_;refine AB (zl h) λh Z=>AB (zl h) λh a=>AB (zl h) λUu Y=>?_;have b:(x==("__debug__"))=false:=by simpa using a
 have a:(x==("__classdict__"))=false:=by simpa using Z
 exact(Ic (G.N▸dO Uu) (G.vis Y) b a).imp λW H Q q=>SW i<|ek.eq (λU s=>rfl) q
def Ni(G:CG Γ F n X J)(h:J.var i x=bY):PE X (.Name x p) (Cm i):=AB (zl h) λh Z=>AB (zl h) λh a=>AB (zl h) λY b=>Ic (G.N▸dO Y) (G.vis b) (by simpa using a) (by simpa using Z)
theorem IU:∀{es}{a:yK},Dg Y es a=bY->∀x∈a,rX x=bY
 |.nil,[],_,x,a=>by cases a|.nil,_::_,h,_,_=>ff h|.ex e es,[],h,_,_=>ff h|.ex e es,y::c,h,x,a=>by
  refine AB (zl h) λh b=>AB (zl h) λZ J=>?_;rcases aE.mp a with rfl|a;.exact J
  .exact IU b x a|.lam _ _ es,[],h,_,_=>ff h|.lam _ _ es,y::c,h,x,a=>by
  refine AB (zl h) λh b=>AB (zl h) λZ J=>?_;rcases aE.mp a with rfl|a;.exact J
  .exact IU b x a|.fn _ _,_,h,_,_=>ff h
theorem PM:∀{es}{Z:yK},Dg Y es Z=bY->F9 es=bY->∃a J E,Y.lk a J E=bY|.nil,_,_,h=>by cases h|.ex e es,[],h,_=>ff h|.ex e es,y::c,h,a=>AB (zl h) λh b=>PM b a|.lam a J es,[],h,_=>ff h|.lam a J es,y::c,h,_=>AB (zl h) λh b=>AB (zl h) λh1 h2=>⟨a,J,y,h1⟩|.fn _ _,_,h,_=>ff h
def GQ(h:∀U s,m U s=.B):n4 Γ X E m:=by
 refine⟨λJ s W H Q I q=>?_,λJ s W H Q I q=>?_⟩;.refine AG q λC U s d a E R b q=>?_;simp_all
 .refine AG q λC U s d a E R b q=>?_;simp_all
inductive LK(Γ:Gm)(X:Cx)(m:ow->oq->oy (List ot))(E:Expr)(k:Nat):Prop where|c(h:tE Γ X m E):LK Γ X m E k|f(hk:1<=k)(h:PE X E<|vW Γ m):LK Γ X m E k|s(hk:k=2)(h:PE X E<|yy Γ m):LK Γ X m E k
def Lg(h:LK Γ X m E 0):tE Γ X m E:=by cases h with|c h=>exact h|f a h=>lia|s a h=>lia
def IS(G:CG Γ F n X J)(h:LK Γ X m E 1):PE X E<|vW Γ m:=by cases h with|c h=>exact h.pe G.calm|f a h=>exact h|s a h=>lia
def RN(G:CG Γ F n X J)(h:LK Γ X m E 2):PE X E<|yy Γ m:=by cases h with|c h=>exact(h.pe G.calm).imp λW H Q q=>Pf q|f a h=>exact h.imp λW H Q q=>Pf q|s a h=>exact h
def biOk_inv(h:FO J b x Uu (tq J es Uu) (tq J es<|Uu.take 1)=bY):(∃k t a y c,Gd b=al (k,t)/\Uu=[a,.Name y c]/\x=("isinstance")/\y=t/\J.gl x=bY/\J.gl y=bY/\tq J es [a]=bY)\/∃a c,Uu=a::c/\Gb b=al x/\J.gl x=bY/\tq J es (a::c)=true:=by unfold FO at h;grind
mutual theorem sE:∀(e:pz)(E:Expr)(X:Cx)(J:Ck),CG Γ F n X J->mE J e E=bY->n4 Γ X E (oz F e)
 |.X i,E,X,J,G,h=>by cases E with|Name x p=>exact S4 G h|_=>exact ff h
 |.K c,E,X,J,G,h=>by cases E with|Constant v k p=>exact TC h|_=>exact ff h
 |.gl g,E,X,J,G,h=>by cases E with|Name x p=>refine AB (zl h) λY Uu=>?_;cases dO Y;exact Yg G Uu|_=>exact ff h
 |.G f a b,E,X,J,G,h=>by cases E with|BinOp l o r q=>refine AB (zl h) λh j=>AB (zl h) λY Uu=>?_;cases dO Y;exact Xm G f (sE a _ X J G Uu) (sE b _ X J G j)|_=>exact ff h
 |.not a,E,X,J,G,h=>by cases E with
  |UnaryOp o l p=>cases o with|Not=>exact Zb<|sE a _ X J G h|_=>exact ff h
  |_=>exact ff h
 |.Z f a b,E,X,J,G,h=>by cases E with
  |Compare l i n q=>cases i with
   |cons o d=>cases d with
    |nil=>cases n with
     |cons r e=>cases e with|nil=>refine AB (zl h) λh j=>AB (zl h) λY Uu=>?_;cases dO Y;exact Y2 G f (Fc j) (sE a _ X J G Uu) (sE b _ X J G j)|_=>exact ff h
     |_=>exact ff h
    |_=>exact ff h
   |_=>exact ff h
  |_=>exact ff h
 |.chain o p a b c,E,X,J,G,h=>by cases E with
  |Compare l i n q=>cases i with
   |cons d d=>cases d with
    |cons d d=>cases d with
     |nil=>cases n with
      |cons m e=>cases e with
       |cons r d=>cases d with|nil=>refine AB (zl h) λh Z=>AB (zl h) λh u=>AB (zl h) λh j=>AB (zl h) λY Uu=>?_;have e:=dO Y;have d:=dO Uu;subst e;exact d▸WA G o p (Fc Z) (sE a _ X J G j) (sE b _ X J G u) (sE c _ X J G Z)|_=>exact ff h
       |_=>exact ff h
      |_=>exact ff h
     |_=>exact ff h
    |_=>exact ff h
   |_=>exact ff h
  |_=>exact ff h
 |.yg a,E,X,J,G,h=>by cases E with
  |Compare l i n q=>cases i with
   |cons o b=>cases o with
    |Is=>cases b with
     |nil=>cases n with
      |cons r c=>cases r with
       |Constant v k d=>cases v with
        |none=>cases c with|nil=>exact YF<|sE a _ X J G h|_=>exact ff h
        |_=>exact ff h
       |_=>exact ff h
      |_=>exact ff h
     |_=>exact ff h
    |_=>exact ff h
   |_=>exact ff h
  |_=>exact ff h
 |.vd a,E,X,J,G,h=>by cases E with
  |Compare l i n q=>cases i with
   |cons o b=>cases o with
    |IsNot=>cases b with
     |nil=>cases n with
      |cons r c=>cases r with
       |Constant v k d=>cases v with
        |none=>cases c with|nil=>exact VA<|sE a _ X J G h|_=>exact ff h
        |_=>exact ff h
       |_=>exact ff h
      |_=>exact ff h
     |_=>exact ff h
    |_=>exact ff h
   |_=>exact ff h
  |_=>exact ff h
 |.and a b,E,X,J,G,h=>by cases E with
  |BoolOp f vs p=>cases f with
   |And=>cases vs with|nil=>exact ff h|cons l vs=>cases vs with|nil=>exact ff h|cons r vs=>cases vs with|nil=>exact AB (zl h) λY Uu=>Xg (sE a _ X J G Y) (sE b _ X J G Uu)|cons c vs=>exact AB (zl h) λY Uu=>Xv (sE a _ X J G Y) (sE b _ X J G Uu)
   |_=>exact ff h
  |_=>exact ff h
 |.or a b,E,X,J,G,h=>by cases E with
  |BoolOp f vs p=>cases f with
   |Or=>cases vs with|nil=>exact ff h|cons l vs=>cases vs with|nil=>exact ff h|cons r vs=>cases vs with|nil=>exact AB (zl h) λY Uu=>Tt (sE a _ X J G Y) (sE b _ X J G Uu)|cons c vs=>exact AB (zl h) λY Uu=>T8 (sE a _ X J G Y) (sE b _ X J G Uu)
   |_=>exact ff h
  |_=>exact ff h
 |.ite c a b,E,X,J,G,h=>by cases E with|IfExp d l r q=>exact AB (zl h) λh j=>AB (zl h) λY Uu=>YW (sE c _ X J G Y) (sE a _ X J G Uu) (sE b _ X J G j)|_=>exact ff h
 |.tp es,E,X,J,G,h=>by cases E with|Tuple n k p=>exact AB (zl h) λY Uu=>Xx Y (dO Uu) (Cu<|Bo es _ X J G Y)|_=>exact ff h
 |.J es,E,X,J,G,h=>by cases E with|List n p=>exact AB (zl h) λY Uu=>X1 Y (dO Uu) (Cu<|Bo es _ X J G Y)|_=>exact ff h
 |.dc .nil .nil,E,X,J,G,h=>by cases E with
  |Dict a b p=>cases a with
   |nil=>cases b with|nil=>exact .val<|VI.imp λW H Q q=>Ta<|ek.eq (λU s=>rfl) q|_=>exact ff h
   |cons x a=>cases x with|none=>exact ff h|some x=>cases a with
     |nil=>cases b with|nil=>exact ff h|cons y b=>cases b with|nil=>exact ff h|_=>exact ff h
     |_=>exact ff h
  |_=>exact ff h
 |.dc (.cons k .nil) (.cons v .nil),E,X,J,G,h=>by cases E with
  |Dict a b p=>cases a with
   |nil=>cases b with|nil=>exact ff h|_=>exact ff h
   |cons x a=>cases x with|none=>exact ff h|some x=>cases a with
     |nil=>cases b with|nil=>exact ff h|cons y b=>cases b with|nil=>exact AB (zl h) λY Uu=>AB (zl Y) λY _=>AB (zl Y) λY _=>AB (zl Uu) λUu _=>AB (zl Uu) λUu _=>.val<|(X5 (ZK (sE k _ X J G Y).1 (sE v _ X J G Uu).1 Yq) rfl rfl (by nofun) (by show 1<=15;decide)).imp λW H Q q=>Tn<|ek.eq (λU s=>rfl) q|_=>exact ff h
     |_=>exact ff h
  |_=>exact ff h
 |.dc .nil<|.cons _ _,E,X,J,G,h=>GQ λ_ _=>rfl|.dc (.cons _ .nil) .nil,E,X,J,G,h=>GQ λ_ _=>rfl|.dc (.cons _ .nil) (.cons _<|.cons _ _),E,X,J,G,h=>GQ λ_ _=>rfl|.dc (.cons _<|.cons _ _) _,E,X,J,G,h=>GQ λ_ _=>rfl|.attr o f,E,X,J,G,h=>by cases E with|Attribute w x p=>exact AB (zl h) λh j=>AB (zl h) λY Uu=>have e:=dO Y;e▸.val ((Vl G Uu (sE o _ X J G j).1).imp λW H Q q=>ek.eq (λU s=>rfl) q)|_=>exact ff h
 |.new c d,E,X,J,G,h=>by cases E with
  |Call c n r p=>cases c with
   |Name x v=>cases r with|nil=>refine AB (zl h) λh j=>AB (zl h) λY Uu=>?_;have e:=dO Y;subst e;exact Y7 G Uu j<|CU d _ X J G j|_=>exact ff h
   |_=>exact ff h
  |_=>exact ff h
 |.cq o m d,E,X,J,G,h=>by cases E with
  |Call c n r p=>cases c with
   |Attribute w x z=>cases r with
    |nil=>cases w with|Name y m=>exact AB (zl h) λh Z=>AB (zl h) λh u=>AB (zl h) λh j=>AB (zl h) λY Uu=>have e:=dO Y;e▸WB G (sE o _ X J G Uu).1 Z j (dO u) (CU d _ X J G Z)|_=>exact ff h
    |_=>exact ff h
   |_=>exact ff h
  |_=>exact ff h
 |.ym,E,X,J,G,h=>by cases E with
  |Dict a b p=>cases a with
   |nil=>cases b with|nil=>exact .val<|UY.imp λW H Q q=>Yb<|ek.eq (λU s=>rfl) q|_=>exact ff h
   |_=>exact ff h
  |_=>exact ff h
 |.ix a b,E,X,J,G,h=>by cases E with|Subscript o i p=>exact AB (zl h) λY Uu=>SD G (Fc Uu) (sE a _ X J G Y) (sE b _ X J G Uu)|_=>exact ff h
 |.yN a hi,E,X,J,G,h=>by cases E with
  |Subscript o i p=>cases i with
   |Slice b hi st c=>cases b with
    |none=>cases hi with
     |some l=>cases st with|none=>exact AB (zl h) λY Uu=>Xl G (sE a _ X J G Y) (sE hi _ X J G Uu)|_=>exact ff h
     |_=>exact ff h
    |_=>exact ff h
   |_=>exact ff h
  |_=>exact ff h
 |.call f d,E,X,J,G,h=>by cases E with
  |Call c n r p=>cases c with
   |Name x v=>cases r with|nil=>refine AB (zl h) λh j=>AB (zl h) λY Uu=>?_;have e:=dO Y;subst e;exact Vh G Uu j<|CU d _ X J G j|_=>exact ff h
   |_=>exact ff h
  |_=>exact ff h
 |.callC f d,E,X,J,G,h=>by cases E with
  |Call c n r p=>cases c with
   |Name x v=>cases n with
    |cons y f=>cases r with|nil=>refine AB (zl h) λh j=>AB (zl h) λh u=>AB (zl h) λY Uu=>?_;have e:=dO Y;subst e;exact AJ (PM j u) λid b c a=>AJ (G.lam id b c a) λ_ _ _ Zz=>AM Zz λ_ _ _ _ _ L=>.val<|(We G Uu L.fn L.kd (IU j) (HG d _ X J G j)).imp λW H Q q=>ek.eq (λU s=>rfl) q|_=>exact ff h
    |_=>exact ff h
   |_=>exact ff h
  |_=>exact ff h
 |.tX i es,E,X,J,G,h=>by cases E with
  |Call c n r p=>cases c with
   |Name x v=>cases n with
    |cons y f=>cases r with|nil=>exact AB (zl h) λY Uu=>.val<|V0 G Y (Gp Uu) (Cu<|Bo es _ X J G Uu) (Ni G Y)|_=>exact ff h
    |_=>exact ff h
   |_=>exact ff h
  |_=>exact ff h
 |.bi b es,E,X,J,G,h=>by cases E with
  |Call c n r p=>cases c with
   |Name x v=>cases r with|nil=>
     have h:FO J b x n (tq J es n) (tq J es<|n.take 1)=true:=h;rcases biOk_inv h with⟨k,t,a,y,m,b,rfl,rfl,rfl,Uu,u,Z⟩|⟨a,f,rfl,Y,Uu,j⟩;.exact XF G b Uu u<|Bo es _ X J G Z
     .exact Sg G Y Uu j<|Cu<|Bo es _ X J G j|_=>exact ff h
   |_=>exact ff h
  |_=>exact ff h
 |.mk k l,E,X,J,G,h=>by cases E with
  |ListComp e a a p=>refine AB (zl h) λY Uu=>?_;have e:=dO Y;subst e;exact((cf _ _).mp Uu).elim (λUu=>.val<|((Lg<|sL l _ X J G 0 Uu).pe G.calm).imp λW H Q q=>Jr<|ek.eq (λU s=>rfl) q) λUu=>.val<|(IS G<|sL l _ X J G 1 (zl Uu).2).imp λW H Q q=>Jr<|ek.eq (λU s=>rfl) q|Call c n r p=>cases c with
   |Name x v=>cases n with
    |cons a b=>cases b with
     |nil=>cases r with|nil=>
       refine AB (zl h) λh u=>AB (zl h) λUu j=>?_;rw[cf]at u;rcases u with u|u;.exact AB (zl u) λZ f=>.val<|(Tu G (dO Z) Uu j<|RN G<|sL l _ X J G 2 f).imp λW H Q q=>ek.eq (λU s=>rfl) q
       .exact AB (zl u) λZ f=>.val<|(SY G (dO Z) Uu j<|IS G<|sL l _ X J G 1 f).imp λW H Q q=>ek.eq (λU s=>rfl) q|_=>exact ff h
     |_=>exact ff h
    |_=>exact ff h
   |_=>exact ff h
  |_=>exact ff h
 |.xE k l d,E,X,J,G,h=>by cases E with
  |Call c n r p=>cases c with
   |Name x v=>cases n with
    |cons a b=>cases b with
     |nil=>cases r with
      |cons kk a=>cases kk with|mk b c kp=>cases b with
        |some y=>cases a with|nil=>refine AB (zl h) λh b=>AB (zl h) λh f=>AB (zl h) λh Z=>AB (zl h) λh j=>AB (zl h) λY Uu=>?_;have a:=dO Uu;subst a;refine AB (zl Y) λe a=>?_;have e:=dO e;have a:=dO a;subst e a;exact .val<|(Se G j Z (IS G<|sL l _ X J G 1 f) (sE d _ X J G b).1).imp λW H Q q=>ek.eq (λU s=>rfl) q|_=>exact ff h
        |_=>exact ff h
      |_=>exact ff h
     |_=>exact ff h
    |_=>exact ff h
   |_=>exact ff h
  |_=>exact ff h
 |.me m o es,E,X,J,G,h=>by cases E with
  |Call c n r p=>cases c with
   |Attribute w x z=>cases r with|nil=>exact AB (zl h) λh Z=>AB (zl h) λh u=>AB (zl h) λh j=>AB (zl h) λY Uu=>VD G (dO Y) Uu j (sE o _ X J G u).1 Z<|Bo es _ X J G Z|_=>exact ff h
   |_=>exact ff h
  |_=>exact ff h theorem Bo:∀(es:oW)(J:yK)(X:Cx)(a:Ck),CG Γ F n X a->tq a es J=bY->Fg Γ F X es J
 |.nil,J,X,a,G,h=>by cases J with|nil=>exact trivial|_=>exact ff h
 |.cons e es,J,X,a,G,h=>by cases J with|cons x J=>exact AB (zl h) λh b=>AB (zl h) λZ Y=>⟨⟨Y,sE e _ X a G Z⟩,Bo es _ X a G b⟩|_=>exact ff h theorem Ko:∀(es:oW)(a:yK)(X:Cx)(J:Ck),CG Γ F n X J->Hr J es a=bY->PF Γ X a (o5 F es)
 |.nil,a,X,J,G,h=>by cases a with|nil=>exact(Sx).eq λ_ _=>rfl|_=>exact ff h
 |.cons e es,a,X,J,G,h=>by cases a with
  |cons x a=>cases x with
   |FormattedValue v c sp p=>cases sp with|none=>exact AB (zl h) λh a=>AB (zl h) λZ Y=>have b:=dO Z;b▸(R7 (sE e _ X J G Y).1<|Ko es _ X J G a).eq λ_ _=>rfl|_=>exact ff h
   |Constant v j p=>exact AB (zl h) λZ Y=>(S9 (sE e _ X J G Z).1<|Ko es _ X J G Y).eq λ_ _=>rfl|_=>exact ff h
  |_=>exact ff h theorem CU:∀(es:o6)(J:yK)(X:Cx)(a:Ck),CG Γ F n X a->uS a es J=bY->PA X J (s6 Γ<|oK F es)
 |.nil,J,X,a,G,h=>by cases J with|nil=>exact wN.imp λW H Q q=>Dk<|s6.eq (λU s=>rfl) q|_=>exact ff h
 |.ex e es,J,X,a,G,h=>by cases J with|cons x J=>exact AB (zl h) λh b=>AB (zl h) λZ Y=>(P0 Y (sE e _ X a G Z).1<|CU es _ X a G b).imp λW H Q q=>s6.eq (λU s=>rfl) q|_=>exact ff h
 |.lam _ _ _,J,X,a,G,h=>ff h|.fn _ _,J,X,a,G,h=>ff h theorem HG:∀(es:o6)(a:yK)(X:Cx)(Y:Ck),CG Γ F n X Y->Dg Y es a=bY->PA X a (xy Γ X.env.cells X.N<|oK F es)
 |.nil,a,X,Y,G,h=>by cases a with|nil=>exact wN.imp λW H Q q=>Xh<|xy.eq (λU s=>rfl) q|_=>exact ff h
 |.ex e es,a,X,Y,G,h=>by cases a with|cons x a=>exact AB (zl h) λh h3=>AB (zl h) λh1 Z=>(zK (sE e _ X Y G h1).1 (HG es _ X Y G h3) (ze Z)).imp λW H Q q=>TR<|xy.eq (λU s=>rfl) q|_=>exact ff h
 |.lam id b es,a,X,Y,G,h=>by cases a with|cons x a=>
   refine AB (zl h) λh h3=>AB (zl h) λh1 Z=>AJ (G.lam id b _ h1) λc P a Zz=>AM Zz λbody scope pos J e L=>?_;have a:J.nm=none:=by cases q:J.nm with|none=>rfl|some p=>unfold sX at e;rw[q]at e;cases e▸Z
   unfold sX at e;rw[a]at e;dsimp only at e;subst e;exact(Tx (G.N▸L) a<|HG es _ X Y G h3).imp λW H Q q=>xy.eq (λU s=>rfl) q|_=>exact ff h
 |.fn _ _,a,X,Y,G,h=>ff h theorem sI:∀(i:DV.I)(E tg:Expr)(X:Cx)(J:Ck),CG Γ F n X J->mI J tg i E=bY->PI X tg E (u9 Γ<|pQ F i)
 |.seq e,E,tg,X,J,G,h=>AB (zl h) λUu Y=>Xz G (sE e _ X J G Uu).1|.keys e,E,tg,X,J,G,h=>ff h|.rg a,E,tg,X,J,G,h=>by cases E with
  |Call d f g p=>cases d with
   |Name x j=>cases f with
    |cons l b=>cases b with
     |nil=>cases g with|nil=>refine AB (zl h) λh Z=>AB (zl h) λh i=>AB (zl h) λUu Y=>?_;have e:=dO Uu;subst e;exact VH G Y Z (sE a _ X J G i).1|_=>exact ff h
     |_=>exact ff h
    |_=>exact ff h
   |_=>exact ff h
  |_=>exact ff h
 |.w3 a b c,E,tg,X,J,G,h=>by cases E with
  |Call d f g p=>cases d with
   |Name x j=>cases f with
    |cons l c=>cases c with
     |cons r c=>cases c with
      |cons d c=>cases d with
       |Constant v k d=>cases c with
        |nil=>cases g with|nil=>refine AB (zl h) λh c=>AB (zl h) λh d=>AB (zl h) λh f=>AB (zl h) λh g=>AB (zl h) λh Z=>AB (zl h) λh i=>AB (zl h) λUu Y=>?_;have e:=dO Uu;have j:=dO d;have e3:=dO c;subst e j e3;exact U6 G Y Z f (sE a _ X J G i).1 (sE b _ X J G g).1|_=>exact ff h
        |_=>exact ff h
       |_=>exact ff h
      |_=>exact ff h
     |_=>exact ff h
    |_=>exact ff h
   |_=>exact ff h
  |_=>exact ff h theorem sL:∀(l:DV.L)(E:Expr)(X:Cx)(J:Ck),CG Γ F n X J->∀k,mL J k l E=bY->LK Γ X (DV.yQ F l) E k
 |.comp tg it e d,E,X,J,G,k,h=>by cases E with
  |ListComp l m scope p=>cases m with
   |cons g f=>cases g with|mk n iter j z=>cases j with
     |nil=>cases f with|nil=>refine AB (zl h) λh o=>AB (zl h) λh Y=>AB (zl h) λh0 b=>?_;have Z:=dO h0;subst Z;have c:=UN (pos:=p) G b (sI it _ _ X J G Y) λCc a s H ex=>(sE e _ _ _ ((G.comp b).2.2 Cc a s H ex).1 o).1;exact .c<|c.eq λU s=>rfl|_=>exact ff h
     |_=>exact ff h
   |_=>exact ff h
  |_=>exact ff h
 |.ub tg it i e d,E,X,J,G,k,h=>by cases E with
  |ListComp l m scope p=>cases m with
   |cons g f=>cases g with|mk n iter j z=>cases j with
     |cons a a=>cases a with
      |nil=>cases f with|nil=>refine AB (zl h) λh d=>AB (zl h) λh o=>AB (zl h) λh Y=>AB (zl h) λh0 b=>?_;have Z:=dO h0;subst Z;have c:=Xd (pos:=p) G b (sI it _ _ X J G Y) (λCc a s H ex=>(sE i _ _ _ ((G.comp b).2.2 Cc a s H ex).1 o).2) λCc a s H ex=>(sE e _ _ _ ((G.comp b).2.2 Cc a s H ex).1 d).1;exact .c<|c.eq λU s=>rfl|_=>exact ff h
      |_=>exact ff h
     |_=>exact ff h
   |_=>exact ff h
  |_=>exact ff h
 |.yl es,E,X,J,G,k,h=>by cases E with|List a p=>exact AB (zl h) λh Y=>AB (zl h) λh0 b=>.f (dO h0) (YZ b (dO Y) (Cu<|Bo es _ X J G b))|_=>exact ff h
 |.seq e,E,X,J,G,k,h=>AB (zl h) λh0 b=>.s (dO h0) ((sE e _ X J G b).1.imp λW H Q q=>Ub<|yy.eq (λU s=>rfl) q)|.wF tg e b d,E,X,J,G,k,h=>ff h end
end
section
variable{Γ:Gm}{F:oG}{n:Nat}
def Vf(G:CG Γ F n X ck)(c:tE Γ X m E)(hi:ck.N[i]?=al x)(a:ck.loc x=bY):PS X (.Assign [.Name x px] E pos) (z7 (vW Γ m) (BN i)):=by
 obtain⟨d,e,iter,Y,scope,f,j,h,q,g,r,s,rfl,l,h2,o,p,t⟩:=c.ex;refine AB (G.loc a) λl1 u=>?_;have c:X.N.Nodup:=G.N▸G.nd;have J:X.N[i]?=al x:=G.N▸hi;generalize a:((X.env.blockKind==.function&&X.env.kindOf x==al .local&&px.line==(Expr.ListComp d [⟨e,iter,Y,0⟩] scope f).pos.line&&!(scope.names.any λ(n,k)=>n==x&&(k==.local||k==.cell))))=b;have k:fK (.ListComp d [⟨e,iter,Y,0⟩] scope f) (al<|.Name x px) pos.line X.env=pure b:=by rw[<-a];rfl
 have imp:∀D W H,z7 (vW Γ m) (BN i) D W H->z7 (vC h q g r s) (BN i) D W H:=λD W H q=>t _ _ _ q;cases b with
 |true=>
  have Z:=by simp only[af]at a;exact iF a.1.1.2
  exact(aW2 j h c J Z l h2 G.calm o p k).imp imp|false=>exact(Ng c J l1 (Mf j h l h2 G.calm o p) k u).imp imp
def XJ(G:CG Γ F n X J)(hi:J.N[i]?=al x)(Z:J.loc x=bY)(h:mE J e v=bY)(b:Ks e=bY):PS X (.Assign [.Name x px] v pos) (q7 Γ<|DV.ex F<|.A (.Y i) e):=by
 refine AB (G.loc Z) λl1 a=>?_;have c:X.N.Nodup:=G.N▸G.nd;by_cases d:Cr v=bY;.exact(Ng c (G.N▸hi:X.N[i]?=al x) l1 (sE e v X J G h).1 (EL d) a).imp λD W H q=>HZ<|q7.eq (λU s=>rfl) q
 .have hs:=Fc h;cases v with
  |ListComp c f g p=>cases e with|mk k l=>
    refine AB (zl h) λh1 a=>?_;have e:=dO h1;subst e;have a:mL J 0 l (.ListComp c f g p)=true:=by
     rcases(cf _ _).mp a with a|a;.exact a
     .have b:(!xG l)=true:=b;rw[(zl a).1]at b;exact ff b
    exact(Vf G (Lg<|sL l _ X J G 0 a) hi Z).imp λD W H q=>Zw<|q7.eq (λU s=>rfl) q|_=>exact ff h
  |SetComp _ _ _ _=>cases hs|DictComp _ _ _ _ _=>cases hs|_=>exact iN rfl d
def ZS{body:yL}(hT:hG T H)(s:(T.map (·.1)).Nodup)(n:(P,q)∈T)(p:∀(f:Addr)(H':Hp),EA H H'->(∀b,H b≠aT->H' b≠aT)->hG T H'->H f=aT->(∃J c Z Y,H' f=al (vk f<|cY name q params body scope (sf cells scope.names []) .none .none J c aT (.ref Z) Y)/\H' Z=al (qM Z q))->D0.nx (W.set ix<|al<|.ref f) H'):KY cells P name q params body scope pos ix D0 W H:=by
 refine AH (hT _ n) λps j m r=>⟨ps,j,m,λa Z f J c Y k a ne=>?_,λg e=>?_⟩
 .have cP:Z≠P:=λz=>by lia
  have g:f≠P:=λz=>by lia
  have i:∀b,b≠P->H b≠aT->∀d e h,upd (upd (upd H P d) Z e) f h b=H b:=λb l b d e h=>by rw[zd λz=>by subst z;exact b a,zd λz=>by subst z;exact b k,zd l]
  refine p f _ (λb o d e=>?_) (λb k=>?_) (λy f=>?_) a<|Ao J c Z Y zh<|by rw[zd ne,zh]
  .rw[i b (λz=>by subst z;cases j▸e;exact d _ rfl) (by rw[e];simp)];exact e
  .by_cases z:b=P;.subst z;rw[zd<|bE g,zd<|bE cP,zh];simp
   .rw[i b z k];exact k
  .by_cases z:y.1=P
   .have ey:=by
     have:∀(l:List<|Addr×Str),(l.map (·.1)).Nodup->y∈l->(P,q)∈l->y=(P,q):=by intro l;induction l with|nil=>intro _ h;simp at h|cons a l a=>grind
     exact this T s f n
    subst ey;refine⟨_,by rw[zd<|bE g,zd<|bE cP,zh],?_,λc g e=>?_⟩;.rw[eP];exact TriplesOk_snoc _ _ _ _ m
    .rw[eP]at e;rcases codeAmong_add _ m e with d|d;.exact AE (r c g d) λc2 b a=>Ac c2 b<|by rw[i c2 (λz=>by subst z;rw[j]at a;unfold qM at a;lia) (by rw[a];simp)];exact a
     .exact Ac Z d<|by rw[zd ne,zh]
   .exact AH (hT y f) λqs b a d=>⟨qs,by rw[i y.1 z<|by rw[b];simp];exact b,a,λc g e=>AE (d c g e) λc2 b a=>Ac c2 b<|by rw[i c2 (λz=>by subst z;rw[j]at a;unfold qM at a;lia) (by rw[a];simp)];exact a⟩
 .exact AE (r pos g e) λZ b a=>Ac Z b<|λf J c Y n=>p f _ (.of<|(tw.refl H).new n) (λb k=>by
   by_cases z:b=f;.subst z;rw[zh];simp
   .exact zd z▸k) (hT.new n) n<|Ao J c Z Y zh<|zd (zB a n)▸a
theorem MX env:∀l:List Arg,(l.all λy=>y.annotation.isNone)=bY->kR l env=[]|[],_=>by rfl|⟨x,al a,p⟩::l,h=>by simp at h|⟨x,aT,p⟩::l,h=>MX env l<|by simpa using h
def UW(h:IQ params=bY)env:params.defaults=[]/\params.kw_defaults=[]/\annTrees params aT env=[]:=by
 unfold IQ at h;split at h;.refine Ai rfl rfl ?_;unfold annTrees;simp only[Option.toList,aZ];rw[MX env _ h];rfl
 .cases h
def JA{α:Type}{o}{f:α->Bool}(h:o.any f=bY):∃a,o=al a/\f a=true:=by cases o with|none=>exact ff h|some a=>exact Ac a rfl h
def UU{s}(h:HB s J=al d):s=.BX d.1/\J=.cons (.ret<|.callC d.2.1<|.ex d.2.2.1<|.lam d.2.2.2.1 d.2.2.2.2 .nil) .nil:=by
 unfold HB at h;split at h;.cases h;exact Ad rfl rfl
 .cases h
def VJ{S:yL}(h:LQ S=al q):S=.FunctionDef q.1 q.2.1 [.Return (al q.2.2.1) q.2.2.2.1] [] aT [] q.2.2.2.2.1 aT q.1 q.2.2.2.2.2.1::q.2.2.2.2.2.2:=by have J:∀{p},(aT)=al q->p:=λh=>nomatch h;cases S with
 |cons x e=>cases x with
  |FunctionDef nm a body dl d f scope ts c pos=>cases body with
   |cons b bs=>cases b with
    |Return v g=>cases v with
     |some b=>cases bs with
      |nil=>cases dl with
       |nil=>cases d with
        |none=>cases f with
         |nil=>cases ts with|none=>
           have h:(if c=nm then al (nm,a,b,g,scope,pos,e)else aT)=al q:=h;by_cases e:c=nm;.cases ef e▸h;rw[e]
           .rw[gc e]at h;exact J h|_=>exact J h
         |_=>exact J h
        |_=>exact J h
       |_=>exact J h
      |_=>exact J h
     |_=>exact J h
    |_=>exact J h
   |_=>exact J h
  |_=>exact J h
 |_=>exact J h
def ZA{S:yL}(h:K5 nm S=al r):S=[.Return (al<|.Call (.Name r.1 r.2.1) [r.2.2.1,.Name nm r.2.2.2.1] [] r.2.2.2.2.1) r.2.2.2.2.2]:=by have J:∀{p},(aT)=al r->p:=λh=>nomatch h;cases S with
 |cons x d=>cases x with
  |Return v b=>cases v with
   |some e=>cases e with
    |Call f a e i=>cases f with
     |Name g f=>cases a with
      |cons a c=>cases c with
       |cons y c=>cases y with
        |Name x j=>cases c with
         |nil=>cases e with
          |nil=>cases d with|nil=>
            have h:(if x=nm then al (g,f,a,j,i,b)else aT)=al r:=h;by_cases e:x=nm;.rw[ef e]at h;cases h;rw[e]
            .rw[gc e]at h;exact J h|_=>exact J h
          |_=>exact J h
         |_=>exact J h
        |_=>exact J h
       |_=>exact J h
      |_=>exact J h
     |_=>exact J h
    |_=>exact J h
   |_=>exact J h
  |_=>exact J h
 |_=>exact J h
set_option tactic.hygienic true in def T1{s}(G:CG Γ F n X ck)(hM:Lj ck s ss S=bY):sR X S<|q7 Γ<|ph F<|.cons s ss:=by
 obtain⟨⟨i,g,e,id,Y⟩,k,d⟩:=JA hM;clear hM;obtain⟨⟨Z,a,b,l,scope,pos,a⟩,c,f⟩:=JA d;clear d;obtain⟨⟨o,m,a,o,r,a⟩,n,h⟩:=JA f;clear f;obtain⟨rfl,rfl⟩:=UU k;have n:=ZA n;have c:=VJ c;dsimp only at c n h⊢;subst n;subst c;clear k;refine AB (zl h) λh f=>AB (zl h) λh j=>AB (zl h) λh h9=>AB (zl h) λh k=>AB (zl h) λh a=>AB (zl h) λh h6=>AB (zl h) λh s=>AB (zl h) λh0 h2=>?_;have a:=dO a;subst a;have d:=dO h0;clear h0;refine AJ (G.lam id Y _ h6) λc P a Zz=>AM Zz λc4 a a J a L=>?_;obtain⟨c,h⟩:∃c,J.nm=al c:=by cases q:J.nm with|none=>unfold sX at a;simp_all|some p=>exact Ae p rfl
 obtain⟨q,q⟩:=c;unfold sX at a;rw[h]at a;dsimp only at a;cases a;rw[<-G.N]at L d;refine AB (G.loc h2) λl1 a=>AI (UW f X.env) λa1 c f=>?_;have q:X.env.kindOf Z=al .local\/X.env.kindOf Z=al .cell:=l1;have t:m7 X.env Z Z=J.qual:=by rw[L.q];unfold tZ.own m7;rw[h];rcases q with z|z<;>rw[z]<;>rfl
 have u:=W9 (body:=[.Return (al b) l]) (pos:=pos) (G.N▸G.nd) d l1 L.code L.hd L.bm L.ck t a1 c f a;have l:PE X (.Name Z o) (Cm i):=Ni G s;refine AI (G.gl k) λg1 o a=>?_;rcases G.call g with a|⟨a,a,ps,t,v,w,f⟩
 .refineλe7 sh W H D I q=>AG q λC U s c c E R a q=>AD (fE a) λc1 s1 k a=>?_;have k:(match rS U i with|some U=>DV.R.ok (DV.Ct.next U) s|none=>.B)=.ok c1 s1:=k;split at k;case h_2=>cases k
  cases k;refine AD (fE a) λc1 s1 k a=>AD (fE k) λd1 x k b=>AD (fE k) λl g k b=>?_;simp_all
 have a:=(sE e _ X ck G h9).1;have d:=zK a (zK l wN<|ze rfl) (ze j);have a:=P6 (p:=m) (pos:=r) t G.room g1 v w f L.fn d o (ze j) (zu λz hz=>by rw[aI.mp hz];rfl).1;refine(zM u<|zM (Co a) GY).imp λD W H q=>AG q λC U s a c E R a q=>AD (fE a) λc1 s1 k a=>?_;have k:(match rS U i with|some U=>DV.R.ok (DV.Ct.next U) s|none=>.B)=.ok c1 s1:=k;unfold rS at k;by_cases c:i<U.length;case neg=>simp_all
 rw[ef c]at k;cases k;refine AD (fE a) λc1 s1 k a=>AD (fE k) λd1 x k b=>?_;cases b;cases a;refine AD (fE k) λl g k b=>AD (fE b) λd2 s4 o b=>?_;split at b;case isFalse=>simp_all
 rename_i e;cases b;rw[af]at e;refine AD (fE k) λx1 s5 m k=>AD (fE k) λy1 a a k=>?_;cases k;have a:(match o8 (U.set i aT) Y with|some cs=>(oK F .nil (U.set i aT) s5).bind λl s=>DV.R.ok (DV.D.sk id cs::l) s|none=>DV.R.B)=.ok y1 g:=a;cases eg:o8 (U.set i aT) Y with|none=>simp_all|some cs=>
  rw[eg]at a;cases a;refine ZS R.tab L.nd L.tab λf H' a st tb d k=>AB (R.Bn a st tb) λa4 l=>?_;have a:RE Γ C H' s.length (U.set i aT) (W.set i<|al<|.ref f):=by
   have E0:=E.mono a4<|ak _;refine⟨by rw[bw,bw];exact E0.len,λj d g=>?_⟩;by_cases z:i=j;.simp_all
   .rw[aD z]at g;exact AQ (E0.val j d g) λq1 v d g=>Aj q1 v (by rw[aD z];exact d) g
  refine AH (Ie a eg) λcap g d j=>?_;have n:=(I7 eg).1;have p:Az H' f J<|sf X.env.cells J.scope.names []:=by unfold Az;rw[h];exact L.p▸L.b▸L.s▸k
  refine⟨C,U.set i aT,s,x1,_,a,l,m,λh b k g1 l1 l r m=>?_⟩;have a:i<W.length:=E.len▸c;refine⟨.ref f,by rw[bF a],λH2 a=>AB (m.same a.same) λgs R2=>?_⟩;have s:=vj l1 cs d;have t:∀m,x1.eu m=bY->ou m cs=bY->ou m [x1,.sk id cs]=true:=λm c m=>by simp only[ou,c,dr,fS];exact m
  have c:=t _ l s;have pv:CN Γ X.env.cells X.N (W.set i<|al<|.ref f) b k [x1,.sk id cs] [h,.ref f]:=by refine .cons (.inl r) (.cons (.inr ⟨id,cs,rfl,f,J,rfl,L.lg,p.kp g1.w.kp,by rw[n,L.len],L.s▸L.cl,cap,ei.mono g1 cs cap d g,λi x v k n=>?_⟩) .nil);have hi:i<Y.length:=L.len▸(ae.mp k).1;have d:Y[i]?=al Y[i]:=aj hi;exact Aj (L.s▸L.fr x (aA k)) (Y[i]) (L.at_ i _ x d k) (j i _ v d n)
  exact⟨b,_,[x1,.sk id cs],_,_,R2,pv.tJ a L.kd c,c,o,λv d b o f g h i=>have c:Cells X.env.cells b:=a.cells.kp o.w.kp;q d (hI X.env.cells b) ((a4.trans g1<|ak _).trans (Gr.tJ a o) l1) (au l1 f) (i.gK c e.2) v g<|RV.gK c _ v e.1 h⟩
mutual theorem sS:∀(st:rO)(S:Stmt)(X:Cx)(J:Ck),CG Γ F n X J->mS J st S=bY->PS X S (q7 Γ<|DV.ex F st)
 |.A tg e,S,X,J,G,h=>by cases S with
  |Assign ts v p=>cases ts with
   |cons t a=>cases a with
    |nil=>refine AB (zl h) λh g=>AB (zl h) λY d=>?_;cases tg with
     |Y i=>have h:=Y;cases t with|Name x px=>exact AB (zl h) λa1 a=>XJ G (dO a1) a d g|_=>exact ff h
     |tp a=>refine AB (zl g) λa1 a=>?_;have h:=Y;cases t with|Tuple b tk tp=>exact(Nn (sE e _ X J G d).1 (Gh G Y) (show fK v (al<|.Tuple b tk tp) p.line X.env=pure ce from EL a) (aZ3 a1) rfl).imp λD W H q=>HZ<|q7.eq (λU s=>rfl) q|_=>exact ff h
    |_=>exact ff h
   |_=>exact ff h
  |_=>exact ff h
 |.ll o i e,S,X,J,G,h=>by cases S with
  |Assign ts v f=>cases ts with
   |cons b a=>cases b with
    |Subscript j b c=>cases a with
     |nil=>
      refine AB (zl h) λh Z=>AB (zl h) λh g=>AB (zl h) λY d=>have a:=Fc d;(Nn (sE e _ X J G g).1 (TH (sE o _ X J G Y).1 (sE i _ X J G d).1 (Sw<|Ds G.room) ?_) (show fK v (al<|.Subscript j b c) f.line X.env=pure ce from EL Z) aX8 ?_).imp λD W H q=>ZW<|q7.eq (λU s=>rfl) q;.intro w;cases b<;>first|rfl|cases a
      .rfl|_=>exact ff h
    |_=>exact ff h
   |_=>exact ff h
  |_=>exact ff h
 |.aug i e,S,X,J,G,h=>by cases S with
  |AugAssign b a v p=>cases b with
   |Name x c=>cases a with|Add=>exact AB (zl h) λh g=>AB (zl h) λY d=>AB (G.loc d) λl1 a=>(Tp (G.N▸G.nd) (G.N▸dO Y) l1 (sE e _ X J G g).1 Uk a).imp λD W H q=>S6<|q7.eq (λU s=>rfl) q|_=>exact ff h
   |_=>exact ff h
  |_=>exact ff h
 |.ex e,S,X,J,G,h=>by cases S with|Expr v p=>exact AB (zl h) λY d=>(Ml (sE e _ X J G Y).1<|EL d).imp λD W H q=>XA<|q7.eq (λU s=>rfl) q|_=>exact ff h
 |.ret e,S,X,J,G,h=>by cases S with
  |Return a p=>cases a with|some v=>exact(Co (sE e _ X J G h).1).imp λD W H q=>Ul<|q7.eq (λU s=>rfl) q|_=>exact ff h
  |_=>exact ff h
 |.uo,S,X,J,G,h=>by cases S with
  |Return a p=>cases a with|none=>exact Yn.imp λD W H q=>YD<|q7.eq (λU s=>rfl) q|_=>exact ff h
  |_=>exact ff h
 |.ite c a b,S,X,J,G,h=>by cases S with|If t l r p=>exact AB (zl h) λh g=>AB (zl h) λY d=>(Nb (sE c _ X J G Y).2 (yO a _ X J G d) (yO b _ X J G g)).imp λD W H q=>Ru<|q7.eq (λU s=>rfl) q|_=>exact ff h
 |.u5 c b,S,X,J,G,h=>by cases S with
  |While t l o p=>cases o with|nil=>exact AB (zl h) λY d=>(Pw (G.xe▸mD) (sE c _ X J G Y).2<|yO b _ X J G d).imp λD W H q=>UO<|q7.eq (λU s=>rfl) q|_=>exact ff h
  |_=>exact ff h
 |.fo tg it b,S,X,J,G,h=>by cases S with
  |For a iter l o p=>cases o with|nil=>exact AB (zl h) λh g=>AB (zl h) λY d=>(NN (G.xe▸mD) G.calm (sI it _ _ X J G d) (Gh G Y) (yO b _ X J G g) (Gn<|Nw d)).imp λD W H q=>Si<|q7.eq (λU s=>rfl) q|_=>exact ff h
  |_=>exact ff h
 |.wc o f e,S,X,J,G,h=>by cases S with
  |Assign ts v p=>cases ts with
   |cons a ts=>cases a with
    |Attribute j x a=>cases ts with|nil=>exact AB (zl h) λh Z=>AB (zl h) λh g=>AB (zl h) λY d=>have a:=dO Y;a▸(UQ G (sE o _ X J G d).1 (sE e _ X J G g).1 Z).imp λD W H q=>q7.eq (λU s=>rfl) q|_=>exact ff h
    |_=>exact ff h
   |_=>exact ff h
  |_=>exact ff h
 |.cont,S,X,J,G,h=>by cases S with|Continue p=>exact aK8.imp λD W H q=>X6<|q7.eq (λU s=>rfl) q|_=>exact ff h
 |.BX _,S,X,J,G,h=>ff h|.raise,S,X,J,G,h=>Vs.imp λD W H q=>AG q λC U s c a E R a q=>by cases a theorem yO:∀(st:pP)(S:yL)(X:Cx)(J:Ck),CG Γ F n X J->vg J st S=bY->sR X S (q7 Γ<|ph F st)
 |.nil,S,X,J,G,h=>by cases S with|nil=>exact GY.imp λD W H q=>Xp (m:=ph F .nil) (λU s=>rfl) q|_=>exact ff h
 |.cons s a,S,X,J,G,h=>by cases S with|cons x b=>
   rcases(cf _ _).mp h with h|h;.exact T1 G h
   exact AB (zl h) λY b=>(zM (sS s _ X J G Y) (yO a _ X J G b)).imp λD W H q=>Nq<|q7.eq (λU s=>rfl) q|_=>exact ff h end
end
noncomputable def Hq(a:Ck)(n:Str):DV.HT->Expr->Bool
 |.FG _,_=>ce|.Y c,E=>match E with|.Call (.Name g _) [.Name x _,.Name d _] [] _=>decide (g=("isinstance"))&&a.gl g&&decide (x=n)&&decide (d=(c))&&a.gl d|_=>ce
 |.not _,_=>ce|.ve,_=>ce|.or _ _,_=>ce
structure CH(X:Cx)(ck:Ck):Prop where
 N:X.N=ck.N
 gl:∀{x:Str},ck.gl x=bY->Gl X x/\(x==("__debug__":Str))=ce/\x≠"__name__"bi:∀x∈tK,X.mg x=aT
def CG.ch(G:CG Γ F n X h):CH X h:=⟨G.N,G.gl,G.bi⟩
structure XC(F:oG)(K:ac)(mg:yC):Prop where
 at_:∀c:String,F.xc c=bY->∃Cc,mg (c:Str)=al (.ref Cc)/\sT K Cc/\yj K Cc=bY
 cls:∀c:String,F.xt c=bY->∃Cc,mg (c:Str)=al (.ref Cc)sub:∀(c d:String)(Cc D:Addr),F.xc c=bY->F.xt d=bY->mg (c:Str)=al (.ref Cc)->mg (d:Str)=al (.ref D)->bJ K (.ref Cc) (.ref D)=al (oX c d)exm:∀(c d:String)(Cc D:Addr),F.xc c=bY->F.xt d=bY->mg (c:Str)=al (.ref Cc)->mg (d:Str)=al (.ref D)->cR K (.ref Cc) (.ref D)=al (oX c d)ve0:∀c:String,F.xc c=bY->mg ("ValueError":Str)=aT
 ve1:∀(c:String)(Cc:Addr),F.xc c=bY->mg (c:Str)=al (.ref Cc)->bJ K (.ref Cc) (.type "ValueError")=al bY
section
variable{Γ:Gm}{F:oG}{n:Nat}{X:Cx}{ck:Ck}{a Cc:Addr}{oe:Obj}
end
def HJ(a:Ck)(nm:Str):List String->List Expr->Bool
 |[],es=>match es with|[]=>bY|_=>ce
 |c::cs,es=>match es with|e::es=>Hq a nm (.Y c) e&&HJ a nm cs es|_=>ce
noncomputable def K9:List (List Nat)->List Expr->Bool
 |[],es=>match es with|[]=>bY|_=>ce
 |t::ts,es=>match es with|.Constant (.str y) _ _::es=>decide (y=⟨t.toArray⟩)&&K9 ts es|_=>ce
def Hu(a:Ck)(nm b:Str)(f g:Expr)(h i j k l:Str)(c d e:yK)(m n o:Bool):Bool:=(a.sc.names.lookup nm==al .local)&&((a.sc.names.lookup b==al .local)&&(!(nm==("__debug__"))&&(!(nm==("__classdict__"))&&(!(b==("__debug__"))&&(!(b==("__classdict__"))&&(Hq a nm (.not .ve) f&&(decide (h=⟨DV.JV.toArray⟩)&&(decide (i=⟨DV.JV.toArray⟩)&&(decide (j=("append"))&&(decide (k=("count"))&&(decide (l=("index"))&&(m&&(n&&(o&&(HJ a nm (DV.GX.take 4) c&&(HJ a nm ((DV.GX.drop 4).take 4) d&&(Hq a nm (.Y "NoName") g&&K9 DV.NU e)))))))))))))))))
inductive BS(ck:Ck)(S:yL):Prop|mk(nm ks:Str)(e1 e4:Expr)(y1 y5 m4 m5 m6:Str)(es2 es3 es6:yK)(j1 j5 i5 k5 j6:Nat)(p1 q1 r1 a2 b2 c2 a3 b3 c3 d3 f3 a4 ap4 cp4 p4 a5 ap5 pj5 cp5 pi5 pc5 pk5 q5 p5 pl6 a6 ap6 pj6 cp6 ps6 p6:Pos)(_:S=[.If e1 [.Return (al<|.Constant (.str y1) j1 p1) q1] [] r1,.Assign [.Name ks a2] (.List es2 b2) c2,.Assign [.Name ks a3] (.BinOp (.Name ks b3) .Add (.List es3 c3) d3) f3,.Expr (.Call (.Attribute (.Name ks a4) m4 ap4) [e4] [] cp4) p4,.If (.Compare (.Call (.Attribute (.Name ks a5) m5 ap5) [.Constant (.bool bY) j5 pj5] [] cp5) [.NotEq] [.Constant (.int 1) i5 pi5] pc5) [.Return (al<|.Constant (.str y5) k5 pk5) q5] [] p5,.Return (al<|.Subscript (.List es6 pl6) (.Call (.Attribute (.Name ks a6) m6 ap6) [.Constant (.bool bY) j6 pj6] [] cp6) ps6) p6])(_:ck.N=[nm,ks])(_:Hu ck nm ks e1 e4 y1 y5 m4 m5 m6 es2 es3 es6 (ap4.endLine==cp4.line) (ap5.endLine==cp5.line) (ap6.endLine==cp6.line)=bY):BS ck S
def mX(d:Ck):rT->List Stmt->Bool
 |.no,_=>bY|.kind,S=>@decide (BS d S) (bU _)|.alt a b,S=>mX d a S&&mX d b S|.uR c,S=>match S with|.Raise (al<|.Call (.Name x _) [.Constant (.str _) _ _] [] _) aT _::_=>decide (x=(c))&&d.gl x|_=>ce
 |.call _ _,_=>ce|.yr g v f a,S=>match S with|.Return (al<|.Call (.Name t _) [.Name w b,.Call (.Name x _) (e::es) [] _] [] _) _::_=>decide (t=(g))&&(d.gl t&&(decide (x=(f))&&(d.gl x&&(mE d v (.Name w b)&&uS d a (e::es)))))|_=>ce
 |.B5 _ _,_=>ce|.cq o m a,S=>match S with|.Expr (.Call (.Attribute (.Name y b) x c) (e::es) [] pos) _::_=>decide (x=(m))&&(mE d o (.Name y b)&&(uS d a (e::es)&&((c.endLine==pos.line)&&decide (es.length<28))))|_=>ce
 |.ur c a r,S=>match S with|.If t l [] _::rest=>mE d c t&&mX d a l&&mX d r rest|_=>ce
 |.yf _ _ _,_=>ce|.seq s b,S=>match S with|x::rest=>mS d s x&&mX d b rest|_=>ce
 |.vI tg it b x,S=>match S with|.For a iter l [] _::_=>CZ d tg a&&mI d a it iter&&vg d b l&&mX d x l|_=>ce
 |.tj c b x,S=>match S with|.While t l [] _::_=>mE d c t&&vg d b l&&mX d x l|_=>ce
noncomputable def yc:rT->Bool|.alt a b=>yc a&&yc b|.ur _ a r=>yc a&&yc r|.yf _ a r=>yc a&&yc r|.seq _ b=>yc b|.vI _ _ _ _=>ce|.tj _ _ _=>ce|_=>bY
noncomputable def w8:rT->Bool|.alt a b=>w8 a&&w8 b|.uR _=>ce|.ur _ a r=>w8 a&&w8 r|.yf _ a r=>w8 a&&w8 r|.seq _ b=>w8 b|.vI _ _ _ x=>w8 x|.tj _ _ x=>w8 x|_=>bY
def Dj(Γ:Gm)(mg:yC)(C:Nat->Addr)(s:oq)(H:Hp)(c:String)(b:oq)(E:XK):Prop:=∀d H' a Cc,Gr C s H d b H'->s.length<=b.length->Rp Γ d H' b->mg (c)=al (.ref Cc)->E (.ref a) (al Cc) H'
def wV(Γ:Gm)(mg:yC)(m:ow->oq->Option (String×oq))(E:XK):TS:=λ_ W H=>∃C U s c a,RE Γ C H s.length U W/\Rp Γ C H s/\m U s=al (c,a)/\Dj Γ mg C s H c a E
def DQ(Γ:Gm)(mg:yC)(x:List ot->oq->Option (String×oq)):Sp:=λvs H _ E=>∃C s l c a,Rp Γ C H s/\ei Γ C H l vs/\ou s.length l=bY/\x l s=al (c,a)/\Dj Γ mg C s H c a E
theorem Dj.trans(h:Dj Γ mg C s H c s' E)(g:Gr C s H C1 s1 J)(l:s.length<=s1.length):Dj Γ mg C1 s1 J c s' E:=λb H' a Cc c d p m=>h b H' a Cc (g.trans c l) (au l d) p m
theorem PA.nox(h:PA X.nox e t):PA X e t:=λpos J s W H Q I a=>bD (h pos J s W H Q (I.sC _) a) (λ_ _⟨v,H',a,r,q⟩=>⟨v,H',a.la,r,q⟩) λ_ _ z=>bh z
theorem PS.nox{st}(h:PS X.nox st t):PS X st t:=λJ s W H D I a=>bD (h J s W H D (I.sC _) a) (λ_ _ q=>q.la) λ_ _ z=>bh z
def BP(Γ:Gm)(prog:aG)(w:World)(K:ac)(mg:yC)(base:Heap)(F:oG)(n:Nat):Prop:=(∀f:String,(∀l s,F.xcall f l s=aT)\/∃a b ps,k6 prog w K mg base (u3 prog w) n a b ps (DQ Γ mg<|F.xcall f)/\mg (f)=al (.ref a)/\bR K (.ref a)=bY/\Binds K b ps [])/\∀c m:String,(∀l s,F.xm c m l s=aT)\/∃Cc a b ps,Γ.cls c=al Cc/\vp K Cc/\Meth K Cc (m) a/\k6 prog w K mg base (u3 prog w) n a b ps (DQ Γ mg<|F.xm c m)/\Binds K b ps []
section
variable{Γ:Gm}{F:oG}{n:Nat}{X:Cx}{ck:Ck}{a Cc:Addr}{oe:Obj}
set_option tactic.hygienic true in def TB(G:CG Γ F n X.nox ck)(a:BP Γ X.prog X.w X.K X.mg X.base F n)(Z:qz (u3 X.prog X.w) X E){f:String}{es:yK}(b:ck.gl (f:Str)=bY)(m:uS ck J (e::es)=bY):∃t,PE X (.Call (.Name (f) p) (e::es) [] pos) t/\∀D W H Q,wV Γ X.mg (oQ F<|.call f J) E D W H->t W H Q:=by
 refine AI (G.gl b) λg1 d b=>?_;rcases a.1 f with b|⟨a,a,ps,g,i,j,k⟩
 .refine Ac (λ_ _ _=>False) (λ_ _ _ _ _ _ z=>z.elim) (λD W H Q q=>AG q λC U s c a Y R h q=>?_);change(match oK F J U s with|.ok l s1=>F.xcall f l s1|_=>aT)=_ at h;split at h;.rw[b]at h;cases h
  .cases h
 .have hs:=j7 m;have a:=(CU J _ X.nox ck G m).nox;refine Ac _ (Jn g G.room g1 i j k .nil Z a d (ze<|hs e<|ao ..) (zu λx a=>hs x<|ah _ a).1) (λD W H Q q=>AG q λC U s c a Y R h q=>?_);change(match oK F J U s with|.ok l s1=>F.xcall f l s1|_=>aT)=_ at h;split at h;.rename_i l s1 e1;refine⟨C,U,s,l,s1,Y,R,e1,λvs b d g1 e g i j=>?_⟩;show DQ Γ X.mg (F.xcall f) (vs++[]) d Q E;rw[aZ];exact⟨b,s1,l,c,a,j,i,g,h,q.trans g1 e⟩
  .cases h
set_option tactic.hygienic true in def Sd(G:CG Γ F n X.nox ck)(h:BP Γ X.prog X.w X.K X.mg X.base F n)(k:qz (u3 X.prog X.w) X E){b:pz}{m:String}{Y:o6}{e:Expr}{es:yK}{y:Str}{f a pos:Pos}(n:mE ck b (.Name y f)=bY)(g:uS ck Y (e::es)=bY)(o:(a.endLine==pos.line)=bY)(c:es.length<28):PE X (.Call (.Attribute (.Name y f) (m:Str) a) (e::es) [] pos) λW H _=>∃D,wV Γ X.mg (oQ F<|.cq b m Y) E D W H:=by
 refineλa1 sh W H Q I q=>AJ q λD C U Zz=>AK Zz λs t u i R d q=>?_;change(match(oz F b U s).bind λx s=>(rR x s).bind λc s=>(oK F Y U s).bind λl s=>.ok (c,x::l) s with|.ok p s1=>F.xm p.1 m p.2 s1|_=>aT)=_ at d;split at d;case h_2=>cases d
 rename_i p s4 a;refine AD (fE a) λx s1 p a=>AD (fE a) λc j e2 a3=>AD (fE a3) λl r v r=>?_;cases r;obtain⟨r,fs,rfl,w,rfl⟩:=P8 e2;rcases h.2 c m with a|⟨Cc,a,a,ps,z,hcl,h,a,c⟩;.simp_all
 have J:=j7 g;have A:ku ((e::es).length+([]:List fx).length) (cV pos<|be (e::es) X.env) (fw pos<|di [] X.env)=true:=by show((cV pos<|be (e::es) X.env).all (λx=>!x.1)&&(fw pos<|di [] X.env).all (λx=>x.1.isSome)&&decide ((e::es).length+([]:List fx).length+(if([]:List fx).isEmpty then 0 else 1)<30))=bY;rw[(zu J).2];simp only[dr,af,iS];exact⟨rfl,by simp;lia⟩
 refine AF (QL (x:=y) (px:=f) (m:=(m:Str)) A o) λpl f=>have m:=(sE b _ X.nox ck G n).1;have b:PA X (e::es) (s6 Γ<|oK F Y):=(CU Y _ X.nox ck G g).nox;Mv (X:=X) (pl:=pl) (PE.nox m) hcl h a G.room c .nil k b (ze<|J e<|ao ..) (zu λe a=>J e<|ah _ a).1 f a1 sh W H Q I ⟨C,U,s,.ref r,j,i,R,p,λa b a c a e f g=>?_⟩;obtain⟨k,k,m,⟨n,o⟩,Z,o,p⟩:=g.obj r _ w;cases z▸n;rw[<-G.K]at Z;exact⟨b r,k,m,f.hW,o,Jz h Z,b,U,j,l,s4,i.mono c a,g,v,λvs h H2 b g i j R2=>⟨h,s4,.ref r::l,t,u,R2,.cons (RV.mono b _ _ e f) (by simp_all),by rw[ou,i,zm g _ e];rfl,d,q.trans (c.trans b a) (au a g)⟩⟩
set_option tactic.hygienic true in def Ug{mI:ow->oq->oy pI}{mx}(h:wV Γ mg (λU s=>match mI U s with|.ok q s0=>rU (λs=>pf s0 s q.src) (λd U s=>match oV U tg d with|some U=>mb U s|none=>.B) (λd U s=>match oV U tg d with|some U=>mx U s|none=>aT) q.its U s0|_=>aT) E D0 W H):HQ (u9 Γ mI) (zk Γ.K tg) (λD W H=>q7 Γ mb D W H\/wV Γ mg mx E D W H) D W H:=by
 refine AG h λC U s c p a R b k=>?_;dsimp only at b;split at b;case h_2=>grind
 rename_i q s0 e1;refine⟨C,U,s,q,s0,a,R,e1,λJ h j r l o n u=>Ac (λi m f H'=>∃e b t,Gr h s0 j e t H'/\Rp Γ e H' t/\RE Γ e H' t.length b f/\i<=q.its.length/\m=q.its.length-i/\rU (λs=>pf s0 s q.src) (λd U s=>match oV U tg d with|some U=>mb U s|none=>.B) (λd U s=>match oV U tg d with|some U=>mx U s|none=>aT) (q.its.drop i) b t=al (c,p)) (Ae q.its.length ?_) ?_⟩;.exact Aw h U s0 (Gr.refl _ _ _) n (a.mono r l) (cz _) (by simp) (by simp_all)
 .rintro i m f H'⟨e,b,t,g,R',E',hil,rfl,hc⟩;have f:=g.le;rcases iB i q.its.length with a|m
  .have hd:=aj a;rw[cO a]at hc;unfold rU at hc;split at hc;case isFalse=>lia
   rename_i d;refine AB ((u e H' t g f R' d i).1 a) λa3 d=>.inr<|Aj a3 _ (λn H2 n=>Ac (q.its.length-(i+1)) (by omega) n) (λx H2 n=>AB (d x H2 n) λsm d=>AB (R'.same sm) λg2 R2=>?_);have n:=d _ hd;cases d:oV b tg q.its[i]with|none=>simp_all|some i=>
    rw[d]at hc;refine F1 (E'.mono g2<|ak _) n (zm f _<|ER o hd) d λb n=>?_;have q:∀{d}{b},mb i t=.ok d b->(∀d Y,Gr e t H2 d b Y->t.length<=b.length->Rp Γ d Y b->Gr h s0 j d b Y):=λ_ d Y h j Z=>(g.trans g2 f).trans h f;split at hc;.rename_i U1 b hs;exact .inl ⟨e,i,t,.next U1,b,n,R2,hs,λd Y h j Z s o=>Aw d U1 b (q hs d Y h j Z) Z o a rfl hc⟩
    .rename_i U1 b hs;exact .inl ⟨e,i,t,.cont U1,b,n,R2,hs,λd Y h j Z s o=>Aw d U1 b (q hs d Y h j Z) Z o a rfl hc⟩
    .grind
    .exact .inr ⟨e,i,t,c,p,n,R2,hc,k.trans (r.trans (g.trans g2 f) l) (au l f)⟩
  .cases fJ m▸hc
set_option tactic.hygienic true in def ZM{mx}(h:wV Γ mg (DV.tj mc mb mx) E D0 W H):Ip (tM Γ mc) (λD W H=>q7 Γ mb D W H\/wV Γ mg mx E D W H) D W H:=by
 refine AG h λC U s c e b R J q=>?_;unfold DV.tj at J;split at J;case isFalse=>cases J
 rename_i a;generalize a.choose=n at J;refine⟨λn W H=>∃C U s,RE Γ C H s.length U W/\Rp Γ C H s/\DV.qo mc mb mx n U s=al (c,e)/\Dj Γ mg C s H c e E,⟨n,C,U,s,b,R,J,q⟩,?_⟩;clear b R J q a;rintro n W H⟨C,U,s,b,R,J,q⟩;cases n with|zero=>cases J|succ n=>
  unfold DV.qo at J;split at J;case h_2=>cases J
  rename_i s1 a;refine⟨C,U,s,bY,s1,b,R,a,λf a d a g=>?_⟩;show if bY=bY then _ else _;rw[ef rfl];refine Ac _ (λh H' w=>Ac n (dC n) w) ?_;split at J;.rename_i U1 s2 e2;exact .inl ⟨f,U,s1,.next U1,s2,b.mono d a,g,e2,λh H2 Z Y R2 j i=>Ak h U1 s2 i R2 J<|q.trans (d.trans Z a) (au a Y)⟩
  .rename_i U1 s2 e2;exact .inl ⟨f,U,s1,.cont U1,s2,b.mono d a,g,e2,λh H2 Z Y R2 j i=>Ak h U1 s2 i R2 J<|q.trans (d.trans Z a) (au a Y)⟩
  .cases J
  .exact .inr ⟨f,U,s1,c,e,b.mono d a,g,J,q.trans d a⟩
set_option tactic.hygienic true in def Yk(G:CG Γ F n X.nox ck)(j:BP Γ X.prog X.w X.K X.mg X.base F n)(k:qz (u3 X.prog X.w) X E){g f:String}{v:pz}{b:o6}{w:Str}{Y pt px i pos:Pos}{e:Expr}{es:yK}(h2:ck.gl (g:Str)=bY)(m:ck.gl (f:Str)=bY)(n:mE ck v (.Name w Y)=bY)(o:uS ck b (e::es)=bY):PE X (.Call (.Name (g:Str) pt) [.Name w Y,.Call (.Name (f:Str) px) (e::es) [] i] [] pos) λW H _=>∃D,wV Γ X.mg (oQ F<|.yr g v f b) E D W H:=by
 refine AI (G.gl h2) λg1 u a=>?_;rcases G.call g with e|⟨a,a,ps,x,y,A,B⟩
 .refineλJ s W H Q I q=>AJ q λD C U Zz=>AK Zz λs c a Z R h q=>?_;change(match(oz F v U s).bind λ_ s=>oK F b U s with|.ok l s1=>if@decide (∃l t,F.call g l t≠DV.R.B) (bU _)=bY then F.xcall f l s1 else aT|_=>aT)=_ at h;split at h
  .split at h;.rename_i hd;exact AZ (@dO _ (bU _) hd) λl t a=>iN (e l t) a
   .cases h
  .cases h
 .refine AE (TB (p:=px) (pos:=i) G j k m o) λt a e=>have pv:PE X (.Name w Y) (ek Γ<|oz F v):=λJ s W H Q I c=>bD ((sE v _ X.nox ck G n).1 J s W H Q (I.sC _) c) (λ_ _⟨v,H',c,r,q⟩=>⟨v,H',c.la,r,q⟩) λ_ _ z=>bh z;(Jn (X:=X) x G.room g1 y A B .nil CF (zK pv (zK a wN<|ze rfl) (ze rfl)) u (ze rfl) (zu<|λx a=>by rw[aI.mp a];rfl).1).imp λW H Q q=>AJ q λD C U Zz=>AK Zz λs c a Z R h q=>?_;change(match(oz F v U s).bind λ_ s=>oK F b U s with|.ok l s1=>if@decide (∃l t,F.call g l t≠DV.R.B) (bU _)=bY then F.xcall f l s1 else aT|_=>aT)=_ at h;split at h;case h_2=>cases h
  rename_i l s1 g;split at h;case isFalse=>cases h
  refine AD (fE g) λd s0 g i=>⟨C,U,s,d,s0,Z,R,g,λu g j g1 d k k k=>e D W j _ ⟨g,U,s0,c,a,Z.mono g1 d,k,?_,q.trans g1 d⟩⟩;change(match oK F b U s0 with|.ok l s1=>F.xcall f l s1|_=>aT)=_;exact i▸h
set_option tactic.hygienic true in theorem Ba(G:CG Γ F n X.nox ck)(xc:XC F X.K X.mg)(XO:BP Γ X.prog X.w X.K X.mg X.base F n)(hp:qz (u3 X.prog X.w) X E):∀(b:rT)(S:yL),(w8 b=bY\/DE X E)->(yc b=bY\/kx (model X.prog X.w) X.A X.env X.xe)->mX ck b S=bY->sR X S (wV Γ X.mg (oQ F b) E)
 |.no,S,_,_,h=>λJ s W H D I q=>AG q λ_ _ _ _ _ _ _ z _=>by cases z|.kind,S,_,_,h=>λJ s W H D I q=>AG q λ_ _ _ _ _ _ _ z _=>by cases z|.alt a b,S,hT,Uu,h=>λJ s W H D I q=>by refine AB (zl h) λZ Y=>AG q λC U s0 c s' Ev R z q=>?_;have z:(match oQ F a U s0 with|some r=>al r|none=>oQ F b U s0)=al (c,s'):=z;cases e:oQ F a U s0 with|some r=>rw[e]at z;exact Ba G xc XO hp a S (hT.imp_left λz=>(zl z).1) (Uu.imp_left λz=>(zl z).1) Z J s W H D I ⟨C,U,s0,c,s',Ev,R,e.trans z,q⟩|none=>rw[e]at z;exact Ba G xc XO hp b S (hT.imp_left λz=>(zl z).2) (Uu.imp_left λz=>(zl z).2) Y J s W H D I ⟨C,U,s0,c,s',Ev,R,z,q⟩
 |.uR c,S,hT,_,h=>by have hT:DE X E:=hT.elim (λz=>by cases z) id;cases hx:F.xc c with|false=>refineλJ s W H D I q=>AG q λ_ _ s _ _ _ _ z _=>?_;change(if F.xc c=bY then al (c,s)else aT)=_ at z;simp_all|true=>cases S with|nil=>exact ff h|cons st S=>cases st with
    |Raise v k p=>cases v with|none=>exact ff h|some v=>cases v with
      |Call g xs kw pc=>cases g with
       |Name x pn=>cases xs with|nil=>exact ff h|cons y xs=>cases y with
         |Constant cv j py=>cases cv with
          |str t=>cases xs with|cons _ _=>exact ff h|nil=>cases kw with|cons _ _=>exact ff h|nil=>cases k with|some _=>exact ff h|none=>refine AB (zl h) λZ Y=>?_;have e:=dO Z;subst e;refine AI (G.gl Y) λg1 g2 g3=>AH (xc.at_ c hx) λCc hC hE _=>(zM (UZ hT hE g1 hC G.room.hd g2) jf).imp λD W H q a=>AG q λC U s c' s' Ev R hm q=>?_;change(if F.xc c=bY then al (c,s)else aT)=_ at hm;rw[hx,ef rfl]at hm;cases hm;exact q C H a Cc (Gr.refl C s H) (ak _) R hC
          |_=>exact ff h
         |_=>exact ff h
       |_=>exact ff h
      |_=>exact ff h
    |_=>exact ff h
 |.yr g v f as,S,_,_,h=>by cases S with|nil=>exact ff h|cons st S=>cases st with
   |Return vo p=>cases vo with|none=>exact ff h|some vo=>cases vo with
     |Call g1 xs kw pc=>cases g1 with
      |Name t0 pt=>cases xs with|nil=>exact ff h|cons y ys=>cases y with
        |Name w wp=>cases ys with|nil=>exact ff h|cons y ys=>cases y with
          |Call g2 xs2 kw2 pc2=>cases g2 with
           |Name x pn=>cases xs2 with|nil=>exact ff h|cons e es=>cases kw2 with|cons _ _=>exact ff h|nil=>cases ys with|cons _ _=>exact ff h|nil=>cases kw with|cons _ _=>exact ff h|nil=>refine AB (zl h) λZ h=>AB (zl h) λY h=>AB (zl h) λh3 h=>AB (zl h) λh4 h=>AB (zl h) λh5 h6=>?_;have e1:=dO Z;have e2:=dO h3;subst e1 e2;exact(zM (Co<|Yk G XO hp Y h4 h5 h6) jf).imp λD W H q=>⟨_,q⟩
           |_=>exact ff h
          |_=>exact ff h
        |_=>exact ff h
      |_=>exact ff h
     |_=>exact ff h
   |_=>exact ff h
 |.B5 _ _,S,_,_,h=>ff h|.cq o m as,S,_,_,h=>by cases S with|nil=>exact ff h|cons st S=>cases st with
   |Expr v p=>cases v with
    |Call g xs kw pc=>cases g with
     |Attribute v x ap=>cases v with
      |Name y py=>cases xs with|nil=>exact ff h|cons e es=>cases kw with|cons _ _=>exact ff h|nil=>refine AB (zl h) λZ h=>AB (zl h) λY h=>AB (zl h) λh3 h=>AB (zl h) λh4 h5=>?_;have e:=dO Z;subst e;exact(zM (Ml<|Sd G XO hp Y h3 h4<|dO h5) jf).imp λD W H q=>⟨_,q⟩
      |_=>exact ff h
     |_=>exact ff h
    |_=>exact ff h
   |_=>exact ff h
 |.call _ _,S,_,_,h=>ff h|.ur c a r,S,hT,Uu,h=>by cases S with|nil=>exact ff h|cons st S=>cases st with
   |If t l o p=>cases o with|cons _ _=>exact ff h|nil=>
     refine AB (zl h) λh h3=>AB (zl h) λZ Y=>have hT1:w8 a=bY\/DE X E:=hT.elim (λz=>.inl (zl z).1) .inr;have a0:w8 r=bY\/DE X E:=hT.elim (λz=>.inl (zl z).2) .inr;have a2:yc a=bY\/_:=Uu.elim (λz=>.inl (zl z).1) .inr;have a1:yc r=bY\/_:=Uu.elim (λz=>.inl (zl z).2) .inr;(zM (Nb (sE c _ X.nox ck G Z).2.nox (Ba G xc XO hp a _ hT1 a2 Y) GY) (Ba G xc XO hp r _ a0 a1 h3)).imp λD W H q=>AG q λC U s c' s' Ev R hm q=>?_;change(match oz F c U s with|.ok (.T b) s1=>if b then oQ F a U s1 else oQ F r U s1|_=>aT)=_ at hm;split at hm;.rename_i b s1 e1;refine⟨C,U,s,b,s1,Ev,R,e1,λC1 H1 g1 l1 R1=>?_⟩;cases b with|true=>exact⟨C1,U,s1,c',s',Ev.mono g1 l1,R1,hm,q.trans g1 l1⟩|false=>exact⟨C1,U,s1,c',s',Ev.mono g1 l1,R1,hm,q.trans g1 l1⟩
     .cases hm|_=>exact ff h
 |.yf _ _ _,S,_,_,h=>ff h|.seq st b,S,hT,Uu,h=>by cases S with|nil=>exact ff h|cons x S=>
   refine AB (zl h) λZ Y=>(zM (sS st _ X.nox ck G Z).nox<|Ba G xc XO hp b _ hT Uu Y).imp λD W H q=>AG q λC U s c' s' Ev R hm q=>?_;change(match DV.ex F st U s with|.ok (.next U1) s1=>oQ F b U1 s1|_=>aT)=_ at hm;split at hm;.rename_i U1 s1 e1;exact⟨C,U,s,.next U1,s1,Ev,R,e1,λC1 H1 g1 l1 R1 W1 a3=>⟨C1,U1,s1,c',s',a3,R1,hm,q.trans g1 l1⟩⟩
   .cases hm|.vI tg it b x,S,hT,Uu,h=>by have Uu:kx (model X.prog X.w) X.A X.env X.xe:=Uu.elim (λz=>by cases z) id;cases S with|nil=>exact ff h|cons st S=>cases st with
   |For tgt iter l o p=>cases o with|cons _ _=>exact ff h|nil=>exact AB (zl h) λh h4=>AB (zl h) λh h3=>AB (zl h) λZ Y=>have hb:sR X l<|λD W H=>q7 Γ (ph F b) D W H\/wV Γ X.mg (oQ F x) E D W H:=λJ s W H D I q=>q.elim (λz=>(yO b _ X.nox ck G h3).nox J s W H D I z) (λz=>Ba G xc XO hp x _ hT (.inr Uu) h4 J s W H D I z);have hi:PI X tgt iter<|u9 Γ<|pQ F it:=(sI it _ _ X.nox ck G Y).nox;have hg:PG X tgt<|zk Γ.K tg:=(Gh G Z).nox;(zM (NN Uu G.calm hi hg hb<|Gn<|Nw Y) jf).imp λD W H q=>Ug (mI:=pQ F it) (mb:=ph F b) (mx:=oQ F x) (tg:=tg) (q:wV Γ X.mg _ E D W H)
   |_=>exact ff h
 |.tj c b x,S,hT,Uu,h=>by have Uu:kx (model X.prog X.w) X.A X.env X.xe:=Uu.elim (λz=>by cases z) id;cases S with|nil=>exact ff h|cons st S=>cases st with
   |While t l o p=>cases o with|cons _ _=>exact ff h|nil=>exact AB (zl h) λh h3=>AB (zl h) λZ Y=>have hb:sR X l<|λD W H=>q7 Γ (ph F b) D W H\/wV Γ X.mg (oQ F x) E D W H:=λJ s W H D I q=>q.elim (λz=>(yO b _ X.nox ck G Y).nox J s W H D I z) (λz=>Ba G xc XO hp x _ hT (.inr Uu) h3 J s W H D I z);(zM (Pw Uu (sE c _ X.nox ck G Z).2.nox hb) jf).imp λD W H q=>ZM (mc:=oz F c) (mb:=ph F b) (mx:=oQ F x) (q:wV Γ X.mg _ E D W H)
   |_=>exact ff h
def Zl(hx:X.xe=λ_ _=>False)(h:sR X tb t):PS X (.Try tb (h₀::hs) [] [] p) t:=by
 refineλJ s W H D I q=>l7<|bD (h J s W H D I q) (λf s1 z=>?_) (λe s1 z=>?_);.cases f with|next=>exact dN z|_=>exact z
 simp_all
noncomputable def Ky(h:DV.Hd)(S:yL):Bool:=match h with|.Bs b=>(match S with|[.Return (al<|.Constant (.bool b') _ _) _]=>decide<|b'=b|_=>ce)|.zi=>(match S with|[.Return (al<|.List [] _) _]=>bY|_=>ce)|.xC=>(match S with|[.Return (al<|.Constant .none _ _) _]=>bY|_=>ce)|_=>ce
def Kj:DV.Hd->TS|.Bs b=>λD W H=>D.rt (.T b) H|.xC=>λD W H=>D.rt .N H|.zi=>λD W H=>∀p,H p=aT->D.rt (.ref p) (upd H p<|.J [])|_=>λ_ _ _=>False
def RA{h:DV.Hd}{S:yL}(m:Ky h S=true):sR X S<|Kj h:=by cases h with
 |Bs b=>cases S with|nil=>exact ff m|cons s S=>cases s with
   |Return vo p=>cases vo with|none=>exact ff m|some v=>cases v with
     |Constant k j pk=>cases k with
      |bool b'=>cases S with|cons _ _=>exact ff m|nil=>have e:=of_decide_eq_true m;subst e;exact(Jl<|Co Ls).imp λD W H q=>q
      |_=>exact ff m
     |_=>exact ff m
   |_=>exact ff m
 |xC=>cases S with|nil=>exact ff m|cons s S=>cases s with
   |Return vo p=>cases vo with|none=>exact ff m|some v=>cases v with
     |Constant k j pk=>cases k with
      |none=>cases S with|cons _ _=>exact ff m|nil=>exact(Jl<|Co Np).imp λD W H q=>q
      |_=>exact ff m
     |_=>exact ff m
   |_=>exact ff m
 |zi=>cases S with|nil=>exact ff m|cons s S=>cases s with
   |Return vo p=>cases vo with|none=>exact ff m|some v=>cases v with
     |List vs pl=>cases vs with
      |cons _ _=>cases S with|nil=>exact ff m|cons _ _=>exact ff m
      |nil=>cases S with|cons _ _=>exact ff m|nil=>exact(Jl<|Co<|Ig wN).imp λD W H q=>⟨cz _,λp J=>q p J⟩
     |_=>exact ff m
   |_=>exact ff m
 |_=>exact ff m
noncomputable def EN(Cc:Addr)(th:TS)(D:Ends):XK:=λ_ o H'=>o=al Cc/\∀W,th {nx:=λ_ _=>False,rt:=D.rt} W H'
def UP{Z:yL}(a4:X.ex=[])(a6:X.stack=X.env::X.outer)(b0:X.env.frame=al X.env.locals)(hc:sT X.K Cc)(hg:Gl X x)(hm:X.mg x=al (.ref Cc))(hd:(x==("__debug__":Str))=ce)(a3:∀(pn:yA)(Ww:Value->ag->Prop)(E:XK),qz (u3 X.prog X.w) {X with pn:=pn,xe:=Ww} E->sR {X with pn:=pn,xe:=Ww} tb (wV Γ X.mg m E))(a5:∀a oe,oe.cls=.ref Cc->sR (X.wA a oe) (b₀::Z) th):PS X (.Try tb (.ExceptHandler (al<|.Name x np) aT (b₀::Z) a2::hs) [] [] p) (λD W H=>wV Γ X.mg m (EN Cc th D) D W H):=by
 intro Uu s W H D I q;let Ww:=λe s₁=>wpAny (model X.prog X.w) X.A (lU e X.env) (λ_ s₂=>wpAny (model X.prog X.w) X.A (nG e aT) (λ_ s₃=>wpAny (model X.prog X.w) X.A (handleBy e X.env<|.ExceptHandler (al<|.Name x np) aT (b₀::Z) a2::hs) (SP X Uu D) X.xe s₃) X.xe s₂) X.xe s₁;have b1:({X with pn:=X.pn++Uu,xe:=Ww}).Ok:=⟨I.ok.mod,I.ok.kind,I.ok.glob,I.ok.blt,I.ok.above,I.ok.inj,I.ok.has,I.ok.cab,I.ok.hd,I.ok.frames,I.ok.Bl,I.ok.exf,I.ok.bs,I.ok.bsz,I.ok.noex,I.ok.exfs,I.ok.sJ,I.ok.frf⟩;have Y:∀{a1}{W'}{H'}{s'},Inv {X with pn:=X.pn++Uu,xe:=Ww} a1 W' H' s'->Inv X Uu W' H' s':=λJ=>⟨I.ok,J.os,J.bare,J.base,J.loc,J.cell,J.free,J.freeC,λp hp=>J.pin p<|bq _ hp,J.hok,J.len⟩;have hp:qz (u3 X.prog X.w) {X with pn:=X.pn++Uu,xe:=Ww}<|EN Cc th D:=λa1 W' H' s' e b3 J h=>by obtain⟨a,Cc',b2,rfl,T,eC,hq⟩:=u3.tr J a4 h;cases eC;exact AJ T.tr λa0 oe vs Zz=>AK Zz λT0 oT ts h1 h2 h3 Zz=>AW Zz λh4 h5 h6 a8 h7=>WR ⟨Y T.inv,T.n0,T.nH,λp hp=>T.np p<|bq _ hp,a0,oe,vs,T0,oT,ts,h1,h2,h3,h4,h5,h6,λp hp=>a8 p<|bq _ hp,h7⟩ a4 a6 b0 hc hg hm hd (a5 a) (hq W')
 refine l7<|bD (a3 _ Ww _ hp [] s W H D ⟨b1,I.os,I.bare,I.base,I.loc,I.cell,I.free,I.freeC,λp hp=>I.pin p<|by rw[aZ]at hp;exact hp,I.hok,I.len⟩ q) (λf s1 z=>?_) (λe s1 z=>z);cases f with|next=>exact AD z λW1 H1 J z=>dN ⟨W1,H1,Y J,z⟩|brk=>exact AD z λW1 H1 J z=>⟨W1,H1,Y J,z⟩|cont=>exact AD z λW1 H1 J z=>⟨W1,H1,Y J,z⟩|ret u=>exact AR z λv W1 H1 J r z=>⟨v,W1,H1,Y J,r,z⟩
end
section
variable{F:oG}{X:Cx}{ck:Ck}{a Cc:Addr}{oe:Obj}
end
section
variable{Γ:Gm}
def JD(R:Rp Γ C H s)(g:Gr C s H C1 s1 J)(a:rD s s1=bY)(hi:i<s.length)(e:s1[i]?=al o):o.eu s.length=true:=by
 unfold rD at a;have:=aK.mp a i<|bI.mpr hi;rw[e,cf]at this;rcases this with h|h;.exact R.wf i o (dO h).symm
 .exact h
def jp{s1:oq}(e:(s1.take k)[i]?=al o):i<k/\s1[i]?=al o:=by
 rw[List.getElem?_take]at e;split at e;.exact⟨‹_›,e⟩
 .cases e
def aZ6(R:Rp Γ C H s)(g:Gr C s H C1 s1 h)(a:Rp Γ C1 h s1)(d:rD s s1=bY):Gr C s H C1 (s1.take s.length) h/\Rp Γ C1 h (s1.take s.length):=by
 have J:(s1.take s.length).length=s.length:=by rw[bL];have:=g.le;lia
 refine⟨⟨g.w,by rw[J];exact ak _,λi Z Y=>by rw[J]at Y;lia,λi o b e c=>g.kd i o b e (jp c).2,g.st,g.fz,g.fr⟩,λi j o b e c m f z=>a.inj i j o b (jp e).2 (jp c).2 m f z,λi o e=>a.obj i o (jp e).2,λi o e=>?_,a.tab⟩;rw[J];exact JD R g d (jp e).1 (jp e).2
set_option tactic.hygienic true in def qB(R:Rp Γ C H s)(g:Gr C s H C1 s1 Uu)(c:Rp Γ C1 Uu s1)(b:v0.eu s1.length=bY)(r:RV Γ C1 Uu v0 v)(h:p9 s v0 s1=.ok d s'):∃a,Gr C s H a s' Uu/\s.length<=s'.length/\d.eu s'.length=bY/\RV Γ a Uu d v/\Rp Γ a Uu s':=by
 have all:d=v0->s'=s1->∃a,Gr C s H a s' Uu/\s.length<=s'.length/\d.eu s'.length=bY/\RV Γ a Uu d v/\Rp Γ a Uu s':=λe f=>by subst e;subst f;exact An C1 g g.le b r c
 unfold p9 at h;split at h;case isFalse=>cases h;exact all rfl rfl
 rename_i l;refine AB (aZ6 R g c l) λgt i=>?_;have Z:(s1.take s.length).length=s.length:=by rw[bL];have:=g.le;omega
 have tk:d=v0->s'=s1.take s.length->v0.eu s.length=bY->∃a,Gr C s H a s' Uu/\s.length<=s'.length/\d.eu s'.length=bY/\RV Γ a Uu d v/\Rp Γ a Uu s':=λe f b=>by subst e;subst f;exact An C1 gt (by rw[Z];exact ak _) (by rw[Z];exact b) r i
 split at h
 .rename_i k;split at h;.cases h;exact tk rfl rfl<|by unfold oB;exact gv ‹_›
  .rename_i hk;split at h
   .rename_i o eo;split at h
    .rename_i a0;cases h;have p:Gw C1 s.length Uu (λi=>if i=s.length then C1 k else C1 i) Uu:=⟨λi hi=>gc<|aJ hi,Kp.refl _⟩;have key:∀i Y,(s1.take s.length++[o])[i]?=al Y->(i<s.length/\s1[i]?=al Y)\/(i=s.length/\Y=o):=λi Y e=>by
      rcases gS i s.length with h|h|h;.rw[aC<|by rw[Z];exact h]at e;exact .inl<|jp e
      .subst h;rw[am<|by rw[Z];exact ak _,Z,iC]at e;exact .inr<|Ad rfl (az e).symm
      .rw[b9<|by rw[aN,Z];simp;lia]at e;cases e
     have J:(s1.take s.length++[o]).length=s.length+1:=by rw[aN,Z];rfl
     refine An (λi=>if i=s.length then C1 k else C1 i) ⟨⟨λi hi=>?_,g.w.kp⟩,by rw[J];lia,λi a h2=>?_,λi a Y e f=>?_,g.st,g.fz,g.fr⟩ (by rw[J];omega) (by unfold oB;rw[J];exact gv<|dC _) ?_ ⟨λi j b d a2 q m n e=>?_,λi Y e=>?_,λi Y e=>?_,c.tab⟩;.skip;rw[gc<|aJ hi];exact g.w.map i hi
     .rw[J]at h2;skip;rw[ef<|by lia];exact g.new k (by lia) (ae.mp eo).1
     .rcases key i Y f with⟨_,f⟩|⟨hi,_⟩;.exact g.kd i a Y e f
      simp_all
     .rw[r.hW];unfold RV;lia
     .rcases key i b a2 with⟨hi,f⟩|⟨hi,r⟩<;>rcases key j d q with⟨a,o⟩|⟨a,q⟩;.rw[gc<|aJ hi,gc<|aJ a]at e;exact c.inj i j b d f o m n e
      .rw[gc<|aJ hi,ef a]at e;subst q;have:=c.inj i k b _ f eo m n e;lia
      .rw[gc<|aJ a,ef hi]at e;subst r;have:=c.inj k j _ d eo o m n e;lia
      .rw[hi,a]
     .rcases key i Y e with⟨hi,e⟩|⟨hi,rfl⟩;.skip;rw[gc<|aJ hi];exact(c.obj i Y e).mono p (JD R g l hi e) λ_ u a=>a
      .skip;rw[ef hi];exact(c.obj k _ eo).mono p a0 λ_ u a=>a
     .rw[J];rcases key i Y e with⟨hi,e⟩|⟨_,rfl⟩;.exact qD (dG _) _<|JD R g l hi e
      .exact qD (dG _) _ a0
    .cases h;exact all rfl rfl
   .exact fb h
 .split at h;.cases h;exact tk rfl rfl ‹_›
  .cases h;exact all rfl rfl
structure vn(J:tZ)(L:pS):Prop where
 sc:si (J.ps++J.fr) J.ps J.fr J.scope
 ps:J.ps.length=L.ps
 fr:J.fr.length=L.cs
 m:mE (Dc (J.ps++J.fr) J.scope) L.body J.body=bY
 pa:sY J.params=al J.ps
 bind:∀(clos:yB)(doc pm:Value)(c':Addr)(ctv:Value)(us:yG),us.length=J.ps.length->eV (cE "<lambda>" J.qual J.params J.body J.scope clos pm (.ref c') ctv) ⟨us,[]⟩=pure (J.ps.zip us)/\∀(nm:Str)(rp:Pos),eV (cY nm J.qual J.params [.Return (al J.body) rp] J.scope clos .none .none doc pm aT (.ref c') ctv) ⟨us,[]⟩=pure (J.ps.zip us)
structure Fj(Γ:Gm)(cds:yF)(f:Str)(sc:Scope)(N:yH)(fd:bS)(id:String)(caps:List Nat)(params:bH)(body:Expr)(scope:Scope)(c P:Addr)(J:tZ):Prop where
 code:fd.code=.ref c
 cd:(c,P)∈cds
 ck:sG scope sc=bY
 fre:∀x,scope.names.lookup x=al .free->sc.names.lookup x=al .cell
 cel:∀y∈sc.names,y.2=.cell->sc.names.lookup y.1=al .cell
 df:∀env,mZ params env=([],[])lg:Γ.lg id J
 q:J.qual=f++".<locals>."++J.own
 p:J.params=params
 b:J.body=body
 s:J.scope=scope
 len:J.fr.length=caps.length
 at_:∀(i j:Nat)(x:Str),caps[i]?=al j->J.fr[i]?=al x->N[j]?=al x
 fr:∀x∈J.fr,scope.names.lookup x=al .free
 tab:(P,J.qual)∈Γ.T
def yT(Γ:Gm)(d:yF)(f:Str)(e:Scope)(N:yH)(g:bS)(lk:String->List Nat->Expr->Bool):Prop:=∀id b E,lk id b E=bY->∃c P a body scope pos J,E=sX J a body scope pos/\Fj Γ d f e N g id b a body scope c P J
def wZ(Γ:Gm)(b:yF)(mg:yC)(f:String)(c e:Nat)(m:Ck->List Stmt->Bool):Prop:=∃st N ps a d lk,vX Γ.K mg (f) st ps a d/\fP N ps (bb st)/\ps.length=c/\N.length=c+e/\m ⟨N,bb st,lk⟩ (eh st)=bY/\yT Γ b (f) (bb st) N d lk
def Good(Γ:Gm)(a:yF)(mg:yC)(f:String)(d:pd):Prop:=wZ Γ a mg f d.ps d.vs λa S=>vg a d.body S
def Kx(a:Ck)(d:rV)(S:yL):Bool:=match S with|st::rest=>(match st with|.Try tb b [] [] _=>(match b with|[b]=>(match b with|.ExceptHandler (al b) (al nm) c _=>ce|.ExceptHandler (al b) aT c _=>(match b,c with|.Name x _,b::c=>vg a d.body tb&&(mX a d.xb tb&&(w8 d.xb&&(yc d.xb&&(decide (x=(d.c:Str))&&(a.gl x&&(Ky d.h (b::c)&&vg a d.tl rest))))))|_,_=>ce)|_=>ce)|_=>ce)|_=>ce)|_=>ce
def FT(a:Ck):pP->List Stmt->Option (List Stmt)|.nil,S=>al S|.cons s b,S=>match S with|x::c=>(match mS a s x with|true=>FT a b c|false=>aT)|[]=>aT
def mT(a:Ck)(d:rV)(S:yL):Bool:=match FT a d.pre S with|some b=>Kx a d b|none=>ce
def BU(Γ:Gm)(c m:String)(d:pT):Prop:=∃st N ps a b Cc,(Γ.cls c=al Cc/\vp Γ.K Cc)/\Meth Γ.K Cc (m:Str) a/\w0 Γ.K (m:Str) ((c++"."++m:String):Str) st a b/\Binds Γ.K b ps []/\fP N ps (bb st)/\ps.length=d.ps/\N.length=d.ps+d.vs/\mX ⟨N,bb st,λ_ _ _=>ce⟩ d.body (eh st)=bY
def BV(Γ:Gm)(c m:String)(d:pd):Prop:=∃st N ps a b Cc,(Γ.cls c=al Cc/\vp Γ.K Cc)/\Meth Γ.K Cc (m:Str) a/\w0 Γ.K (m:Str) ((c++"."++m:String):Str) st a b/\Binds Γ.K b ps []/\fP N ps (bb st)/\ps.length=d.ps/\N.length=d.ps+d.vs/\vg ⟨N,bb st,λ_ _ _=>ce⟩ d.body (eh st)=bY
structure ud(Γ:Gm)(cds:yF)(P:oH)(mg:yC)(w:World):Prop where
 df:∀f d,P.df f=al d->Good Γ cds mg f d
 con:∀x d,P.con x=al d->∃v u,mg (x:Str)=al u/\RelV v u/\(∀m,d.eu m=bY)/\∀C H,RV Γ C H d v
 bi:∀x∈tK,mg x=aT
 fa:∀(f:String)(a:Addr),Γ.fa f=al a->mg (f:Str)=al (.ref a)/\∃oc od fd sl,Γ.K.lookup a=al ⟨oc,od,.func fd,sl⟩lg:∀id J,Γ.lg id J->∃L,P.lm id=al L/\vn J L
 nd:(Γ.T.map (·.1)).Nodup
 xf:∀f d,P.xf f=al d->wZ Γ cds mg f d.ps d.vs λck S=>mX ck d.body S
 tf:∀f d,P.tf f=al d->wZ Γ cds mg f d.ps d.vs λck S=>mT ck d S
 xc:∀c:String,P.xc c=bY->∃Cc,mg (c:Str)=al (.ref Cc)/\sT Γ.K Cc/\yj Γ.K Cc=bY
 xt:∀c:String,P.xt c=bY->∃Cc,mg (c:Str)=al (.ref Cc)xs:∀(c d:String)(Cc D:Addr),P.xc c=bY->P.xt d=bY->mg (c:Str)=al (.ref Cc)->mg (d:Str)=al (.ref D)->bJ Γ.K (.ref Cc) (.ref D)=al (oX c d)xm:∀(c d:String)(Cc D:Addr),P.xc c=bY->P.xt d=bY->mg (c:Str)=al (.ref Cc)->mg (d:Str)=al (.ref D)->cR Γ.K (.ref Cc) (.ref D)=al (oX c d)xe:∀(c:String)(Cc:Addr),P.xc c=bY->mg (c:Str)=al (.ref Cc)->cR Γ.K (.ref Cc) (.ref Cc)=al bY
 v0:∀c:String,P.xc c=bY->mg ("ValueError":Str)=aT
 v1:∀(c:String)(Cc:Addr),P.xc c=bY->mg (c:Str)=al (.ref Cc)->bJ Γ.K (.ref Cc) (.type "ValueError")=al bY
 cdc:∀(c:String)kvs,P.cdc c=al kvs->∃a,mg (c:Str)=al (.ref a)/\∀(prog:aG)(h:Heap),Γ.K.In h->StrTab prog w h a (BZ kvs)mt:∀c m d,P.mt c m=al d->BV Γ c m d
 mx:∀c m d,P.mx c m=al d->BU Γ c m d
 att:∀(c:String)(f:List Nat)(Cc:Addr),P.att c f=bY->Γ.cls c=al Cc->kv Γ.K Cc ⟨f.toArray⟩nwc:∀(c:String)(Cc:Addr),Γ.cls c=al Cc->mg (c:Str)=al (.ref Cc)/\dP Γ.K Cc=bY/\bR Γ.K (.ref Cc)=bY
def jW(Γ:Gm)(prog:aG)(w:World)(mg:yC)(base:Heap)(F:oG)(n:Nat):Prop:=(∀f:String,(∀l s,F.call f l s=.B)\/∃a b ps,k6 prog w Γ.K mg base t7 n a b ps (vE Γ<|F.call f)/\mg (f)=al (.ref a)/\bR Γ.K (.ref a)=bY/\Binds Γ.K b ps [])/\(∀id J f a b,Γ.lg id J->a.length=J.fr.length->u0 prog w Γ.K mg base n (λH=>q9 H f J a b) f (DR Γ (F.lam id) a))/\CO Γ prog w Γ.K mg base F n
def J0(r:ei Γ C H l vs)(b:ou n l=bY)(a:N.length=l.length+k):RE Γ C H n (l.map al++ay k aT) (wL N vs):=by
 have h:=r.length;refine⟨?_,λi d e=>?_⟩;.unfold wL;simp_all
 .by_cases hi:i<l.length
  .rw[aC<|by simp_all,aF]at e;have a:l[i]?=al d:=by rw[aj hi]at e⊢;exact az e
   refine AE (r.get a) λv c d=>Aj (ER b a) v ?_ d;unfold wL;rw[aC<|by rw[aw,h];exact hi,aF,c];rfl
  .rw[am<|by simpa using lT hi]at e;rw[ib]at e;split at e<;>cases e
def NM(b:ud Γ J P mg w)n:∀c kvs,(oA P n).cdc c=al kvs->∃a,mg (c)=al (.ref a)/\∀h:Heap,Γ.K.In h->StrTab prog w h a (BZ kvs):=by
 have:(oA P n).cdc=P.cdc:=by cases n<;>rfl
 rw[this];exactλc kvs e=>AE (b.cdc c kvs e) λa Z Y=>Ac a Z<|Y prog
def Ir(b:ud Γ a0 P mg w)(i:∀y∈a0,bK base y.1 y.2/\BM mg base)n(h:jW Γ prog w mg base (oA P n) (n+31)){f:String}{st:Stmt}(hS:fP N ps<|bb st)(hL:yT Γ a0 (f:Str) (bb st) N fd lk)Y(a5:∀id g E,lk id g E=bY->fd.code=Y)A Z sh H E(hr:eX (n+31) (A.deeper<|fZ (f:Str) (bb st) sh.heap.objs.size a Y)):CG Γ (oA P n) (n+31) (u6 t7 prog w Γ.K mg base N (f:Str) (bb st) a Y A Z sh H E).nox ⟨N,bb st,lk⟩:=by
 refine⟨rfl,rfl,hS.nd,rfl,rfl,?_,hr,λx k e=>.inl e,λ_ _=>rfl,b.bi,h.1,?_,λid g f d=>?_,h.2.1,b.fa,NM b n,h.2.2⟩;.show oM+1<=n+31;unfold oM;lia
 .have:(oA P n).con=P.con:=by cases n<;>rfl
  exact this▸b.con
 .refine AJ (hL id g f d) λc h a Zz=>AM Zz λbody scope pos J j L=>AB (i _ L.cd) λa3 i=>AE (b.lg id J L.lg) λL' _ e=>⟨c,h,a,body,scope,pos,J,j,⟨?_,a3,i,L.ck,L.df _,L.lg,L.q,L.p,L.b,L.s,L.len,L.at_,L.fr,λx a=>?_,L.tab,b.nd,λ_=>rfl,λx c a=>?_,e.sc,e.pa,λb h i j k l=>(e.bind b .none h i j k l).1⟩⟩;.show Y=.ref c;exact a5 id g f d▸L.code
  .exact ql<|L.fre x a
  .rcases zJ (aM a)with z|z;.exact .inl<|L.cel (x,.cell) z rfl
   simp_all
def QH:yT Γ J f sc N Uu<|λ_ _ _=>ce:=λ_ _ _ h=>by cases h
set_option tactic.hygienic true in def NQ{b:yF}{P:oH}{prog:aG}{w:World}{mg:yC}{base:Heap}(o:ud Γ b P mg w)(i:∀y∈b,bK base y.1 y.2/\BM mg base)(n:Nat)(p:jW Γ prog w mg base (oA P n) (n+31)){f:String}{x:Str}{d:pd}{st:Stmt}{N ps:yH}{a:Addr}{g:bS}{lk:String->List Nat->Expr->Bool}(hD:w0 Γ.K x (f:Str) st a g)(j:fP N ps<|bb st)(e:ps.length=d.ps)(h2:N.length=d.ps+d.vs)(u:vg ⟨N,bb st,lk⟩ d.body (eh st)=bY)(m:yT Γ b (f:Str) (bb st) N g lk):k6 prog w Γ.K mg base t7 (n+1+31) a g ps<|vE Γ<|pH (oA P n) d:=by
 have h:∀vs H Q E,vE Γ (pH (oA P n) d) vs H Q E->vs.length=ps.length:=λvs H Q E q=>by
  refine AG q λC s l h x R r b Zz=>AB Zz λhc k=>?_;unfold pH at hc;split at hc;.rw[r.length,e];assumption
  .exact fb hc
 have body:∀(Y:Value),(∀id e E,lk id e E=bY->g.code=Y)->∀(A:aW)(Z:List Env)(sh:ag)(H:Hp)(vs:List V)(Q:VK)(E:XK),eX (n+31) (A.deeper<|fZ (f:Str) (bb st) sh.heap.objs.size a Y)->vE Γ (pH (oA P n) d) vs H Q E->∃t,sR (u6 t7 prog w Γ.K mg base N (f:Str) (bb st) a Y A Z sh H E).nox (eh st) t/\t {nx:=λ_ H'=>Q .N H',rt:=Q} (wL N vs) H:=by
  refineλY b A Z sh H vs Q E e q=>have G:=Ir o i n p j m (a:=a) Y b A Z sh H E e;(Ac _ (yO d.body (eh st) _ ⟨N,bb st,lk⟩ G u) (AG q λC s l h x R r b Zz=>AB Zz λhc k=>?_));unfold pH at hc;split at hc;case isFalse=>exact fb hc
  rename_i h;refine AD (fE hc) λc s1 a hc=>⟨C,l.map al++ay d.vs aT,s,c,s1,J0 r b<|by rw[h2,h],R,a,λa f g a l=>?_⟩;cases c with|ret v0=>exactλv i a=>AN (qB R g l i a hc) λC' a b c d e=>k v C' f a b c d e|next U=>exactλW' _=>AN (qB (v0:=.N) R g l rfl RV.w7 hc) λC' a b c d e=>k .N C' f a b c d e|cont U=>exact fb hc|brk U=>exact fb hc
 by_cases b:∃id e E,lk id e E=bY;.exact AJ b λid e E a=>AJ (m id e E a) λc a a Zz=>AM Zz λa3 scope pos J a L=>hD.Q1 L.code j h<|body _ λ_ _ _ _=>L.code
 .exact hD.ok j h<|λY=>body Y λid e E h=>iN ⟨id,e,E,h⟩ b
def Lw(Y:ud Γ h P mg w)(b:∀y∈h,bK base y.1 y.2/\BM mg base)n(J:jW Γ prog w mg base (oA P n) (n+31))(e:P.df f=al d){st}(hD:vX Γ.K mg (f:Str) st ps a Uu)(hS:fP N ps<|bb st)(h1:ps.length=d.ps)(h2:N.length=d.ps+d.vs)(hm:vg ⟨N,bb st,lk⟩ d.body (eh st)=bY)(Z:yT Γ h (f:Str) (bb st) N Uu lk):k6 prog w Γ.K mg base t7 (n+1+31) a Uu ps<|vE Γ<|(oA P<|n+1).call f:=by
 have z:(oA P<|n+1).call f=pH (oA P n) d:=by funext l s;simp only[oA,e];rfl
 exact z▸NQ Y b n J hD.fn hS h1 h2 hm Z
def Rh(Z:ud Γ Y P mg w)(h:∀y∈Y,bK base y.1 y.2/\BM mg base)n(J:jW Γ prog w mg base (oA P n) (n+31)):CO Γ prog w Γ.K mg base (oA P<|n+1) (n+1+31):=by
 refine⟨Z.att,λc m=>?_,λc=>?_⟩;.cases e:P.mt c m with|none=>exact .inl λl s=>by simp only[oA,e]|some d=>
   refine AJ (Z.mt c m d e) λst N ps Zz=>AK Zz λa g Cc b f hD Zz=>AW Zz λUu i j h2 k=>?_;have z:(oA P<|n+1).cq c m=pH (oA P n) d:=by funext l s;simp only[oA,e]
   refine .inr<|Ax Cc a g ps b.1 b.2 f ?_ Uu;exact z▸NQ Z h n J hD i j h2 k QH
 .rcases J.2.2.mc c "__init__"with h|⟨Cc,a,g,ps,b,hcl,f,d,Uu⟩;.exact .inl h
  .exact AI (Z.nwc c Cc b) λm1 c e=>.inr ⟨n+31,Cc,a,g,ps,by lia,Ad b hcl,m1,⟨c,f.at_,f.fn,e⟩,d,Uu⟩
def w0.Kr{K}{st}(F:w0 K x qual st f Z)(S:fP N ps<|bb st)(len:∀vs H Q E,sp vs H Q E->vs.length=ps.length)(a:∀(J:Value),Z.code=J->∀(A:aW)(h:List Env)(s:ag)(H:Hp)(vs:List V)(Q:VK)(E:XK),eX k (A.deeper<|fZ qual (bb st) s.heap.objs.size f J)->sp vs H Q E->∃t,sR (u6 CX P w K mg base N qual (bb st) f J A h s H E) (eh st) t/\t {nx:=λ_ H'=>Q .N H',rt:=Q} (wL N vs) H):k6 P w K mg base CX (k+1) f Z ps sp:=by obtain⟨b,b,kV,b,b,b,J,b,b,rfl,lk,b⟩:=F.ex;exact Iz lk b S len<|a J rfl
def LI{Z:yF}{P:oH}{w:World}{mg:yC}(J:ud Γ Z P mg w)(n:Nat):XC (oA P n) Γ.K mg:=by
 have e:(oA P n).xc=P.xc:=by cases n<;>rfl
 have e':(oA P n).xt=P.xt:=by cases n<;>rfl
 exact⟨λc h=>J.xc c<|by rw[e]at h;exact h,λc h=>J.xt c<|by rw[e']at h;exact h,λc d Cc D Y Uu=>J.xs c d Cc D (by rw[e]at Y;exact Y) (by rw[e']at Uu;exact Uu),λc d Cc D Y Uu=>J.xm c d Cc D (by rw[e]at Y;exact Y) (by rw[e']at Uu;exact Uu),λc h=>J.v0 c<|by rw[e]at h;exact h,λc Cc h=>J.v1 c Cc<|by rw[e]at h;exact h⟩
set_option tactic.hygienic true in def M3{J:yF}{P:oH}{prog:aG}{w:World}{mg:yC}{base:Heap}(e:ud Γ J P mg w)(j:∀y∈J,bK base y.1 y.2/\BM mg base)(n:Nat)(m:jW Γ prog w mg base (oA P n) (n+31))(o:BP Γ prog w Γ.K mg base (oA P n) (n+31)){f:String}{x:Str}{d:pT}{st:Stmt}{N ps:yH}{a:Addr}{b:bS}{lk:String->List Nat->Expr->Bool}(hD:w0 Γ.K x (f:Str) st a b)(g:fP N ps<|bb st)(p:ps.length=d.ps)(h2:N.length=d.ps+d.vs)(t:mX ⟨N,bb st,lk⟩ d.body (eh st)=bY)(u:yT Γ J (f:Str) (bb st) N b lk):k6 prog w Γ.K mg base (u3 prog w) (n+1+31) a b ps<|DQ Γ mg λl s=>if l.length=d.ps then oQ (oA P n) d.body (l.map al++ay d.vs aT) s else aT:=by
 refine hD.Kr g (λvs H Q E q=>?_) λY v A h sh H vs Q E x q=>?_
 .refine AG q λC s l c i R r b Zz=>AB Zz λhc k=>?_;dsimp only at hc;split at hc;.rw[r.length,p];assumption
  .cases hc
 .refine AG q λC s l c i R r b Zz=>AB Zz λhc k=>?_;dsimp only at hc;split at hc;case isFalse=>cases hc
  rename_i Z;exact⟨_,Ba (X:=u6 (u3 prog w) prog w Γ.K mg base N (f:Str) (bb st) a Y A h sh H E) (Ir e j n m g u (a:=a) Y (λ_ _ _ _=>v) A h sh H E x) (LI e n) o RU d.body (eh st) (.inr RM) (.inr PassesOwn.leaving) t,C,l.map al++ay d.vs aT,s,c,i,J0 r b<|by rw[h2,Z],R,hc,k⟩
def Tv(Y:ud Γ h P mg w)(b:∀y∈h,bK base y.1 y.2/\BM mg base)n(J:jW Γ prog w mg base (oA P n) (n+31))(XO:BP Γ prog w Γ.K mg base (oA P n) (n+31))(e:P.xf f=al d){st}(hD:vX Γ.K mg (f:Str) st ps a Uu)(hS:fP N ps<|bb st)(h1:ps.length=d.ps)(h2:N.length=d.ps+d.vs)(hm:mX ⟨N,bb st,lk⟩ d.body (eh st)=bY)(Z:yT Γ h (f:Str) (bb st) N Uu lk):k6 prog w Γ.K mg base (u3 prog w) (n+1+31) a Uu ps<|DQ Γ mg<|(oA P<|n+1).xcall f:=by
 have z:(oA P<|n+1).xcall f=λl s=>if l.length=d.ps then oQ (oA P n) d.body (l.map al++ay d.vs aT) s else none:=by funext l s;simp only[oA,e]
 exact z▸M3 Y b n J XO hD.fn hS h1 h2 hm Z
theorem N5(G:CG Γ F n X J):∀{a}{S b:yL},FT J a S=al b->sR X b t->sR X S (HF (q7 Γ<|ph F a) t)|.nil,S,b,h,a=>by cases h;refine a.imp λD W H q=>AG q λC U s c a E R e q=>?_;cases e;exact q.here R W E|.cons s c,S,b,h,a=>by cases S with|nil=>exact iN h<|by nofun|cons x d=>have h:(match mS J s x with|true=>FT J c d|false=>aT)=al b:=h;cases b:mS J s x with|false=>simp_all|true=>rw[b]at h;exact(zM (sS s _ X J G b) (N5 G h a)).imp λD W H q=>Nq<|q7.eq (λU s=>rfl) q
set_option tactic.hygienic true in def S8(c:ud Γ a3 P mg w)(x:∀y∈a3,bK base y.1 y.2/\BM mg base)n(a4:jW Γ prog w mg base (oA P n) (n+31))(XO:BP Γ prog w Γ.K mg base (oA P n) (n+31))(e0:P.df f=aT)(e:P.tf f=al d){st:Stmt}{N ps:yH}{a:Addr}{fd:bS}{lk:String->List Nat->Expr->Bool}(hD:vX Γ.K mg (f:Str) st ps a fd)(hS:fP N ps<|bb st)(h1:ps.length=d.ps)(h2:N.length=d.ps+d.vs)(Y:mT ⟨N,bb st,lk⟩ d (eh st)=bY)(hL:yT Γ a3 (f:Str) (bb st) N fd lk):k6 prog w Γ.K mg base t7 (n+1+31) a fd ps<|vE Γ<|(oA P<|n+1).call f:=by
 refine hD.fn.Kr hS (λvs H Q E q=>?_) λZ j A g sh H vs Q E t q=>?_
 .refine AG q λC s l h i R r b Zz=>AB Zz λhc k=>?_;simp only[oA,e0,e]at hc;split at hc;.rw[r.length,h1];assumption
  .exact fb hc
 have G:=Ir c x n a4 hS hL (a:=a) Z (λ_ _ _ _=>j) A g sh H E t;have O:=LI c n;refine AG q λC s l h i R r b Zz=>AB Zz λhc k=>?_;simp only[oA,e0,e]at hc;split at hc;case isFalse=>exact fb hc
 rename_i c;have E0:=J0 r b (k:=d.vs) (N:=N) (by rw[h2,c]);unfold mT at Y;split at Y;case h_2=>simp_all
 rename_i b c;unfold DV.Di at hc;split at hc;case h_2=>exact fb hc
 rename_i q s0 e;suffices key:∃t,sR (u6 t7 prog w Γ.K mg base N (f:Str) (bb st) a Z A g sh H E).nox b t/\∀C0 j H0,Gr C s H C0 s0 H0->s.length<=s0.length->Rp Γ C0 H0 s0->RE Γ C0 H0 s0.length q j->t {nx:=λ_ H'=>Q .N H',rt:=Q} j H0 by exact AE key λt b j=>Ac _ (N5 (X:=(u6 t7 prog w Γ.K mg base N (f:Str) (bb st) a Z A g sh H E).nox) G c b).nox ⟨C,l.map al++ay d.vs aT,s,.next q,s0,E0,R,e,λB D g1 l r c y=>j B c D g1 l r y⟩
 unfold Kx at Y;split at Y;case h_2=>simp_all
 rename_i b rest;split at Y;case h_2=>simp_all
 rename_i tb b b;split at Y;case h_2=>simp_all
 rename_i e;have F:vg ⟨N,bb st,lk⟩ d.body tb=bY->vg ⟨N,bb st,lk⟩ d.tl rest=bY->((ph (oA P n) d.body q s0).bind λc s1=>match c with
  |.ret v=>p9 s v s1|.next U=>(ph (oA P n) d.tl U s1).bind λc z=>match c with|.ret v=>p9 s v z|.next _=>p9 s .N z|_=>.B
  |_=>.B)=.ok h i->∃t,sR (u6 t7 prog w Γ.K mg base N (f:Str) (bb st) a Z A g sh H E).nox (.Try tb [e] [] [] b::rest) t/\∀C0 j H0,Gr C s H C0 s0 H0->s.length<=s0.length->Rp Γ C0 H0 s0->RE Γ C0 H0 s0.length q j->t {nx:=λ_ H'=>Q .N H',rt:=Q} j H0:=λm1 C hc=>by refine Ac _ (zM (Zl (X:=(u6 t7 prog w Γ.K mg base N (f:Str) (bb st) a Z A g sh H E).nox) rfl<|yO d.body tb _ ⟨N,bb st,lk⟩ G m1) (yO d.tl rest _ ⟨N,bb st,lk⟩ G C)) (λC0 j H0 I s K M=>AD (fE hc) λc s1 b hc=>⟨C0,q,s0,c,s1,M,K,b,λB D g1 l r=>?_⟩);replace g1:=I.trans g1 s;replace l:=au s l;cases c with
  |ret v0=>exactλv x C=>AN (qB R g1 r x C hc) λC' h i j s e=>k v C' D h i j s e|next U=>refineλW' y=>AD (fE hc) λc z e hc=>⟨B,U,s1,c,z,y,r,e,λC2 H2 t r R2=>?_⟩;cases c with|ret v0=>exactλv x C=>AN (qB R (g1.trans t l) R2 x C hc) λC' h i j s e=>k v C' H2 h i j s e|next U=>exactλW' _=>AN (qB (v0:=.N) R (g1.trans t l) R2 rfl RV.w7 hc) λC' h i j s e=>k .N C' H2 h i j s e|cont U=>exact fb hc|brk U=>exact fb hc
  |cont U=>exact fb hc|brk U=>exact fb hc
 split at Y;.simp_all
 .rename_i en c4 hp;split at Y;case h_2=>simp_all
  rename_i x e e e;refine AB (zl Y) λm1 Y=>AB (zl Y) λm2 Y=>AB (zl Y) λm3 Y=>AB (zl Y) λb6 Y=>AB (zl Y) λm4 Y=>AB (zl Y) λm5 Y=>AB (zl Y) λa1 C=>?_;have ex:=dO m4;subst ex;unfold DV.F6 at hc;split at hc
  .rename_i c s1 hx;split at hc;case isFalse=>exact fb hc
   rename_i e;refine AU e λa5 e hok h=>?_;have h:c=d.c:=by unfold DV.Tf.tk at a5;cases l:d.h with|sup i h'=>rw[l]at a1;exact ff a1|_=>rw[l]at a5;exact iF a5
   subst h;refine AH (O.at_ _ e) λCc l e h=>AI (G.gl m5) λg1 t h=>Ac _ (zM (UP (X:=(u6 t7 prog w Γ.K mg base N (f:Str) (bb st) a Z A g sh H E).nox) (Γ:=Γ) (Cc:=Cc) (m:=oQ (oA P n) d.xb) (th:=Kj d.h) rfl rfl rfl e g1 l t (λpn Ww y e=>?_) λh b hcl=>RA a1) jf) (λC0 j H0 I s K M=>?_);.exact Ba (X:={(u6 t7 prog w Γ.K mg base N (f:Str) (bb st) a Z A g sh H E).nox with pn:=pn,xe:=Ww}) (⟨G.K,G.N,G.nd,rfl,G.calm,G.deep,G.room,G.sc,G.fn,G.bi,G.call,G.con,λid d e b=>AJ (G.lam id d e b) λc d b Zz=>AM Zz λbody scope pos J e L=>⟨c,d,b,body,scope,pos,J,e,⟨L.code,L.hd,L.bm,L.ck,L.df,L.lg,L.q,L.p,L.b,L.s,L.len,L.at_,L.fr,L.cl,L.tab,L.nd,L.fn,L.kd,L.gs,L.gp,L.gb⟩⟩,G.cl,G.fa,G.cdc,G.ob⟩) O XO e d.xb tb (.inl m3) (.inl b6) m2
   .refine⟨C0,q,s0,d.c,s1,M,K,hx,λC' H' h a h i e b=>?_⟩;replace h:=I.trans h s;replace i:=au s i;have b:mg (d.c:Str)=al (.ref a):=b;cases l▸b;refine⟨rfl,λW=>?_⟩;cases l:d.h with|Bs b=>rw[l]at hc;exact AN (qB (v0:=.T b) R h e rfl RV.uO hc) λC2 a r b c R2=>k _ C2 H' a r b c R2|xC=>rw[l]at hc;exact AN (qB (v0:=.N) R h e rfl RV.w7 hc) λC2 a r b c R2=>k _ C2 H' a r b c R2|zi=>rw[l]at hc;exactλp hp=>AB (e.new (o:=.J []) (u:=.J []) hp rfl λC' H' g e=>⟨[],e,.nil⟩) λgn a=>AN (qB (v0:=.ref s1.length) R (h.trans gn i) a (by unfold oB;simp) (v:=.ref p) (by unfold RV;simp) hc) λC2 a r b c R2=>k _ C2 _ a r b c R2|_=>rw[l]at a1;exact ff a1
  .exact F m1 C hc
 simp_all
set_option tactic.hygienic true in def Yt(i:ud Γ b4 P mg w)n(a0:jW Γ prog w mg base (oA P n) (n+31))id J f cap Y(b5:Γ.lg id J)(a3:cap.length=J.fr.length):u0 prog w Γ.K mg base (n+1+31) (λH=>q9 H f J cap Y) f<|DR Γ ((oA P<|n+1).lam id) cap:=by
 refine AE (i.lg id J b5) λL p m=>?_;have y:∀vs H Q E,DR Γ ((oA P<|n+1).lam id) cap vs H Q E->vs.length=J.ps.length:=λvs H Q E q=>by
  refine AJ q λC s cs Zz=>AK Zz λl d B R r rc Zz=>AU Zz λb z a k=>?_;simp only[oA,p]at a;split at a;.rename_i hh;exact r.length▸m.ps▸hh.1
  .exact fb a
 have c:∀(A:aW)(Z:List Env)(sh:ag)(H:Hp)(g:Value)(vs:List V)(Q:VK),eX (n+31) (A.deeper<|dJ J.qual J.scope sh.heap.objs.size f g<|aX (sh.heap.objs.size+1) J.scope.names Y)->Cells Y H->(∀b o,Γ.K.lookup b=al o->H b=aT)->DR Γ ((oA P<|n+1).lam id) cap vs H Q E0->∃t,PE (CC prog w Γ.K mg base (J.ps++J.fr) J.qual J.scope f g Y A Z sh H) J.body t/\t (vs.map al++cap.map al) (hI Y H) λv H'=>(∀b,nL Y b=bY->H' b=aT)->Q v (tN Y H H'):=by
  intro A Z sh H g vs Q o j t q;have G:CG Γ (oA P n) (n+31) (CC prog w Γ.K mg base (J.ps++J.fr) J.qual J.scope f g Y A Z sh H) (Dc (J.ps++J.fr) J.scope):=by
   refine⟨rfl,rfl,m.sc.nd,rfl,rfl,?_,o,λx k e=>.inl e,λx e=>?_,i.bi,a0.1,?_,λ_ _ _ h=>(by cases h),a0.2.1,i.fa,NM i n,a0.2.2⟩;.unfold oM;lia
   .show(J.scope.names.lookup x==al .cell)=bY;rw[e];rfl
   .have:(oA P n).con=P.con:=by cases n<;>rfl
    exact this▸i.con
  refine Ac _ (sE L.body J.body _ (Dc (J.ps++J.fr) J.scope) G m.m).1<|AJ q λC s cs Zz=>AK Zz λl d B R r rc Zz=>AU Zz λb z a k=>?_;simp only[oA,p]at a;split at a;case isFalse=>exact fb a
  rename_i hh;refine AI hh λh1 h2 e=>?_;rw[af,af]at e;obtain⟨⟨f,g⟩,h⟩:=e;refine AD (fE a) λv0 s1 n a=>have e:=R.gK j h;have h:=(ei.gK j l vs f r).append<|ei.gK j cs cap g rc;⟨C,l.map al++cs.map al,s,v0,s1,⟨by simp[r.length,rc.length],λi x g=>?_⟩,e,n,λv f f n f o p q f=>?_⟩
  .rw[<-aP,aF]at g;have g:(l++cs)[i]?=al x:=by simp_all
   refine AE (h.get g) λu h i=>Aj (ER (jm b z) g) u ?_ i;rw[<-aP,aF,h];rfl
  .exact AN (qB e n q o p a) λC' e g a h b=>have i:=Gr.put j f t b e;AB (b.same<|VN (H:=H) f) λgs b=>k v C' _ i g a (RV.mono gs d v a h) b
 unfold q9;cases q:J.nm with|none=>exact Xc m.sc y a3 (λd a b e f=>(m.bind Y .none d a b e f).1) (λA Z sh H g vs Q o h t q=>AK h λpm a b _ _ j _=>c A Z sh H g vs Q o j t q)|some p=>exact Xn m.sc y a3 (λg d a b e f=>(m.bind Y g d a b e f).2 _ _) (λA Z sh H g vs Q o h t q=>AM h λb0 d a b _ Zz=>AI Zz λ_ j _=>AE (c A Z sh H g vs Q o j t q) λt a h2=>Ac _ (zM (Co a) GY) h2)
theorem PU(b:ud Γ a1 P mg w)(i:∀y∈a1,bK base y.1 y.2/\BM mg base):∀n:Nat,jW Γ prog w mg base (oA P n) (n+31)/\BP Γ prog w Γ.K mg base (oA P n) (n+31)
 |0=>⟨⟨λf=>.inl λl s=>rfl,λid J f c c _ _=>⟨λA c s H c vs Q _ _ _ _ q=>AJ q λC s cs Zz=>AK Zz λl d c R r rc Zz=>AU Zz λb c o k=>by cases o⟩,b.att,λ_ _=>.inl λ_ _=>rfl,λ_=>.inl λ_ _=>rfl⟩,λf=>.inl λl s=>rfl,λ_ _=>.inl λ_ _=>rfl⟩|n+1=>by
  refine AB (PU b i n) λih p=>⟨⟨λf=>?_,(Yt b n ih),Rh b i n ih⟩,λf=>?_,λc m=>?_⟩;.cases e:P.df f with
   |none=>cases o:P.tf f with|none=>exact .inl λl s=>by simp only[oA,e,o]|some d=>exact AJ (b.tf f d o) λst N ps Zz=>AK Zz λa g lk hD h Y Zz=>AI Zz λZ j k=>.inr<|Ak a g ps (S8 b i n ih p e o hD h Y Z j k) hD.mg hD.fn.kp hD.bi
   |some d=>exact AJ (b.df f d e) λst N ps Zz=>AK Zz λa g lk hD h Y Zz=>AI Zz λZ j k=>.inr<|Ak a g ps (Lw b i n ih e hD h Y Z j k) hD.mg hD.fn.kp hD.bi
  .cases e:P.xf f with|none=>exact .inl λl s=>by simp only[oA,e]|some d=>exact AJ (b.xf f d e) λst N ps Zz=>AK Zz λa g lk hD h Y Zz=>AI Zz λZ j k=>.inr<|Ak a g ps (Tv b i n ih p e hD h Y Z j k) hD.mg hD.fn.kp hD.bi
  .cases e:P.mx c m with|none=>exact .inl λl s=>by simp only[oA,e]|some d=>
    refine AJ (b.mx c m d e) λst N ps Zz=>AK Zz λa g Cc o f hD Zz=>AW Zz λa5 h Y Z j=>.inr<|Ax Cc a g ps o.1 o.2 f ?_ a5;have z:(oA P<|n+1).xm c m=λl s=>if l.length=d.ps then oQ (oA P n) d.body (l.map al++ay d.vs aT) s else none:=by funext l s;simp only[oA,e]
    exact z▸M3 b i n ih p hD h Y Z j QH
def YG(J:ud Γ h P mg w)(a:∀y∈h,bK base y.1 y.2/\BM mg base)n:jW Γ prog w mg base (oA P n) (n+31):=(PU J a n).1
def spT(Γ:Gm):Sp:=λvs H Q _=>∃(a:Addr)(ns:List Int),vs=[.ref a]/\BQ Γ.K H a (ns.map V.int)/\ns.length<=63/\hG Γ.T H/\∀H',Q (.T bY) H'
theorem Qe:∀ns:List Int,ei Γ C H (ns.map DV.D.int) (ns.map V.int)|[]=>.nil|n::ns=>.cons RV.nC<|Qe ns
theorem Qx:∀ns:List Int,ou m (ns.map DV.D.int)=bY|[]=>rfl|n::ns=>by rw[aS];rw[ou,Qx ns];rfl
def SF(h:∀ns:List Int,ns.length<=63->∃s',(oA P k).call "law" [.ref 0] [.ro<|ns.map DV.D.int]=.ok (.T bY) s')vs H Q E(q:spT Γ vs H Q E):vE Γ ((oA P k).call "law") vs H Q E:=by
 obtain⟨a,ns,rfl,Y,c,hT,J⟩:=q;refine AF (h ns c) λs' c=>⟨λ_=>a,[.ro<|ns.map DV.D.int],[.ref 0],.T bY,s',⟨λi j o Z e a m a _=>?_,λi o e=>?_,λi o e=>?_,hT⟩,.cons RV.D1 .nil,?_,c,λv a H' g l b r R=>?_⟩;.cases i with|zero=>cases e;cases m|succ i=>cases e
 .cases i with|zero=>cases e;exact⟨_,Y,Qe ns⟩|succ i=>cases e
 .cases i with|zero=>cases e;exact Qx ns|succ i=>cases e
 .rfl
 .exact r.uT▸J H'
theorem P7:∀{tbl:List<|String×pd},(∀p∈tbl,Good Γ J mg p.1 p.2)->∀f d,tbl.lookup f=al d->Good Γ J mg f d|[],_,f,d,h=>by cases h|(g,e)::tbl,H,f,d,h=>by rw[bo]at h;cases q:f==g with|true=>simp_all|false=>rw[q]at h;exact P7 (λp a=>H p<|ah _ a) f d h
def Gk(Γ:Gm)(mg:yC)(x:String)(d:ot):Prop:=∃v u,mg (x)=al u/\RelV v u/\(∀m,d.eu m=bY)/\∀C H,RV Γ C H d v
theorem Mw:∀{tbl:List<|String×ot},(∀p∈tbl,Gk Γ mg p.1 p.2)->∀f d,tbl.lookup f=al d->Gk Γ mg f d|[],_,f,d,h=>by cases h|(g,e)::tbl,H,f,d,h=>by rw[bo]at h;cases q:f==g with|true=>simp_all|false=>rw[q]at h;exact Mw (λp J=>H p<|ah _ J) f d h
def Dy(h:mg (x:Str)=al (.int i t)):Gk Γ mg x<|.int i:=⟨.int i,_,h,⟨t,rfl⟩,λ_=>rfl,λ_ _=>RV.nC⟩
inductive CS(Γ:Gm):ot->Value->Prop where|int(i:Int)(t:Tok):CS Γ (.int i) (.int i t)|str(x:List Nat)(t:Tok)(h:x.length<=1000):CS Γ (.str x) (.str ⟨x.toArray⟩ t)
inductive Bh(Γ:Gm):List ot->List Value->Prop where|nil:Bh Γ [] []|cons{d v l vs}(a:CS Γ d v)(b:Bh Γ l vs):Bh Γ (d::l) (v::vs)
def Yz{c:yG}(h:mg (x:Str)=al (.ref a))(f:Γ.K.lookup a=al o)(g:o.cls=.type "tuple")(e:o.data=.seq c.toArray n)(hz:c.length<=1000)(Z:Bh Γ l c)(hi:autoParam (oI l=ce) nz._auto_1):Gk Γ mg x<|.tp l:=by
 have key:∃J,Vals J c/\(∀m,ou m l=bY)/\∀C H,ei Γ C H l J:=by clear e hz hi;induction Z with|nil=>exact Ag [] .nil (λ_=>rfl) (λ_ _=>.nil)|cons a b b=>refine AH b λJ Y b d=>?_;cases a with|int i t=>exact Ag (.int i::J) (.cons ⟨t,rfl⟩ Y) (λm=>by rw[ou,b];rfl) (λC H=>.cons RV.nC<|d C H)|str x t h=>exact Ag (.str ⟨x.toArray⟩::J) (.cons ⟨t,rfl⟩ Y) (λm=>by rw[ou,b];rfl) (λC H=>.cons (RV.vc<|by unfold oE;omega) (d C H))
 refine AH key λJ Y b d=>⟨.ref a,_,h,rfl,λm=>b m,λC H=>RV.BY (.inr<|Av o c.toArray n f g e ?_ Y) (λz=>by lia) (d C H)⟩;exact aL▸GU hz
end
def WX{K:ac}{mg mb:yC}{vs:yG}{tabs:yF}(n:K.In J.heap)(t:J.heap.Ns aV mg)(c:J.heap.Ns ii mb)(y:∀x:Str,x≠"__name__"->mb x=bN x)(A:J.heap.NoLimit)(B:J.gens=#[])(C:BM mg J.heap)(hT:m9 tabs J.heap)(D:ng K=bY)(l:J.heap.get? a=al {cls:=.type "list",data:=.seq vs.toArray})(hi:mK vs ns)(b:ns.length<=a9)(E:eX k kA)(F:∀base:Heap,K.In base->base.Ns aV mg->BM mg base->(∀q∈tabs,bK base q.1 q.2)->k6 P w K mg base t7 k fa fd [x] sp)(G:∀(s:ag)(u:Value),mJ s fd ⟨[u],[]⟩ [(x,u)])(x:∀H:Hp,(∀q∈tabs,H q.2=al (.tbl #[]))->qn K H a (ns.map V.int)->(∀u,H a=al u->(∃o g,u=.sj o (.J g))\/∃ps,u=.tbl ps)->sp [.ref a] H (λv _=>v=.T bY) E0):fQ (model P w) kA (.call (.ref fa) ⟨[.ref a],[]⟩) (λr f=>r=.ok (.ret<|.bool bY)/\OldK J.heap f.heap/\f.os=J.os/\gh f.gens) J:=by
 have I:=QR hi;have b:=hi.length;have i:∀b,b∈tabs.map (·.2)->J.heap.get? b=al (fD #[]):=λb h=>by obtain⟨q,j,rfl⟩:=ar.mp h;exact(hT q j).2
 have s:∀H:Hp,(∀b u,H b=al u->(b=a/\∃o g,u=.sj o (.J g))\/(b∈tabs.map (·.2)/\u=.tbl #[]))->(∀q∈tabs,H q.2=al (.tbl #[]))->qn K H a (ns.map V.int)->q8 P w H J.heap->(H a≠aT->K.lookup a=aT)->fQ (model P w) kA (.call (.ref fa) ⟨[.ref a],[]⟩) (λr f=>r=.ok (.ret<|.bool bY)/\OldK J.heap f.heap/\f.os=J.os/\gh f.gens) J:=by
  intro H hO g h hok b;have un:∀b o,J.heap.get? b=al o->o.cls≠.type "list"->(∀vs,o.data≠.fields vs)->H b=none:=λb o e d f=>by cases q:H b with|none=>rfl|some u=>
    rcases hO b u q with⟨z,_⟩|⟨z,_⟩;.rw[z,l]at e;cases e;exact iN rfl d
    .rw[i b z]at e;cases e;exact iN rfl<|f #[]
  have Z:∀{b:Addr}{m:yC},J.heap.Ns b m->(yS J.heap H).Ns b m:=λ{b m}⟨o,es,m,e,d,r⟩=>by refine⟨o,es,m,GA e ?_,d,r⟩;cases q:H b with|none=>rfl|some u=>
    rcases hO b u q with⟨z,_⟩|⟨z,_⟩;.rw[z,l]at e;cases e;cases d
    .rw[i b z]at e;cases e;cases d
  have f:K.In<|yS J.heap H:=λb o e=>GA (n b o e) (by cases q:H b with|none=>rfl|some u=>
    rcases hO b u q with⟨z,_⟩|⟨z,_⟩;.lia
    .have e2:=n b o e;rw[i b z]at e2;have h2:=aK.mp D (b,o)<|PySem.W.mem_of_lookupK e;have b:o=fD #[]:=(az e2).symm;subst b;exact iN (show ce=bY from h2) bu);have m:BM mg<|yS J.heap H:=AS C λbm k c d b Zz=>AI Zz λb4 e j=>⟨bm,k,c,d,GA b<|un bm k b (by lia) (by simp_all),b4,e,j⟩;have k:∀q∈tabs,bK (yS J.heap H) q.1 q.2:=λq j=>by refine AJ ((hT q j).1) λo c e Zz=>AJ Zz λtf j tg Zz=>AR Zz λd3 text r e1 b u=>⟨o,c,e,tf,j,tg,d3,text,r,GA e1 ?_,b,u⟩;cases c:H q.1 with|none=>rfl|some u=>
    rcases hO _ u c with⟨z,_⟩|⟨z,_⟩;.rw[z,l]at e1;cases e1;exact iN b<|by simp
    .rw[i _ z]at e1;cases e1;exact iN b<|by simp
  have j:uZ P w K mg (yS J.heap H) kA [] J H:=⟨rfl,(⟨f,Z t,(Ac mb (Z c) y),let⟨mc,h1,h2⟩:=A;⟨mc,Z h1,h2⟩⟩),λb o e=>Xu e,nM<|VW _ _,trivial,λb c=>iN (show b∈([]:List Addr)from c) (by simp),hok,.of_eq B⟩;refine fv ((F _ f (Z t) m k).run kA [] J H ⟨[.ref a],[]⟩ [.ref a] [.ref a] _ _ E j (G J<|.ref a) (.cons rfl .nil) (x H g h<|λu e=>(hO a u e).elim (λz=>.inl z.2) (λz=>.inr<|Ae _ z.2))) λr f h=>?_;cases r with|error e=>exact bh h|ok b=>cases b with|next=>exact bh h|brk=>exact bh h|cont=>exact bh h|ret u=>
    refine AS h λv H' r bare j Zz=>AI Zz λa1 b q=>?_;have e:v=.T true:=q;subst e;obtain rfl:u=Value.bool true:=b;have key:∀b o,J.heap.get? b=al o->asItWas J.heap f.heap b o/\∃e,f.heap.get? b=al e:=λb o e=>by cases q:H b with|none=>have z:=j.keep b o e q (λz=>iN (show b∈([]:List Addr)from z) (by simp)) (by simp);exact Al (.inl z) o z|some u=>
      rcases hO b u q with⟨_,k,g,z⟩|⟨z,g⟩;.subst z;have g:=j.frzs b k _ q;refine AB (hok b _ q) λe1 _=>AB (a1 b _ g) λe2 _=>?_;cases e▸e1;exact Al (.inl e2) _ e2
      .subst g;refine AF (j.tbls b _ q) λmore d=>?_;have g:f.heap.get? b=al {cls:=.none,data:=.fields<|#[]++more}:=a1 b _ d;have e1:=i b z;cases e▸e1;refine AE (ar.mp z) λp b m=>Al (.inr<|.inl ⟨?_,rfl,#[],more,rfl,g⟩) _ g;have t:=((hT p b).1.tab (hT p b).2).isCodeTable;simp_all
    exact Au rfl ⟨λb o e=>(key b o e).1,λb o e=>(key b o e).2⟩ r bare
 have tbl:∀b,b∈tabs.map (·.2)->b≠a:=λb h z=>by grind
 cases d:K.lookup a with|some o=>
  have e:=n a o d;cases l▸e;refine s (λb=>if b∈tabs.map (·.2)then al<|.tbl #[]else aT) (λb u z=>?_) (λq j=>ef<|bB j) (.inr<|Aw _ vs.toArray _ d rfl rfl rfl (by simp_all) (by simp_all)) (λb u z=>?_) λz=>?_
  .by_cases c:b∈tabs.map (·.2);.have Y:=(ef c).symm.trans z;cases Y;exact .inr<|Ad c rfl
   .have Y:=(gc c).symm.trans z;cases Y
  .by_cases c:b∈tabs.map (·.2);.have Y:=(ef c).symm.trans z;cases Y;exact i b c
   simp_all
  .exact iN (gc λy=>tbl a y rfl) z|none=>
  refine s (λb=>if b=a then al<|.sj {cls:=.type "list",data:=.seq vs.toArray}<|.J (ns.map V.int)else if b∈tabs.map (·.2)then al<|.tbl #[]else aT) (λb u z=>?_) (λq j=>?_) (.inl<|.inr<|Ae ({cls:=.type "list",data:=.seq vs.toArray}) (ef rfl)) (λb u z=>?_) λ_=>d
  .by_cases c:b=a;.have Y:=(ef c).symm.trans z;cases Y;exact .inl ⟨c,_,_,rfl⟩
   .have Y:=(gc c).symm.trans z;by_cases d:b∈tabs.map (·.2);.rw[ef d]at Y;cases Y;exact .inr<|Ad d rfl
    .rw[gc d]at Y;cases Y
  .have hm:q.2∈tabs.map (·.2):=bB j;show(if _ then _ else if _ then _ else _)=_;rw[gc<|tbl _ hm,ef hm]
  .by_cases c:b=a;.have Y:=(ef c).symm.trans z;cases Y;subst c;exact⟨l,by simp_all,vs,_,I,l⟩
   .have Y:=(gc c).symm.trans z;by_cases d:b∈tabs.map (·.2);.rw[ef d]at Y;cases Y;exact i b d
    .rw[gc d]at Y;cases Y
def VP{l:dL}{loose:yH}{K:Params->ac}{sp:ac->Sp}names (hn:l.most=al n)(a4:n<=a9)(a6:d.params.defaults=[])(hr:eX k kA)(hY:∀(w:World)(h:Heap),YP w h->(K w.params).In h/\∀P∈ts,h.get? P=al (fD #[]))(Z:∀w:World,TN (K w.params) names ts=bY)(a2:∀w:World,ng (K w.params)=bY)(F:∀(w:World)(mg:yC)(b:Addr)(h:Heap),(K w.params).In h->h.Ns aV mg->mg d.name=al (.ref b)->∃a:bS,(∀(s:ag)(u:Value),mJ s a ⟨[u],[]⟩ [(x,u)])/\∀base:Heap,(K w.params).In base->base.Ns aV mg->BM mg base->ID (K w.params) names base->k6 l.prog w (K w.params) mg base t7 k b a [x] (sp<|K w.params))(a1:∀(K:ac)(H:Hp)(a:Addr)(ns:List Int),ns.length<=n->Iy K names H->qn K H a (ns.map V.int)->(∀u,H a=al u->(∃o b,u=.sj o (.J b))\/∃ps,u=.tbl ps)->sp K [.ref a] H (λv _=>v=.T bY) E0):nk q loose XP YP l.row.toRowW d []<|λf vs=>mO f vs:=by
 refine Att.vK hn a6 λw s₀ c mg mb b o a a a a vs ns G Y d d d d g h J i=>AB (hY w _ Y) λKX e=>AE (F w mg b _ KX G.T.g d) λfd j d=>?_;have hT:m9 ((E4 (K w.params) names).map (·.2)) c.heap:=λp b=>by obtain⟨y,c,rfl⟩:=ar.mp b;refine AB (Og.mp c) λh1 h2=>?_;have z:=aK.mp (Z w) y.1 h1;rw[h2]at z;have b:(lW (K w.params) y.2.1 y.2.2&&ts.contains y.2.2)=true:=z;rw[af]at b;exact⟨PySem.W.codeHd_of_K KX b.1,e _<|by simpa using b.2⟩
 have f:∀x∈names,∀c P,bG (K w.params) x=al (c,P)->(c,P)∈(E4 (K w.params) names).map (·.2):=λx b c P e=>ar.mpr<|Ac (x,c,P) (Og.mpr<|Ad b e) rfl;refine WX (tabs:=(E4 (K w.params) names).map (·.2)) KX G.T.g G.T.b G.T.builtins G.T.nolimit i ?_ hT (a2 w) g h (au J a4) hr (λbase k1 k2 k3 g=>d base k1 k2 k3 λx b c P e=>g _<|f x b c P e) j λH hO g d=>a1 (K w.params) H a ns J (λx b c P e=>hO _<|f x b c P e) g d;exact AS G.T.bmain λbm a h1 h2 b Zz=>AI Zz λh4 c d=>⟨bm,a,h1,h2,b,h4,c,d⟩
def Fu(names:yH)(K:ac):Sp:=λvs H Q _=>∃(a:Addr)(ns:List Int),vs=[.ref a]/\BQ K H a (ns.map V.int)/\ns.length<=63/\Iy K names H/\∀H',Q (.T bY) H'
def SE{K}{ns:List Int}(b:ns.length<=63)(c:Iy K names H)(J:qn K H a<|ns.map V.int)(Z:∀u,H a=al u->(∃o Y,u=.sj o (.J Y))\/∃ps,u=.tbl ps):Fu names K [.ref a] H (λv _=>v=.T bY) E0:=by
 refine⟨a,ns,rfl,⟨J,λH' k=>?_⟩,b,c,λ_=>rfl⟩;rcases J with(h|⟨o,h⟩)|h;.simp_all
 .exact .inl<|.inr ⟨o,k _ _ h rfl⟩
 .exact .inr h
def UD(P:oH):String->tZ->Prop:=λid J=>∃L,P.lm id=al L/\vn J L
noncomputable def DU(x:Str):Str:=if x="letter_table"then"least_fee"else"<lambda>"
def IC(names:yH)(K:ac):List<|Addr×Str:=names.map λx=>(((bG K x).getD (0,0)).2,x++".<locals>."++DU x)
noncomputable def Cj(names:yH)(K:ac):List<|Addr×Addr:=names.map λx=>(bG K x).getD (0,0)
noncomputable def HN(K:ac)(f:String):Option Addr:=match bC K aV (f)with|some<|al<|.ref a=>(match K.lookup a with|some ⟨_,_,.func _,_⟩=>al a|_=>aT)|_=>aT
set_option tactic.hygienic true in def Pu{K}(h:HN K f=al a):bC K aV (f)=al (al<|.ref a)/\∃b c J sl,K.lookup a=al ⟨b,c,.func J,sl⟩:=by
 unfold HN at h;split at h
 .rename_i Uu e;split at h;.rename_i b c J sl e2;cases h;exact⟨e,_,_,_,_,e2⟩
  .cases h
 .cases h
noncomputable def CD(P:oH)(K:ac)(c:String):Option Addr:=match P.mt c "__init__"with|some _=>(match bC K aV (c)with|some<|al<|.ref Cc=>al Cc|_=>aT)|none=>aT
abbrev wu(names:yH)(P:oH)(K:ac):Gm:=⟨K,HN K,UD P,IC names K,CD P K⟩
def RK{K}{mg:yC}(X:K.In h)(G:h.Ns aV mg):∀f a,(wu names P K).fa f=al a->mg (f)=al (.ref a)/\∃b c J sl,(wu names P K).K.lookup a=al ⟨b,c,.func J,sl⟩:=λf a e=>Ad (bX X G (Pu e).1) (Pu e).2
def ZD{K}(b:∀x∈names,(bG K x).isSome=bY)(q:Fu names K vs H Q E):spT (wu names P K) vs H Q E:=by refine AS q λa ns e Y c Zz=>AB Zz λZ J=>⟨a,ns,e,Y,c,hG.init λp h=>?_,J⟩;simp only[IC,cG]at h;obtain⟨x,a,rfl⟩:=ar.mp h;exact Z x a _ _<|JM<|b x a
def Nu{K}(b:∀x∈names,(bG K x).isSome=bY)(c:BM mg base)(d:ID K names base):∀y∈Cj names K,bK base y.1 y.2/\BM mg base:=λy e=>by obtain⟨x,a,rfl⟩:=ar.mp e;exact⟨d x a _ _<|JM<|b x a,c⟩
def OA{ps:yH}(h:sY p=al ps):∃a,p=⟨[],a,aT,[],[],aT,[]⟩/\a.map (·.arg)=ps:=by
 unfold sY at h;split at h;.exact Ac _ rfl<|az h
 .cases h
def Ew(ps:yH):Prop:=∀a,sY a=al ps->∀b body scope(c:yB)f g h d(e:yG),e.length=ps.length->eV (cE "<lambda>" b a body scope c g (.ref h) d) ⟨e,[]⟩=pure (ps.zip e)/\∀nm i,eV (cY nm b a [.Return (al body) i] scope c .none .none f g aT (.ref h) d) ⟨e,[]⟩=pure (ps.zip e)
noncomputable def HX(ps fr:yH)(sc:Scope):Bool:=decide (sc.kind=.function)&&!sc.isCoroutine&&!sc.isGenerator&&decide ((ps++fr).Nodup)&&(ps.all λx=>decide (sc.names.lookup x=al .local)||decide (sc.names.lookup x=al .cell))&&(fr.all λx=>decide<|sc.names.lookup x=al .free)&&(sc.names.all λy=>!decide (y.2=.cell)||decide (sc.names.lookup y.1=al .cell))
def V2(h:HX ps fr sc=bY):si (ps++fr) ps fr sc:=by unfold HX at h;simp only[af,iS,fG,aK,cf]at h;obtain⟨⟨⟨⟨⟨⟨Y,J⟩,a⟩,b⟩,c⟩,d⟩,Z⟩:=h;exact⟨Y,J,a,b,rfl,c,d,λy a e=>by grind⟩
noncomputable def M8(scope a:Scope):Bool:=scope.names.all λy=>!decide (scope.names.lookup y.1=al .free)||decide (a.names.lookup y.1=al .cell)
def UK(h:M8 scope sc=bY):∀x,scope.names.lookup x=al .free->sc.names.lookup x=al .cell:=λx a=>by have:=aK.mp h (x,.free)<|aM a;lia
def FC(c:Scope)(N:yH)(b:List Nat)(a:bH)(body:Expr)(scope:Scope)(t:pS×List Str×List Str):Bool:=decide (sY a=al t.2.1)&&decide (b.map (λj=>N[j]?)=t.2.2.map al)&&sG scope c&&M8 scope c&&HX t.2.1 t.2.2 scope&&decide (t.2.1.length=t.1.ps)&&decide (t.2.2.length=t.1.cs)&&mE (Dc (t.2.1++t.2.2) scope) t.1.body body
def KA(f:Str)(d:Scope)(N:yH)(c:List<|String×pS×List Str×List Str)(id:String)(b:List Nat)(E:Expr):Bool:=match E with
 |.Lambda a body scope _=>(c.lookup id).any λt=>decide (DU f="<lambda>")&&FC d N b a body scope t|.NamedExpr x y e=>match x with
  |.Name nm _=>match y with|.Lambda a body scope g=>(c.lookup id).any λt=>decide (DU f=nm)&&decide (g=e)&&FC d N b a body scope t|_=>ce
  |_=>ce
 |_=>ce
def N2{α:Type}{o}{f:α->Bool}(h:o.any f=bY):∃a,o=al a/\f a=true:=by cases o with|none=>exact ff h|some a=>exact Ac a rfl h
def X0{K}(c:f∈names)(Y:fd.code=.ref ((bG K f).getD (0,0)).1)(g:∀y∈b.names,y.2=.cell->b.names.lookup y.1=al .cell)(i:∀Z t,tab.lookup Z=al t->P.lm Z=al t.1/\Ew t.2.1):yT (wu names P K) (Cj names K) f b N fd<|KA f b N tab:=by
 intro Z J E h;have d:∀t a body scope nm,tab.lookup Z=al t->FC b N J a body scope t=bY->(match nm with|none=>"<lambda>"|some p=>p.1)=DU f->Fj (wu names P K) (Cj names K) f b N fd Z J a body scope ((bG K f).getD (0,0)).1 ((bG K f).getD (0,0)).2 ⟨f++".<locals>."++DU f,a,body,scope,t.2.1,t.2.2,nm⟩:=λt a body scope nm e h k=>by
  obtain⟨L,ps,fr⟩:=t;unfold FC at h;simp only[af,iS]at h;obtain⟨⟨⟨⟨⟨⟨⟨a,h2⟩,j⟩,l⟩,m⟩,n⟩,o⟩,p⟩:=h;refine AB (i Z _ e) λhL e=>?_;obtain⟨b,rfl,b⟩:=OA a;have b:=by have:=congrArg ka h2;simpa using this.symm
  have S:=V2 m;refine⟨Y,ar.mpr<|Ac f c rfl,j,UK l,g,λenv=>rfl,⟨L,hL,⟨S,n,o,p,a,λg g g g g g g=>e _ a _ _ _ _ _ _ _ _ _ g⟩⟩,?_,rfl,rfl,rfl,b,λi j x a b=>?_,S.oj,ar.mpr<|Ac f c rfl⟩;.rw[<-k]<;>rfl
  .have e3:(J.map<|λj=>N[j]?)[i]?=al (N[j]?):=by rw[aF,a];rfl
   simp_all
 cases E with
 |Lambda a body scope pos=>refine AE (N2 h) λt e h=>?_;rw[af]at h;exact⟨_,_,a,body,scope,pos,_,rfl,d t a body scope aT e h.2 (dO h.1).symm⟩|NamedExpr x y a=>cases x with
  |Name nm b=>cases y with|Lambda a body scope c=>refine AE (N2 h) λt e h=>?_;rw[af,af]at h;have f:=dO h.1.2;exact f▸⟨_,_,a,body,scope,c,_,rfl,d t a body scope (al (nm,b)) e h.2 (dO h.1.1).symm⟩|_=>exact ff h
  |_=>exact ff h
 |_=>exact ff h
def M4{K}:yT (wu names P K) (Cj names K) f sc N J<|λ_ _ _=>ce:=λ_ _ _ h=>by cases h
def RQ{K}:∀a J,(wu names P K).lg a J->∃L,P.lm a=al L/\vn J L:=λ_ _ h=>h
def Ro{P:oH}{a:List<|String×pS×List Str×List Str}(h:∀p∈a,P.lm p.1=al p.2.1/\Ew p.2.2.1):∀J t,a.lookup J=al t->P.lm J=al t.1/\Ew t.2.1:=by induction a with|nil=>simp_all|cons y l a=>intro J t e;rw[bo]at e;cases q:J==y.1 with|true=>simp_all|false=>rw[q]at e;exact a (λp a=>h p<|ah _ a) J t e
def FP(K:ac)(n:Str)(st:Stmt):Prop:=∃(f:Addr)(b c:yI)(sl:yE)(d kV e g a h:Value),bC K aV n=al (al<|.ref f)/\K.lookup f=al ⟨d,b,.func<|cW n n (r6 st) (eh st) (bb st) .none kV e g c a h,sl⟩/\fy K a n=bY/\bR K (.ref f)=bY
def LW(n:Str)(st:Stmt)(ps:yH):Prop:=∀kV a d(e:yI)b f(c:yG),c.length=ps.length->eV (cW n n (r6 st) (eh st) (bb st) .none kV a d e b f) ⟨c,[]⟩=pure (ps.zip c)
def WK{Q:List Value->Prop}(h:Q [])(a:yG)(J:a.length=0):Q a:=by simp_all
def Ge{Q:List Value->Prop}(h:∀a b,b.length=k->Q (a::b))(b:yG)(J:b.length=k+1):Q b:=by cases b with|nil=>cases J|cons a b=>exact h a b<|Nat.succ.inj J
def vJ{Q:List Value->Prop}(h:∀a,Q [a]):∀a:List Value,a.length=1->Q a:=Ge λa=>WK<|h a
def uc{Q:List Value->Prop}(h:∀a b,Q [a,b]):∀a:List Value,a.length=2->Q a:=Ge λa=>vJ<|h a
def EI{Q:List Value->Prop}(h:∀a b c,Q [a,b,c]):∀a:List Value,a.length=3->Q a:=Ge λa=>uc<|h a
def WJ{Q:List Value->Prop}(h:∀a b c d,Q [a,b,c,d]):∀a:List Value,a.length=4->Q a:=Ge λa=>EI<|h a
def Hf(names:yH)(P:oH)(n:String)(a b:Nat)(m:Ck->List Stmt->Bool)(st:Stmt):Prop:=∃N ps,fP N ps (bb st)/\ps.length=a/\N.length=a+b/\LW n st ps/\(m ⟨N,bb st,λ_ _ _=>ce⟩ (eh st)=bY\/((n:Str)∈names/\∃a,m ⟨N,bb st,KA n (bb st) N a⟩ (eh st)=bY/\(∀y∈(bb st).names,y.2=.cell->(bb st).names.lookup y.1=al .cell)/\∀p∈a,P.lm p.1=al p.2.1/\Ew p.2.2.1))
def DT(names:yH)(P:oH)(n:String)(d:pd)(st:Stmt):Prop:=Hf names P n d.ps d.vs (λa S=>vg a d.body S) st
def JS{names:yH}{P:oH}{K:ac}{h:Heap}{mg:yC}{n:String}{a b:Nat}{m:Ck->List Stmt->Bool}{st:Stmt}(X:K.In h)(G:h.Ns aV mg)(hT:∀x∈names,(bG K x).isSome=bY)(hD:FP K n st)(d:Hf names P n a b m st):wZ (wu names P K) (Cj names K) mg n a b m:=by
 refine AJ hD λf a a Zz=>AZ Zz λsl a Zz=>AG Zz λkV a a a a a l c k=>AS d λN ps Y Z b Zz=>AB Zz λh4 J=>?_;have F:=GO (st:=st) l c k;have D:vX K mg n st ps f _:=⟨F,bX X G a,F.binds h4⟩;rcases J with J|⟨c,d,J,d,e⟩;.exact⟨_,_,_,_,_,_,D,Y,Z,b,J,M4⟩
 .exact⟨_,_,_,_,_,_,D,Y,Z,b,J,X0 c (PySem.W.law_code X G (JM<|hT _ c) (bX X G a) (X _ _ l) rfl) d<|Ro e⟩
def wB{K}{mg}{n:String}{st}(X:K.In h)(G:h.Ns aV mg)(hT:∀x∈names,(bG K x).isSome=bY)(hD:FP K n st)(a:DT names P n d st):Good (wu names P K) (Cj names K) mg n d:=JS X G hT hD a
theorem Jy{α:Type}{Q:String->α->Prop}:∀{tbl:List<|String×α},(∀p∈tbl,Q p.1 p.2)->∀f d,tbl.lookup f=al d->Q f d|[],_,f,d,h=>by cases h|(g,e)::tbl,H,f,d,h=>by rw[bo]at h;cases q:f==g with|true=>simp_all|false=>rw[q]at h;exact Jy (λp J=>H p<|ah _ J) f d h
def KJ(K:ac)(c:String):Bool:=match bC K aV (c)with|some<|al<|.ref Cc=>HR K Cc&&(yj K Cc&&(cR K (.ref Cc) (.ref Cc)==al bY&&(bJ K (.ref Cc) (.type "ValueError")==al bY&&bC K aV ("ValueError")==al aT)))|_=>ce
noncomputable def LZ(K:ac)(c:String):Bool:=match bC K aV (c)with|some<|al<|.ref _=>bY|_=>ce
noncomputable def KL(K:ac)(c d:String):Bool:=match bC K aV<|c,bC K aV (d)with|some<|al<|.ref Cc,al<|al<|.ref D=>bJ K (.ref Cc) (.ref D)==al (oX c d)&&cR K (.ref Cc) (.ref D)==al (oX c d)|_,_=>ce
def Iv(K:ac)(cs ts:List String):Bool:=cs.all (KJ K)&&(ts.all (LZ K)&&cs.all λc=>ts.all λd=>KL K c d)
set_option tactic.hygienic true in def Cp{K:ac}{mg:yC}(X:K.In h)(G:h.Ns aV mg)(a:Iv K cs ts=bY):(∀c:String,cs.contains c=bY->∃Cc,mg (c:Str)=al (.ref Cc)/\sT K Cc/\yj K Cc=bY)/\(∀c:String,ts.contains c=bY->∃Cc,mg (c:Str)=al (.ref Cc))/\(∀(c d:String)(Cc D:Addr),cs.contains c=bY->ts.contains d=bY->mg (c:Str)=al (.ref Cc)->mg (d:Str)=al (.ref D)->bJ K (.ref Cc) (.ref D)=al (oX c d))/\(∀(c d:String)(Cc D:Addr),cs.contains c=bY->ts.contains d=bY->mg (c:Str)=al (.ref Cc)->mg (d:Str)=al (.ref D)->cR K (.ref Cc) (.ref D)=al (oX c d))/\(∀(c:String)(Cc:Addr),cs.contains c=bY->mg (c:Str)=al (.ref Cc)->cR K (.ref Cc) (.ref Cc)=al bY)/\(∀c:String,cs.contains c=bY->mg ("ValueError":Str)=aT)/\∀(c:String)(Cc:Addr),cs.contains c=bY->mg (c:Str)=al (.ref Cc)->bJ K (.ref Cc) (.type "ValueError")=al true:=by
 unfold Iv at a;simp only[af]at a;refine AI a λh1 h2 a=>?_;have one:∀c:String,cs.contains c=bY->∃Cc,mg (c:Str)=al (.ref Cc)/\sT K Cc/\yj K Cc=bY/\cR K (.ref Cc) (.ref Cc)=al bY/\bJ K (.ref Cc) (.type "ValueError")=al bY/\mg ("ValueError":Str)=none:=λc g=>by
  have q:=aK.mp h1 c<|da.mp g;unfold KJ at q;split at q;.rename_i Cc e;rw[af,af,af,af]at q;exact⟨Cc,bX X G e,XT q.1,q.2.1,iF q.2.2.1,iF q.2.2.2.1,lc X G<|iF q.2.2.2.2⟩
  .cases q
 have two:∀(c d:String)(Cc D:Addr),cs.contains c=bY->ts.contains d=bY->mg (c:Str)=al (.ref Cc)->mg (d:Str)=al (.ref D)->bJ K (.ref Cc) (.ref D)=al (oX c d)/\cR K (.ref Cc) (.ref D)=al (oX c d):=λc d Cc D g b mc e=>by
  have q:=aK.mp (aK.mp a c<|da.mp g) d<|da.mp b;unfold KL at q;split at q;.rename_i J D' e1 e2;have Z:=bX X G e1;have Y:=bX X G e2;lia
  .cases q
 refine⟨λc g=>?_,λc g=>?_,λc d Cc D a b e f=>(two c d Cc D a b e f).1,λc d Cc D a b e f=>(two c d Cc D a b e f).2,λc Cc g d=>?_,λc g=>?_,λc Cc g d=>?_⟩;.exact Aa (one c g) λCc a b e _=>Ag Cc a b e
 .have q:=aK.mp h2 c<|da.mp g;unfold LZ at q;split at q;.rename_i Cc e;exact Ae Cc<|bX X G e
  .cases q
 .refine AN (one c g) λJ a _ _ b _=>?_;rw[d]at a;cases a;exact b
 .exact AN (one c g) λJ _ _ _ _ Zz=>AB Zz λ_ b=>b
 .refine AN (one c g) λJ a _ _ _ Zz=>AB Zz λb _=>?_;rw[d]at a;cases a;exact b
def HK(K:ac)(c m:String)(st:Stmt):Prop:=∃(f Cc:Addr)(b d:yI)(sl:yE)(e kV g h a i:Value),bC K aV (c)=al (al<|.ref Cc)/\bQ K (.ref Cc) (m)=al (al<|.ref f)/\K.lookup f=al ⟨e,b,.func<|cW (m) ((c++"."++m:String)) (r6 st) (eh st) (bb st) .none kV g h d a i,sl⟩/\fy K a ((c++"."++m:String))=bY/\bR K (.ref f)=bY/\io K (.ref f)=bY
def Lf(x q:Str)(st:Stmt)(ps:yH):Prop:=∀kV a d(e:yI)b f(c:yG),c.length=ps.length->eV (cW x q (r6 st) (eh st) (bb st) .none kV a d e b f) ⟨c,[]⟩=pure (ps.zip c)
def DM(c m:String)(d:pd)(st:Stmt):Prop:=∃N ps,fP N ps (bb st)/\ps.length=d.ps/\N.length=d.ps+d.vs/\Lf (m) ((c++"."++m:String)) st ps/\vg ⟨N,bb st,λ_ _ _=>ce⟩ d.body (eh st)=bY
noncomputable def KQ(K:ac)(Cc:Addr)(f:List Nat):Bool:=match bQ K (.ref Cc) ⟨f.toArray⟩with|some aT=>bY|_=>ce
noncomputable def Kn(K:ac)(Cc:Addr):Bool:=match bQ K (.ref Cc) "__setattr__"with|some<|al<|.builtin x=>x=="object.__setattr__"|_=>ce
def Cg(K:ac)(c:String)(fs:List<|List Nat):Bool:=match bC K aV (c)with|some<|al<|.ref Cc=>eG K Cc Str.empty&&(fu K Cc&&(gJ K Cc&&(Kn K Cc&&(dP K Cc&&(bR K (.ref Cc)&&fs.all (KQ K Cc))))))|_=>ce
set_option tactic.hygienic true in def GZ{K}(h:Cg K c fs=bY):∃Cc,bC K aV (c)=al (al<|.ref Cc)/\vp K Cc/\dP K Cc=bY/\bR K (.ref Cc)=bY/\∀f∈fs,kv K Cc ⟨f.toArray⟩:=by
 unfold Cg at h;split at h
 .rename_i Cc e;simp only[af]at h;refine AV h λZ a b J c Zz=>AB Zz λY d=>An Cc e ⟨Z,a,b,?_⟩ c Y<|λf a=>?_
  .unfold Kn at J;split at J;.rename_i x e2;rw[e2,iF J]
   .cases J
  .have:=aK.mp d f a;unfold KQ at this;split at this;.rename_i e2;exact e2
   simp_all
 .cases h
theorem qk{α β:Type}[BEq α][LawfulBEq α]:∀{tbl:List<|α×β}{a}{b},tbl.lookup a=al b->(a,b)∈tbl|[],_,_,h=>by cases h|(g,e)::tbl,a,b,h=>by rw[bo]at h;cases q:a==g with|true=>simp_all|false=>rw[q]at h;exact ah _<|qk h
set_option tactic.hygienic true in def TQ{K}{mg:yC}{uI:List<|(String×String)×pd×Stmt}{vF:List<|String×List (List Nat)}(X:K.In h)(G:h.Ns aV mg)(b:∀c m,P.mt c m=(uI.lookup (c,m)).map (·.1))(i:∀c f,P.att c f=(vF.lookup c).any λl=>l.contains f)(hO:(vF.all λp=>Cg K p.1 p.2)=bY)(g:(uI.all λp=>(vF.lookup p.1.1).isSome&&(uI.lookup (p.1.1,"__init__")).isSome)=bY)(hM:∀p∈uI,HK K p.1.1 p.1.2 p.2.2)(hT:∀p∈uI,DM p.1.1 p.1.2 p.2.1 p.2.2):(∀c m d,P.mt c m=al d->BV (wu names P K) c m d)/\(∀(c:String)(f:List Nat)(Cc:Addr),P.att c f=bY->(wu names P K).cls c=al Cc->kv K Cc ⟨f.toArray⟩)/\∀(c:String)(Cc:Addr),(wu names P K).cls c=al Cc->mg (c:Str)=al (.ref Cc)/\dP K Cc=bY/\bR K (.ref Cc)=true:=by
 have ns:∀{c:String}{Cc:Addr},(wu names P K).cls c=al Cc->bC K aV (c:Str)=al (al<|.ref Cc)/\(P.mt c "__init__").isSome=true:=λ{c Cc}e=>by
  have e:CD P K c=al Cc:=e;unfold CD at e;split at e
  .rename_i d hd;split at e;.rename_i Z hn;cases e;exact⟨hn,by rw[hd];rfl⟩
   .cases e
  .cases e
 have at_:∀{c:String}{l:List<|List Nat},vF.lookup c=al l->Cg K c l=true:=λ{c l}e=>aK.mp hO _<|qk e;have h:∀{c m:String}{p:pd×Stmt},uI.lookup (c,m)=al p->∃l,vF.lookup c=al l:=λ{c m p}e=>by have:=aK.mp g _<|qk e;rw[af]at this;exact cw.mp this.1
 refine⟨λc m d e=>?_,λc f Cc e q=>?_,λc Cc q=>?_⟩
 .rw[b]at e;obtain⟨p,Y,rfl⟩:=a7.mp e;refine AF (h Y) λl a=>AH (GZ<|at_ a) λCc J j _=>AJ (hM _<|qk Y) λf Z a Zz=>AJ Zz λan sl a Zz=>AG Zz λkV a a a a a k l Zz=>AI Zz λa4 d m=>?_;rw[J]at a;cases a;refine AS (hT _<|qk Y) λN ps a n o Zz=>AB Zz λb4 r=>?_;have F:=GO (st:=p.2) l a4 d;have hi:=aK.mp g _<|qk Y;rw[af]at hi;have hcl:CD P K c=al Cc:=by unfold CD;refine AF (cw.mp hi.2) λp0 g=>?_;rw[b,show uI.lookup (c,"__init__")=al p0 from g,bz];show(match bC K aV (c:Str)with|some<|al<|.ref Cc=>al Cc|_=>aT)=al Cc;rw[J]
  exact⟨p.2,N,ps,f,_,Cc,(Ad hcl j),⟨k,m,d⟩,F,F.binds b4,a,n,o,r⟩
 .rw[i]at e;cases a:vF.lookup c with|none=>simp_all|some l=>rw[a]at e;refine AN (GZ<|at_ a) λZ J _ _ _ a=>?_;cases(ns q).1▸J;exact a f<|da.mp e
 .refine AB (ns q) λn0 hi=>?_;rw[b]at hi;refine AF (cw.mp hi) λd hd=>AE (a7.mp hd) λp Y _=>AF (h Y) λl a=>AN (GZ<|at_ a) λZ J _ a b _=>?_;cases n0▸J;exact Ai (bX X G n0) a b
def Fm(c m:String)(d:pT)(st:Stmt):Prop:=∃N ps,fP N ps (bb st)/\ps.length=d.ps/\N.length=d.ps+d.vs/\Lf (m) ((c++"."++m:String)) st ps/\mX ⟨N,bb st,λ_ _ _=>ce⟩ d.body (eh st)=bY
def Zh{K}{uI:List<|(String×String)×pd×Stmt}{yd:List<|(String×String)×pT×Stmt}{vF:List<|String×List (List Nat)}(a:∀c m,P.mt c m=(uI.lookup (c,m)).map (·.1))(a:∀c m,P.mx c m=(yd.lookup (c,m)).map (·.1))(hO:(vF.all λp=>Cg K p.1 p.2)=bY)(b:(yd.all λp=>(vF.lookup p.1.1).isSome&&(uI.lookup (p.1.1,"__init__")).isSome)=bY)(hM:∀p∈yd,HK K p.1.1 p.1.2 p.2.2)(hT:∀p∈yd,Fm p.1.1 p.1.2 p.2.1 p.2.2):∀c m d,P.mx c m=al d->BU (wu names P K) c m d:=λc m d e=>by
 rw[a]at e;obtain⟨p,h,rfl⟩:=a7.mp e;have hi:=aK.mp b _<|qk h;rw[af]at hi;refine AF (cw.mp hi.1) λl a=>AH (GZ<|(λ{c l}e=>aK.mp hO _<|qk e) a) λCc b d _=>AJ (hM _<|qk h) λf a a Zz=>AJ Zz λan sl a Zz=>AG Zz λkV a a a a e g i Zz=>AI Zz λa4 a Z=>?_;cases b▸e;refine AS (hT _<|qk h) λN ps b e h Zz=>AB Zz λb4 j=>?_;have F:=GO (st:=p.2) i a4 a;have hcl:CD P K c=al Cc:=by unfold CD;refine AF (cw.mp hi.2) λY J=>?_;simp_all
 exact⟨p.2,N,ps,f,_,Cc,(Ad hcl d),⟨g,Z,a⟩,F,F.binds b4,b,e,h,j⟩
end L2
end
noncomputable section
namespace DV
noncomputable def A4:Df:=⟨"is_whole",3,0,(.cons (.ret<|.and (.bi .isInt<|.cons (.X 0) .nil) (.and (.not<|.bi .isBool<|.cons (.X 0) .nil) (.chain .le .le (.X 1) (.X 0) (.X 2)))) .nil)⟩
noncomputable def A6:Df:=⟨"is_tuple_of",2,0,(.cons (.ret<|.and (.bi .isTup<|.cons (.X 0) .nil) (.Z .eq (.bi .len<|.cons (.X 0) .nil) (.X 1))) .nil)⟩
noncomputable def A5:Df:=⟨"is_letter",2,0,(.cons (.ret<|.Z .isin (.X 0) (.yN (.gl "LETTERS") (.X 1))) .nil)⟩
noncomputable def xR:Df:=⟨"letters_of",1,0,(.cons (.ret<|.yN (.gl "LETTERS") (.ix (.X 0) (.K<|.int 0))) .nil)⟩
noncomputable def vO:Df:=⟨"rooms_of",1,0,(.cons (.ret<|.ix (.X 0) (.K<|.int 1)) .nil)⟩
noncomputable def j0:Df:=⟨"begins_of",1,0,(.cons (.ret<|.ix (.X 0) (.K<|.int 2)) .nil)⟩
noncomputable def vR:Df:=⟨"doors_of",1,0,(.cons (.ret<|.ix (.X 0) (.K<|.int 4)) .nil)⟩
noncomputable def t5:Df:=⟨"grid",2,2,(.cons (.A (.Y 2) (.J .nil)) (.cons (.fo (.Y 3) (.rg<|.X 0) (.cons (.ex<|.me .append (.X 2) (.cons (.mk .tuple<|.comp (.Y 0) (.rg<|.X 0) (.tX 1<|.cons (.X 2) (.cons (.X 0) .nil)) [aT,al 1,al 3]) .nil)) .nil)) (.cons (.ret<|.mk .tuple<|.seq<|.X 2) .nil)))⟩
noncomputable def vi:Df:=⟨"least",1,0,(.cons (.ret<|.xE .min (.ub (.Y 0) (.seq<|.X 0) (.vd<|.X 0) (.X 0) [aT]) (.K .N)) .nil)⟩
noncomputable def vy:Df:=⟨"added",2,0,(.cons (.ite (.or (.yg<|.X 0) (.yg<|.X 1)) (.cons (.ret<|.K .N) .nil) .nil) (.cons (.ret<|.G .add (.X 0) (.X 1)) .nil))⟩
noncomputable def vL:Df:=⟨"plain",1,0,(.cons (.ret<|.callC "grid"<|.ex (.X 0) (.lam "plain.0" [] .nil)) .nil)⟩
noncomputable def vP:Lm:=⟨"plain.0",2,0,(.ite (.Z .eq (.X 0) (.X 1)) (.K<|.int 0) (.K .N))⟩
noncomputable def vN:Df:=⟨"product",2,1,(.cons (.A (.Y 2) (.bi .len<|.cons (.X 0) .nil)) (.cons (.ret<|.callC "grid"<|.ex (.X 2) (.lam "product.0" [2,0,1] .nil)) .nil))⟩
noncomputable def vS:Lm:=⟨"product.0",2,3,(.call "least"<|.ex (.mk .list<|.comp (.Y 0) (.rg<|.X 2) (.call "added"<|.ex (.ix (.ix (.X 1) (.X 2)) (.X 0)) (.ex (.ix (.ix (.X 3) (.X 0)) (.X 4)) .nil)) [aT,al 3,al 0,al 4,al 1]) .nil)⟩
noncomputable def vT:Df:=⟨"letter_table",2,1,(.cons (.BX 2) (.cons (.ret<|.callC "grid"<|.ex (.call "rooms_of"<|.ex (.X 0) .nil) (.lam "letter_table.least_fee" [0,1] .nil)) .nil))⟩
noncomputable def vU:Lm:=⟨"letter_table.least_fee",2,2,(.call "least"<|.ex (.mk .list<|.ub (.tp [0,1,2,3]) (.seq<|.call "doors_of"<|.ex (.X 2) .nil) (.Z .eq (.tp<|.cons (.X 0) (.cons (.X 1) (.cons (.X 2) .nil))) (.tp<|.cons (.X 4) (.cons (.X 5) (.cons (.X 6) .nil)))) (.X 3) [aT,aT,aT,aT,al 0,al 3,al 1]) .nil)⟩
noncomputable def v3:Df:=⟨"word_table",2,3,(.cons (.A (.Y 2) (.dc .nil .nil)) (.cons (.A (.Y 3) (.call "plain"<|.ex (.call "rooms_of"<|.ex (.X 0) .nil) .nil)) (.cons (.fo (.Y 4) (.seq<|.X 1) (.cons (.ite (.Z .pb (.X 4) (.X 2)) (.cons (.ll (.X 2) (.X 4) (.call "letter_table"<|.ex (.X 0) (.ex (.X 4) .nil))) .nil) .nil) (.cons (.A (.Y 3) (.call "product"<|.ex (.X 3) (.ex (.ix (.X 2) (.X 4)) .nil))) .nil))) (.cons (.ret<|.X 3) .nil))))⟩
noncomputable def zY:Df:=⟨"at_begins_and_ends",2,2,.nil⟩
noncomputable def xo:Df:=⟨"sign_of",1,0,(.cons (.ite (.yg<|.X 0) (.cons (.ret<|.gl "NONE") .nil) .nil) (.cons (.ret<|.ite (.Z .eq (.X 0) (.K<|.int 0)) (.gl "FREE") (.gl "SOME")) .nil))⟩
noncomputable def xp:Df:=⟨"reading",1,0,(.cons (.ret<|.callC "grid"<|.ex (.bi .len<|.cons (.X 0) .nil) (.lam "reading.0" [0] .nil)) .nil)⟩
noncomputable def xq:Lm:=⟨"reading.0",2,1,(.call "sign_of"<|.ex (.ix (.ix (.X 2) (.X 0)) (.X 1)) .nil)⟩
noncomputable def jv:Lm:=⟨"plain_signs.0",2,0,(.ite (.Z .eq (.X 0) (.X 1)) (.gl "FREE") (.gl "NONE"))⟩
noncomputable def xN:Df:=⟨"_law_box",2,4,(.cons (.A (.Y 2) (.K<|.int 0)) (.cons (.ite (.Z .lt (.X 1) (.bi .len<|.cons (.X 0) .nil)) (.cons (.A (.Y 2) (.bi .abs<|.cons (.ix (.X 0) (.X 1)) .nil)) .nil) .nil) (.cons (.ite (.Z .ge (.X 2) (.G .pow (.K<|.int 10) (.K<|.int 18))) (.cons (.ret<|.J<|.cons (.X 2) .nil) .nil) .nil) (.cons (.A (.Y 3) (.K<|.int 0)) (.cons (.fo (.Y 4) (.rg<|.K<|.int 128) (.cons (.A (.Y 5) (.G .mod (.G .mul (.G .add (.G .add (.G .add (.G .mod (.X 2) (.K<|.int 2147483647)) (.G .mul (.K<|.int 7919) (.X 1))) (.G .mul (.K<|.int 104729) (.X 4))) (.K<|.int 97)) (.K<|.int 48271)) (.K<|.int 2147483647))) (.cons (.A (.Y 3) (.G .add (.G .mul (.X 3) (.K<|.int 2147483647)) (.G .mod (.G .add (.G .add (.G .mul (.X 5) (.X 5)) (.G .mul (.K<|.int 31) (.X 4))) (.G .fdiv (.X 2) (.K<|.int 2147483647))) (.K<|.int 2147483647)))) .nil))) (.cons (.ret<|.J<|.cons (.X 3) .nil) .nil))))))⟩
noncomputable def vw:Df:=⟨"_law_draw",2,1,(.cons (.A (.Y 2) (.G .mod (.ix (.X 0) (.K<|.int 0)) (.X 1))) (.cons (.ll (.X 0) (.K<|.int 0) (.G .fdiv (.ix (.X 0) (.K<|.int 0)) (.X 1))) (.cons (.ret<|.X 2) .nil)))⟩
noncomputable def uX:Df:=⟨"sign_product",2,1,(.cons (.A (.Y 2) (.bi .len<|.cons (.X 0) .nil)) (.cons (.ret<|.callC "grid"<|.ex (.X 2) (.lam "sign_product.0" [2,0,1] .nil)) .nil))⟩
noncomputable def uY:Lm:=⟨"sign_product.0",2,3,(.mk .min<|.comp (.Y 0) (.rg<|.X 2) (.bi .max2<|.cons (.ix (.ix (.X 1) (.X 2)) (.X 0)) (.cons (.ix (.ix (.X 3) (.X 0)) (.X 4)) .nil)) [aT,al 3,al 0,al 4,al 1])⟩
noncomputable def vz:Df:=⟨"_law_product",2,4,(.cons (.A (.Y 2) (.J .nil)) (.cons (.fo (.Y 3) (.seq<|.X 0) (.cons (.A (.Y 4) (.mk .list<|.comp (.Y 0) (.seq<|.X 3) (.K<|.int 3) [aT])) (.cons (.fo (.Y 5) (.rg<|.bi .len<|.cons (.X 3) .nil) (.cons (.ite (.Z .lt (.ix (.X 3) (.X 5)) (.K<|.int 3)) (.cons (.A (.Y 4) (.mk .list<|.comp (.Y 0) (.rg<|.bi .len<|.cons (.X 3) .nil) (.bi .min2<|.cons (.ix (.X 1) (.X 0)) (.cons (.bi .max2<|.cons (.ix (.X 2) (.X 3)) (.cons (.ix (.ix (.X 4) (.X 3)) (.X 0)) .nil)) .nil)) [aT,al 4,al 3,al 5,al 1])) .nil) .nil) .nil)) (.cons (.ex<|.me .append (.X 2) (.cons (.mk .tuple<|.seq<|.X 4) .nil)) .nil)))) (.cons (.ret<|.mk .tuple<|.seq<|.X 2) .nil)))⟩
noncomputable def vZ:Df:=⟨"is_steady",1,0,(.cons (.ret<|.Z .eq (.call "sign_product"<|.ex (.X 0) (.ex (.X 0) .nil)) (.X 0)) .nil)⟩
noncomputable def vQ:Df:=⟨"round_of",1,0,(.cons (.ite (.or (.Z .eq (.X 0) (.gl "FREE")) (.Z .eq (.X 0) (.gl "NONE"))) (.cons (.ret<|.X 0) .nil) .nil) (.cons (.ret<|.gl "UNBOUND") .nil))⟩
noncomputable def wq:Df:=⟨"sharpened",1,2,(.cons (.ite (.not<|.call "is_steady"<|.ex (.X 0) .nil) (.cons .raise .nil) .nil) (.cons (.A (.Y 1) (.bi .len<|.cons (.X 0) .nil)) (.cons (.A (.Y 2) (.mk .list<|.comp (.Y 0) (.rg<|.X 1) (.call "round_of"<|.ex (.ix (.ix (.X 1) (.X 0)) (.X 0)) .nil) [aT,al 0])) (.cons (.ret<|.callC "grid"<|.ex (.X 1) (.lam "sharpened.0" [1,0,2] .nil)) .nil))))⟩
noncomputable def wt:Lm:=⟨"sharpened.0",2,3,(.mk .min<|.comp (.Y 0) (.rg<|.X 2) (.bi .vf<|.cons (.ix (.ix (.X 1) (.X 2)) (.X 0)) (.cons (.ix (.X 3) (.X 0)) (.cons (.ix (.ix (.X 1) (.X 0)) (.X 4)) .nil))) [aT,al 3,al 0,al 4,al 1])⟩
noncomputable def jU:Df:=⟨"steady_power",1,2,(.cons (.A (.Y 1) (.K<|.int 1)) (.cons (.A (.Y 2) (.X 0)) (.cons (.u5 (.not<|.call "is_steady"<|.ex (.X 2) .nil) (.cons (.aug 1<|.K<|.int 1) (.cons (.A (.Y 2) (.call "sign_product"<|.ex (.X 2) (.ex (.X 0) .nil))) .nil))) (.cons (.ret<|.tp<|.cons (.X 1) (.cons (.X 2) .nil)) .nil))))⟩
noncomputable def xr:Df:=⟨"word_signs",2,0,(.cons (.ret<|.call "reading"<|.ex (.call "word_table"<|.ex (.X 0) (.ex (.X 1) .nil)) .nil) .nil)⟩
noncomputable def xS:Df:=⟨"_law_letter_signs",2,6,(.cons (.A (.Y 2) (.ix (.X 0) (.K<|.int 1))) (.cons (.A (.Y 3) (.mk .list<|.comp (.Y 0) (.rg<|.X 2) (.mk .list<|.comp (.Y 0) (.rg<|.X 1) (.K<|.int 3) [aT]) [aT,al 2])) (.cons (.fo (.tp [4,5,6,7]) (.seq<|.ix (.X 0) (.K<|.int 4)) (.cons (.ite (.Z .eq (.X 5) (.X 1)) (.cons (.ll (.ix (.X 3) (.X 4)) (.X 6) (.bi .min2<|.cons (.ix (.ix (.X 3) (.X 4)) (.X 6)) (.cons (.bi .int<|.cons (.Z .gt (.X 7) (.K<|.int 0)) .nil) .nil))) .nil) .nil) .nil)) (.cons (.ret<|.mk .tuple<|.comp (.Y 0) (.seq<|.X 3) (.mk .tuple<|.seq<|.X 0) [aT]) .nil))))⟩
noncomputable def A2:Df:=⟨"is_ahead",2,0,(.cons (.ret<|.call "is_whole"<|.ex (.X 0) (.ex (.K<|.int 0) (.ex (.G .sub (.X 1) (.K<|.int 1)) .nil))) .nil)⟩
noncomputable def A9:Df:=⟨"is_letter_step",2,0,(.cons (.ret<|.and (.call "is_tuple_of"<|.ex (.X 0) (.ex (.K<|.int 2) .nil)) (.and (.Z .eq (.ix (.X 0) (.K<|.int 0)) (.K<|.str [108,101,116,116,101,114])) (.call "is_letter"<|.ex (.ix (.X 0) (.K<|.int 1)) (.ex (.X 1) .nil)))) .nil)⟩
noncomputable def A7:Df:=⟨"is_pair_step",2,0,(.cons (.ret<|.and (.call "is_tuple_of"<|.ex (.X 0) (.ex (.K<|.int 3) .nil)) (.and (.Z .eq (.ix (.X 0) (.K<|.int 0)) (.K<|.str [112,97,105,114])) (.and (.call "is_ahead"<|.ex (.ix (.X 0) (.K<|.int 1)) (.ex (.X 1) .nil)) (.call "is_ahead"<|.ex (.ix (.X 0) (.K<|.int 2)) (.ex (.X 1) .nil))))) .nil)⟩
noncomputable def A8:Df:=⟨"is_sharp_step",2,0,(.cons (.ret<|.and (.call "is_tuple_of"<|.ex (.X 0) (.ex (.K<|.int 2) .nil)) (.and (.Z .eq (.ix (.X 0) (.K<|.int 0)) (.K<|.str [115,104,97,114,112])) (.call "is_ahead"<|.ex (.ix (.X 0) (.K<|.int 1)) (.ex (.X 1) .nil)))) .nil)⟩
noncomputable def BH:Df:=⟨"signs_made",2,2,(.cons (.ite (.or (.not<|.bi .isTup<|.cons (.X 1) .nil) (.not<|.chain .le .le (.K<|.int 1) (.bi .len<|.cons (.X 1) .nil) (.gl "MOST_STEPS"))) (.cons .raise .nil) .nil) (.cons (.A (.Y 2) (.J .nil)) (.cons (.fo (.Y 3) (.seq<|.X 1) (.cons (.ex<|.me .append (.X 2) (.cons (.call "signs_of_step"<|.ex (.X 0) (.ex (.X 3) (.ex (.X 2) .nil))) .nil)) .nil)) (.cons (.ret<|.X 2) .nil))))⟩
noncomputable def BI:Df:=⟨"signs_of_step",3,1,(.cons (.A (.Y 3) (.bi .len<|.cons (.X 2) .nil)) (.cons (.ite (.call "is_letter_step"<|.ex (.X 1) (.ex (.bi .len<|.cons (.call "letters_of"<|.ex (.X 0) .nil) .nil) .nil)) (.cons (.ret<|.call "word_signs"<|.ex (.X 0) (.ex (.ix (.X 1) (.K<|.int 1)) .nil)) .nil) .nil) (.cons (.ite (.call "is_pair_step"<|.ex (.X 1) (.ex (.X 3) .nil)) (.cons (.ret<|.call "sign_product"<|.ex (.ix (.X 2) (.ix (.X 1) (.K<|.int 1))) (.ex (.ix (.X 2) (.ix (.X 1) (.K<|.int 2))) .nil)) .nil) .nil) (.cons (.ite (.and (.call "is_sharp_step"<|.ex (.X 1) (.ex (.X 3) .nil)) (.call "is_steady"<|.ex (.ix (.X 2) (.ix (.X 1) (.K<|.int 1))) .nil)) (.cons (.ret<|.call "sharpened"<|.ex (.ix (.X 2) (.ix (.X 1) (.K<|.int 1))) .nil) .nil) .nil) (.cons .raise .nil)))))⟩
noncomputable def wO:Df:=⟨"_law_sharp",1,8,(.cons (.A (.Y 1) (.bi .len<|.cons (.X 0) .nil)) (.cons (.A (.Y 2) (.J .nil)) (.cons (.fo (.Y 3) (.rg<|.X 1) (.cons (.A (.Y 4) (.J .nil)) (.cons (.fo (.Y 5) (.rg<|.X 1) (.cons (.A (.Y 6) (.K<|.int 3)) (.cons (.fo (.Y 7) (.rg<|.X 1) (.cons (.A (.Y 8) (.ix (.ix (.X 0) (.X 7)) (.X 7))) (.cons (.ite (.Z .eq (.X 8) (.K<|.int 1)) (.cons (.A (.Y 8) (.K<|.int 2)) .nil) .nil) (.cons (.A (.Y 6) (.bi .min2<|.cons (.X 6) (.cons (.bi .vf<|.cons (.ix (.ix (.X 0) (.X 3)) (.X 7)) (.cons (.X 8) (.cons (.ix (.ix (.X 0) (.X 7)) (.X 5)) .nil))) .nil))) .nil)))) (.cons (.ex<|.me .append (.X 4) (.cons (.X 6) .nil)) .nil)))) (.cons (.ex<|.me .append (.X 2) (.cons (.mk .tuple<|.seq<|.X 4) .nil)) .nil)))) (.cons (.ret<|.mk .tuple<|.seq<|.X 2) .nil))))⟩
noncomputable def EW:Df:=⟨"_law_makings",4,8,(.cons (.A (.Y 4) (.J .nil)) (.cons (.A (.Y 5) (.J .nil)) (.cons (.A (.Y 6) (.J .nil)) (.cons (.fo (.Y 7) (.rg<|.G .add (.K<|.int 1) (.call "_law_draw"<|.ex (.X 0) (.ex (.X 2) .nil))) (.cons (.A (.Y 8) (.call "_law_draw"<|.ex (.X 0) (.ex (.K<|.int 6) .nil))) (.cons (.A (.Y 9) (.call "_law_draw"<|.ex (.X 0) (.ex (.G .add (.X 7) (.K<|.int 1)) .nil))) (.cons (.A (.Y 10) (.call "_law_draw"<|.ex (.X 0) (.ex (.G .add (.X 7) (.K<|.int 1)) .nil))) (.cons (.ite (.and (.Z .lt (.X 8) (.K<|.int 4)) (.and (.Z .gt (.X 3) (.K<|.int 0)) (.and (.Z .ne (.X 6) (.J .nil)) (.Z .gt (.X 8) (.K<|.int 0))))) (.cons (.A (.Y 9) (.ix (.X 6) (.G .mod (.X 10) (.bi .len<|.cons (.X 6) .nil)))) (.cons (.ex<|.me .append (.X 4) (.cons (.tp<|.cons (.K<|.str [115,104,97,114,112]) (.cons (.X 9) .nil)) .nil)) (.cons (.ex<|.me .append (.X 5) (.cons (.call "_law_sharp"<|.ex (.ix (.X 5) (.X 9)) .nil) .nil)) (.cons (.A (.Y 3) (.G .sub (.X 3) (.K<|.int 1))) .nil)))) (.cons (.ite (.and (.Z .gt (.X 7) (.K<|.int 0)) (.Z .lt (.X 8) (.K<|.int 5))) (.cons (.A (.Y 9) (.bi .min2<|.cons (.X 9) (.cons (.G .sub (.X 7) (.K<|.int 1)) .nil))) (.cons (.A (.Y 10) (.ite (.Z .gt (.X 8) (.K<|.int 1)) (.bi .min2<|.cons (.X 10) (.cons (.G .sub (.X 7) (.K<|.int 1)) .nil)) (.X 9))) (.cons (.ex<|.me .append (.X 4) (.cons (.tp<|.cons (.K<|.str [112,97,105,114]) (.cons (.X 9) (.cons (.X 10) .nil))) .nil)) (.cons (.ex<|.me .append (.X 5) (.cons (.call "_law_product"<|.ex (.ix (.X 5) (.X 9)) (.ex (.ix (.X 5) (.X 10)) .nil)) .nil)) .nil)))) (.cons (.A (.Y 11) (.ix (.K<|.str [97,98,99]) (.G .mod (.X 9) (.ix (.X 1) (.K<|.int 0))))) (.cons (.ex<|.me .append (.X 4) (.cons (.tp<|.cons (.K<|.str [108,101,116,116,101,114]) (.cons (.X 11) .nil)) .nil)) (.cons (.ex<|.me .append (.X 5) (.cons (.call "_law_letter_signs"<|.ex (.X 1) (.ex (.X 11) .nil)) .nil)) .nil)))) .nil)) (.cons (.ite (.Z .eq (.call "_law_product"<|.ex (.ix (.X 5) (.X 7)) (.ex (.ix (.X 5) (.X 7)) .nil)) (.ix (.X 5) (.X 7))) (.cons (.ex<|.me .append (.X 6) (.cons (.X 7) .nil)) .nil) .nil) .nil)))))) (.cons (.ret<|.tp<|.cons (.mk .tuple<|.seq<|.X 4) (.cons (.X 5) .nil)) .nil)))))⟩
noncomputable def El:As:=.ex (.tp<|.cons (.K<|.str [108,101,116,116,101,114]) (.cons (.X 2) .nil)) (.ex (.call "word_signs"<|.ex (.X 0) (.ex (.X 2) .nil)) .nil)
def FW:Ss:=.cons (.ex<|.cq (.X 1) "take" El) .nil
def Ek:S:=.fo (.Y 2) (.seq<|.call "letters_of"<|.ex (.X 0) .nil) FW
noncomputable def tL:List Nat:=[115,116,101,112,115]
def z1:E:=.Z .lt (.X 3) (.bi .len<|.cons (.attr (.X 1) tL) .nil)
noncomputable def clS:E:=.cq (.X 1) "take_sharp"<|.ex (.X 3) .nil
noncomputable def HU:E:=.cq (.X 1) "take_pairs"<|.ex (.X 3) .nil
def xg:Ss:=.cons (.ex clS) (.cons (.ex HU) (.cons (.aug 3<|.K<|.int 1) .nil))
abbrev Oy:Ss:=.cons (.A (.Y 1) (.new "ClosedSet" .nil)) (.cons Ek<|.cons (.A (.Y 3) (.K<|.int 0)) (.cons (.u5 z1 xg) (.cons (.ret<|.mk .tuple<|.seq<|.attr (.X 1) tL) .nil)))
def yX:Df:=⟨"closed",1,3,Oy⟩
noncomputable def Fv:Ss:=(.cons (.A (.Y 8) (.call "_law_draw"<|.ex (.X 0) (.ex (.X 3) .nil))) (.cons (.A (.Y 9) (.call "_law_draw"<|.ex (.X 0) (.ex (.X 3) .nil))) (.cons (.A (.Y 10) (.ix (.K<|.str [97,98,99]) (.call "_law_draw"<|.ex (.X 0) (.ex (.X 2) .nil)))) (.cons (.ex<|.me .append (.X 6) (.cons (.tp<|.cons (.X 8) (.cons (.X 10) (.cons (.X 9) (.cons (.call "_law_draw"<|.ex (.X 0) (.ex (.X 4) .nil)) .nil)))) .nil)) .nil))))
abbrev Qp:Ss:=.cons (.A (.Y 2) (.G .add (.K<|.int 1) (.call "_law_draw"<|.ex (.X 0) (.ex (.K<|.int 3) .nil)))) (.cons (.A (.Y 3) (.G .add (.K<|.int 1) (.call "_law_draw"<|.ex (.X 0) (.ex (.X 1) .nil)))) (.cons (.A (.Y 4) (.G .add (.K<|.int 2) (.G .mul (.K<|.int 2) (.call "_law_draw"<|.ex (.X 0) (.ex (.K<|.int 2) .nil))))) (.cons (.A (.Y 5) (.G .add (.K<|.int 1) (.call "_law_draw"<|.ex (.X 0) (.ex (.G .add (.G .mul (.K<|.int 2) (.X 3)) (.K<|.int 3)) .nil)))) (.cons (.A (.Y 6) (.J .nil)) (.cons (.fo (.Y 7) (.rg<|.X 5) Fv) (.cons (.ret<|.tp<|.cons (.X 2) (.cons (.X 3) (.cons (.tp<|.cons (.K<|.int 0) .nil) (.cons (.tp<|.cons (.G .sub (.X 3) (.K<|.int 1)) .nil) (.cons (.mk .tuple<|.seq<|.X 6) .nil))))) .nil))))))
def A1:Df:=⟨"_law_small",2,9,Qp⟩
noncomputable def uM:List Nat:=[116,97,98,108,101,115]
noncomputable def uv:List Nat:=[115,101,101,110]
abbrev qe:Ss:=.cons (.wc (.X 0) tL<|.J .nil) (.cons (.wc (.X 0) uM<|.J .nil) (.cons (.wc (.X 0) uv .ym) .nil))
def yx:Df:=⟨"ClosedSet.__init__",1,0,qe⟩
abbrev qV:Ss:=.cons (.ite (.Z .isin (.X 2) (.attr (.X 0) uv)) (.cons .uo .nil) .nil) (.cons (.ite (.Z .eq (.bi .len<|.cons (.attr (.X 0) tL) .nil) (.gl "MOST_TABLES")) (.cons .raise .nil) .nil) (.cons (.ex<|.me .append (.attr (.X 0) tL) (.cons (.X 1) .nil)) (.cons (.ex<|.me .append (.attr (.X 0) uM) (.cons (.X 2) .nil)) (.cons (.ll (.attr (.X 0) uv) (.X 2) (.K<|.T bY)) .nil))))
def u7:Df:=⟨"ClosedSet.take",3,0,qV⟩
def DS:E:=.call "is_steady"<|.ex (.ix (.attr (.X 0) uM) (.X 1)) .nil
def CT:As:=.ex (.tp<|.cons (.K<|.str [115,104,97,114,112]) (.cons (.X 1) .nil)) (.ex (.call "sharpened"<|.ex (.ix (.attr (.X 0) uM) (.X 1)) .nil) .nil)
abbrev qa:Ss:=.cons (.ite DS (.cons (.ex<|.cq (.X 0) "take" CT) .nil) .nil) .nil
def xx:Df:=⟨"ClosedSet.take_sharp",2,0,qa⟩
noncomputable def xw:Df:=⟨"ClosedSet.take_pairs",2,1,(.cons (.fo (.Y 2) (.rg<|.G .add (.X 1) (.K<|.int 1)) (.cons (.ex<|.cq (.X 0) "take"<|.ex (.tp<|.cons (.K<|.str [112,97,105,114]) (.cons (.X 1) (.cons (.X 2) .nil))) (.ex (.call "sign_product"<|.ex (.ix (.attr (.X 0) [116,97,98,108,101,115]) (.X 1)) (.ex (.ix (.attr (.X 0) [116,97,98,108,101,115]) (.X 2)) .nil)) .nil)) (.cons (.ex<|.cq (.X 0) "take"<|.ex (.tp<|.cons (.K<|.str [112,97,105,114]) (.cons (.X 2) (.cons (.X 1) .nil))) (.ex (.call "sign_product"<|.ex (.ix (.attr (.X 0) [116,97,98,108,101,115]) (.X 2)) (.ex (.ix (.attr (.X 0) [116,97,98,108,101,115]) (.X 1)) .nil)) .nil)) .nil))) .nil)⟩
noncomputable def Ht:S:=.fo (.Y 4) (.seq<|.yN (.K<|.str [97,98,99]) (.ix (.X 0) (.K<|.int 0))) (.cons (.A (.Y 5) (.call "_law_letter_signs"<|.ex (.X 0) (.ex (.X 4) .nil))) (.cons (.ite (.Z .pb (.X 5) (.X 2)) (.cons (.ex<|.me .append (.X 2) (.cons (.X 5) .nil)) (.cons (.ex<|.me .append (.X 3) (.cons (.X 5) .nil)) .nil)) .nil) .nil))
noncomputable def FE:E:=.and (.Z .lt (.X 6) (.bi .len<|.cons (.X 2) .nil)) (.Z .le (.bi .len<|.cons (.X 2) .nil) (.X 1))
noncomputable def C6:L:=.comp (.Y 0) (.seq<|.X 3) (.call "_law_product"<|.ex (.X 1) (.ex (.X 0) .nil)) [aT,al 7]
noncomputable def C3:E:=.Z .eq (.call "_law_product"<|.ex (.X 7) (.ex (.X 7) .nil)) (.X 7)
noncomputable def C5:L:=.comp (.Y 0) (.seq<|.yN (.X 2) (.G .add (.X 6) (.K<|.int 1))) (.call "_law_product"<|.ex (.X 0) (.ex (.X 1) .nil)) [aT,al 9]
def C4:Ss:=.cons (.A (.Y 9) (.call "_law_sharp"<|.ex (.X 7) .nil)) (.cons (.ite (.Z .pb (.X 9) (.X 3)) (.cons (.ex<|.me .append (.X 3) (.cons (.X 9) .nil)) (.cons (.A (.Y 8) (.G .add (.G .add (.X 8) (.J<|.cons (.X 9) .nil)) (.mk .list C5))) .nil)) .nil) .nil)
noncomputable def Bz:Ss:=.cons (.ite (.Z .pb (.X 10) (.X 2)) (.cons (.ex<|.me .append (.X 2) (.cons (.X 10) .nil)) .nil) .nil) .nil
def FD:S:=.fo (.Y 10) (.seq<|.X 8) Bz
def FF:Ss:=.cons (.A (.Y 7) (.ix (.X 2) (.X 6))) (.cons (.A (.Y 8) (.mk .list C6)) (.cons (.ite C3 C4 .nil) (.cons FD<|.cons (.A (.Y 6) (.G .add (.X 6) (.K<|.int 1))) .nil)))
abbrev OT:Ss:=.cons (.A (.Y 2) (.J .nil)) (.cons (.A (.Y 3) (.J .nil)) (.cons Ht<|.cons (.A (.Y 6) (.K<|.int 0)) (.cons (.u5 FE FF) (.cons (.ret<|.X 2) .nil))))
def A3:Df:=⟨"_law_closed",2,9,OT⟩
noncomputable def EX:Df:=⟨"_law_makings",4,8,(.cons (.A (.Y 4) (.J .nil)) (.cons (.A (.Y 5) (.J .nil)) (.cons (.A (.Y 6) (.J .nil)) (.cons (.fo (.Y 7) (.rg<|.G .add (.K<|.int 1) (.call "_law_draw"<|.ex (.X 0) (.ex (.X 2) .nil))) (.cons (.A (.Y 8) (.call "_law_draw"<|.ex (.X 0) (.ex (.K<|.int 6) .nil))) (.cons (.A (.Y 9) (.call "_law_draw"<|.ex (.X 0) (.ex (.G .add (.X 7) (.K<|.int 1)) .nil))) (.cons (.A (.Y 10) (.call "_law_draw"<|.ex (.X 0) (.ex (.G .add (.X 7) (.K<|.int 1)) .nil))) (.cons (.ite (.and (.Z .lt (.X 8) (.K<|.int 4)) (.and (.Z .gt (.X 3) (.K<|.int 0)) (.and (.Z .ne (.X 6) (.J .nil)) (.Z .gt (.X 8) (.K<|.int 0))))) (.cons (.A (.Y 9) (.ix (.X 6) (.G .mod (.X 10) (.bi .len<|.cons (.X 6) .nil)))) (.cons (.ex<|.me .append (.X 4) (.cons (.tp<|.cons (.K<|.str [115,104,97,114,112]) (.cons (.X 9) .nil)) .nil)) (.cons (.ex<|.me .append (.X 5) (.cons (.call "_law_sharp"<|.ex (.ix (.X 5) (.X 9)) .nil) .nil)) (.cons (.A (.Y 3) (.G .sub (.X 3) (.K<|.int 1))) .nil)))) (.cons (.ite (.and (.Z .gt (.X 7) (.K<|.int 0)) (.Z .lt (.X 8) (.K<|.int 5))) (.cons (.A (.Y 9) (.bi .min2<|.cons (.X 9) (.cons (.G .sub (.X 7) (.K<|.int 1)) .nil))) (.cons (.A (.Y 10) (.ite (.Z .gt (.X 8) (.K<|.int 1)) (.bi .min2<|.cons (.X 10) (.cons (.G .sub (.X 7) (.K<|.int 1)) .nil)) (.X 9))) (.cons (.ex<|.me .append (.X 4) (.cons (.tp<|.cons (.K<|.str [112,97,105,114]) (.cons (.X 9) (.cons (.X 10) .nil))) .nil)) (.cons (.ex<|.me .append (.X 5) (.cons (.call "_law_product"<|.ex (.ix (.X 5) (.X 9)) (.ex (.ix (.X 5) (.X 10)) .nil)) .nil)) .nil)))) (.cons (.A (.Y 11) (.ix (.K<|.str [97,98,99]) (.G .mod (.X 9) (.ix (.X 1) (.K<|.int 0))))) (.cons (.ex<|.me .append (.X 4) (.cons (.tp<|.cons (.K<|.str [108,101,116,116,101,114]) (.cons (.X 11) .nil)) .nil)) (.cons (.ex<|.me .append (.X 5) (.cons (.call "_law_letter_signs"<|.ex (.X 1) (.ex (.X 11) .nil)) .nil)) .nil)))) .nil)) (.cons (.ite (.Z .eq (.call "_law_product"<|.ex (.ix (.X 5) (.X 7)) (.ex (.ix (.X 5) (.X 7)) .nil)) (.ix (.X 5) (.X 7))) (.cons (.ex<|.me .append (.X 6) (.cons (.X 7) .nil)) .nil) .nil) .nil)))))) (.cons (.ret<|.tp<|.cons (.mk .tuple<|.seq<|.X 4) (.cons (.X 5) .nil)) .nil)))))⟩
noncomputable def Fo:Ss:=(.cons (.A (.Y 4) (.G .add (.X 4) (.ix (.K<|.str [97,98,99]) (.call "_law_draw"<|.ex (.X 0) (.ex (.ix (.X 1) (.K<|.int 0)) .nil))))) .nil)
def Fn:Ss:=(.cons (.A (.Y 4) (.K<|.str [])) (.cons (.fo (.Y 5) (.rg<|.G .add (.K<|.int 1) (.call "_law_draw"<|.ex (.X 0) (.ex (.K<|.int 40) .nil))) Fo) (.cons (.ex<|.me .append (.X 2) (.cons (.X 4) .nil)) .nil)))
abbrev OE:Ss:=.cons (.A (.Y 2) (.J .nil)) (.cons (.fo (.Y 3) (.rg<|.K<|.int 3) Fn) (.cons (.ret<|.X 2) .nil))
def BG:Df:=⟨"_law_words",2,4,OE⟩
noncomputable def Kg:L:=.comp (.Y 0) (.seq<|.call "_law_words"<|.ex (.X 2) (.ex (.X 3) .nil)) (.call "word_signs"<|.ex (.X 1) (.ex (.X 0) .nil)) [aT,al 3]
def Hh:E:=.mk .list Kg
noncomputable def FQ:Ss:=(.cons (.ite (.or (.Z .pb (.X 8) (.X 6)) (.or (.Z .pb (.call "sign_product"<|.ex (.X 8) (.ex (.X 7) .nil)) (.X 6)) (.Z .pb (.call "sign_product"<|.ex (.X 7) (.ex (.X 8) .nil)) (.X 6)))) (.cons (.ret<|.K<|.T ce) .nil) .nil) .nil)
noncomputable def FX:Ss:=(.cons (.ite (.and (.call "is_steady"<|.ex (.X 8) .nil) (.Z .pb (.call "sharpened"<|.ex (.X 8) .nil) (.X 6))) (.cons (.ret<|.K<|.T ce) .nil) .nil) .nil)
def IA:Ss:=(.cons (.ite (.yg<|.X 6) (.cons (.ite (.Z .le (.bi .len<|.cons (.call "_law_closed"<|.ex (.X 3) (.ex (.K<|.int 80) .nil)) .nil) (.K<|.int 80)) (.cons (.ret<|.K<|.T ce) .nil) .nil) (.cons .cont .nil)) .nil) (.cons (.A (.Y 7) (.ix (.X 6) (.call "_law_draw"<|.ex (.X 2) (.ex (.bi .len<|.cons (.X 6) .nil) .nil)))) (.cons (.fo (.Y 8) (.seq<|.X 5) FQ) (.cons (.fo (.Y 8) (.seq<|.X 6) FX) .nil))))
def EG:Ss:=.cons (.A (.Y 6) (.call "_law_set"<|.ex (.X 3) .nil)) IA
def HP:Ss:=(.cons (.A (.Y 2) (.call "_law_box"<|.ex (.X 0) (.ex (.X 1) .nil))) (.cons (.A (.Y 3) (.call "_law_small"<|.ex (.X 2) (.ex (.K<|.int 3) .nil))) (.cons (.A (.Y 4) (.ix (.call "_law_makings"<|.ex (.X 2) (.ex (.X 3) (.ex (.K<|.int 12) (.ex (.K<|.int 6) .nil)))) (.K<|.int 0))) (.cons (.A (.Y 5) (.G .add Hh<|.call "signs_made"<|.ex (.X 3) (.ex (.X 4) .nil))) EG))))
abbrev ON:Ss:=.cons (.fo (.Y 1) (.w3 (.K<|.int 0) (.G .add (.bi .min2<|.cons (.K<|.int 6) (.cons (.bi .len<|.cons (.X 0) .nil) .nil)) (.K<|.int 1)) (2)) HP) (.cons (.ret<|.K<|.T bY) .nil)
def yY:Df:=⟨"law",1,8,ON⟩
noncomputable def cD0:Df:=⟨"_law_on",3,5,(.cons (.A (.Y 3) (.mk .list<|.comp (.Y 0) (.seq<|.X 2) (.K .N) [aT])) (.cons (.fo (.tp [4,5,6,7]) (.seq<|.ix (.X 0) (.K<|.int 4)) (.cons (.ite (.and (.Z .eq (.X 5) (.X 1)) (.vd<|.ix (.X 2) (.X 4))) (.cons (.ite (.or (.yg<|.ix (.X 3) (.X 6)) (.Z .lt (.G .add (.ix (.X 2) (.X 4)) (.X 7)) (.ix (.X 3) (.X 6)))) (.cons (.ll (.X 3) (.X 6) (.G .add (.ix (.X 2) (.X 4)) (.X 7))) .nil) .nil) .nil) .nil) .nil)) (.cons (.ret<|.X 3) .nil)))⟩
class bc(P:Pr)(d:Df):Prop where eq:P.df d.name=al d
class lb(P:Pr)(c m:String)(d:Df):Prop where at_:P.mt c m=al d
class sv(P:Pr)(c:String)(f:List Nat):Prop where at_:P.att c f=bY
class dy(P:Pr)(d:Lm):Prop where eq:P.lm d.id=al d
class ee(P:Pr)(x:String)(v:D):Prop where eq:P.con x=al v
def fin(s:cn)(c:Ct)(a:cn):R D:=match c with|.ret v=>nf s v a|.next _=>nf s .N a|_=>.B
@[simp]theorem ju s v s':fin s (.ret v) s'=nf s v s':=rfl
@[simp]theorem uK s U s':fin s (.next U) s'=nf s .N s':=rfl
def zg d[h:bc P d](J:l.length=d.ps):(cc P<|n+1).call d.name l s=(oo (cc P n) d.body (l.map al++ay d.vs aT) s).bind (fin s):=by simp only[cc,h.eq,J];rfl
def Dz d[h:dy P d](J:l.length=d.ps)(hc:cs.length=d.cs)(hn:(D.lj l&&D.lj cs&&s.all O.eU)=bY):(cc P<|n+1).lam d.id cs l s=(ev (cc P n) d.body (l.map al++cs.map al) s).bind (nf s):=by simp only[cc,h.eq,J,hc,hn,and_self,if_true]
def ja d[h:lb P c m d](J:l.length=d.ps):(cc P<|n+1).cq c m l s=(oo (cc P n) d.body (l.map al++ay d.vs aT) s).bind λc a=>fin s c a:=by simp only[cc,h.at_,HV,J];rfl
def JC[h:sv P c f]:(cc P n).att c f=true:=by
 have:(cc P n).att=P.att:=by cases n<;>rfl
 exact this▸h.at_
def MU[h:ee P x v]:(cc P n).con x=al v:=by cases n<;>exact h.eq
def GK s t:wM s (s++t)=true:=by unfold wM;rw[aK];intro i hi;rw[bI]at hi;rw[aC hi];simp
def aZ2 s:wM s s=true:=by have:=GK s [];rwa[aZ]at this
def OC s t r o(h:o.eu s.length=bY):wM s (s.set r o++t)=true:=by
 unfold wM;rw[aK];intro i hi;rw[bI]at hi;rw[aC<|by rw[bw];exact hi];by_cases e:r=i;.subst e;rw[bF hi];simp[h]
 .rw[aD e];simp
def zO(h:∀n,d.eu n=bY)(a:∀r,d≠.ref r):nf s d (s++t)=.ok d s:=by unfold nf;rw[GK,ef rfl];simp_all
def zo(h:∀n,d.eu n=bY)(a:∀r,d≠.ref r):nf s d s=.ok d s:=by have:=zO (s:=s) (t:=[]) h a;rwa[aZ]at this
def Qo(h:∀n,d.eu n=bY)(a:∀r,d≠.ref r)(a:o.eu s.length=bY):nf s d (s.set r o++t)=.ok d (s.set r o):=by unfold nf;rw[OC s t r o a,ef rfl];simp_all
def W8(h:∀n,d.eu n=bY)(a:∀r,d≠.ref r)(b:o.eu s.length=bY):nf s d (s.set r o)=.ok d (s.set r o):=by have:=Qo (t:=[]) (r:=r) h a b;rwa[aZ]at this
def Qs{u:cn}(a:o.eu s.length=bY):nf s (.ref<|s.length+t.length) (s++(t++o::u))=.ok (.ref s.length) (s++[o]):=by unfold nf;rw[GK,ef rfl];simp_all
@[simp]theorem zQ:nf s (.int i) s=.ok (.int i) s:=zo (λ_=>rfl) (by nofun)
@[simp]theorem qb:nf s (.T i) s=.ok (.T i) s:=zo (λ_=>rfl) (by nofun)
@[simp]theorem I6:nf s .N s=.ok .N s:=zo (λ_=>rfl) (by nofun)
@[simp]theorem ca4:nf s (.str x) s=.ok (.str x) s:=zo (λ_=>rfl) (by nofun)
set_option tactic.hygienic true in theorem jF:∀{n}{U}{s},uw c g n U s≠.B->uw c g (n+1) U s=uw c g n U s|0,_,_,h=>iN rfl h|n+1,U,s,h=>by rw[show uw c g (n+1+1) U s=uh (c U s) (λb s=>if b then(g U s).bind λJ s=>match J with|.next U=>uw c g (n+1) U s|.cont U=>uw c g (n+1) U s|.brk U=>.ok (.next U) s|.ret d=>.ok (.ret d) s else .ok (.next U) s)from rfl];have e:uw c g (n+1) U s=uh (c U s) (λb s=>if b then(g U s).bind λJ s=>match J with|.next U=>uw c g n U s|.cont U=>uw c g n U s|.brk U=>.ok (.next U) s|.ret d=>.ok (.ret d) s else .ok (.next U) s):=rfl;rw[e]at h⊢;unfold uh at h⊢;cases a:c U s with|exc _ _=>rfl|B=>rfl|ok d s1=>rw[a]at h;cases d with
   |T b=>cases b with|false=>rfl|true=>simp only[R.ax]at h⊢;cases a:g U s1 with|exc _ _=>rfl|B=>rfl|ok J b=>rw[a]at h;simp only[R.ax]at h⊢;cases J with|next a=>exact jF h|cont a=>exact jF h|_=>rfl
   |_=>rfl
theorem jA(h:uw c g n U s≠.B):∀k,uw c g (n+k) U s=uw c g n U s|0=>rfl|k+1=>by have e:=jA h k;rw[<-dU,jF<|e▸h,e]
def R4(h:uw c g n U s=.ok r t):u5 c g U s=.ok r t:=by
 have b:uw c g n U s≠.B:=by lia
 have a:∃n,uw c g n U s≠.B:=(Ae n b);unfold u5;rw[dif_pos a];rw[<-(jA a.choose_spec n),lI,(jA b a.choose),h]
def PR(a:c U s=.ok (.T bY) s1)(a:g U s1=.ok (.next U') s'):u5 c g U s=u5 c g U' s':=by
 have key:∀n,uw c g (n+1) U s=uw c g n U' s':=λn=>by show uh (c U s) _=_;simp_all
 unfold u5;by_cases a:∃n,uw c g n U' s'≠.B;.have hy:∃n,uw c g n U s≠.B:=⟨a.choose+1,by rw[key];exact a.choose_spec⟩;rw[dif_pos a,dif_pos hy];rw[<-(jA hy.choose_spec<|a.choose+1),lI,(jA (by rw[key];exact a.choose_spec) hy.choose),key]
 .have hy:¬∃n,uw c g n U s≠.B:=λ⟨n,b⟩=>by cases n with|zero=>exact b rfl|succ n=>exact a ⟨n,by rw[<-key];exact b⟩
  rw[dif_neg a,dif_neg hy]
def Mm(a:c U s=.ok (.T ce) s1):u5 c g U s=.ok (.next U) s1:=R4 (n:=1)<|by show uh (c U s) _=_;rw[a,z0];rfl
theorem qF(P:Nat->Env->cn->Prop):∀l k U s,P k U s->(∀j U s,j<=l.length->P (k+j) U s->ok s=bY)->(∀j d U s,l[j]?=al d->P (k+j) U s->∃a b,(g d U s=.ok (.next a) b\/g d U s=.ok (.cont a) b)/\P (k+j+1) a b)->∃a b,ux ok g l U s=.ok (.next a) b/\P (k+l.length) a b
 |[],k,U,s,h,o,_=>(Af U s (by show(if ok s then _ else _)=_;rw[ef<|o 0 U s (ak _) h]) h)|d::l,k,U,s,h,o,t=>by
  refine AD (t 0 d U s rfl h) λU1 s1 J Y=>AD (qF P l (k+1) U1 s1 Y (λj a b d e=>o (j+1) a b (by simp_all) (by grind)) λj f a b d e=>by have:=t (j+1) f a b (by simp_all) (by grind);rwa[show k+(j+1)+1=k+1+j+1 by lia]at this) λU2 a e Z=>Af U2 a ?_<|by grind
  show(if ok s then _ else _)=_;rw[ef<|o 0 U s (cz _) h];rcases J with J|J<;>(simp_all)
noncomputable def Nx(Q:Env->cn->Prop):R Ct->Prop|.ok (.next U) s=>Q U s|.ok (.cont U) s=>Q U s|_=>False
@[simp]theorem M1 Q U s:Nx Q (.ok (.next U) s)=Q U s:=rfl
@[simp]theorem cw1 Q U s:Nx Q (.ok (.cont U) s)=Q U s:=rfl
def Gi(e:r=.ok (.next U) s)(h:Q U s):Nx Q r:=by simp_all
def Nx.out:∀{r},Nx Q r->∃U s,(r=.ok (.next U) s\/r=.ok (.cont U) s)/\Q U s|.ok (.next U) s,h=>(Af U s (.inl rfl) h)|.ok (.cont U) s,h=>(Af U s (.inr rfl) h)|.ok (.ret _) _,h=>h.elim|.ok (.brk _) _,h=>h.elim|.exc _ _,h=>h.elim|.B,h=>h.elim
noncomputable def Tst(A B:cn->Prop):R D->Prop|.ok (.T ce) s=>A s|.ok (.T bY) s=>B s|_=>False
@[simp]theorem cz9 A B b s:Tst A B (.ok (.T b) s)=if b then B s else A s:=by cases b<;>rfl
def jQ{Ww:R α->Prop}(P:Nat->Env->cn->Prop)(h:P 0 U s)(o:∀(j:Nat)(U:Env)(s:cn),j<=l.length->P j U s->ok s=bY)(step:∀(j:Nat)(d:D)(U:Env)(s:cn),l[j]?=al d->P j U s->Nx (P<|j+1) (g d U s))(a:∀b a,P l.length b a->Ww (f (.next b) a)):Ww<|(ux ok g l U s).bind f:=AD (qF P l 0 U s h (λj U s a J=>o j U s a<|by simp_all) (λj d U s a J=>by rw[bM]at J⊢;exact(step j d U s a J).out)) λU' a e q=>by simp_all
def GG{x:R α}(P:Nat->Env->cn->Prop)(h:P 0 U s)(o:∀(j:Nat)(U:Env)(s:cn),j<=l.length->P j U s->ok s=bY)(step:∀(j:Nat)(d:D)(U:Env)(s:cn),l[j]?=al d->P j U s->Nx (P<|j+1) (g d U s))(J:∀a b,P l.length a b->f (.next a) b=x):(ux ok g l U s).bind f=x:=jQ (Ww:=(·=x)) P h o step J
section
variable{F:uQ}{U:Env}{s:cn}
@[simp]theorem zz i:ev F (.X i) U s=xT U i s:=rfl
@[simp]theorem jx c:ev F (.K c) U s=.ok c.d s:=rfl
@[simp]theorem kl op a b:ev F (.G op a b) U s=(ev F a U s).bind λx s=>(ev F b U s).bind λy s=>xj op x y s:=rfl
@[simp]theorem wj a:ev F (.not a) U s=uh (ev F a U s) λb s=>.ok (.T<|!b) s:=rfl
@[simp]theorem jw op a b:ev F (.Z op a b) U s=(ev F a U s).bind λx s=>(ev F b U s).bind λy s=>qv op x y s:=rfl
@[simp]theorem Qb o p a b c:ev F (.chain o p a b c) U s=(ev F a U s).bind λx s=>(ev F b U s).bind λy s=>uh (qv o x y s) λk s=>if k then(ev F c U s).bind λz s=>qv p y z s else .ok (.T ce) s:=rfl
@[simp]theorem sQ a:ev F (.yg a) U s=(ev F a U s).bind λx s=>.ok (.T<|decide<|x=.N) s:=rfl
@[simp]theorem FJ a:ev F (.vd a) U s=(ev F a U s).bind λx s=>.ok (.T<|!decide (x=.N)) s:=rfl
@[simp]theorem ox a b:ev F (.and a b) U s=uh (ev F a U s) λc s=>if c then uh (ev F b U s) λc s=>.ok (.T c) s else .ok (.T ce) s:=rfl
@[simp]theorem uj a b:ev F (.or a b) U s=uh (ev F a U s) λc s=>if c then .ok (.T bY) s else uh (ev F b U s) λc s=>.ok (.T c) s:=rfl
@[simp]theorem uL c a b:ev F (.ite c a b) U s=uh (ev F c U s) λk s=>if k then ev F a U s else ev F b U s:=rfl
@[simp]theorem q0 es:ev F (.tp es) U s=(vt F es U s).bind λl s=>.ok (.tp l) s:=rfl
@[simp]theorem sP es:ev F (.J es) U s=(vt F es U s).bind λl s=>yv (.J l) s:=rfl
@[simp]theorem g6 a b:ev F (.ix a b) U s=(ev F a U s).bind λx s=>(ev F b U s).bind λy s=>rW x y s:=rfl
@[simp]theorem qX f h:ev F (.call f h) U s=(tY F h U s).bind λl s=>F.call f l s:=rfl
@[simp]theorem jN f h:ev F (.callC f h) U s=(tY F h U s).bind λl s=>(F.call f l s).bind λd a=>if(d.eU&&a.all O.eU)=bY then .ok d a else .B:=rfl
@[simp]theorem i4 b es:ev F (.bi b es) U s=(vt F es U s).bind λl s=>bi b l s:=rfl
@[simp]theorem rZ k it:ev F (.mk k it) U s=(yQ F it U s).bind λq s=>mk k q s:=rfl
@[simp]theorem B9 k it d:ev F (.xE k it d) U s=(yQ F it U s).bind λq s=>(ev F d U s).bind λd s=>xE k q d s:=rfl
@[simp]theorem zS:CY x s s r=r:=ef rfl
def YK(h:s[a]?=al (.J l))(g:t[a]?=al (.J m)):CY (.ref a) s t r=r:=ef<|show s[a]?.map O.kd=t[a]?.map O.kd by rw[h,g];rfl
@[simp]theorem jY m o es:ev F (.me m o es) U s=(ev F o U s).bind λx s=>(vt F es U s).bind λl t=>CY x s t<|uJ m x l t:=rfl
@[simp]theorem zH:vt F .nil U s=.ok [] s:=rfl
@[simp]theorem zF e es:vt F (.cons e es) U s=(ev F e U s).bind λd s=>(vt F es U s).bind λl s=>.ok (d::l) s:=rfl
@[simp]theorem zU:tY F .nil U s=.ok [] s:=rfl
@[simp]theorem qw e h:tY F (.ex e h) U s=(ev F e U s).bind λd s=>(tY F h U s).bind λl s=>.ok (d::l) s:=rfl
@[simp]theorem cu9 f h:tY F (.fn f h) U s=(tY F h U s).bind λl s=>.ok (.fn f::l) s:=rfl
@[simp]theorem l4 e:wD F (.seq e) U s=(ev F e U s).bind λd s=>uD d s:=rfl
@[simp]theorem cq3 es:yQ F (.yl es) U s=vt F es U s:=rfl
@[simp]theorem tW e:yQ F (.seq e) U s=(ev F e U s).bind λd s=>xK d s:=rfl
def II(x:D):M Sq:=λs=>match x with|.int i=>if-hH<=i/\i<hH then .ok ⟨tP 0 i,[]⟩ s else .B|_=>.B
@[simp]theorem qT a:wD F (.rg a) U s=(ev F a U s).bind λx s=>II x s:=rfl
def zI(a:-hH<=i)(h:i<hH):II (.int i) s=.ok ⟨tP 0 i,[]⟩ s:=by unfold II;simp only[a,h,and_self,if_true]
def D4(F:uQ)(a:Ss)(c:Ct)(s:cn):R Ct:=match c with|.next U=>oo F a U s|c=>.ok c s
@[simp]theorem zb h U s:D4 F h (.next U) s=oo F h U s:=rfl
@[simp]theorem jo h d s:D4 F h (.ret d) s=.ok (.ret d) s:=rfl
@[simp]theorem ya h U s:D4 F h (.cont U) s=.ok (.cont U) s:=rfl
@[simp]theorem zr:oo F .nil U s=.ok (.next U) s:=rfl
@[simp]theorem za st h:oo F (.cons st h) U s=(ex F st U s).bind (D4 F h):=rfl
noncomputable def HE(U:Option Env)(s:cn):R Ct:=match U with|some U=>.ok (.next U) s|none=>.B
@[simp]theorem AA U s:HE (al U) s=.ok (.next U) s:=rfl
@[simp]theorem jc tg e:ex F (.A tg e) U s=(ev F e U s).bind λd s=>HE (jB U tg d) s:=rfl
@[simp]theorem tV o i e:ex F (.ll o i e) U s=(ev F e U s).bind λd s=>(ev F o U s).bind λx s=>(ev F i U s).bind λy s=>(ll x y d s).bind λ_ s=>.ok (.next U) s:=rfl
@[simp]theorem mj e:ex F (.ex e) U s=(ev F e U s).bind λ_ s=>.ok (.next U) s:=rfl
@[simp]theorem dt e:ex F (.ret e) U s=(ev F e U s).bind λd s=>.ok (.ret d) s:=rfl
@[simp]theorem MZ:ex F .uo U s=.ok (.ret .N) s:=rfl
@[simp]theorem qO c a b:ex F (.ite c a b) U s=uh (ev F c U s) λk s=>if k then oo F a U s else oo F b U s:=rfl
@[simp]theorem yk c b:ex F (.u5 c b) U s=u5 (ev F c) (oo F b) U s:=rfl
def turn(F:uQ)(tg:Tg)(b:Ss)(d:D)(U:Env)(s:cn):R Ct:=match jB U tg d with|some U=>oo F b U s|none=>.B
@[simp]theorem kc tg it b:ex F (.fo tg it b) U s=(wD F it U s).bind λq s0=>ux (λs=>n5 s0 s q.src) (turn F tg b) q.its U s0:=rfl
@[simp]theorem zR:ex F .cont U s=.ok (.cont U) s:=rfl
@[simp]theorem B8 i:ex F (.BX i) U s=HE (Cz U i) s:=rfl
@[simp]theorem zA i d:jB U (.Y i) d=xM U i d:=rfl
@[simp]theorem sZ is l:jB U (.tp is) (.tp l)=Cv U is l:=rfl
@[simp]theorem sW:Cv U [] []=al U:=rfl
@[simp]theorem sq i is d l:Cv U (i::is) (d::l)=(xM U i d).bind λU=>Cv U is l:=rfl
@[simp]theorem zx d(U:Env):xT (al d::U) 0 s=.ok d s:=rfl
@[simp]theorem zD x(U:Env)i:xT (x::U) (i+1) s=xT U i s:=by unfold xT;rw[List.getElem?_cons_succ]
@[simp]theorem qf d x(U:Env):xM (x::U) 0 d=al (al d::U):=rfl
@[simp]theorem qP d x(U:Env)i:xM (x::U) (i+1) d=(xM U i d).map (x::·):=by
 unfold xM;by_cases h:i<U.length;.rw[ef<|by simpa using h,ef h];rfl
 .rw[gc<|by simpa using h,gc h];rfl
@[simp]theorem xV x(U:Env):Cz (x::U) 0=al (aT::U):=rfl
@[simp]theorem xU x(U:Env)i:Cz (x::U) (i+1)=(Cz U i).map (x::·):=by
 unfold Cz;by_cases h:i<U.length;.rw[ef<|by simpa using h,ef h];rfl
 .rw[gc<|by simpa using h,gc h];rfl
@[simp]theorem jG i:(Cn.int i).d=.int i:=rfl
@[simp]theorem vb i:(Cn.T i).d=.T i:=rfl
@[simp]theorem k4 i:(Cn.str i).d=.str i:=rfl
@[simp]theorem ug:Cn.N.d=.N:=rfl
@[simp]theorem add_int a b:xj .add (.int a) (.int b) s=.ok (.int<|a+b) s:=rfl
@[simp]theorem sub_int a b:xj .sub (.int a) (.int b) s=.ok (.int<|a-b) s:=rfl
def JG(c:s[a]?=al (.J l))(J:s[b]?=al (.J m))(h:l.length+m.length<=ky):xj .add (.ref a) (.ref b) s=.ok (.ref s.length) (s++[.J<|l++m]):=by show(match s[a]?,s[b]? with|some<|.J l,al<|.J m=>(if l.length+m.length<=ky then yv (.J<|l++m) s else .B)|_,_=>.B)=_;exact c▸J▸ef h
def CA(h:pE a b=bY):xj .mul (.int a) (.int b) s=.ok (.int<|a*b) s:=by show(if pE a b then _ else _:M D) s=_;rw[ef h];rfl
def EJ(h:a.natAbs<2^64):pE a b=true:=by unfold pE;simp[h]
def Mi(h:b.natAbs<2^64):pE a b=true:=by unfold pE;simp[h]
def G0(h:0<b):xj .mod (.int a) (.int b) s=.ok (.int<|a%b) s:=by show(if 0<b then _ else _:M D) s=_;rw[ef h];rfl
def Yo:(10)^200<=(Bg:Int):=by decide+kernel
def PH(h:0<b)(J:b<10^200):xj .fdiv (.int a) (.int b) s=.ok (.int<|a/b) s:=by show(if 0<b/\b<(Bg)then _ else _:M D) s=_;rw[ef ⟨h,Int.lt_of_lt_of_le J Yo⟩];rfl
def M0(h:0<=b/\b<=1000000/\a.natAbs<2^64):xj .pow (.int a) (.int b) s=.ok (.int<|a^b.toNat) s:=by show(if _ then _ else _:M D) s=_;rw[ef h];rfl
@[simp]theorem lt_int a b:qv .lt (.int a) (.int b) s=.ok (.T<|decide<|a<b) s:=rfl
@[simp]theorem le_int a b:qv .le (.int a) (.int b) s=.ok (.T<|decide<|a<=b) s:=rfl
@[simp]theorem gt_int a b:qv .gt (.int a) (.int b) s=.ok (.T<|decide<|b<a) s:=rfl
@[simp]theorem ge_int a b:qv .ge (.int a) (.int b) s=.ok (.T<|decide<|b<=a) s:=rfl
@[simp]theorem eq_int a b:qv .eq (.int a) (.int b) s=.ok (.T<|decide<|a=b) s:=rfl
@[simp]theorem ne_int a b:qv .ne (.int a) (.int b) s=.ok (.T<|!decide (a=b)) s:=rfl
@[simp]theorem l5 o:yv o s=.ok (.ref s.length) (s++[o]):=rfl
@[simp]theorem QS l:bi .len [.tp l] s=.ok (.int l.length) s:=rfl
@[simp]theorem bJ8 l:bi .len [.str l] s=.ok (.int l.length) s:=rfl
def qY(h:s[r]?=al (.J l)):bi .len [.ref r] s=.ok (.int l.length) s:=by show Ce (.ref r) s=_;unfold Ce;simp only[h]
def Nr(h:s[r]?=al (.ro l)):bi .len [.ref r] s=.ok (.int l.length) s:=by show Ce (.ref r) s=_;unfold Ce;simp only[h]
@[simp]theorem ct9 i:bi .abs [.int i] s=.ok (.int<|if i<0 then-i else i) s:=rfl
@[simp]theorem Je a b:bi .min2 [.int a,.int b] s=.ok (.int<|if b<a then b else a) s:=rfl
@[simp]theorem Vd a b:bi .max2 [.int a,.int b] s=.ok (.int<|if b>a then b else a) s:=rfl
@[simp]theorem Wm a:bi .isInt [.int a] s=.ok (.T bY) s:=rfl
@[simp]theorem aX7 a:bi .isBool [.int a] s=.ok (.T ce) s:=rfl
@[simp]theorem QN l:bi .isTup [.tp l] s=.ok (.T bY) s:=rfl
def Rn{j:Nat}(h:s[r]?=al (.ro l))(a:l[j]?=al d):rW (.ref r) (.int<|j) s=.ok d s:=by have J:=(ae.mp a).1;have e:=(ae.mp a).2;simp[rW,h,xF,J,e]
def qK{j:Nat}(h:s[r]?=al (.J l))(a:l[j]?=al d):rW (.ref r) (.int<|j) s=.ok d s:=by simp[rW,h,xF,((ae.mp a).1),((ae.mp a).2)]
def sH{j:Nat}(a:l[j]?=al d):rW (.tp l) (.int<|j) s=.ok d s:=by simp[rW,xF,((ae.mp a).1),((ae.mp a).2)]
def XR{j:Nat}(h:s[r]?=al (.J l))(J:j<l.length):ll (.ref r) (.int<|j) v s=.ok () (s.set r<|.J<|l.set j v):=by simp[ll,h,xF,J]
def zE(h:s[r]?=al (.J l))(J:l.length<ky):uJ .append (.ref r) [v] s=.ok .N (s.set r<|.J<|l++[v]):=by show(match s[r]? with|some<|.J l=>(if l.length<ky then R.ok D.N<|s.set r<|.J<|l++[v]else .B)|_=>.B)=_;exact h▸ef J
end
def aO0 s t b:∃a,nf s (.T b) t=.ok (.T b) a:=by
 unfold nf;by_cases h:wM s t=bY;.exact ef h▸⟨_,rfl⟩
 .exact gc h▸⟨_,rfl⟩
def J4(r:R D):Prop:=∃a,r=.ok (.T bY) a
def Qv s t:J4<|nf s (.T bY) t:=aO0 s t bY
def jP{j:Nat}(h:(tP a b)[j]?=al d):(j)<b-a/\d=.int (a+j):=by have a:=(ae.mp h).1;simp only[tP,aw,gQ]at a;unfold tP at h;simp_all
def Rl(P:Pr)(k:Nat):Prop:=∀ns:List Int,ns.length<=63->J4 ((cc P k).call "law" [.ref 0] [.ro<|ns.map D.int])
noncomputable def jg:Option Int->D|none=>.N|some i=>.int i
@[simp]theorem GJ:jg aT=.N:=rfl
@[simp]theorem jC i:jg (al i)=.int i:=rfl
@[simp]theorem jq p n:(jg p).eu n=true:=by cases p<;>rfl
def JP p r:jg p≠.ref r:=by cases p<;>nofun
@[simp]theorem aW6:nf s (jg p) s=.ok (jg p) s:=zo (jq p) (JP p)
noncomputable def UH(b:Nat×Nat):O:=.J [.int b.1,.int b.2]
@[simp]theorem cr1 b n:(UH b).eu n=true:=rfl
noncomputable def Ki(c:Nat):Nat->Nat->Nat->Nat->Nat×Nat|0,a,b,_=>(b,a)|n+1,a,b,d=>if d<c then Ki c n ((a*48271+7919)%2147483647) (b*1073741789+(a*48271+7919)%2147483647/8*69621%1073741789) (d*1073741789)else(b,a)
def tk(b:Nat×Nat)(a:Nat):Nat×(Nat×Nat):=if 0<b.1 then(b.1%a,(b.1/a,b.2))else let r:=Ki a 12 b.2 0 1;(r.1%a,(b.1,r.2))
def Yu{t:cn}(h:r<s.length):(s++t).set r o=s.set r o++t:=by simp_all
def qr{t:cn}{r:Nat}(h:s[r]?=al o):(s++t)[r]?=al o:=aC (ae.mp h).1▸h
def qi{s:cn}(h:r<s.length):(s.set r o)[r]?=al o:=bF h
def bd(b:Nat×Nat):Nat×(Nat×Nat):=let a:=tk b 3;let b:=tk a.2 13;let c:=tk b.2 1000000000;let d:=tk c.2 1000000000000000000000000000000;let i:=tk d.2 4;([a.1,b.1,c.1,d.1].getD i.1 0,i.2)
section
variable{F:uQ}{U:Env}{s:cn}
def qd(F:uQ)(tg:Tg)(e:E)(d:D)(U:Env)(s:cn):R<|Option D×Env:=match jB U tg d with|some U=>(ev F e U s).bind λv s=>.ok (al v,U) s|none=>.B
def Eu(F:uQ)(tg:Tg)(c e:E)(d:D)(U:Env)(s:cn):R<|Option D×Env:=match jB U tg d with|some U=>uh (ev F c U s) λk s=>if k then(ev F e U s).bind λv s=>.ok (al v,U) s else .ok (aT,U) s|none=>.B
@[simp]theorem qU tg it e h:yQ F (.comp tg it e h) U s=(wD F it U s).bind λq s0=>if q.its.length<=ky then qE (λs=>n5 s0 s q.src) (qd F tg e) q.its (zP U h) s0 else .B:=rfl
@[simp]theorem Of tg it c e h:yQ F (.ub tg it c e h) U s=(wD F it U s).bind λq s0=>if q.its.length<=ky then qE (λs=>n5 s0 s q.src) (Eu F tg c e) q.its (zP U h) s0 else .B:=rfl
@[simp]theorem T5 a hi:ev F (.yN a hi) U s=(ev F a U s).bind λx s=>(ev F hi U s).bind λy s=>match y with|.int i=>Bm x aT (al i) s|_=>.B:=rfl
end
theorem Gs(P:Env->cn->Prop)f:∀l U s,P U s->(∀U s,P U s->ok s=bY)->(∀d∈l,∀U s,P U s->∃b a,g d U s=.ok (f d,b) a/\P b a)->∃b a,qE ok g l U s=.ok (l.filterMap f) a/\P b a|[],U,s,h,o,_=>(Af U s (by unfold qE;rw[ef<|o U s h];rfl) h)|d::l,U,s,h,o,st=>by refine AD (st d (ao ..) U s h) λU1 s1 a b=>AD (Gs P f l U1 s1 b o λx b=>st x<|ah _ b) λU2 b c J=>Af U2 b ?_ J;unfold qE;rw[ef<|o U s h,a];simp only[R.ax];rw[c,bA];cases f d<;>rfl
def qG{k:Int}(h:k<=1000):k<=10^90:=fF h<|by decide
def zw(h:∀d∈l,∀n,d.eu n=bY)n:D.n7 n l=true:=by induction l with|nil=>rfl|cons d l a=>rw[D.n7,h d<|ao ..,a λx a=>h x<|ah _ a];rfl
def H6{k:Nat}(h:k<3)s:rW (.str [97,98,99]) (.int<|k) s=.ok (.str [97+k]) s:=by match k,h with|0,_=>rfl|1,_=>rfl|2,_=>rfl
def VM(h:a.length+b.length<=ky):xj .add (.str a) (.str b) s=.ok (.str<|a++b) s:=by show(if a.length+b.length<=ky then _ else _:M D) s=_;rw[ef h];rfl
def Lts(L:Nat)(w:List Nat):Prop:=∀c∈w,97<=c/\c<97+L
noncomputable def Le(L:Nat)(d:D):Bool:=match d with|.str w=>decide (w.length<=200)&&w.all λc=>decide<|97<=c/\c<97+L|_=>ce
def qW[ee P x v]{n}{U}{s}:ev (cc P n) (.gl x) U s=.ok v s:=by show(match(cc P n).con x with|some d=>R.ok d s|none=>.B)=_;rw[MU (v:=v)]
noncomputable abbrev uV:List D:=[.str [97],.str [98],.str [99]]
def MY{L:Nat}(h:L<=3)s:Bm (.tp uV) aT (al<|L) s=.ok (.tp<|uV.take L) s:=by match L,h with|0,_=>rfl|1,_=>rfl|2,_=>rfl|3,_=>rfl
def Oo[bc P xR][ee P "LETTERS"<|.tp uV]n{L:Nat}(h:L<=3)l s:(cc P<|n+1).call "letters_of" [.tp<|.int L::l] s=.ok (.tp<|uV.take L) s:=by refine(zg xR rfl).trans ?_;simp[xR,qW (v:=.tp uV)];rw[show(0)=((0:Nat):Int)from rfl,(sH rfl)];simp only[R.ax];rw[MY h];simp;match L,h with|0,_=>exact zo (λ_=>rfl) (by nofun)|1,_=>exact zo (λ_=>rfl) (by nofun)|2,_=>exact zo (λ_=>rfl) (by nofun)|3,_=>exact zo (λ_=>rfl) (by nofun)
def XI:qv .isin a b s=(xH a b s).bind λr s=>.ok (.T r) s:=rfl
noncomputable def NR(Q:Env->cn->Prop)(Z:D->cn->Prop):R Ct->Prop|.ok (.next U) s=>Q U s|.ok (.cont U) s=>Q U s|.ok (.ret d) s=>Z d s|_=>False
def Yj(e:r=.ok (.next U) s)(h:Q U s):NR Q Z r:=e▸h
def Yy(e:r=.ok (.cont U) s)(h:Q U s):NR Q Z r:=e▸h
set_option tactic.hygienic true in theorem for_ret{ok:cn->Bool}{g:D->Env->cn->R Ct}(P:Nat->Env->cn->Prop)(Z:D->cn->Prop):∀(l:List D)(k:Nat)(U:Env)(s:cn),P k U s->(∀(j:Nat)(U:Env)(s:cn),j<=l.length->P (k+j) U s->ok s=true)->(∀(j:Nat)(d:D)(U:Env)(s:cn),l[j]?=some d->P (k+j) U s->NR (P<|k+j+1) Z (g d U s))->(∃U' s',ux ok g l U s=.ok (.next U') s'/\P (k+l.length) U' s')\/∃d s',ux ok g l U s=.ok (.ret d) s'/\Z d s'
 |[],k,U,s,h,o,_=>.inl ⟨U,s,by show(if ok s then _ else _)=_;rw[if_pos<|o 0 U s (ak _) h],h⟩|d::l,k,U,s,h,o,t=>by
  have h0:=t 0 d U s rfl h;have e:ux ok g (d::l) U s=(g d U s).bind λc s=>match c with|.next U=>ux ok g l U s|.cont U=>ux ok g l U s|.brk U=>.ok (.next U) s|.ret d=>.ok (.ret d) s:=by show(if ok s then _ else _)=_;rw[if_pos<|o 0 U s (cz _) h]<;>rfl
  have go:∀U1 s1,P (k+0+1) U1 s1->(∃U' s',ux ok g l U1 s1=.ok (.next U') s'/\P (k+(d::l).length) U' s')\/∃d s',ux ok g l U1 s1=.ok (.ret d) s'/\Z d s':=λU1 s1 Uu=>by
   have:=for_ret P Z l (k+1) U1 s1 Uu (λj U' s' hj J=>o (j+1) U' s' (by simpa using hj) (by rwa[show k+(j+1)=k+1+j by omega])) λj d' U' s' hj J=>by have:=t (j+1) d' U' s' (by simpa using hj) (by rwa[show k+(j+1)=k+1+j by omega]);rwa[show k+(j+1)+1=k+1+j+1 by omega]at this
   rwa[aQ,show k+(l.length+1)=k+1+l.length by omega]
  rw[e];cases hg:g d U s with|B=>rw[hg]at h0;exact h0.elim|exc a b=>rw[hg]at h0;exact h0.elim|ok c s1=>rw[hg]at h0;cases c with|next U1=>exact go U1 s1 h0|cont U1=>exact go U1 s1 h0|brk U1=>exact h0.elim|ret v=>exact .inr ⟨v,s1,rfl,h0⟩
def aY9{Ww:R α->Prop}(P:Nat->Env->cn->Prop)Z(h:P 0 U s)(o:∀(j:Nat)(U:Env)(s:cn),j<=l.length->P j U s->ok s=bY)(step:∀(j:Nat)(d:D)(U:Env)(s:cn),l[j]?=al d->P j U s->NR (P<|j+1) Z (g d U s))(Uu:∀b a,P l.length b a->Ww (f (.next b) a))(hz:∀d a,Z d a->Ww (f (.ret d) a)):Ww<|(ux ok g l U s).bind f:=by rcases for_ret P Z l 0 U s h (λj U s a J=>o j U s a<|by simp_all) (λj d U s a J=>by rw[bM]at J⊢;exact step j d U s a J)with⟨b,a,e,q⟩|⟨d,a,e,q⟩;all_goals simp_all
structure Dr where
 a:Nat
 l:Nat
 b:Nat
 t:Nat
noncomputable def Dr.d(x:Dr):D:=.tp [.int x.a,.str [x.l],.int x.b,.int x.t]
structure Mc where
 L:Nat
 R:Nat
 bg:List Nat
 en:List Nat
 ds:List Dr
noncomputable def qN(l:List Nat):List D:=l.map λ(k:Nat)=>D.int<|k
noncomputable def sg(w:List Nat):List D:=w.map λc=>.str [c]
def Mc.ps(m:Mc):List D:=[.int m.L,.int m.R,.tp<|qN m.bg,.tp<|qN m.en,.tp<|m.ds.map Dr.d]
noncomputable def Mc.d(m:Mc):D:=.tp m.ps
structure Dr.Ok(m:Mc)(x:Dr):Prop where
 a:x.a<m.R
 l:97<=x.l/\x.l<97+m.L
 b:x.b<m.R
 t:x.t<4
structure Mc.Ok(m:Mc):Prop where
 L1:1<=m.L
 L3:m.L<=3
 R1:1<=m.R
 R5:m.R<=5
 bg:(∀k∈m.bg,k<m.R)/\m.bg.Pairwise (·<·)en:(∀k∈m.en,k<m.R)/\m.en.Pairwise (·<·)ds:(∀x∈m.ds,x.Ok m)/\m.ds.length<=75
def PY:∀d∈qN l,∀n,d.eu n=true:=λd a n=>by obtain⟨c,_,rfl⟩:=ar.mp a;rfl
def MP{l:List Dr}:∀d∈l.map Dr.d,∀n,d.eu n=true:=λd a n=>by obtain⟨c,_,rfl⟩:=ar.mp a;rfl
def Zg{m:Mc}:∀d∈m.ps,∀n,d.eu n=true:=λd a n=>by
 simp only[Mc.ps,aE,eK,or_false]at a;rcases a with rfl|rfl|rfl|rfl|rfl;.rfl
 .rfl
 .exact zw PY n
 .exact zw PY n
 .exact zw MP n
def Tc(m:Mc)n:m.d.eu n=true:=zw Zg n
section
variable{P:Pr}
def Gg(j:Nat)(h:l[j]?=al d):rW (.tp l) (.int<|j) s=.ok d s:=sH h
def Hw(m:Mc)s:rW m.d (.int 0) s=.ok (.int m.L) s:=Gg 0 rfl
def KG(m:Mc)s:rW m.d (.int 1) s=.ok (.int m.R) s:=Gg 1 rfl
def Q6(m:Mc)s:rW m.d (.int 4) s=.ok (.tp<|m.ds.map Dr.d) s:=Gg 4 rfl
def OH[bc P vO]n(m:Mc)s:(cc P<|n+1).call "rooms_of" [m.d] s=.ok (.int m.R) s:=by refine(zg vO rfl).trans ?_;simp[vO,KG]
def Wt(h:∀d∈l,∀n,d.eu n=bY):nf s (.tp l) s=.ok (.tp l) s:=zo (λn=>zw h n) (by nofun)
def aM1[bc P vR]n(m:Mc)s:(cc P<|n+1).call "doors_of" [m.d] s=.ok (.tp<|m.ds.map Dr.d) s:=by refine(zg vR rfl).trans ?_;simp[vR,Q6,Wt MP]
def WI(h:a<b):tP a b=.int a::tP (a+1) b:=by
 unfold tP;obtain⟨n,c⟩:∃n,(b-a).toNat=n+1:=⟨(b-a).toNat-1,by lia⟩;rw[c,show(b-(a+1)).toNat=n by omega,cL,aS,cG];congr 1;.simp
 .apply dv;grind
@[simp]theorem ct2 a b s:qv .ne (.str [a]) (.str [b]) s=.ok (.T<|!decide (a=b)) s:=by show(match eqv s tO (.str [a]) (.str [b])with|some r=>R.ok (D.T<|!r) s|none=>.B)=_;have:eqv s tO (.str [a]) (.str [b])=al ([a]==[b]):=rfl;rw[this];rw[(by rw[f9];simp:([a]==[b])=decide (a=b))]
@[simp]theorem Mh a b s:qv .eq (.str [a]) (.str [b]) s=.ok (.T<|decide<|a=b) s:=by show(match eqv s tO (.str [a]) (.str [b])with|some r=>R.ok (D.T r) s|none=>.B)=_;have:eqv s tO (.str [a]) (.str [b])=al ([a]==[b]):=rfl;rw[this];rw[(by rw[f9];simp:([a]==[b])=decide (a=b))]
end
def wB{L}(h:w.length<=200)(a:Lts L w):Le L (.str w)=true:=by unfold Le;simp only[h,decide_true,dr,aK,iS];exact a
noncomputable def qt(N:Int):O:=.J [.int N]
def Dl{s:cn}(h:∃N,s[r]?=al (qt N)):r<s.length:=AF h λb a=>(ae.mp a).1
def G5{s:cn}(h:r<s.length):∃J,(s.set r<|qt b)[r]?=al (qt J):=⟨b,qi h⟩
def DA[bc P vw]n{s}{r}(hs:∃N,s[r]?=al (qt N))J(h0:0<J)(h:J<=10^90):∃(k:Nat)(N:Int),(k:Int)<J/\(cc P<|n+1).call "_law_draw" [.ref r,.int J] s=.ok (.int k) (s.set r<|qt N):=by
 obtain⟨N,a⟩:=hs;have Z:(cc P<|n+1).call "_law_draw" [.ref r,.int J] s=_:=zg vw rfl;have b:J<10^200:=by lia
 have c:=mG N (show J≠0 by lia);have h2:=lf N h0;refine Af (N%J).toNat (N/J) (by lia) ?_;rw[Z];have Y:s[r]?=al (.J [.int N]):=a;simp[vw,rW,Y,xF,G0 h0,PH h0 b,ll];rw[show max (N%J) 0=N%J by lia];exact W8 (λ_=>rfl) (by nofun) rfl
def KS(s:cn)(x:R D):Prop:=∃N,x=.ok (.ref s.length) (s++[qt N])
def To[bc P xN]n(ns:List Int)(k:Nat){s:cn}{r:Nat}(hs:s[r]?=al (.ro<|ns.map D.int)):∃N:Int,(cc P<|n+1).call "_law_box" [.ref r,.int k] s=.ok (.ref s.length) (s++[qt N]):=by
 have b:(cc P<|n+1).call "_law_box" [.ref r,.int k] s=_:=zg xN (n:=n) rfl;have J:bi .len [.ref r] s=.ok (.int ns.length) s:=by rw[Nr hs,aw]
 have e:∀a:Int,pE 7919 a=true:=λa=>EJ (by decide);have l:∀a:Int,pE (a%2147483647) (a%2147483647)=true:=λa=>EJ<|by lia
 have Y:∀N:Int,nf s (.ref s.length) (s++[.J [.int N]])=.ok (.ref s.length) (s++[qt N]):=λN=>by have:=Qs (s:=s) (t:=[]) (u:=[]) (o:=qt N) rfl;simp only[fe,nT,f7]at this;exact this
 have h:∀c:Int,KS s<|(oo (cc P n) (.cons (.ite (.Z .ge (.X 2) (.G .pow (.K<|.int 10) (.K<|.int 18))) (.cons (.ret<|.J<|.cons (.X 2) .nil) .nil) .nil) (.cons (.A (.Y 3) (.K<|.int 0)) (.cons (.fo (.Y 4) (.rg<|.K<|.int 128) (.cons (.A (.Y 5) (.G .mod (.G .mul (.G .add (.G .add (.G .add (.G .mod (.X 2) (.K<|.int 2147483647)) (.G .mul (.K<|.int 7919) (.X 1))) (.G .mul (.K<|.int 104729) (.X 4))) (.K<|.int 97)) (.K<|.int 48271)) (.K<|.int 2147483647))) (.cons (.A (.Y 3) (.G .add (.G .mul (.X 3) (.K<|.int 2147483647)) (.G .mod (.G .add (.G .add (.G .mul (.X 5) (.X 5)) (.G .mul (.K<|.int 31) (.X 4))) (.G .fdiv (.X 2) (.K<|.int 2147483647))) (.K<|.int 2147483647)))) .nil))) (.cons (.ret<|.J<|.cons (.X 3) .nil) .nil))))
   [al<|.ref r,al<|.int k,al<|.int c,aT,aT,aT] s).bind<|fin s:=by
  intro c;by_cases a:(10:Int)^18<=c;.have Uu:(1000000000000000000:Int)<=c:=a;exact⟨c,by simp-implicitDefEqProofs[M0,Uu,Y]⟩
  .have Uu:¬(1000000000000000000:Int)<=c:=a;simp[M0,Uu];rw[zI (by decide) (by decide)];simp only[R.ax];refine jQ (Ww:=KS s) (λj U t=>t=s/\∃(N:Int)(x y:Option D),U=[al<|.ref r,al<|.int k,al<|.int c,al<|.int N,x,y]) ⟨rfl,0,_,_,rfl⟩ (λ_ _ _ _ _=>rfl) ?_ ?_
   .rintro j d U t hj⟨rfl,N,x,y,rfl⟩;obtain⟨_,rfl⟩:=jP hj;conv=>arg 2;simp[turn,CA<|e _,CA<|(λa=>Mi<|by decide:∀a:Int,pE a 48271=true) _,CA<|(λa=>EJ<|by decide:∀a:Int,pE 104729 a=true) _,CA<|(λa=>Mi<|by decide:∀a:Int,pE a 2147483647=true) _,CA<|(λa=>EJ<|by decide:∀a:Int,pE 31 a=true) _,CA<|l _,G0,PH]
    exact⟨rfl,_,_,_,rfl⟩
   .rintro U t⟨rfl,N,x,y,rfl⟩;exact⟨N,by simp_all⟩
 rw[b];by_cases a:k<ns.length;.refine AF (h<|if ns.getD k 0<0 then-ns.getD k 0 else ns.getD k 0) λN e=>Ae N ?_;rw[<-e];simp[xN,J,a,(Rn hs<|by simp[a]:rW (.ref r) (.int k) s=.ok (.int<|ns.getD k 0) s)]
 .refine AF (h 0) λN e=>Ae N ?_;rw[<-e];simp[xN,J,a]
def two{l:List D}(h:l.length=2):∃a b,l=[a,b]:=by match l,h with|[a,b],_=>exact Ay a b rfl
def j2[bc P vw]n{s t:cn}{r}(hr:r<s.length)b J(h0:0<J)(h:J<=10^90):∃(k:Nat)(a:Int),(k:Int)<J/\(cc P<|n+1).call "_law_draw" [.ref r,.int J] (s.set r (qt b)++t)=.ok (.int k) (s.set r (qt a)++t):=AD (DA (P:=P) n (Ae b<|qr<|qi hr) J h0 h) λk a Z Y=>Af k a Z<|by rw[Y,Yu<|by rw[bw];exact hr,iD]
def L7{s t:cn}(h:l.length<ky):uJ .append (.ref s.length) [v] (s.set r (qt b)++(.J l::t))=.ok .N (s.set r (qt b)++(.J (l++[v])::t)):=by rw[zE (by simp_all) h];simp_all
noncomputable def row(m:Nat)(f:Nat->Int):List D:=(av m).map λj=>.int<|f j
def gd(m:Nat)(f:Nat->Nat->Int):D:=.tp<|(av m).map λi=>.tp<|row m<|f i
def j8(h:j<m):(row m f)[j]?=al (.int<|f j):=by unfold row;rw[aF,bW h];rfl
@[simp]theorem bk9:(row m f).length=m:=by unfold row;simp
def Xw n:D.n7 n (row m f)=true:=zw (λd a n=>by obtain⟨j,_,rfl⟩:=ar.mp a;rfl) n
def Wr(h:∀j,j<m->f j=g j):row m f=row m g:=by unfold row;simp_all
def jd n:(gd m f).eu n=true:=zw (λd a n=>by obtain⟨j,_,rfl⟩:=ar.mp a;exact Xw n) n
def yV(h:i<m)s:rW (gd m f) (.int<|i) s=.ok (.tp<|row m<|f i) s:=sH<|by rw[aF,bW h];rfl
def jb(h:j<m)s:rW (.tp<|row m f) (.int<|j) s=.ok (.int<|f j) s:=sH<|j8 h
def cd0 s:uD (gd m f) s=.ok ⟨(av m).map λi=>.tp<|row m<|f i,[]⟩ s:=rfl
def Gq s:uD (.tp l) s=.ok ⟨l,[]⟩ s:=rfl
def JI(h:∀i j,i<m->j<m->f i j=g i j):gd m f=gd m g:=by unfold gd;congr 1;exact dv λi hi=>by rw[Wr λj a=>h i j (bI.mp hi) a]
def JT(P:Env->cn->Prop)f l U s(h:P U s)(o:∀U s,P U s->ok s=bY)(st:∀d∈l,∀U s,P U s->∃U' a,g d U s=.ok (al<|f d,U') a/\P U' a):∃U' a,qE ok g l U s=.ok (l.map f) a/\P U' a:=by refine AD (Gs P (λd=>al<|f d) l U s h o st) λU' a e p=>Af U' a ?_ p;simp_all
def jt(P:Env->cn->Prop)f(n:Nat)U s(h:P U s)(o:∀U s,P U s->ok s=bY)(st:∀j,j<n->∀U s,P U s->∃U' a,g (.int (j:Int)) U s=.ok (al<|f j,U') a/\P U' a):∃U' a,qE ok g (tP 0<|n) U s=.ok ((av n).map f) a/\P U' a:=by refine AD (JT (g:=g) P (λd=>match d with|.int i=>f i.toNat|d=>d) (tP 0<|n) U s h o λd a U s J=>by refine AF (fX a) λj a=>?_;obtain⟨c,rfl⟩:=jP a;simp_all) λU' a e p=>Af U' a ?_ p;rw[e];congr 1;unfold tP;simp_all
def zC(n:Nat):(tP 0<|n).length=n:=by simp[tP]
def qu{n:Nat}(h:(tP 0 (n:Int))[j]?=al d):j<n/\d=.int (j):=by obtain⟨J,rfl⟩:=jP h;lia
def Wg:(row m f).map (λ_=>D.int i)=row m λ_=>i:=by unfold row;rw[cG];rfl
def Jx{t:cn}(h:l.length<ky):uJ .append (.ref s.length) [v] (s++.J l::t)=.ok .N (s++.J (l++[v])::t):=by rw[zE (by rw[am<|ak _];simp) h,cb _ _<|ak _];simp
def JK{s t:cn}{o:O}:(s++x::(t++[o]))[s.length+(t.length+1)]?=al o:=by simp_all
noncomputable def xD(f g:Nat->Nat->Int)(i j:Nat):Nat->Int|0=>3|k+1=>if f i k<3 then(let b:=(if g k j>f i k then g k j else f i k);if b<xD f g i j k then b else xD f g i j k)else xD f g i j k
def pr(m:Nat)(f g:Nat->Nat->Int)(i j:Nat):Int:=xD f g i j m
def je[bc P vz]n{m}(hR:m<=5)f g s:(cc P<|n+1).call "_law_product" [gd m f,gd m g] s=.ok (gd m<|pr m f g) s:=by
 have Z:(cc P<|n+1).call "_law_product" [gd m f,gd m g] s=_:=zg vz rfl;rw[Z];conv=>lhs;simp only[vz]
 simp[];refine GG (λi U t=>∃T x y z,U=[al<|gd m f,al<|gd m g,al<|.ref s.length,x,y,z]/\t=s++.J ((av i).map λi=>.tp<|row m<|pr m f g i)::T) (Ao [] aT aT aT rfl rfl) (λ_ _ _ _ _=>rfl) ?_ ?_
 .rintro i d U t hi⟨T,x,y,z,rfl,rfl⟩;have a:=by have:=(ae.mp hi).1;simpa using this
  have b:=by rw[aF,bW a]at hi;exact(az hi).symm
  subst b;conv=>arg 2;simp-implicitDefEqProofs[turn,Gq]
  rw[ef<|by unfold ky;lia];refine AD (JT (ok:=λs1=>n5 (s++.J ((av i).map λi=>.tp<|row m<|pr m f g i)::T) s1 []) (g:=qd (cc P n) (.Y 0) (.K<|.int 3)) (λU u=>u=s++.J ((av i).map λi=>.tp<|row m<|pr m f g i)::T/\∃x,U=[x]) (λ_=>.int 3) (row m<|f i) (zP [al<|gd m f,al<|gd m g,al<|.ref s.length,al<|.tp<|row m<|f i,y,z] [aT]) _ (Al rfl aT rfl) (λ_ _ _=>rfl) (by rintro d _ U u⟨rfl,x,rfl⟩;exact Ar _ _ rfl rfl _ rfl)) λU1 s1 a Y=>?_;obtain⟨rfl,_⟩:=Y;rw[Wg]at a;rw[a];simp-implicitDefEqProofs[mk];rw[zI (by unfold hH;lia) (by unfold hH;lia)];simp only[R.ax];refine jQ (λk U t=>∃(T:cn)(p:Nat)(z:Option D),U=[al<|gd m f,al<|gd m g,al<|.ref s.length,al<|.tp<|row m<|f i,al<|.ref p,z]/\t=s++.J ((av i).map λi=>.tp<|row m<|pr m f g i)::T/\t[p]?=al (.J<|row m λj=>xD f g i j k)) (Aq (T++[.J<|row m λ_=>3]) (s.length+(T.length+1)) z rfl rfl JK) (λ_ _ _ _ _=>rfl) ?_ ?_
  .rintro k d U t hk⟨T,p,z,rfl,rfl,J⟩;obtain⟨h,rfl⟩:=qu hk;by_cases b:f i k<3
   .conv=>arg 2;simp-implicitDefEqProofs[turn,jb h,b]
    rw[zI (by unfold hH;lia) (by unfold hH;lia)];simp only[R.ax];rw[ef<|by rw[zC];unfold ky;lia];refine AD (jt (ok:=λs1=>n5 (s++.J ((av i).map λi=>.tp<|row m<|pr m f g i)::T) s1 []) (g:=qd (cc P n) (.Y 0) (.bi .min2<|.cons (.ix (.X 1) (.X 0)) (.cons (.bi .max2<|.cons (.ix (.X 2) (.X 3)) (.cons (.ix (.ix (.X 4) (.X 3)) (.X 0)) .nil)) .nil))) (λU u=>u=s++.J ((av i).map λi=>.tp<|row m<|pr m f g i)::T/\∃x,U=[x,al<|.ref p,al<|.tp<|row m<|f i,al<|.int k,al<|gd m g]) (λj=>.int<|xD f g i j<|k+1) m (zP [al<|gd m f,al<|gd m g,al<|.ref s.length,al<|.tp<|row m<|f i,al<|.ref p,al<|.int (k:Int)] [aT,al 4,al 3,al 5,al 1]) _ (Al rfl aT rfl) (λ_ _ _=>rfl) (by rintro j a U u⟨rfl,x,rfl⟩;refine Ar [al<|.int j,al<|.ref p,al<|.tp<|row m<|f i,al<|.int k,al<|gd m g] _ ?_ rfl _ rfl;simp-implicitDefEqProofs[qd,jb h,yV h,jb a,qK J<|j8 a,xD,b])) λU1 s1 a Y=>?_;obtain⟨rfl,_⟩:=Y;rw[a];simp-implicitDefEqProofs[mk];rfl
   .refine Gi (U:=[al<|gd m f,al<|gd m g,al<|.ref s.length,al<|.tp<|row m<|f i,al<|.ref p,al<|.int k]) ?_<|Aq T p _ rfl rfl ?_;.simp-implicitDefEqProofs[turn,jb h,b]
    .rw[J];simp[xD,b]
  .rintro U t⟨T,p,z,rfl,rfl,J⟩;rw[zC]at J;simp-implicitDefEqProofs[xK,J,mk];rw[Jx<|by unfold ky;simp;lia];simp-implicitDefEqProofs;rw[dS,aP];rfl
 .rintro U t⟨T,x,y,z,rfl,rfl⟩;simp-implicitDefEqProofs[xK,(by rw[am<|ak _];simp:(s++.J ((av m).map λi=>D.tp<|row m<|pr m f g i)::T:cn)[s.length]?=al (.J<|(av m).map λi=>D.tp<|row m<|pr m f g i)),mk];exact zO (d:=gd m<|pr m f g) jd<|by nofun
def McB(s:cn)(r:Nat)(x:R D):Prop:=∃(m:Mc)(b:Int),m.Ok/\x=.ok m.d (s.set r<|qt b)
def xk(m:Nat)(f:Nat->Nat->Int):cn:=(av m).map λi=>.J<|row m<|f i
@[simp]theorem bc4:(xk m f).length=m:=by unfold xk;simp
def GI(h:i<m):(xk m f)[i]?=al (.J<|row m<|f i):=by unfold xk;rw[aF,bW h];rfl
def X9:(row m f).set b (.int v)=row m λj=>if j=b then v else f j:=by
 apply gT;intro j;by_cases a:j<m
 .rw[j8 a];by_cases e:j=b;.simp_all
  .rw[aD<|λz=>e z.symm,j8 a,gc e]
 simp_all
def V9:(xk m f).set a (.J<|(row m<|f a).set b<|.int v)=xk m λi j=>if i=a/\j=b then v else f i j:=by
 apply gT;intro i;by_cases hi:i<m
 .rw[GI hi];by_cases e:i=a;.subst e;rw[bF<|by simp_all,X9];simp
  .rw[aD<|λz=>e z.symm,GI hi];simp[e]
 simp_all
noncomputable def wU(p m:Nat):List D:=(av m).map λi=>.ref<|p+i
def ZF(h:i<m):(wU p m)[i]?=al (.ref<|p+i):=by unfold wU;rw[aF,bW h];rfl
def WD(P:Nat->Env->cn->Prop)f n (o:∀k U s,P k U s->ok s=bY)(st:∀j,j<n->∀U s,P j U s->∃b a,g (.int (j:Int)) U s=.ok (al<|f j,b) a/\P (j+1) b a):∀k U s,k<=n->P k U s->∃b a,qE ok g (tP (k) (n)) U s=.ok ((List.range' k<|n-k).map f) a/\P n b a:=by
 intro k;induction h:n-k generalizing k with|zero=>
  intro U s a J;have e:k=n:=by lia
  subst e;refine Af U s ?_ J;rw[show tP (k) (k)=[]by simp[tP]];unfold qE;grind|succ d b=>refineλU s a J=>AD (st k (by omega) U s J) λU1 s1 a Y=>AD (b (k+1) (by omega) U1 s1 (by lia) Y) λU2 b c c=>Af U2 b ?_ c;rw[WI<|by omega,List.range'_succ,aS];unfold qE;rw[ef<|o _ _ _ J,a];simp_all
noncomputable def um(a:List Dr)(c i j:Nat):Nat->Int|0=>3|k+1=>match a[k]? with|some x=>if x.l=c/\i=x.a/\j=x.b then(if(if 0<x.t then(1)else 0)<um a c i j k then(if 0<x.t then(1)else 0)else um a c i j k)else um a c i j k|none=>um a c i j k
theorem NO h c i j:∀k,0<=um h c i j k/\um h c i j k<=3
 |0=>by unfold um;decide|k+1=>by
  have:=NO h c i j k;unfold um;split
  .repeat' split
   all_goals omega
  .exact this
def sV(m:Mc)(c i j:Nat):Int:=um m.ds c i j m.ds.length
def Sy:bi .int [.T b] s=.ok (.int<|if b then 1 else 0) s:=rfl
def jJ[bc P xS]n{m}(hm:m.Ok)c s:(cc P<|n+1).call "_law_letter_signs" [m.d,.str [c]] s=.ok (gd m.R<|sV m c) s:=by
 have a:(cc P<|n+1).call "_law_letter_signs" [m.d,.str [c]] s=_:=zg xS rfl;have b:=hm.R5;rw[a];simp-implicitDefEqProofs[xS,KG];rw[zI (by unfold hH;lia) (by unfold hH;lia)];simp only[R.ax];rw[ef<|by rw[zC];unfold ky;lia];refine AD (WD (ok:=λs1=>n5 s s1 []) (g:=qd (cc P n) (.Y 0) (.mk .list<|.comp (.Y 0) (.rg<|.X 1) (.K<|.int 3) [aT])) (λk U u=>u=s++(av k).map (λ_=>O.J<|row m.R λ_=>3)/\∃x,U=[x,al<|.int m.R]) (λi=>.ref<|s.length+i) m.R (λ_ _ _ _=>rfl) (by rintro j a U u⟨rfl,x,rfl⟩;refine Ar [al<|.int j,al<|.int m.R] _ ?_ rfl _ rfl;simp-implicitDefEqProofs[qd];rw[zI (by unfold hH;lia) (by unfold hH;lia)];simp only[R.ax];rw[ef<|by rw[zC];unfold ky;lia];refine AD (jt (ok:=λs1=>n5 (s++(av j).map (λ_=>O.J<|row m.R λ_=>3)) s1 []) (g:=qd (cc P n) (.Y 0) (.K<|.int 3)) (λU u=>u=s++(av j).map (λ_=>O.J<|row m.R λ_=>3)/\∃x,U=[x]) (λ_=>.int 3) m.R (zP [al<|.int<|j,al<|.int m.R] [aT]) _ (Al rfl aT rfl) (λ_ _ _=>rfl) (by rintro i _ U u⟨rfl,x,rfl⟩;exact Ar _ _ rfl rfl _ rfl)) λU1 s1 a b=>?_;obtain⟨rfl,_⟩:=b;rw[a];simp-implicitDefEqProofs[mk,dS];rfl) 0 (zP [al m.d,al<|.str [c],al<|.int m.R,aT,aT,aT,aT,aT] [aT,al 2]) s (cz _) (Al (by simp) aT rfl)) λU1 s1 a b=>?_;obtain⟨rfl,_⟩:=b;rw[show((0:Nat):Int)=0 from rfl]at a;rw[a];have a:(av m.R).map (λ_=>O.J<|row m.R λ_=>3)=xk m.R (λi j=>um m.ds c i j 0):=rfl;rw[a,lJ,<-List.range_eq_range'];simp-implicitDefEqProofs[mk,Gq];refine GG (λk U t=>∃x y z w,U=[al m.d,al<|.str [c],al<|.int m.R,al<|.ref<|s.length+m.R,x,y,z,w]/\t=s++(xk m.R (λi j=>um m.ds c i j k)++[.J<|wU s.length m.R])) (Ao aT aT aT aT rfl rfl) (λ_ _ _ _ _=>rfl) ?_ ?_
 .rintro k d U t hk⟨x,y,z,w,rfl,rfl⟩;rw[aF]at hk;obtain⟨v,b,rfl⟩:∃v,m.ds[k]?=al v/\Dr.d v=d:=by simp_all
  have Y:=hm.ds.1 v<|aA b;have a:=Y.a;have e:=Y.b;refine Gi (U:=[al m.d,al<|.str [c],al<|.int m.R,al<|.ref<|s.length+m.R,al<|.int v.a,al<|.str [v.l],al<|.int v.b,al<|.int v.t]) ?_<|Ao _ _ _ _ rfl rfl;have d:(s++(xk m.R (λi j=>um m.ds c i j k)++[.J<|wU s.length m.R]))[s.length+m.R]?=al (.J<|wU s.length m.R):=by simp_all
  have Z:(s++(xk m.R (λi j=>um m.ds c i j k)++[.J<|wU s.length m.R]))[s.length+v.a]?=al (.J<|row m.R λj=>um m.ds c v.a j k):=by rw[am<|by lia,bV,aC<|by simp_all,GI a]
  have h:=qK d<|ZF a;have d:=qK Z<|j8 e;by_cases a:v.l=c
  .simp-implicitDefEqProofs only[turn,Dr.d,sZ,sq,sW,qP,qf,bz,l8,za,zr,qO,jw,zz,zx,zD,R.ax,Mh,a,decide_true,z0,if_true,tV,i4,zF,zH,g6,h,d,jx,jG,gt_int,Sy,Je];rw[XR Z<|by simp_all];simp-implicitDefEqProofs only[R.ax,zb,zr];congr 1;rw[cb _ _<|by lia,bV,List.set_append_left _ _<|by simp_all];congr 2;rw[V9 (f:=λi j=>um m.ds c i j k)];congr 1;funext i j;rw[um,b];by_cases h2:i=v.a/\j=v.b;.obtain⟨rfl,rfl⟩:=h2;simp[a]
   .simp[a,h2]
  .simp-implicitDefEqProofs only[turn,Dr.d,sZ,sq,sW,qP,qf,bz,l8,za,zr,qO,jw,zz,zx,zD,R.ax,Mh,a,decide_false,z0,if_false,bp,zb];congr 3;congr 1;funext i j;rw[um,b];simp[a]
 .rintro U t⟨x,y,z,w,rfl,rfl⟩;rw[aw];have d:(s++(xk m.R (sV m c)++[.J<|wU s.length m.R]))[s.length+m.R]?=al (.J<|wU s.length m.R):=by simp_all
  show(D4 _ _ _<|s++(xk m.R (sV m c)++[.J<|wU s.length m.R])).bind _=_;simp-implicitDefEqProofs[uD,d];rw[ef<|by unfold wU ky;simp;omega];generalize e:s++(xk m.R (sV m c)++[.J<|wU s.length m.R])=S;refine AD (JT (ok:=λs1=>n5 S s1 [s.length+m.R]) (g:=qd (cc P n) (.Y 0) (.mk .tuple<|.seq<|.X 0)) (λU u=>u=S/\∃x,U=[x]) (λd=>match d with|.ref p=>.tp<|row m.R<|sV m c<|p-s.length|d=>d) (wU s.length m.R) (zP [al m.d,al<|.str [c],al<|.int m.R,al<|.ref<|s.length+m.R,x,y,z,w] [aT]) S (Al rfl aT rfl) (λ_ u h=>by obtain⟨rfl,_⟩:=h;simp[n5]) (by
   rintro d a U u⟨rfl,x,rfl⟩;obtain⟨i,hi,rfl⟩:=ar.mp a;have Z:u[s.length+i]?=al (.J<|row m.R<|sV m c i):=by rw[<-e,am<|by lia,bV,aC<|by simp_all,GI<|bI.mp hi]
   refine Ar [al<|.ref<|s.length+i] u ?_ rfl _ rfl;simp-implicitDefEqProofs[qd,xK,Z,mk])) λU1 s1 a b=>?_;obtain⟨rfl,_⟩:=b;rw[a];simp-implicitDefEqProofs[mk];rw[<-e];have:(wU s.length m.R).map (λd=>match d with|.ref p=>D.tp<|row m.R<|sV m c<|p-s.length|d=>d)=(av m.R).map λi=>.tp<|row m.R<|sV m c i:=by unfold wU;simp_all
  exact this▸zO (d:=gd m.R<|sV m c) jd (by nofun)
def ye{j:Nat}(a:l[j]?=al c):rW (.str l) (.int<|j) s=.ok (.str [c]) s:=by simp[rW,xF,((ae.mp a).1),((ae.mp a).2)]
def Y6 s n a b:eqv s n (.int a) (.int b)=al (a==b):=by cases n<;>rfl
noncomputable def wa(f:Nat->Nat->Int)(i j:Nat):Nat->Int|0=>3|k+1=>let b:=max (max (f i k) (if f k k=1 then 2 else f k k)) (f k j);if b<wa f i j k then b else wa f i j k
def sh(m:Nat)(f:Nat->Nat->Int)(i j:Nat):Int:=wa f i j m
def JQ:bi .vf [.int a,.int b,.int c] s=.ok (.int<|max (max a b) c) s:=rfl
def Ik:bi .len [gd m f] s=.ok (.int m) s:=by show R.ok (D.int ((av m).map λi=>D.tp<|row m<|f i).length) s=_;simp
def PZ{s:cn}(h:l.length<ky):uJ .append (.ref s.length) [v] (s++[.J l])=.ok .N (s++[.J<|l++[v]]):=Jx h
def Qc[bc P wO]n{m}(hR:m<=5)f s:(cc P<|n+1).call "_law_sharp" [gd m f] s=.ok (gd m<|sh m f) s:=by
 have a:(cc P<|n+1).call "_law_sharp" [gd m f] s=_:=zg wO rfl;rw[a];simp-implicitDefEqProofs[wO,Ik];rw[zI (by unfold hH;lia) (by unfold hH;lia)];simp only[R.ax];refine GG (λi U t=>∃(T:cn)(x y z u v w:Option D),U=[al<|gd m f,al<|.int m,al<|.ref s.length,x,y,z,u,v,w]/\t=s++.J ((av i).map λi=>.tp<|row m<|sh m f i)::T) ⟨[],aT,aT,aT,aT,aT,aT,rfl,rfl⟩ (λ_ _ _ _ _=>rfl) ?_ ?_
 .rintro i d U t hi⟨T,x,y,z,u,v,w,rfl,rfl⟩;have a:=qu hi;have J:=a.1;have b:=a.2;rw[b];simp-implicitDefEqProofs only[turn,zA,qP,qf,bz,za,jc,sP,zH,R.ax,l5,AA,zb,kc,qT,zz,zx,zD,bf,aN];rw[zI (by unfold hH;omega) (by unfold hH;omega)];simp only[R.ax];generalize Z:(av i).map (λi=>D.tp<|row m<|sh m f i)=X;have a:X.length=i:=by rw[<-Z];simp
  refine jQ (λj U t=>∃z u v w,U=[al<|gd m f,al<|.int m,al<|.ref s.length,al<|.int i,al<|.ref<|s.length+(T.length+1),z,u,v,w]/\t=s++.J X::(T++[.J<|(av j).map λj=>.int<|sh m f i j])) (Ao z u v w rfl rfl) (λ_ _ _ _ _=>rfl) ?_ ?_
  .rintro j d U t hj⟨z,u,v,w,rfl,rfl⟩;have a:=(qu hj).1;rw[(qu hj).2];simp-implicitDefEqProofs only[turn,zA,qP,qf,bz,za,jc,jx,jG,R.ax,AA,zb,kc,qT,zz,zx,zD];rw[zI (by unfold hH;lia) (by unfold hH;lia)];simp only[R.ax];refine jQ (Ww:=Nx _) (λk U t=>∃(v w:Option D),U=[al<|gd m f,al<|.int m,al<|.ref s.length,al<|.int i,al<|.ref<|s.length+(T.length+1),al<|.int j,al<|.int<|wa f i j k,v,w]/\t=s++.J X::(T++[.J<|(av j).map λj=>.int<|sh m f i j])) (Af v w rfl rfl) (λ_ _ _ _ _=>rfl) ?_ ?_
   .rintro k d U t hk⟨v,w,rfl,rfl⟩;have h:=(qu hk).1;rw[(qu hk).2];refine Gi (U:=[al<|gd m f,al<|.int m,al<|.ref s.length,al<|.int i,al<|.ref<|s.length+(T.length+1),al<|.int j,al<|.int<|wa f i j<|k+1,al<|.int k,al<|.int<|if f k k=1 then 2 else f k k]) (s:=s++.J X::(T++[.J<|(av j).map λj=>.int<|sh m f i j])) ?_<|Af _ _ rfl rfl;by_cases b:f k k=1;.simp-implicitDefEqProofs[turn,yV h,yV J,jb h,jb a,b,JQ,wa]
    .simp-implicitDefEqProofs[turn,yV h,yV J,jb h,jb a,b,JQ,wa]
   .rintro U t⟨v,w,rfl,rfl⟩;rw[zC];have Y:(s++.J X::(T++[O.J<|(av j).map λj=>D.int<|sh m f i j]))[s.length+(T.length+1)]?=al (.J<|(av j).map λj=>.int<|sh m f i j):=JK;simp-implicitDefEqProofs only[zb,za,zr,mj,jY,zS,zF,zH,zz,zx,zD,R.ax];rw[zE Y<|by unfold ky;simp;lia];simp-implicitDefEqProofs only[R.ax,zb,zr,M1];refine Ao _ _ _ _ rfl ?_;rw[cb _ _<|by lia,bV,List.set_cons_succ,cb _ _<|ak _,iC,List.set_cons_zero,dS,aP];rfl
  .rintro U t⟨z,u,v,w,rfl,rfl⟩;rw[zC];have Y:(s++.J X::(T++[O.J<|(av m).map λj=>D.int<|sh m f i j]))[s.length+(T.length+1)]?=al (.J<|(av m).map λj=>.int<|sh m f i j):=JK;simp-implicitDefEqProofs only[zb,za,zr,mj,jY,zS,zF,zH,zz,zx,zD,R.ax,rZ,tW,xK,Y,mk];rw[Jx<|by unfold ky;lia];simp-implicitDefEqProofs only[R.ax,zb,zr,M1];refine⟨T++[O.J<|bv (λj=>D.int<|sh m f i j) (av m)],_,_,_,_,_,_,rfl,?_⟩;rw[dS,aP,Z];rfl
 .rintro U t⟨T,x,y,z,u,v,w,rfl,rfl⟩;rw[zC];have a:(s++.J ((av m).map λi=>D.tp<|row m<|sh m f i)::T:cn)[s.length]?=al (.J<|(av m).map λi=>D.tp<|row m<|sh m f i):=by rw[am<|ak _];simp
  simp-implicitDefEqProofs[xK,a,mk];exact zO (d:=gd m<|sh m f) jd<|by nofun
theorem MI{m:Nat}{f g:Nat->Int}:∀l:List Nat,yR (eqv s n) (l.map λj=>.int<|f j) (l.map λj=>.int<|g j)=al (l.all λj=>f j==g j)|[]=>rfl|a::l=>by rw[aS,aS];unfold yR;rw[Y6,MI (m:=m) l];simp
theorem N6{f g:Nat->Nat->Int}:∀l:List Nat,yR (eqv s<|n+1) (l.map λi=>.tp<|row m<|f i) (l.map λi=>.tp<|row m<|g i)=al (l.all λi=>(av m).all λj=>f i j==g i j)|[]=>rfl|a::l=>by rw[aS,aS];unfold yR;rw[show eqv s (n+1) (.tp<|row m<|f a) (.tp<|row m<|g a)=yR (eqv s n) (row m<|f a) (row m<|g a)from rfl,row,row,MI (m:=m),N6 l];simp
def vA(m:Nat)(f g:Nat->Nat->Int):Prop:=∀i j,i<m->j<m->f i j=g i j
def NA:∃b,eqv s tO (gd m f) (gd m g)=al b/\(b=bY↔vA m f g):=by refine Ac _ (N6<|av m) ?_;simp[aK];exact⟨λh i j hi a=>h i hi j a,λh i hi j a=>h i j hi a⟩
def IF:∃b,qv .eq (gd m f) (gd m g) s=.ok (.T b) s/\(b=bY↔vA m f g):=AE NA λb e h=>Ac b (by show(match eqv s tO (gd m f) (gd m g)with|some r=>R.ok (D.T r) s|none=>.B)=_;rw[e]) h
inductive eH where|l6(c:Nat)|pair(i j:Nat)|ew(i:Nat)
noncomputable abbrev eH.ctorIdx(x:eH):Nat:=eH.casesOn x (λ_=>0) (λ_ _=>1) (λ_=>2)
noncomputable def eH.d:eH->D|.l6 c=>.tp [.str [108,101,116,116,101,114],.str [c]]|.pair i j=>.tp [.str [112,97,105,114],.int i,.int j]|.ew i=>.tp [.str [115,104,97,114,112],.int i]
theorem eH.eu(x:eH)n:x.d.eu n=true:=by cases x<;>rfl
def zy(h:∀d∈l,d.eU=bY):D.lj l=true:=by induction l with|nil=>rfl|cons d l a=>unfold D.lj;rw[h d<|ao ..,a λx a=>h x<|ah _ a];rfl
theorem eH.eU(x:eH):x.d.eU=true:=by cases x<;>rfl
def U5{l:List eH}:D.lj (l.map eH.d)=true:=zy λd a=>by obtain⟨x,_,rfl⟩:=ar.mp a;exact x.eU
def Ph:D.lj (qN l)=true:=zy λd a=>by obtain⟨x,_,rfl⟩:=ar.mp a;rfl
def ZN{l:List Int}:D.lj (l.map D.int)=true:=zy λd a=>by obtain⟨x,_,rfl⟩:=ar.mp a;rfl
def M5:D.lj (row m f)=true:=zy λd a=>by obtain⟨x,_,rfl⟩:=ar.mp a;rfl
def Cy:(gd m f).eU=true:=zy λd a=>by obtain⟨x,_,rfl⟩:=ar.mp a;exact M5
def Zi{s:cn}(h:s.all O.eU=bY)(b:o.eU=bY):(s.set r o).all O.eU=true:=by
 rw[aK]at h⊢;intro x a;rcases gG a with a|a;.exact h x a
 .exact a▸b
inductive t6(m:Mc):List eH->List (Nat->Nat->Int)->Prop where|nil:t6 m [] []|l6{l fs}(c:Nat):t6 m l fs->97<=c->c<97+m.L->t6 m (l++[.l6 c]) (fs++[sV m c])|pair{l fs}(i j:Nat)(f g:Nat->Nat->Int):t6 m l fs->fs[i]?=al f->fs[j]?=al g->t6 m (l++[.pair i j]) (fs++[pr m.R f g])|ew{l fs}(i:Nat)(f:Nat->Nat->Int):t6 m l fs->fs[i]?=al f->vA m.R (pr m.R f f) f->t6 m (l++[.ew i]) (fs++[sh m.R f])
def t6.len(h:t6 m l fs):l.length=fs.length:=by induction h<;>simp_all
def stM(s:cn)(r:Nat)(b:Int)(A B Cc:List D)(T:cn):cn:=s.set r (qt b)++(.J A::.J B::.J Cc::T)
section
variable{s:cn}{r:Nat}{b:Int}{A B Cc:List D}{T:cn}
def Lp:(stM s r b A B Cc T)[s.length]?=al (.J A):=by unfold stM;rw[am<|by simp];simp
def Dd:(stM s r b A B Cc T)[s.length+1]?=al (.J B):=by unfold stM;rw[am<|by simp];simp
def F7:(stM s r b A B Cc T)[s.length+2]?=al (.J Cc):=by unfold stM;rw[am<|by simp];simp
def Ii(h:A.length<ky):uJ .append (.ref s.length) [v] (stM s r b A B Cc T)=.ok .N (stM s r b (A++[v]) B Cc T):=by rw[zE Lp h];unfold stM;simp_all
def H9(h:B.length<ky):uJ .append (.ref<|s.length+1) [v] (stM s r b A B Cc T)=.ok .N (stM s r b A (B++[v]) Cc T):=by rw[zE Dd h];unfold stM;simp_all
def R9(h:Cc.length<ky):uJ .append (.ref<|s.length+2) [v] (stM s r b A B Cc T)=.ok .N (stM s r b A B (Cc++[v]) T):=by rw[zE F7 h];unfold stM;simp_all
def JJ:stM s r b A B Cc T++[o]=stM s r b A B Cc (T++[o]):=by unfold stM;simp
def G8:(stM s r b A B Cc T).length=s.length+(T.length+3):=by unfold stM;simp
def US:(stM s r b A B Cc<|T++[o])[s.length+(T.length+3)]?=al o:=by rw[<-JJ,am<|by rw[G8];lia,G8];simp
def Gz[bc P vw]n(hr:r<s.length)J(h0:0<J)(h:J<=10^90):∃(k:Nat)(a:Int),(k:Int)<J/\(cc P<|n+1).call "_law_draw" [.ref r,.int J] (stM s r b A B Cc T)=.ok (.int k) (stM s r a A B Cc T):=j2 n hr b J h0 h
end
def Po:qv .ne (.ref<|s.length+2) (.ref<|s.length+(T.length+3)) (stM s r b A B Cc<|T++[O.J []])=.ok (.T<|!decide (Cc=[])) (stM s r b A B Cc<|T++[O.J []]):=by
 show(match eqv (stM s r b A B Cc<|T++[O.J []]) tO (.ref<|s.length+2) (.ref<|s.length+(T.length+3))with|some r=>R.ok (D.T<|!r) _|none=>.B)=_;have:eqv (stM s r b A B Cc<|T++[O.J []]) tO (.ref<|s.length+2) (.ref<|s.length+(T.length+3))=al (decide<|Cc=[]):=by show(match(stM s r b A B Cc<|T++[O.J []])[s.length+2]?,(stM s r b A B Cc<|T++[O.J []])[s.length+(T.length+3)]? with|some<|O.J l,al<|O.J m=>if l.length=m.length then yR (eqv (stM s r b A B Cc<|T++[O.J []]) 29) l m else al ce|_,_=>aT)=_;rw[F7,US];cases Cc<;>rfl
 rw[this]
def zn(m:Nat)(fs:List<|Nat->Nat->Int):List D:=fs.map<|gd m
def jn:D.lj (zn m fs)=true:=zy λd a=>by obtain⟨x,_,rfl⟩:=ar.mp a;exact Cy
def jj{i:Nat}(h:fs[i]?=al f):(zn m fs)[i]?=al (gd m f):=by unfold zn;simp_all
noncomputable def Ho:E:=.and (.Z .lt (.X 8) (.K<|.int 4)) (.and (.Z .gt (.X 3) (.K<|.int 0)) (.and (.Z .ne (.X 6) (.J .nil)) (.Z .gt (.X 8) (.K<|.int 0))))
noncomputable def Kw:Ss:=(.cons (.A (.Y 9) (.ix (.X 6) (.G .mod (.X 10) (.bi .len<|.cons (.X 6) .nil)))) (.cons (.ex<|.me .append (.X 4) (.cons (.tp<|.cons (.K<|.str [115,104,97,114,112]) (.cons (.X 9) .nil)) .nil)) (.cons (.ex<|.me .append (.X 5) (.cons (.call "_law_sharp"<|.ex (.ix (.X 5) (.X 9)) .nil) .nil)) (.cons (.A (.Y 3) (.G .sub (.X 3) (.K<|.int 1))) .nil))))
noncomputable def Kv:Ss:=(.cons (.A (.Y 9) (.bi .min2<|.cons (.X 9) (.cons (.G .sub (.X 7) (.K<|.int 1)) .nil))) (.cons (.A (.Y 10) (.ite (.Z .gt (.X 8) (.K<|.int 1)) (.bi .min2<|.cons (.X 10) (.cons (.G .sub (.X 7) (.K<|.int 1)) .nil)) (.X 9))) (.cons (.ex<|.me .append (.X 4) (.cons (.tp<|.cons (.K<|.str [112,97,105,114]) (.cons (.X 9) (.cons (.X 10) .nil))) .nil)) (.cons (.ex<|.me .append (.X 5) (.cons (.call "_law_product"<|.ex (.ix (.X 5) (.X 9)) (.ex (.ix (.X 5) (.X 10)) .nil)) .nil)) .nil))))
noncomputable def Ku:Ss:=(.cons (.A (.Y 11) (.ix (.K<|.str [97,98,99]) (.G .mod (.X 9) (.ix (.X 1) (.K<|.int 0))))) (.cons (.ex<|.me .append (.X 4) (.cons (.tp<|.cons (.K<|.str [108,101,116,116,101,114]) (.cons (.X 11) .nil)) .nil)) (.cons (.ex<|.me .append (.X 5) (.cons (.call "_law_letter_signs"<|.ex (.X 1) (.ex (.X 11) .nil)) .nil)) .nil)))
def D8:S:=.ite Ho Kw<|.cons (.ite (.and (.Z .gt (.X 7) (.K<|.int 0)) (.Z .lt (.X 8) (.K<|.int 5))) Kv Ku) .nil
noncomputable def D9:S:=.ite (.Z .eq (.call "_law_product"<|.ex (.ix (.X 5) (.X 7)) (.ex (.ix (.X 5) (.X 7)) .nil)) (.ix (.X 5) (.X 7))) (.cons (.ex<|.me .append (.X 6) (.cons (.X 7) .nil)) .nil) .nil
def Cq(m:Nat)(fs:List<|Nat->Nat->Int)(Cc:List Nat):Prop:=∀i∈Cc,∃f,fs[i]?=al f/\vA m (pr m f f) f
def Cq.app(h:Cq m fs Cc):Cq m (fs++[g]) Cc:=λi hi=>AE (h i hi) λf e q=>Ac f (aC (ae.mp e).1▸e) q
noncomputable def uP(s:cn)(r:Nat)(m:Mc)(most z:Int)(k:Option D)(x8 x9 x10 x11:Option D):Env:=[al<|.ref r,al m.d,al<|.int most,al<|.int z,al<|.ref s.length,al<|.ref<|s.length+1,al<|.ref<|s.length+2,k,x8,x9,x10,x11]
def Sj{k way one other:Nat}:∃(c:Bool)(J:cn),ev F Ho (uP s r m most z (al<|.int k) (al<|.int way) (al<|.int one) (al<|.int other) x11) (stM s r b A B Cc T)=.ok (.T c) (stM s r b A B Cc J)/\(c=bY->Cc≠[])/\(T.all O.eU=bY->J.all O.eU=bY):=by
 unfold Ho uP;by_cases a:(way:Int)<4
 .by_cases h2:0<z
  .by_cases h3:Cc=[];.refine Ah ce (T++[.J []]) ?_ (nofun) (λh=>by rw[fg,h];rfl);simp-implicitDefEqProofs[a,h2,JJ,G8];rw[Po];simp_all
   .refine Ah (decide<|0<(way)) (T++[.J []]) ?_ (λ_=>h3) (λh=>by rw[fg,h];rfl);simp-implicitDefEqProofs[a,h2,JJ,G8];rw[Po];simp_all
  .exact Ah ce T (by simp[h2]) (nofun) id
 .exact Ah ce T (by simp[a]) (nofun) id
def Q5{j:Nat}(h:s[r]?=al (.J l))(e:i=(j:Int))(a:l[j]?=al d):rW (.ref r) (.int i) s=.ok d s:=e▸qK h a
def T7[bc P vz][bc P xS][bc P wO]{n:Nat}{s:cn}{r:Nat}{m:Mc}(d:m.Ok){most z:Int}{k way one other:Nat}{x11:Option D}{b:Int}{l:List eH}{fs:List<|Nat->Nat->Int}{Cc:List Nat}{T:cn}(hM:t6 m l fs)(a:l.length=k)(a:k<1000)(a:one<k+1)(a:other<k+1)(a:Cq m.R fs Cc):∃(x:eH)(f:Nat->Nat->Int)(e:Int)(x9 x10 g:Option D)(J:cn),t6 m (l++[x]) (fs++[f])/\(T.all O.eU=bY->J.all O.eU=bY)/\ex (cc P<|n+1) D8 (uP s r m most z (al<|.int k) (al<|.int way) (al<|.int one) (al<|.int other) x11) (stM s r b (l.map eH.d) (zn m.R fs) (qN Cc) T)=.ok (.next<|uP s r m most e (al<|.int k) (al<|.int way) x9 x10 g) (stM s r b ((l++[x]).map eH.d) (zn m.R<|fs++[f]) (qN Cc) J):=by
 have e:=hM.len;have Z:(l.map eH.d).length<ky:=by unfold ky;grind
 have e:(zn m.R fs).length<ky:=by unfold ky zn;grind
 refine AL (Sj (F:=cc P<|n+1) (s:=s) (r:=r) (m:=m) (most:=most) (z:=z) (k:=k) (way:=way) (one:=one) (other:=other) (x11:=x11) (b:=b) (A:=l.map eH.d) (B:=zn m.R fs) (Cc:=qN Cc) (T:=T)) λc J g h hT=>?_;unfold D8;rw[qO,g,z0];cases c with
 |true=>
  have c:=h rfl;have g:0<Cc.length:=by cases Cc with|nil=>exact iN rfl c|cons _ _=>simp
  rw[ef rfl];have p:other%Cc.length<Cc.length:=Nat.mod_lt _ g;obtain⟨i,hi⟩:∃i,Cc[other%Cc.length]?=al i:=(Ae _<|aj p);refine AE (a i<|aA hi) λf a c=>⟨.ew i,sh m.R f,z-1,al<|.int i,al<|.int other,x11,J,.ew i f hM a c,hT,?_⟩;have g:∀T,rW (.ref<|s.length+2) (.int<|(other:Int)%(Cc.length:Int)) (stM s r b (l.map eH.d) (zn m.R fs) (qN Cc) T)=.ok (.int i) (stM s r b (l.map eH.d) (zn m.R fs) (qN Cc) T):=λT=>Q5 F7 (j:=other%Cc.length) (by simp) (by unfold qN;simp_all);have o:∀A T,rW (.ref<|s.length+1) (.int (i:Int)) (stM s r b A (zn m.R fs) (qN Cc) T)=.ok (gd m.R f) (stM s r b A (zn m.R fs) (qN Cc) T):=λA T=>qK Dd<|jj a;have a:bi .len [.ref<|s.length+2] (stM s r b (l.map eH.d) (zn m.R fs) (qN Cc) J)=.ok (.int Cc.length) (stM s r b (l.map eH.d) (zn m.R fs) (qN Cc) J):=by rw[qY F7];simp[qN]
  unfold Kw uP;simp only[za,zr,jc,mj,g6,zz,kl,i4,zF,zH,zx,zD,R.ax,a,G0<|show(0:Int)<(Cc.length:Int)by lia,g,zA,qP,qf,bz,AA,zb,jY,zS,q0,jx,k4,jG,Ii Z,qX,qw,zU,o,Qc n d.R5,H9 e,sub_int];unfold zn;simp[eH.d]|false=>
  rw[gc bu];by_cases c:0<k/\way<5
  .refine AB c λh1 h2=>?_;have i:∀a:Nat,(if(k:Int)-1<(a:Int)then(k:Int)-1 else(a:Int))=((min a<|k-1:Nat):Int):=λa=>by lia
   obtain⟨j,a,a⟩:∃j:Nat,j<k/\(if(1:Int)<(way:Int)then((min other<|k-1:Nat):Int)else((min one<|k-1:Nat):Int))=(j:Int):=by grind
   have hi:min one (k-1)<fs.length:=by lia
   have f:j<fs.length:=by lia
   refine⟨.pair (min one<|k-1) j,pr m.R fs[min one<|k-1] fs[j],z,al<|.int (min one<|k-1:Nat),al<|.int j,x11,J,.pair _ _ _ _ hM (aj hi) (aj f),hT,?_⟩;have o:∀A T,rW (.ref<|s.length+1) (.int (j:Int)) (stM s r b A (zn m.R fs) (qN Cc) T)=.ok (gd m.R fs[j]) (stM s r b A (zn m.R fs) (qN Cc) T):=λA T=>qK Dd<|jj<|aj f;have p:(0:Int)<(k:Int):=by lia
   have f:ev (cc P<|n+1) (.ite (.Z .gt (.X 8) (.K<|.int 1)) (.bi .min2<|.cons (.X 10) (.cons (.G .sub (.X 7) (.K<|.int 1)) .nil)) (.X 9)) (uP s r m most z (al<|.int k) (al<|.int way) (al<|.int (min one<|k-1:Nat)) (al<|.int other) x11) (stM s r b (l.map eH.d) (zn m.R fs) (qN Cc) J)=.ok (.int j) (stM s r b (l.map eH.d) (zn m.R fs) (qN Cc) J):=by
    rw[<-a];unfold uP;by_cases h:(1:Int)<(way:Int);.simp_all
    .simp only[uL,jw,zz,jx,jG,zx,zD,R.ax,gt_int,z0,h,decide_false,if_false,bp]
   unfold Kv;unfold uP at f⊢;simp only[za,zr,qO,ox,jw,zz,jx,jG,k4,zx,zD,R.ax,gt_int,lt_int,p,(by lia:(way:Int)<5),decide_true,z0,if_true,jc,i4,zF,zH,kl,sub_int,Je,i,zA,qP,qf,bz,AA,zb,f,mj,jY,zS,q0,Ii Z,qX,qw,zU,g6,(λA T=>qK Dd<|jj<|aj hi:∀A T,rW (.ref<|s.length+1) (.int ((min one<|k-1:Nat):Int)) (stM s r b A (zn m.R fs) (qN Cc) T)=.ok (gd m.R fs[min one<|k-1]) (stM s r b A (zn m.R fs) (qN Cc) T)),o,je n d.R5,H9 e];unfold zn;simp[eH.d]
  .have Y:ev (cc P<|n+1) (.and (.Z .gt (.X 7) (.K<|.int 0)) (.Z .lt (.X 8) (.K<|.int 5))) (uP s r m most z (al<|.int k) (al<|.int way) (al<|.int one) (al<|.int other) x11) (stM s r b (l.map eH.d) (zn m.R fs) (qN Cc) J)=.ok (.T ce) (stM s r b (l.map eH.d) (zn m.R fs) (qN Cc) J):=by
    unfold uP;by_cases a:(0:Int)<(k:Int);.have h2:¬(way:Int)<5:=λh=>c<|Ad (by lia) (by lia);simp_all
    simp_all
   have a:=d.L1;have b:=d.L3;have p:one%m.L<m.L:=Nat.mod_lt _ a;refine⟨.l6<|97+one%m.L,sV m<|97+one%m.L,z,al<|.int one,al<|.int other,al<|.str [97+one%m.L],J,.l6 _ hM (by lia) (by lia),hT,?_⟩;have a:((one:Int)%(m.L:Int))=((one%m.L:Nat):Int):=by simp
   rw[za,qO,Y];unfold Ku uP;simp only[z0,if_false,bp,za,zr,jc,g6,jx,k4,jG,kl,zz,zx,zD,R.ax,Hw,G0<|show(0:Int)<(m.L:Int)by lia,a,H6<|show one%m.L<3 by lia,zA,qP,qf,bz,AA,zb,mj,jY,zS,q0,zF,zH,Ii Z,qX,qw,zU,jJ n d,H9 e];unfold zn;simp[eH.d]
def SO[bc P vz]{n}{s}{r}{m}(a:m.Ok){most z}{k}{x8 x9 x10 x11}{b}{A}{fs:List<|Nat->Nat->Int}{Cc}{T}(d:fs.length=k+1)(d:Cc.length<1000)(Y:Cq m.R fs Cc):∃J,J.length<=Cc.length+1/\Cq m.R fs J/\ex (cc P<|n+1) D9 (uP s r m most z (al<|.int k) x8 x9 x10 x11) (stM s r b A (zn m.R fs) (qN Cc) T)=.ok (.next<|uP s r m most z (al<|.int k) x8 x9 x10 x11) (stM s r b A (zn m.R fs) (qN J) T):=by
 obtain⟨f,Z⟩:∃f,fs[k]?=al f:=(Ae _<|aj<|by lia);refine AE (IF (s:=stM s r b A (zn m.R fs) (qN Cc) T) (m:=m.R) (f:=pr m.R f f) (g:=f)) λc e g=>?_;have h:ev (cc P<|n+1) (.Z .eq (.call "_law_product"<|.ex (.ix (.X 5) (.X 7)) (.ex (.ix (.X 5) (.X 7)) .nil)) (.ix (.X 5) (.X 7))) (uP s r m most z (al<|.int k) x8 x9 x10 x11) (stM s r b A (zn m.R fs) (qN Cc) T)=.ok (.T c) (stM s r b A (zn m.R fs) (qN Cc) T):=by unfold uP;simp only[jw,qX,qw,zU,g6,zz,zx,zD,R.ax,(qK Dd<|jj Z),je n a.R5,e]
 unfold D9;rw[qO,h,z0];cases c with|false=>exact Ag Cc (by lia) Y rfl|true=>
  refine Ag (Cc++[k]) (by simp) (λi hi=>?_) ?_
  .rcases aU.mp hi with h|h;.exact Y i h
   .exact aI.mp h▸(Ac f Z<|g.mp rfl)
  .rw[ef rfl];unfold uP;simp only[za,zr,mj,jY,zS,zz,zF,zH,zx,zD,R.ax,R9<|show(qN Cc).length<ky by unfold qN ky;simp;lia,zb];unfold qN;simp
def QX(s:cn)(r:Nat)(m:Mc)(most:Nat)(x:R D):Prop:=∃(l:List eH)(fs:List<|Nat->Nat->Int)(b:Int)(T:cn)(p:Nat),t6 m l fs/\1<=l.length/\l.length<=most/\(s.set r (qt b)++T)[p]?=al (.J<|zn m.R fs)/\T.all O.eU=bY/\x=.ok (.tp [.tp<|l.map eH.d,.ref p]) (s.set r (qt b)++T)
def aY1[bc P vw][bc P vz][bc P xS][bc P wO][bc P EW]n{s}{r}(hs:∃b,s[r]?=al (qt b)){m}(hm:m.Ok)most(h0:1<=most)(h1:most<=500)z:QX s r m most<|(cc P<|n+2).call "_law_makings" [.ref r,m.d,.int most,.int z] s:=by
 have e0:(cc P<|n+2).call "_law_makings" [.ref r,m.d,.int most,.int z] s=_:=zg EW rfl;have hr:=Dl hs;refine AF hs λY a2=>?_;have es:s=s.set r (qt Y):=by rw[((ae.mp a2).2).symm,iY]
 refine AD (Gz (P:=P) n (b:=Y) (A:=[]) (B:=[]) (Cc:=[]) (T:=[]) hr most (by lia) (qG<|by lia)) λd b1 hd ed=>?_;rw[e0];have body:EW.body=.cons (.A (.Y 4) (.J .nil)) (.cons (.A (.Y 5) (.J .nil)) (.cons (.A (.Y 6) (.J .nil)) (.cons (.fo (.Y 7) (.rg<|.G .add (.K<|.int 1) (.call "_law_draw"<|.ex (.X 0) (.ex (.X 2) .nil))) (.cons (.A (.Y 8) (.call "_law_draw"<|.ex (.X 0) (.ex (.K<|.int 6) .nil))) (.cons (.A (.Y 9) (.call "_law_draw"<|.ex (.X 0) (.ex (.G .add (.X 7) (.K<|.int 1)) .nil))) (.cons (.A (.Y 10) (.call "_law_draw"<|.ex (.X 0) (.ex (.G .add (.X 7) (.K<|.int 1)) .nil))) (.cons D8<|.cons D9 .nil))))) (.cons (.ret<|.tp<|.cons (.mk .tuple<|.seq<|.X 4) (.cons (.X 5) .nil)) .nil)))):=rfl;rw[body,show(bv al [D.ref r,m.d,.int most,.int z]++ay EW.vs aT)=[al<|D.ref r,al m.d,al<|.int most,al<|.int z,aT,aT,aT,aT,aT,aT,aT,aT]from rfl];simp-implicitDefEqProofs only[za,jc,sP,zH,R.ax,l5,zA,qP,qf,bz,AA,zb,bf,c6,f7,aN,kc,qT,kl,jx,jG,qX,qw,zU,zz,zx,zD,(by unfold stM;rw[<-es]:s++[O.J [],O.J [],O.J []]=stM s r Y [] [] [] []),ed,add_int,bM];rw[zI (by unfold hH;lia) (by unfold hH;lia),show((1:Int)+(d:Int))=((d+1:Nat):Int)by lia];simp only[R.ax,R.bind_assoc];refine jQ (Ww:=QX s r m most) (λk U t=>∃(l:List eH)(fs:List<|Nat->Nat->Int)(Cc:List Nat)(b:Int)(T:cn)(z:Int)(Z x8 x9 x10 x11:Option D),t6 m l fs/\l.length=k/\Cc.length<=k/\Cq m.R fs Cc/\T.all O.eU=bY/\U=uP s r m most z Z x8 x9 x10 x11/\t=stM s r b (l.map eH.d) (zn m.R fs) (qN Cc) T) ⟨[],[],[],b1,[],z,aT,aT,aT,aT,aT,.nil,rfl,ak _,λ_ h=>(by cases h),rfl,rfl,rfl⟩ (λ_ _ _ _ _=>rfl) ?_ ?_
 .rintro k dd U t hk⟨l,fs,Cc,b,T,z,Z,x8,x9,x10,x11,hM,hl,a1,hC,hT,rfl,rfl⟩;have a8:=(qu hk).1;rw[(qu hk).2];refine AD (Gz (P:=P) n (s:=s) (b:=b) (A:=l.map eH.d) (B:=zn m.R fs) (Cc:=qN Cc) (T:=T) hr 6 (by decide) (by decide)) λway c1 _ f1=>AD (Gz (P:=P) n (s:=s) (b:=c1) (A:=l.map eH.d) (B:=zn m.R fs) (Cc:=qN Cc) (T:=T) hr ((k:Int)+1) (by lia) (qG<|by lia)) λone c2 ho f2=>AD (Gz (P:=P) n (s:=s) (b:=c2) (A:=l.map eH.d) (B:=zn m.R fs) (Cc:=qN Cc) (T:=T) hr ((k:Int)+1) (by lia) (qG<|by lia)) λother c3 a6 f3=>AJ (T7 (P:=P) (n:=n) (s:=s) (r:=r) hm (most:=most) (z:=z) (k:=k) (way:=way) (one:=one) (other:=other) (x11:=x11) (b:=c3) (T:=T) hM hl (by lia) (by lia) (by lia) hC) λx f z' Zz=>AM Zz λy9 Uu J T' a3 Zz=>AB Zz λa4 eI=>AH (SO (P:=P) (n:=n) (s:=s) (r:=r) hm (most:=most) (z:=z') (k:=k) (x8:=al<|.int way) (x9:=y9) (x10:=Uu) (x11:=J) (b:=c3) (A:=(l++[x]).map eH.d) (T:=T') (Cc:=Cc) (fs:=fs++[f]) (by have:=hM.len;grind) (by lia) hC.app) λCc' a5 a0 eE=>Gi (U:=uP s r m most z' (al<|.int k) (al<|.int way) y9 Uu J) (s:=stM s r c3 ((l++[x]).map eH.d) (zn m.R<|fs++[f]) (qN Cc') T') ?_ ⟨l++[x],fs++[f],Cc',c3,T',z',_,_,_,_,_,a3,by simp;omega,by lia,a0,a4 hT,rfl,rfl⟩;have st:turn (cc P<|n+1) (.Y 7) (.cons (.A (.Y 8) (.call "_law_draw"<|.ex (.X 0) (.ex (.K<|.int 6) .nil))) (.cons (.A (.Y 9) (.call "_law_draw"<|.ex (.X 0) (.ex (.G .add (.X 7) (.K<|.int 1)) .nil))) (.cons (.A (.Y 10) (.call "_law_draw"<|.ex (.X 0) (.ex (.G .add (.X 7) (.K<|.int 1)) .nil))) (.cons D8<|.cons D9 .nil)))) (.int k) (uP s r m most z Z x8 x9 x10 x11) (stM s r b (l.map eH.d) (zn m.R fs) (qN Cc) T)=oo (cc P<|n+1) (.cons D8<|.cons D9 .nil) (uP s r m most z (al<|.int k) (al<|.int way) (al<|.int one) (al<|.int other) x11) (stM s r c3 (l.map eH.d) (zn m.R fs) (qN Cc) T):=by unfold turn uP;simp-implicitDefEqProofs only[zA,qP,qf,bz,za<|.A _ _,jc,qX,qw,zU,zz,kl,jx,jG,add_int,zx,zD,R.ax,f1,f2,f3,AA,zb]
  rw[st,za,eI,R.ax,zb,za,eE,R.ax,zb,zr]
 .rintro U t⟨l,fs,Cc,b,T,z,Z,x8,x9,x10,x11,hM,hl,a1,hC,hT,rfl,rfl⟩;rw[zC]at hl;unfold uP;simp-implicitDefEqProofs only[zb,za,zr,dt,q0,zF,zH,rZ,tW,zz,zx,zD,R.ax,xK,Lp,mk,jo,ju];refine⟨l,fs,b,.J (l.map eH.d)::.J (zn m.R fs)::.J (qN Cc)::T,s.length+1,hM,by lia,by lia,Dd,by simp only[dj,O.eU,U5,jn,Ph,hT,Bool.and_self],?_⟩;unfold nf;rw[show stM s r b (l.map eH.d) (zn m.R fs) (qN Cc) T=s.set r (qt b)++(.J (l.map eH.d)::.J (zn m.R fs)::.J (qN Cc)::T)from rfl,ef<|OC s _ r (qt b) rfl];have:(D.tp [.tp<|l.map eH.d,.ref<|s.length+1]).eu s.length=false:=by unfold D.eu D.n7 D.n7 D.n7;simp[D.eu]
  simp only[this,if_false,bp]
theorem Ij:∀k,xD f g i j k<=x↔3<=x\/∃l,l<k/\f i l<3/\f i l<=x/\g l j<=x
 |0=>⟨.inl,λh=>h.elim id λ⟨l,a,_⟩=>iN a<|cN _⟩|k+1=>by
  have key:xD f g i j (k+1)<=x↔xD f g i j k<=x\/(f i k<3/\f i k<=x/\g k j<=x):=by
   conv=>lhs;unfold xD
   simp only;repeat' split
   all_goals omega
  rw[key,(Ij (f:=f) (g:=g) (i:=i) (j:=j) (x:=x) k)];constructor
  .rintro((h|⟨l,h1,h2⟩)|h);.exact .inl h
   .exact .inr<|Ac l (by lia) h2
   .exact .inr<|Ac k (by lia) h
  .rintro(h|⟨l,h1,h2⟩);.exact .inl<|.inl h
   .by_cases e:l=k;.exact e▸.inr h2
    .exact .inl<|.inr<|Ac l (by lia) h2
def Bb(a:x<3):pr m f g i j<=x↔∃l,l<m/\f i l<=x/\g l j<=x:=by
 unfold pr;rw[Ij];constructor
 .rintro(h|⟨l,J,_,Uu,h3⟩);.omega
  .exact Ag l J Uu h3
 .rintro⟨l,J,Uu,h3⟩;exact .inr<|Ap l J (by lia) Uu h3
def Ep:pr m f g i j<=3:=(Ij _).mpr<|.inl<|cC _
def MD{b:Int}(c:a<=3)(c:b<=3)(h:∀x,x<3->(a<=x↔b<=x)):a=b:=by
 by_cases c:a<3;.have:=(h a c).mp<|cC _;have:=(h b<|by lia).mpr<|cC _;lia
 .by_cases h2:b<3;.have:=(h b h2).mpr<|cC _;lia
  .lia
section
variable{m:Nat}{f:Nat->Nat->Int}{x:Int}
end
def ZC{l:List eH}n:(D.tp<|l.map eH.d).eu n=true:=zw (λd a n=>by obtain⟨x,_,rfl⟩:=ar.mp a;exact x.eu n) n
noncomputable def Rc(a c:Int)(vs:List Int):eH->Int|.l6 _=>a|.pair i j=>vs.getD i 0+vs.getD j 0|.ew i=>vs.getD i 0*c
def vl(a c:Int)(l:List eH):List Int:=l.foldl (λvs x=>vs++[Rc a c vs x]) []
def IY{α:Type}{l:List α}{x}(h:l[k]?=al x):l.take (k+1)=l.take k++[x]:=by rw[List.take_succ,h];rfl
def Ra:rW (eH.l6 c).d (.int 1) s=.ok (.str [c]) s:=rfl
def Q9:rW (eH.pair i j).d (.int 1) s=.ok (.int i) s:=rfl
def Q8:rW (eH.pair i j).d (.int 2) s=.ok (.int j) s:=rfl
def Q7:rW (eH.ew i).d (.int 1) s=.ok (.int i) s:=rfl
section
variable{F:uQ}{U:Env}{s:cn}
noncomputable def OP(F:uQ)(d:D)(l:List D)(s:cn):R D:=match d with|.fn f=>F.call f l s|.sk id cs=>F.lam id cs l s|_=>.B
def U7 es(h:U[i]?=al (al d)):ev F (.tX i es) U s=(vt F es U s).bind λl s=>OP F d l s:=by show(vt F es U s).bind (λl s=>match U[i]? with|some<|al<|.fn f=>F.call f l s|some<|al<|.sk id cs=>F.lam id cs l s|_=>.B)=_;rw[h];cases d<;>rfl
def jL Uu(h:EV U J=al cs):tY F (.lam Y J Uu) U s=(tY F Uu U s).bind λl s=>.ok (.sk Y cs::l) s:=by show(match EV U J with|some cs=>(tY F Uu U s).bind λl s=>R.ok (D.sk Y cs::l) s|none=>.B)=_;rw[h]
end
def qR{s:cn}(h:s.all O.eU=bY)(a:o.eU=bY):(s++[o]).all O.eU=true:=by rw[fg,h];simp[a]
noncomputable def eH.t(c:Int):eH->D|.ew i=>.tp [.str [116,105,109,101,115],.int i,.int c]|x=>x.d
def QK(a:o.eu s.length=bY):nf s (.ref s.length) (s++[o])=.ok (.ref s.length) (s++[o]):=by have:=Qs (t:=[]) (u:=[]) a;simpa using this
noncomputable def yh(m:Nat)(Ww:Nat->Nat->D):D:=.tp<|(av m).map λi=>.tp<|(av m).map λj=>Ww i j
def MO(h:∀i j n,(Ww i j).eu n=bY)n:(yh m Ww).eu n=true:=by refine zw (λd a n=>?_) n;obtain⟨i,_,rfl⟩:=ar.mp a;refine zw (λd a n=>?_) n;obtain⟨j,_,rfl⟩:=ar.mp a;exact h i j n
def Du[bc P t5]n{m:Nat}(hm:m<=1000){d}{s}{Ww}(Y:∀i j n,(Ww i j).eu n=bY)(h:∀i j,i<m->j<m->OP (cc P n) d [.int i,.int j] (s++[.J<|(av i).map λi=>.tp<|(av m).map λj=>Ww i j])=.ok (Ww i j) (s++[.J<|(av i).map λi=>.tp<|(av m).map λj=>Ww i j])):(cc P<|n+1).call "grid" [.int m,d] s=.ok (yh m Ww) s:=by
 have a:(cc P<|n+1).call "grid" [.int m,d] s=_:=zg t5 rfl;rw[a,show(bv al [D.int m,d]++ay t5.vs aT)=[al<|D.int m,al d,aT,aT]from rfl];simp only[t5];simp-implicitDefEqProofs only[za,jc,sP,zH,R.ax,l5,zA,qP,qf,bz,AA,zb,kc,qT,zz,zx,zD];rw[zI (by unfold hH;lia) (by unfold hH;lia)];simp only[R.ax];rw[R.bind_assoc];refine GG (λi U t=>∃(x:Option D),U=[al<|D.int m,al d,al<|.ref s.length,x]/\t=s++[.J<|(av i).map λi=>.tp<|(av m).map<|Ww i]) (Ac aT rfl rfl) (λ_ _ _ _ _=>rfl) ?_ ?_
 .rintro i dd U t hi⟨x,rfl,rfl⟩;have J:=(qu hi).1;rw[(qu hi).2];generalize b:s++[O.J<|(av i).map λi=>D.tp<|(av m).map<|Ww i]=S;have a:qE (λs1=>n5 S s1 []) (qd (cc P n) (.Y 0) (.tX 1<|.cons (.X 2) (.cons (.X 0) .nil))) (tP 0 (m:Int)) (zP [al<|D.int m,al d,al<|.ref s.length,al<|.int (i:Int)] [aT,al 1,al 3]) S=.ok ((av m).map<|Ww i) S:=by refine AD (jt (ok:=λs1=>n5 S s1 []) (g:=qd (cc P n) (.Y 0) (.tX 1<|.cons (.X 2) (.cons (.X 0) .nil))) (λU u=>u=S/\∃x,U=[x,al d,al<|.int i]) ((Ww i)) m (zP [al<|D.int m,al d,al<|.ref s.length,al<|.int (i:Int)] [aT,al 1,al 3]) S (Al rfl aT rfl) (λ_ _ _=>rfl) (by rintro j a U u⟨rfl,x,rfl⟩;refine Ar [al<|.int j,al d,al<|.int i] u ?_ rfl _ rfl;have c:=h i j J a;rw[b]at c;unfold qd;simp-implicitDefEqProofs only[zA,qf];rw[U7 (d:=d) _ rfl];simp_all)) λU1 s1 a Z=>?_;obtain⟨rfl,_⟩:=Z;exact a
  have c:turn (cc P n) (.Y 3) (.cons (.ex<|.me .append (.X 2) (.cons (.mk .tuple<|.comp (.Y 0) (.rg<|.X 0) (.tX 1<|.cons (.X 2) (.cons (.X 0) .nil)) [aT,al 1,al 3]) .nil)) .nil) (.int i) [al<|D.int m,al d,al<|.ref s.length,x] S=.ok (.next [al<|D.int m,al d,al<|.ref s.length,al<|.int i]) (s++[.J<|(av<|i+1).map λi=>.tp<|(av m).map<|Ww i]):=by unfold turn;simp-implicitDefEqProofs only[zA,qP,qf,bz,za,zr,mj,jY,zS,zF,zH,rZ,qU,qT,zz,zx,zD,R.ax];rw[zI (by unfold hH;lia) (by unfold hH;lia)];simp only[R.ax];rw[ef<|by rw[zC];unfold ky;lia,a,<-b];simp-implicitDefEqProofs only[R.ax,mk];rw[PZ<|by unfold ky;simp;lia,dS,aP,zS];rfl
  rw[c];show∃x,_;exact Ac (al<|.int i) rfl rfl
 .rintro U t⟨x,rfl,rfl⟩;rw[zC];simp-implicitDefEqProofs only[zb,za,zr,dt,rZ,tW,zz,zx,zD,R.ax,xK,(by rw[am<|ak _];simp:(s++[O.J<|(av m).map λi=>D.tp<|(av m).map<|Ww i])[s.length]?=al (.J<|(av m).map λi=>D.tp<|(av m).map<|Ww i)),mk,jo,ju];exact zO (d:=yh m Ww) (MO Y) (by nofun)
def ue(m:Nat)(f:Nat->Nat->Int):Prop:=∀i j,i<m->j<m->0<=f i j/\f i j<=3
def HW(a:1<=m)(h:ue m f)(J:ue m g)(hi:i<m)(a:j<m):pr m f g i j<=x↔∃l,l<m/\f i l<=x/\g l j<=x:=by
 by_cases b:x<3;.exact Bb b
 .refine⟨λ_=>Ag 0 (by lia) ?_ ?_,λ_=>fF Ep<|by lia⟩;.have:=h i 0 hi (by omega);lia
  .have:=J 0 j (by omega) a;lia
def Vt(h:1<=m)(J:ue m f)(a:ue m g):vA m (pr m f g) (L2.Ez m f g):=λi j hi b=>L2.JW λx=>by rw[HW h J a hi b,L2.JR h]
theorem N8:∀k,wa f i j k<=x↔3<=x\/∃l,l<k/\f i l<=x/\(if f l l=1 then 2 else f l l)<=x/\f l j<=x
 |0=>by unfold wa;lia|k+1=>by
  have key:wa f i j (k+1)<=x↔wa f i j k<=x\/(f i k<=x/\(if f k k=1 then 2 else f k k)<=x/\f k j<=x):=by
   conv=>lhs;unfold wa
   simp only;generalize(if f k k=1 then(2)else f k k)=z;split<;>omega
  rw[key,(N8 (f:=f) (i:=i) (j:=j) (x:=x) k)];constructor
  .rintro((h|⟨l,h1,h2⟩)|h);.exact .inl h
   .exact .inr<|Ac l (by lia) h2
   .exact .inr<|Ac k (by lia) h
  .rintro(h|⟨l,h1,h2⟩);.exact .inl<|.inl h
   .by_cases e:l=k;.exact e▸.inr h2
    .exact .inl<|.inr<|Ac l (by lia) h2
def N7(h:0<=y)(a:y<=3):(if y=1 then 2 else y)=L2.uH y:=by unfold L2.uH;lia
def PD(b:1<=m)(a:ue m f):vA m (sh m f) (L2.ew m f):=λi j hi c=>L2.JW λx=>by
 unfold sh;rw[N8,L2.GC b];constructor
 .rintro(h|⟨l,J,Z,Y,h3⟩)
  .refine Ap 0 (by lia) ?_ ?_ ?_;.have:=a i 0 hi (by omega);lia
   .have:=a 0 0 (by omega) (by omega);have:=(L2.Nd this.1 this.2).2;lia
   .have:=a 0 j (by omega) c;lia
  .exact Ap l J Z (N7 (a l l J J).1 (a l l J J).2▸Y) h3
 .rintro⟨l,J,Z,Y,h3⟩;exact .inr<|Ap l J Z (N7 (a l l J J).1 (a l l J J).2▸Y) h3
def LA(h:1<=m)(J:ue m f)(a:ue m g):ue m<|pr m f g:=λi j hi b=>Vt h J a i j hi b▸L2.ZO h J a hi b
def Rk(h:1<=m)(J:ue m f):ue m<|sh m f:=λi j hi a=>PD h J i j hi a▸L2.Vx h J i j hi a
theorem OZ:∀l(a:Int),l.foldl min a<=x↔∃y∈a::l,y<=x
 |[],a=>by simp|b::l,a=>by
  rw[iK,OZ l];constructor;.grind
  .rintro⟨y,hy,hx⟩;simp only[aE]at hy;rcases hy with rfl|rfl|hy;.exact Ac (min y b) (by simp) (by lia)
   .exact Ac (min a y) (by simp) (by lia)
   grind
def YN(h:tH l=al m):m<=x↔∃y∈l,y<=x:=by cases l with|nil=>cases h|cons a l=>exact az (h)▸OZ l a
def aX0{l:List Nat}:qy (l.map λk=>D.int<|f k)=al (l.map f):=by induction l with|nil=>rfl|cons a l a=>rw[aS];unfold qy;rw[a];rfl
def NH(h:1<=m){f:Nat->Int}(c:∀x,v<=x↔∃k,k<m/\f k<=x)s:mk .min ((av m).map λk=>D.int<|f k) s=.ok (.int v) s:=by
 obtain⟨w,a⟩:∃w,tH ((av m).map f)=al w:=by obtain⟨b,rfl⟩:∃b,m=b+1:=(Ae (m-1) (by lia));exact cL▸(Ae _ rfl)
 show(match(qy<|(av m).map λk=>D.int<|f k).bind tH with|some m=>R.ok (D.int m) s|none=>.B)=_;rw[aX0];show(match tH ((av m).map f)with|some m=>R.ok (D.int m) s|none=>.B)=_;rw[a];have:w=v:=L2.JW λx=>by
  rw[YN a,c];constructor;.rintro⟨y,hy,hx⟩;obtain⟨k,a,rfl⟩:=ar.mp hy;exact Ac k (bI.mp a) hx
  .rintro⟨k,a,hx⟩;exact Ac _ (ar.mpr<|Ac k (bI.mpr a) rfl) hx
 rw[this]
section
variable{P:Pr}[bc P t5][bc P uX][dy P uY]
def zN n(Y:1<=m)(a0:m<=5)(hf:ue m f)(hg:ue m g)(hs:s.all O.eU=bY):
  (cc P<|n+3).call "sign_product" [gd m f,gd m g] s=.ok (gd m<|pr m f g) s:=by have c:(cc P<|n+3).call "sign_product" [gd m f,gd m g] s=_:=zg uX rfl;have J:=Du (P:=P) (n+1) (m:=m) (by lia) (d:=.sk "sign_product.0" [.int m,gd m f,gd m g]) (λ_ _ _=>rfl) (λi j hi b=>by
  generalize hS:s++[O.J<|(av i).map λi=>D.tp<|(av m).map λj=>D.int<|pr m f g i j]=S;have Z:S.all O.eU=true:=by rw[<-hS];refine qR hs<|zy λd a=>?_;obtain⟨x,_,rfl⟩:=ar.mp a;exact zy λd a=>by obtain⟨x,_,rfl⟩:=ar.mp a;rfl
  refine(Dz uY rfl rfl<|by rw[Z];simp[D.lj,D.eU,Cy]).trans ?_;show(ev (cc P n) uY.body [al<|.int i,al<|.int j,al<|.int m,al<|gd m f,al<|gd m g] S).bind (nf S)=_;simp-implicitDefEqProofs only[uY,rZ,qU,qT,zz,zx,zD,R.ax];rw[zI (by unfold hH;lia) (by unfold hH;lia)];simp only[R.ax];rw[ef<|by rw[zC];unfold ky;lia];refine AD (jt (ok:=λs1=>n5 S s1 []) (g:=qd (cc P n) (.Y 0) (.bi .max2<|.cons (.ix (.ix (.X 1) (.X 2)) (.X 0)) (.cons (.ix (.ix (.X 3) (.X 0)) (.X 4)) .nil))) (λU u=>u=S/\∃x,U=[x,al<|gd m f,al<|.int i,al<|gd m g,al<|.int j]) (λk=>.int<|if g k j>f i k then g k j else f i k) m (zP [al<|.int i,al<|.int j,al<|.int m,al<|gd m f,al<|gd m g] [aT,al 3,al 0,al 4,al 1]) S (Al rfl aT rfl) (λ_ _ _=>rfl) (by rintro k a U u⟨rfl,x,rfl⟩;refine Ar [al<|.int k,al<|gd m f,al<|.int i,al<|gd m g,al<|.int j] u ?_ rfl _ rfl;unfold qd;simp-implicitDefEqProofs only[zA,qf,i4,zF,zH,g6,zz,zx,zD,R.ax,yV hi,yV a,jb a,jb b,Vd])) λU1 s1 a h=>?_;obtain⟨rfl,_⟩:=h;rw[a];simp only[R.ax];rw[NH (v:=pr m f g i j) Y<|λx=>by
   rw[HW Y hf hg hi b];constructor;.rintro⟨l,Uu,h,h2⟩;exact Ac l Uu<|by split<;>omega
   .rintro⟨l,Uu,h⟩;exact Ag l Uu (by split at h<;>omega) (by split at h<;>omega)];exact zQ);rw[c,show(bv al [gd m f,gd m g]++ay uX.vs aT)=[al<|gd m f,al<|gd m g,aT]from rfl];simp-implicitDefEqProofs only[uX,za,zr,jc,i4,zF,zH,zz,zx,zD,R.ax,Ik,zA,qP,qf,bz,AA,zb,dt,jN,qw];rw[jL (cs:=[.int m,gd m f,gd m g]) _ rfl];simp-implicitDefEqProofs only[zU,R.ax,J];have e:yh m (λi j=>.int<|pr m f g i j)=gd m (pr m f g):=rfl;rw[e,ef<|by rw[Cy,hs];rfl];simp-implicitDefEqProofs only[R.ax,jo,ju];exact zo jd<|by nofun
end
def wQ{s:cn}:(s++[o])[s.length]?=al o:=by rw[am<|ak _];simp
def Sn a:(sg a).length=a.length:=aw _
class xA(P:Pr)(f:String)(d:Xf):Prop where at_:P.xf f=al d
class Bf(P:Pr)(f:String)(d:Tf):Prop where
 no:P.df f=aT
 at_:P.tf f=al d
class uA(P:Pr)(c:String)(ts:List String):Prop where
 at_:P.xc c=bY
 ts:∀t∈ts,P.xt t=bY
def V1 d[h:xA P f d](J:l.length=d.ps):(cc P<|n+1).xcall f l s=xB (cc P n) d.body (l.map al++ay d.vs aT) s:=by show(match P.xf f with|some d=>if l.length=d.ps then xB (cc P n) d.body (l.map al++ay d.vs aT) s else aT|none=>aT)=_;exact h.at_▸ef J
def XY d[h:Bf P f d](J:l.length=d.ps):(cc P<|n+1).call f l s=Di (cc P n) d l s:=by have e:(cc P<|n+1).call f l s=match P.df f with|some d=>if l.length=d.ps then(oo (cc P n) d.body (l.map al++ay d.vs aT) s).bind λc a=>match c with|.ret v=>nf s v a|.next _=>nf s .N a|_=>.B else .B|none=>match P.tf f with|some d=>if l.length=d.ps then Di (cc P n) d l s else .B|none=>.B:=rfl;rw[e,h.no];rw[h.at_];exact ef J
def ZR(h:d.pre=.nil):Di F d l s=F6 F d s (l.map al++ay d.vs aT) s:=by unfold Di;rw[h];rfl
def Nc:(cc P n).xc=P.xc/\(cc P n).xt=P.xt:=by cases n<;>exact Ad rfl rfl
section
variable{α:Type}[DecidableEq α]
theorem IH:∀{l m:List α},l.Nodup->(∀x∈l,x∈m)->l.length<=m.length|[],m,_,_=>cz _|a::l,m,h,k=>by obtain⟨Uu,J⟩:=cU.mp h;have ha:=k a<|ao ..;have:=IH (l:=l) (m:=m.erase a) J λx hx=>(List.mem_erase_of_ne λe=>Uu<|by rw[<-e];exact hx).mpr<|k x<|ah _ hx;rw[List.length_erase_of_mem ha]at this;have:=iG ha;rw[aQ];omega
def EK{x:α}(h:l.Nodup)(c:x∉l):(l++[x]).Nodup:=by rw[lG];exact⟨h,cU.mpr<|Ad (λz=>nomatch z) gC,λa a b b e=>c<|aI.mp b▸e▸a⟩
end
section
variable{α:Type}(L0:α->Prop)(mul:α->α->α)(rX:α->α)
variable{L0 mul rX}
end
end DV
end
noncomputable section
namespace DV
def O1(a:wM s t=bY)(h:t.length=s.length):nf s .N t=.ok .N t:=by unfold nf;grind
def QO(h:∀i,i<s.length->t[i]?=s[i]?\/∃o,t[i]?=al o/\o.eu s.length=bY):wM s t=true:=by
 unfold wM;rw[aK];intro i hi;rcases h i (bI.mp hi)with z|⟨o,a,b⟩;.rw[z];simp
 .rw[a];simp[b]
class hQ(P:Pr)(c m:String)(d:Xf):Prop where at_:P.mx c m=al d
def E8 d[h:hQ P c m d](J:l.length=d.ps):(cc P<|n+1).xm c m l s=xB (cc P n) d.body (l.map al++ay d.vs aT) s:=by show(match P.mx c m with|some d=>if l.length=d.ps then xB (cc P n) d.body (l.map al++ay d.vs aT) s else aT|none=>aT)=_;exact h.at_▸ef J
def sO(a b e:Nat):List<|D×D:=[(.str tL,.ref a),(.str uM,.ref b),(.str uv,.ref e)]
def Dx(h:s[o]?=al (.ins "ClosedSet"<|sO a b e)):z9 tL (.ref o) s=.ok (.ref a) s:=by unfold z9;simp only[h];simp[look,sO,uv]
def G7(h:s[o]?=al (.ins "ClosedSet"<|sO a b e)):z9 uM (.ref o) s=.ok (.ref b) s:=by unfold z9;simp only[h];simp[look,sO,tL,uM]
def j3(h:s[o]?=al (.ins "ClosedSet"<|sO a b e)):z9 uv (.ref o) s=.ok (.ref e) s:=by unfold z9;simp only[h];simp[look,sO,tL,uM,uv]
def BC(h:s[o]?=al (.ins "ClosedSet"<|sO a b e)):Bw (.ref o) s=.ok "ClosedSet" s:=by unfold Bw;simp only[h]
noncomputable def rl(l:List D):List<|D×D:=l.map λd=>(d,.T bY)
theorem qS:∀{l},(d∈l->look d (rl l)=al (.T bY))/\(d∉l->look d (rl l)=aT)|[]=>⟨λh=>(nomatch h),λ_=>rfl⟩|a::l=>by have J:=qS (d:=d) (l:=l);have e:look d (rl<|a::l)=if a=d then al (.T bY)else look d<|rl l:=rfl;grind
def jO(h:s[r]?=al (.su l))(a:k.tI=bY):qv .isin k (.ref r) s=.ok (.T (look k l).isSome) s:=by show(xH k (.ref r) s).bind _=_;unfold xH;simp_all
structure wz(s:cn)(o a b e:Nat)(st tb:List D):Prop where
 ins:s[o]?=al (.ins "ClosedSet"<|sO a b e)stp:s[a]?=al (.J st)tab:s[b]?=al (.J tb)see:s[e]?=al (.su<|rl tb)ab:a≠b
 len:st.length=tb.length
 le:tb.length<=80
 bs:∀d∈st,∀n,d.eu n=bY
 bt:∀d∈tb,∀n,d.eu n=bY
def uN(s:cn)(a b e:Nat)(st tb:List D):cn:=((s.set a<|.J st).set b<|.J tb).set e<|.su<|rl tb
def MF:(uN s a b e st tb).length=s.length:=by unfold uN;simp
def wz.ne(h:wz s o a b e st tb):o≠a/\o≠b/\o≠e/\a≠e/\b≠e:=by
 refine⟨λz=>?_,λz=>?_,λz=>?_,λz=>?_,λz=>?_⟩;.have:=h.ins;rw[z,h.stp]at this;lia
 .have:=h.ins;rw[z,h.tab]at this;lia
 .have:=h.ins;rw[z,h.see]at this;lia
 .have:=h.stp;rw[z,h.see]at this;lia
 .have:=h.tab;rw[z,h.see]at this;lia
def GN(J:i≠a)(h:i≠b)(c:i≠e):(uN s a b e st tb)[i]?=s[i]?:=by unfold uN;rw[aD<|bE c,aD<|bE h,aD<|bE J]
def wz.more(h:wz s o a b e st tb)(c:Uu.length=J.length)(Y:J.length<=80)(f:∀d∈Uu,∀n,d.eu n=bY)(g:∀d∈J,∀n,d.eu n=bY):wz (uN s a b e Uu J) o a b e Uu J:=by
 refine AW h.ne λn1 a b Z d=>have e:=(ae.mp h.stp).1;have i:=(ae.mp h.tab).1;have j:=(ae.mp h.see).1;⟨?_,?_,?_,?_,h.ab,c,Y,f,g⟩;.rw[GN n1 a b];exact h.ins
 .unfold uN;rw[aD<|bE Z,aD<|bE h.ab];exact qi e
 .unfold uN;rw[aD<|bE d];exact qi<|by simp;exact i
 .exact qi<|by simp;exact j
def YI(h:wz s o a b e st tb)(g:∀d∈c,∀n,d.eu n=bY)(j:∀d∈J,∀n,d.eu n=bY):wM s (uN s a b e c J)=true:=QO λi hi=>by
 refine AW h.ne λn1 d d Y d=>?_;by_cases f:i=a;.subst f;refine .inr ⟨.J c,?_,zw g _⟩;unfold uN;rw[aD<|bE Y,aD<|bE h.ab];exact qi<|(ae.mp h.stp).1
 .by_cases h2:i=b;.subst h2;refine .inr ⟨.J J,?_,zw j _⟩;unfold uN;rw[aD<|bE d];exact qi<|by simp;exact((ae.mp h.tab).1)
  .by_cases h3:i=e;.subst h3;refine .inr ⟨.su<|rl J,qi<|by simp;exact((ae.mp h.see).1),?_⟩;show(D.n7 _ ((rl J).map (·.1))&&D.n7 _ ((rl J).map (·.2)))=bY;unfold rl;rw[cG,cG,af];exact⟨zw (λd a n=>by simp_all) _,zw (λd a n=>by obtain⟨x,b,rfl⟩:=ar.mp a;rfl) _⟩
   .exact .inl<|GN f h2 h3
def Zj(h:y∉tb):Ab y (.T bY) (rl tb)=rl (tb++[y]):=by unfold Ab;rw[(qS).2 h];unfold rl;rw[aP];rfl
def zV o f:ev F (.attr o f) U s=(ev F o U s).bind λx s=>z9 f x s:=rfl
def vx:Xf:=⟨3,0,.seq (.ite (.Z .isin (.X 2) (.attr (.X 0) uv)) (.cons .uo .nil) .nil) (.ur (.Z .eq (.bi .len<|.cons (.attr (.X 0) tL) .nil) (.gl "MOST_TABLES")) (.uR "TooMuch") .no)⟩
def I8:u7.body=qV:=rfl
section
variable{P:Pr}[lb P "ClosedSet" "take" u7][ee P "MOST_TABLES"<|.int 80]
def Yh n(h:wz s o a b e st tb)(hy:y∈tb)(hk:y.tI=bY):(cc P<|n+1).cq "ClosedSet" "take" [.ref o,x,y] s=.ok .N s:=by have q:=jO h.see hk;rw[(qS).1 hy]at q;rw[ja u7 rfl,I8,show(bv al [D.ref o,x,y]++ay u7.vs aT)=[al<|.ref o,al x,al y]from rfl];simp only[za,zr,qO,zz,jw,R.ax,zx,zD,jo,ju,z0,if_true,zV,j3 h.ins,q,eW,MZ];simp_all
def VF n(h:wz s o a b e st tb)(hy:y∉tb)(hk:y.tI=bY)(hx:∀n,x.eu n=bY)(J:∀n,y.eu n=bY)(hl:tb.length<80):(cc P<|n+1).cq "ClosedSet" "take" [.ref o,x,y] s=.ok .N (uN s a b e (st++[x]) (tb++[y]))/\wz (uN s a b e (st++[x]) (tb++[y])) o a b e (st++[x]) (tb++[y]):=by
 have f:∀d∈st++[x],∀n,d.eu n=true:=λd c=>by
  rcases aU.mp c with z|z;.exact h.bs d z
  .exact aI.mp z▸hx
 have g:∀d∈tb++[y],∀n,d.eu n=true:=λd c=>by
  rcases aU.mp c with z|z;.exact h.bt d z
  .exact aI.mp z▸J
 refine⟨?_,h.more (by simp[h.len]) (by simp;lia) f g⟩;refine AW h.ne λn1 i c j k=>?_;have q:=jO h.see hk;rw[(qS).2 hy]at q;have d:(s.set a<|.J<|st++[x])[o]?=al (.ins "ClosedSet"<|sO a b e):=by rw[aD<|bE n1];exact h.ins
 have n:(s.set a<|.J<|st++[x])[b]?=al (.J tb):=by rw[aD h.ab];exact h.tab
 have Y:=zE (v:=y) n (by unfold ky;omega);have n:((s.set a<|.J<|st++[x]).set b<|.J<|tb++[y])[o]?=al (.ins "ClosedSet"<|sO a b e):=by rw[aD<|bE i];exact d
 have Z:pO (.ref e) y (.T bY) ((s.set a<|.J<|st++[x]).set b<|.J<|tb++[y])=.ok () (uN s a b e (st++[x]) (tb++[y])):=by unfold pO;simp only[(by rw[aD k,aD j];exact h.see:((s.set a<|.J<|st++[x]).set b<|.J<|tb++[y])[e]?=al (.su<|rl tb)),hk,Zj hy];rw[ef<|by simp[rl];unfold ky;omega];rfl
 rw[ja u7 rfl,I8,show(bv al [D.ref o,x,y]++ay u7.vs aT)=[al<|.ref o,al x,al y]from rfl];simp only[zS,za,zr,qO,mj,tV,zz,jx,jw,i4,jY,zH,zF,vb,R.ax,zx,zD,zb,uK,eq_int,z0,if_false,Bool.false_eq_true,zV,j3 h.ins,q,eW,Dx h.ins,(qY h.stp),qW (v:=.int 80),(ij<|by rw[h.len];lia:decide ((st.length:Int)=80)=false),zS,(zE (v:=x) h.stp<|by rw[h.len];unfold ky;lia),G7 d,Y,j3 n,Z];exact O1 (YI h f g) MF
end
section
variable{P:Pr}[hQ P "ClosedSet" "take" vx][ee P "MOST_TABLES"<|.int 80]
def Xa[hE:uA P "TooMuch" ts]n(h:wz s o a b e st tb)(hy:y∉tb)(hk:y.tI=bY)(Y:tb.length=80):(cc P<|n+1).xm "ClosedSet" "take" [.ref o,x,y] s=al ("TooMuch",s):=by
 have q:=jO h.see hk;rw[(qS).2 hy]at q;have b:decide ((st.length:Int)=80)=true:=gv (by rw[h.len];lia);rw[E8 vx rfl,show(bv al [D.ref o,x,y]++ay vx.vs aT)=[al<|.ref o,al x,al y]from rfl];have d:ex (cc P n) (.ite (.Z .isin (.X 2) (.attr (.X 0) uv)) (.cons .uo .nil) .nil) [al<|.ref o,al x,al y] s=.ok (.next [al<|.ref o,al x,al y]) s:=by simp only[za,zr,qO,zz,jw,R.ax,zx,zD,z0,if_false,Bool.false_eq_true,zV,j3 h.ins,q,eW]
 have J:ev (cc P n) (.Z .eq (.bi .len<|.cons (.attr (.X 0) tL) .nil) (.gl "MOST_TABLES")) [al<|.ref o,al x,al y] s=.ok (.T bY) s:=by simp only[zz,jw,i4,zH,zF,R.ax,zx,eq_int,zV,Dx h.ins,(qY h.stp),qW (v:=.int 80),b]
 show(match ex (cc P n) (.ite (.Z .isin (.X 2) (.attr (.X 0) uv)) (.cons .uo .nil) .nil) [al<|.ref o,al x,al y] s with|.ok (.next U1) s1=>xB (cc P n) (.ur (.Z .eq (.bi .len<|.cons (.attr (.X 0) tL) .nil) (.gl "MOST_TABLES")) (.uR "TooMuch") .no) U1 s1|_=>aT)=_;rw[d];show(match ev (cc P n) (.Z .eq (.bi .len<|.cons (.attr (.X 0) tL) .nil) (.gl "MOST_TABLES")) [al<|.ref o,al x,al y] s with|.ok (.T b) s1=>if b then xB (cc P n) (.uR "TooMuch") [al<|.ref o,al x,al y] s1 else xB (cc P n) .no [al<|.ref o,al x,al y] s1|_=>aT)=_;rw[J];show(if(cc P n).xc "TooMuch"=bY then al ("TooMuch",s)else aT)=_;rw[ef (Nc.1▸hE.at_:(cc P n).xc "TooMuch"=true)]
end
def tm(m:Nat)(f:Nat->Nat->Int):Prop:=vA m (pr m f f) f
section
variable{P:Pr}[bc P t5][bc P uX][dy P uY][bc P vZ]
def qQ n(Y:1<=m)(J:m<=5)(Uu:ue m f)(hs:s.all O.eU=bY):∃b,(cc P<|n+4).call "is_steady" [gd m f] s=.ok (.T b) s/\(b=bY↔tm m f):=by have Z:(cc P<|n+4).call "is_steady" [gd m f] s=_:=zg vZ rfl;refine AE (IF (s:=s)) λb e h=>Ac b ?_ h;rw[Z,show(bv al [gd m f]++ay vZ.vs aT)=[al<|gd m f]from rfl];simp only[vZ,za,dt,jw,qX,qw,zU,zz,zx,R.ax,zN n Y J Uu Uu hs,e,ju];exact qb
variable[bc P vQ][bc P wq][dy P wt][ee P "FREE"<|.int 0][ee P "UNBOUND"<|.int 2][ee P "NONE"<|.int 3]
def Jq{x}{d}[ee P x d]U s:ev (cc P n) (.gl x) U s=.ok d s:=by show(match(cc P n).con x with|some d=>R.ok d s|none=>.B)=_;rw[MU (v:=d)]
def aN1 n x s:(cc P<|n+1).call "round_of" [.int x] s=.ok (.int<|L2.uH x) s:=by
 have a:(cc P<|n+1).call "round_of" [.int x] s=_:=zg vQ rfl;rw[a,show(bv al [D.int x]++ay vQ.vs aT)=[al<|D.int x]from rfl];have a:=(Jq (P:=P) (n:=n) (x:="FREE") (d:=.int 0));have h:=(Jq (P:=P) (n:=n) (x:="NONE") (d:=.int 3));by_cases b:x=0
 .have e:L2.uH x=x:=by unfold L2.uH;lia
  simp only[vQ,za,qO,uj,jw,zz,zx,R.ax,a,eq_int,b,ju];simp_all
 .by_cases h3:x=3
  .have e:L2.uH x=x:=by unfold L2.uH;lia
   simp only[vQ,za,qO,uj,jw,a,h,ju];simp_all
  .have e:L2.uH x=2:=by unfold L2.uH;lia
   simp only[vQ,za,zr,qO,uj,jw,zz,zx,R.ax,a,h,((Jq (P:=P) (n:=n) (x:="UNBOUND") (d:=.int 2))),eq_int,b,h3,decide_false,bp,if_false,z0,zb,dt,jo,ju];simp_all
def jD n(Uu:1<=m)(a1:m<=5)(hf:ue m f)(a0:tm m f)(hs:s.all O.eU=bY):(cc P<|n+5).call "sharpened" [gd m f] s=.ok (gd m<|sh m f) s:=by
 have o:(cc P<|n+5).call "sharpened" [gd m f] s=_:=zg wq rfl;refine AE (qQ (P:=P) n Uu a1 hf hs) λb p a=>?_;have Z:=a.mpr a0;subst Z;have a:(O.J<|row m λk=>L2.uH<|f k k).eU=true:=M5;have J:=qR hs a;have Y:=Du (P:=P) (n+3) (m:=m) (by omega) (d:=.sk "sharpened.0" [.int m,gd m f,.ref s.length]) (λ_ _ _=>rfl) (λi j hi c=>by
  have e:=(λt=>by rw[bf,am<|ak _];simp:∀t:cn,(s++[O.J<|row m λk=>L2.uH<|f k k]++t)[s.length]?=al (.J<|row m λk=>L2.uH<|f k k)) [O.J<|(av i).map λi=>D.tp<|(av m).map λj=>D.int<|sh m f i j];generalize hS:s++[O.J<|row m λk=>L2.uH<|f k k]++[O.J<|(av i).map λi=>D.tp<|(av m).map λj=>D.int<|sh m f i j]=S at e;have b:S.all O.eU=true:=by rw[<-hS];refine qR J<|zy λd a=>?_;obtain⟨x,_,rfl⟩:=ar.mp a;exact zy λd a=>by obtain⟨x,_,rfl⟩:=ar.mp a;rfl
  refine(Dz wt rfl rfl<|by rw[b];simp[D.lj,D.eU,Cy]).trans ?_;show(ev (cc P<|n+2) wt.body [al<|.int i,al<|.int j,al<|.int m,al<|gd m f,al<|.ref s.length] S).bind (nf S)=_;simp-implicitDefEqProofs only[wt,rZ,qU,qT,zz,zx,zD,R.ax];rw[zI (by unfold hH;omega) (by unfold hH;omega)];simp only[R.ax];rw[ef<|by rw[zC];unfold ky;omega];have b:qE (λs1=>n5 S s1 []) (qd (cc P<|n+2) (.Y 0) (.bi .vf<|.cons (.ix (.ix (.X 1) (.X 2)) (.X 0)) (.cons (.ix (.X 3) (.X 0)) (.cons (.ix (.ix (.X 1) (.X 0)) (.X 4)) .nil)))) (tP 0 (m:Int)) (zP [al<|.int i,al<|.int j,al<|.int m,al<|gd m f,al<|.ref s.length] [aT,al 3,al 0,al 4,al 1]) S=.ok ((av m).map λk=>.int<|max (max (f i k) (L2.uH<|f k k)) (f k j)) S:=by refine AD (jt (ok:=λs1=>n5 S s1 []) (g:=qd (cc P<|n+2) (.Y 0) (.bi .vf<|.cons (.ix (.ix (.X 1) (.X 2)) (.X 0)) (.cons (.ix (.X 3) (.X 0)) (.cons (.ix (.ix (.X 1) (.X 0)) (.X 4)) .nil)))) (λU u=>u=S/\∃x,U=[x,al<|gd m f,al<|.int i,al<|.ref s.length,al<|.int j]) (λk=>.int<|max (max (f i k) (L2.uH<|f k k)) (f k j)) m (zP [al<|.int i,al<|.int j,al<|.int m,al<|gd m f,al<|.ref s.length] [aT,al 3,al 0,al 4,al 1]) S (Al rfl aT rfl) (λ_ _ _=>rfl) (by rintro k a U u⟨rfl,x,rfl⟩;refine Ar [al<|.int k,al<|gd m f,al<|.int i,al<|.ref s.length,al<|.int j] u ?_ rfl _ rfl;unfold qd;simp-implicitDefEqProofs only[zA,qf,i4,zF,zH,g6,zz,zx,zD,R.ax,yV hi,yV a,jb a,jb c,qK e<|j8 a,JQ])) λU1 s1 b h=>?_;obtain⟨rfl,_⟩:=h;exact b
  rw[b];simp only[R.ax];rw[NH (v:=sh m f i j) Uu<|λx=>by
   rw[PD Uu hf i j hi c,L2.GC Uu];constructor;.rintro⟨l,hl,h,h2,h3⟩;exact Ac l hl<|by lia
   .rintro⟨l,hl,h⟩;exact Ap l hl (by omega) (by omega) (by lia)];exact zQ);have c:qE (λs1=>n5 s s1 []) (qd (cc P<|n+4) (.Y 0) (.call "round_of"<|.ex (.ix (.ix (.X 1) (.X 0)) (.X 0)) .nil)) (tP 0 (m:Int)) (zP [al<|gd m f,al<|.int m,aT] [aT,al 0]) s=.ok (row m λk=>L2.uH<|f k k) s:=by refine AD (jt (ok:=λs1=>n5 s s1 []) (g:=qd (cc P<|n+4) (.Y 0) (.call "round_of"<|.ex (.ix (.ix (.X 1) (.X 0)) (.X 0)) .nil)) (λU u=>u=s/\∃x,U=[x,al<|gd m f]) (λk=>.int<|L2.uH<|f k k) m (zP [al<|gd m f,al<|.int m,aT] [aT,al 0]) s (Al rfl aT rfl) (λ_ _ _=>rfl) (by rintro k a U u⟨rfl,x,rfl⟩;refine Ar [al<|.int k,al<|gd m f] u ?_ rfl _ rfl;unfold qd;simp-implicitDefEqProofs only[zA,qf,qX,qw,zU,g6,zz,zx,zD,R.ax,yV a,jb a,aN1<|n+3])) λU1 s1 b h=>?_;obtain⟨rfl,_⟩:=h;exact b
 rw[o,show(bv al [gd m f]++ay wq.vs aT)=[al<|gd m f,aT,aT]from rfl];simp-implicitDefEqProofs only[wq,za,zr,qO,wj,qX,qw,zU,zz,zx,zD,R.ax,p,z0,eQ,if_false,bp,zb,jc,i4,zF,zH,Ik,zA,qP,qf,bz,AA,rZ,qU,qT];rw[zI (by unfold hH;lia) (by unfold hH;lia)];simp only[R.ax];rw[ef<|by rw[zC];unfold ky;lia,c];simp-implicitDefEqProofs only[R.ax,mk,l5,AA,zb,zA,qP,qf,bz,za,zr,dt,jN,qw,zz,zx,zD];rw[jL (cs:=[.int m,gd m f,.ref s.length]) _ rfl];simp-implicitDefEqProofs only[zU,R.ax,Y];have e:yh m (λi j=>.int<|sh m f i j)=gd m (sh m f):=rfl;rw[e,ef<|by rw[Cy,J];rfl];simp-implicitDefEqProofs only[R.ax,jo,ju];exact zO jd<|by nofun
end
section
variable{P:Pr}[bc P t5][bc P uX][dy P uY][bc P vZ][bc P jU]
end
noncomputable def wK(S:Int->Prop):Option Int->Prop|none=>∀c,¬S c|some c=>S c/\∀a,S a->c<=a
def wK.congr{S}(h:wK S o)(e:∀c,S c↔Uu c):wK Uu o:=by cases o with|none=>exactλc a=>h c<|(e c).mpr a|some c=>exact⟨(e c).mp h.1,λJ a=>h.2 J<|(e J).mpr a⟩
noncomputable def uq:Option Int->Option Int->Option Int|none,x=>x|some a,aT=>al a|some a,al b=>if b<a then al b else al a
noncomputable def Wk(a:List Dr):List Nat->Nat->Nat->Int->Prop|[],p,q,c=>p=q/\c=0|x::w,p,q,c=>∃d∈a,d.a=p/\d.l=x/\∃b,Wk a w d.b q b/\c=(d.t)+b
noncomputable def Dr.turn(x:Dr):Dr:=⟨x.b,x.l,x.a,x.t⟩
def Mc.Wk(m:Mc)(w:List Nat)(c:Int):Prop:=∃p∈m.bg,∃q∈m.en,DV.Wk m.ds w p q c
def Mc.turn(m:Mc):Mc:=⟨m.L,m.R,m.en,m.bg,m.ds.map Dr.turn⟩
def xh(row:List<|Option Int):List D:=row.map jg
def Zr row:(xh row).length=row.length:=aw ..
theorem Oh:∀l:List Int,qy (l.map D.int)=al l|[]=>rfl|a::l=>by rw[aS];unfold qy;rw[Oh l];rfl
theorem Qm:∀(l:List Int)a,(l.foldl min a=a\/l.foldl min a∈l)/\l.foldl min a<=a/\∀y∈l,l.foldl min a<=y
 |[],a=>⟨.inl rfl,cC _,λy c=>by cases c⟩|b::l,a=>by
  refine AI (Qm l<|min a b) λJ c d=>?_;rw[iK];refine⟨?_,by omega,λy c=>?_⟩
  .rcases J with h|h
   .rw[h];rcases nR a b with z|z;.left;omega
    .right;rw[show min a b=b by omega];exact ao ..
   .exact .inr<|ah _ h
  .rcases aE.mp c with z|z;.rw[z];omega
   .exact d y z
def W0 l:wK (λc=>c∈l) (tH l):=by cases l with|nil=>exactλc a=>by cases a|cons a l=>
  refine AI (Qm l a) λUu J a=>⟨?_,λy b=>?_⟩
  .rcases Uu with h|h;.rw[h];exact ao ..
   .exact ah _ h
  .rcases aE.mp b with z|z;.rw[z];exact J
   .exact a y z
def Zk l s:xE .min (l.map D.int) .N s=.ok (jg<|tH l) s:=by unfold xE;simp only[Oh];cases tH l<;>rfl
theorem OR{α β:Type}{f g:α->Option β}:∀{l:List α},(∀x∈l,f x=g x)->l.filterMap f=l.filterMap g|[],_=>rfl|a::l,h=>by rw[bA,bA,h a<|ao ..,OR λx a=>h x<|ah _ a]
def oi(m:Nat)(f:Nat->Nat->Option Int):D:=yh m λi j=>jg<|f i j
def GF o:(jg o).eU=true:=by cases o<;>rfl
def G2 n:(oi m f).eu n=true:=MO (λi j n=>jq _ n) n
def Dv:(oi m f).eU=true:=by refine zy λd a=>?_;obtain⟨i,_,rfl⟩:=ar.mp a;refine zy λd a=>?_;obtain⟨j,_,rfl⟩:=ar.mp a;exact GF _
def xX(m:Nat)(f:Nat->Option Int):List D:=(av m).map λj=>jg<|f j
def U4(h:j<m):(xX m f)[j]?=al (jg<|f j):=by unfold xX;rw[aF,bW h];rfl
def Ih(h:i<m)s:rW (oi m f) (.int<|i) s=.ok (.tp<|xX m<|f i) s:=sH<|by rw[aF,bW h];rfl
def Jo(h:j<m)s:rW (.tp<|xX m f) (.int<|j) s=.ok (jg<|f j) s:=sH<|U4 h
def Mo:bi .len [oi m f] s=.ok (.int m) s:=by unfold oi yh;simp_all
noncomputable def vM:Option Int->Option Int->Option Int|some a,al b=>al<|a+b|_,_=>aT
theorem OL:∀l:List<|Option Int,(xh l).filterMap (λd=>if d=D.N then aT else al d)=(l.filterMap id).map D.int|[]=>rfl|o::l=>by have h:=OL l;unfold xh at h⊢;cases o with|none=>simp_all|some i=>simp_all
def PB[bc P vi]n{s}{q}{l}(hq:s[q]?=al (.J<|xh l))(Y:l.length<=1000):(cc P<|n+1).call "least" [.ref q] s=.ok (jg<|tH<|l.filterMap id) s:=by
 have a:(cc P<|n+1).call "least" [.ref q] s=_:=zg vi rfl;rw[a,show(bv al [D.ref q]++ay vi.vs aT)=[al<|D.ref q]from rfl];have J:uD (.ref q) s=.ok ⟨xh l,[q]⟩ s:=by simp only[uD,hq]
 obtain⟨U1,s1,a,rfl,_⟩:=Gs (ok:=λs1=>n5 s s1 [q]) (g:=Eu (cc P n) (.Y 0) (.vd<|.X 0) (.X 0)) (λU u=>u=s/\∃x,U=[x]) (λd=>if d=D.N then aT else al d) (xh l) [aT] s (Al rfl aT rfl) (λ_ u h=>by obtain⟨rfl,_⟩:=h;simp[n5]) (by rintro d b U u⟨rfl,x,rfl⟩;refine Ar [al d] u ?_ rfl _ rfl;unfold Eu;by_cases b:d=.N;all_goals simp_all);rw[OL]at a;simp only[vi];simp only[za,dt,zz,jx,B9,l4,ug,R.ax,zx,jo,ju,Of,J,ef<|show(xh l).length<=ky by rw[Zr];unfold ky;lia,show zP [al<|D.ref q] [aT]=[aT]from rfl,a,Zk];exact aW6
def Zq[bc P vy]n a b s:(cc P<|n+1).call "added" [jg a,jg b] s=.ok (jg<|vM a b) s:=by have h:(cc P<|n+1).call "added" [jg a,jg b] s=_:=zg vy rfl;rw[h,show(bv al [jg a,jg b]++ay vy.vs aT)=[al<|jg a,al<|jg b]from rfl];simp only[vy];cases a with|none=>simp only[za,zr,qO,dt,zz,jx,uj,sQ,ug,R.ax,zx,zD,jo,ju,z0,if_true,decide_true,GJ,eq_self _];exact I6|some a=>cases b with|none=>simp only[za,zr,qO,dt,zz,jx,uj,sQ,ug,R.ax,zx,zD,jo,ju,z0,if_true,if_false,Bool.false_eq_true,decide_true,decide_false,GJ,jC,eq_self _,show(D.int a=D.N)=False from eq_false<|by nofun];exact I6|some b=>simp only[za,zr,qO,dt,zz,jx,kl,uj,sQ,ug,R.ax,zx,zD,zb,jo,ju,add_int,z0,if_false,Bool.false_eq_true,decide_false,jC,show(D.int a=D.N)=False from eq_false<|by nofun,show(D.int b=D.N)=False from eq_false<|by nofun];exact zQ
def Bq(m:Nat)(f g:Nat->Nat->Option Int)(i j:Nat):Option Int:=tH<|((av m).map λk=>vM (f i k) (g k j)).filterMap id
def GD{s:cn}(a:s.all O.eU=bY){Ww:Nat->Nat->D}(h:∀i j,(Ww i j).eU=bY):(s++[O.J<|(av i).map λi=>D.tp<|(av m).map λj=>Ww i j]).all O.eU=true:=by refine qR a<|zy λd a=>?_;obtain⟨x,_,rfl⟩:=ar.mp a;exact zy λd a=>by obtain⟨x,_,rfl⟩:=ar.mp a;exact h _ _
section
variable{P:Pr}[bc P t5]
def Zp[bc P vL][dy P vP]n{m:Nat}(hm:m<=5){s}(hs:s.all O.eU=bY):(cc P<|n+3).call "plain" [.int m] s=.ok (oi m λi j=>if i=j then al 0 else aT) s:=by have Y:(cc P<|n+3).call "plain" [.int m] s=_:=zg vL rfl;have Z:=Du (P:=P) (n+1) (m:=m) (by lia) (d:=.sk "plain.0" []) (λ_ _ n=>jq _ n) (λi j hi a=>by
  generalize a:s++[O.J<|(av i).map λi=>D.tp<|(av m).map λj=>jg<|if i=j then al 0 else aT]=S;have J:S.all O.eU=true:=a▸GD hs (λ_ _=>GF _);refine(Dz vP rfl rfl<|by rw[J];rfl).trans ?_;show(ev (cc P n) vP.body [al<|.int i,al<|.int j] S).bind (nf S)=_;simp only[vP];by_cases h:i=j;.simp_all
  .simp only[zz,jx,jw,uL,jG,ug,R.ax,zx,zD,eq_int,z0,if_false,Bool.false_eq_true,decide_false,show((i)=(j:Int))=False from eq_false<|by lia,gc h,GJ];exact I6);rw[Y,show(bv al [D.int m]++ay vL.vs aT)=[al<|D.int m]from rfl];simp only[vL];simp only[za,dt,zz,qw,R.ax,zx,jN];rw[jL _ rfl];have e:yh m (λi j=>jg<|if i=j then al 0 else aT)=oi m (λi j=>if i=j then al 0 else aT):=rfl;simp only[zU,R.ax,jo,ju,Z,e,ef<|show((oi m λi j=>if i=j then al 0 else aT).eU&&s.all O.eU)=bY by rw[Dv,hs];rfl];exact zo G2<|by nofun
def OB[bc P vi][bc P vy][bc P vN][dy P vS]n{m}(hm:m<=5)f g{s}(hs:s.all O.eU=bY):(cc P<|n+4).call "product" [oi m f,oi m g] s=.ok (oi m<|Bq m f g) s:=by have c:(cc P<|n+4).call "product" [oi m f,oi m g] s=_:=zg vN rfl;have o:=Du (P:=P) (n+2) (m:=m) (by omega) (d:=.sk "product.0" [.int m,oi m f,oi m g]) (λ_ _ n=>jq _ n) (λi j hi d=>by generalize Z:s++[O.J<|(av i).map λi=>D.tp<|(av m).map λj=>jg<|Bq m f g i j]=S;refine(Dz vS rfl rfl<|by rw[(Z▸GD hs (λ_ _=>GF _):S.all O.eU=true)];simp[D.lj,D.eU,Dv]).trans ?_;show(ev (cc P<|n+1) vS.body [al<|.int i,al<|.int j,al<|.int m,al<|oi m f,al<|oi m g] S).bind (nf S)=_;obtain⟨U1,s1,a,rfl,_⟩:=jt (ok:=λs1=>n5 S s1 []) (g:=qd (cc P<|n+1) (.Y 0) (.call "added"<|.ex (.ix (.ix (.X 1) (.X 2)) (.X 0)) (.ex (.ix (.ix (.X 3) (.X 0)) (.X 4)) .nil))) (λU u=>u=S/\∃x,U=[x,al<|oi m f,al<|.int i,al<|oi m g,al<|.int j]) (λk=>jg<|vM (f i k) (g k j)) m [aT,al<|oi m f,al<|.int i,al<|oi m g,al<|.int j] S (Al rfl aT rfl) (λ_ _ _=>rfl) (by rintro k b U u⟨rfl,x,rfl⟩;refine Ar [al<|.int k,al<|oi m f,al<|.int i,al<|oi m g,al<|.int j] u ?_ rfl _ rfl;unfold qd;simp only[zz,g6,qX,zU,qw,R.ax,zA,qf,zx,zD,Ih hi,Ih b,Jo b,Jo d,Zq n]);rw[(by unfold xh;rw[cG];rfl:((av m).map λk=>jg<|vM (f i k) (g k j))=xh ((av m).map λk=>vM (f i k) (g k j)))]at a;have h:∀q(s:cn),mk .list q s=.ok (.ref s.length) (s++[.J q]):=λ_ _=>rfl;simp only[vS];simp-implicitDefEqProofs only[zz,qX,rZ,zU,qw,qT,R.ax,zx,zD,qU,zI (s:=s1) (i:=(m:Int)) (by unfold hH;lia) (by unfold hH;lia),ef<|show(tP 0 (m:Int)).length<=ky by rw[zC];unfold ky;lia,show zP [al<|D.int (i:Int),al<|D.int (j:Int),al<|D.int (m:Int),al<|oi m f,al<|oi m g] [aT,al 3,al 0,al 4,al 1]=[aT,al<|oi m f,al<|.int i,al<|oi m g,al<|.int j]from rfl,a,h,(PB (P:=P) n (s:=s1++[O.J<|xh<|(av m).map λk=>vM (f i k) (g k j)]) (q:=s1.length) (l:=(av m).map λk=>vM (f i k) (g k j)) (by rw[am<|ak _];simp) (by simp;lia))];exact zO (jq _) (JP _));rw[c,show(bv al [oi m f,oi m g]++ay vN.vs aT)=[al<|oi m f,al<|oi m g,aT]from rfl];simp-implicitDefEqProofs only[vN];simp-implicitDefEqProofs only[za,jc,dt,zz,i4,zH,zF,qw,R.ax,zA,qP,qf,zx,zD,Option.map_some,AA,zb,Mo,jN];rw[jL (cs:=[.int m,oi m f,oi m g]) _ rfl];have e:yh m (λi j=>jg<|Bq m f g i j)=oi m (Bq m f g):=rfl;simp-implicitDefEqProofs only[zU,R.ax,jo,ju,o,e,ef<|show((oi m<|Bq m f g).eU&&s.all O.eU)=bY by rw[Dv,hs];rfl];exact zo G2<|by nofun
end
def wK.low{S}(Y:∀x∈l,S x)(d:∀c,S c->∃x∈l,x<=c):wK S<|tH l:=by have h:=W0 l;cases e:tH l with|none=>exactλc a=>AE (d c a) λx b _=>(e▸h) x b|some i=>rw[e]at h;exact⟨Y i h.1,λc a=>AE (d c a) λx b J=>fF (h.2 x b) J⟩
def WE{A B:Nat->Nat->Int->Prop}(n:∀i j,i<m->j<m->wK (A i j) (f i j))(Y:∀i j,i<m->j<m->wK (B i j) (g i j))(hi:i<m)(o:j<m):wK (λc=>∃k,k<m/\∃a b,A i k a/\B k j b/\c=a+b) (Bq m f g i j):=by
 refine wK.low (λx hx=>?_) λc m=>?_;.refine AE (cQ.mp hx) λo a e=>?_;obtain⟨k,c,rfl⟩:=ar.mp a;have c:=bI.mp c;have h:=n i k hi c;have J:=Y k j c o;cases d:f i k with|none=>cases d▸e|some a=>cases l:g k j with|none=>cases d▸l▸e|some b=>rw[d]at h;rw[l]at J;cases d▸l▸e;exact⟨k,c,a,b,h.1,J.1,rfl⟩
 .obtain⟨k,c,a,b,ha,hb,rfl⟩:=m;have h:=n i k hi c;have J:=Y k j c o;cases d:f i k with|none=>exact iN ha<|(d▸h) a|some e=>cases l:g k j with|none=>exact iN hb<|(l▸J) b|some f=>rw[d]at h;rw[l]at J;refine Ac (e+f) (cQ.mpr<|Ac (al<|e+f) (ar.mpr<|Ac k (bI.mpr c) (by rw[d,l];rfl)) rfl) ?_;have:=h.2 a ha;have:=J.2 b hb;lia
def v9(m:Mc)(w:List Nat)(f:Nat->Nat->Option Int):Prop:=∀i j,i<m.R->j<m.R->wK (Wk m.ds w i j) (f i j)
theorem Cs:∀{v w}{p q}{c},Wk J (v++w) p q c↔∃k a b,Wk J v p k a/\Wk J w k q b/\c=a+b
 |[],w,p,q,c=>by
  constructor;.exactλh=>Aq p 0 c ⟨rfl,rfl⟩ h<|by lia
  .rintro⟨k,a,b,⟨rfl,rfl⟩,h,e⟩;simp_all|x::v,w,p,q,c=>by
  constructor;.rintro⟨d,hd,Y,Uu,c',h3,e⟩;exact AR (Cs.mp h3) λk a b Z c f=>Aq k (a+d.t) b ⟨d,hd,Y,Uu,a,Z,by lia⟩ c<|by lia
  .rintro⟨k,a,b,⟨d,hd,Y,Uu,a',Z,e⟩,c,f⟩;exact⟨d,hd,Y,Uu,a'+b,Cs.mpr<|Aq k a' b Z c rfl,by lia⟩
theorem F3{m:Mc}(J:m.Ok):∀{w}{p q}{c},p<m.R->Wk m.ds w p q c->q<m.R|[],p,q,c,a,h=>by obtain⟨rfl,_⟩:=h;exact a|x::w,p,q,c,a,h=>Aa h λd a _ _ Zz=>AE Zz λUu b _=>F3 J (J.ds.1 d a).b b
def v9.nil:v9 m [] λi j=>if i=j then al 0 else none:=λi j hi a=>by
 show wK (Wk m.ds [] i j) (if i=j then al 0 else aT);by_cases h:i=j;.exact ef h▸⟨⟨h,rfl⟩,λc a=>by have:=a.2;lia⟩
 .exact gc h▸λc a=>h a.1
def v9.mul(Y:m.Ok)(h:v9 m v f)(h':v9 m w g):v9 m (v++w) (Bq m.R f g):=λi j hi c=>(WE h h' hi c).congr λc=>by
 rw[Cs];constructor;.rintro⟨k,_,a,b,J,Uu,e⟩;exact Aq k a b J Uu e
 .rintro⟨k,a,b,J,Uu,e⟩;exact⟨k,F3 Y hi J,a,b,J,Uu,e⟩
def vY(a:List Dr)(c i j:Nat):Option Int:=tH<|a.filterMap λd=>if d.a=i/\d.l=c/\d.b=j then al (d.t)else aT
def BE:Wk Uu [x] p q c↔∃d∈Uu,d.l=x/\d.a=p/\d.b=q/\c=d.t:=by
 constructor;.rintro⟨d,hd,J,h,Y,⟨h3,Z⟩,e⟩;exact An d hd h J h3<|by lia
 .rintro⟨d,hd,J,h,h3,e⟩;exact⟨d,hd,h,J,0,⟨h3,rfl⟩,by lia⟩
set_option tactic.hygienic true in def v9.ua c:v9 m [c]<|vY m.ds c:=λi j hi a=>by
 refine wK.low (λx a=>?_) λx a=>?_
 .refine AE (cQ.mp a) λd b e=>?_;split at e;.rename_i h;cases e;exact BE.mpr<|An d b h.2.1 h.1 h.2.2 rfl
  .cases e
 .exact AN (BE.mp a) λd b a J c e=>Ac x (cQ.mpr<|Ac d b<|by rw[ef<|Ai J a c,e]) (cC _)
def Me{a b i j:Nat}:qv .eq (.tp [.int<|a,.str [l],.int<|b]) (.tp [.int<|i,.str [c],.int<|j]) s=.ok (.T<|decide<|a=i/\l=c/\b=j) s:=by have:eqv s tO (.tp [.int<|a,.str [l],.int<|b]) (.tp [.int<|i,.str [c],.int<|j])=al (((a)==(i:Int))&&(([l]==[c])&&(((b)==(j:Int))&&bY))):=rfl;show(match eqv s tO (.tp [.int<|a,.str [l],.int<|b]) (.tp [.int<|i,.str [c],.int<|j])with|some r=>R.ok (D.T r) s|none=>.B)=_;rw[this];show R.ok (D.T _) s=_;congr 2;lia
section
variable{P:Pr}[bc P t5][bc P vi][bc P vO][bc P vR][bc P vT][dy P vU]
def TK{m:Mc}:m.d.eU=true:=by unfold Mc.d Mc.ps D.eU;simp only[D.lj,D.eU,Ph,fS];exact zy λd a=>by obtain⟨x,_,rfl⟩:=ar.mp a;rfl
def Z6(n:Nat){m:Mc}(Y:m.Ok)(c:Nat){s:cn}(hs:s.all O.eU=true):(cc P<|n+4).call "letter_table" [m.d,.str [c]] s=.ok (oi m.R<|vY m.ds c) s:=by have e0:(cc P<|n+4).call "letter_table" [m.d,.str [c]] s=_:=zg vT (n:=n+3) rfl;have hR:=Y.R5;have hD:=Y.ds.2;have hg:=Du (P:=P) (n+2) (m:=m.R) (by omega) (d:=.sk "letter_table.least_fee" [m.d,.str [c]]) (s:=s) (Ww:=λi j=>jg<|vY m.ds c i j) (λ_ _ n=>jq _ n) (λi j hi hj=>by
  generalize hS:s++[O.J<|(av i).map λi=>D.tp<|(av m.R).map λj=>jg<|vY m.ds c i j]=S;refine(Dz vU (n:=n+1) rfl rfl<|by rw[(by rw[<-hS];exact GD hs (Ww:=λi j=>jg<|vY m.ds c i j)<|λ_ _=>GF _:S.all O.eU=true)];simp[D.lj,D.eU,TK]).trans ?_;show(ev (cc P<|n+1) vU.body [some<|.int i,some<|.int j,some m.d,some<|.str [c]] S).bind (nf S)=_;obtain⟨U1,s1,e1,rfl,_⟩:=Gs (ok:=λs1=>n5 S s1 []) (g:=Eu (cc P<|n+1) (.tp [0,1,2,3]) (.Z .eq (.tp<|.cons (.X 0) (.cons (.X 1) (.cons (.X 2) .nil))) (.tp<|.cons (.X 4) (.cons (.X 5) (.cons (.X 6) .nil)))) (.X 3)) (λU u=>u=S/\∃x0 x1 x2 Z,U=[x0,x1,x2,Z,some<|.int (i:Int),some<|.str [c],some<|.int (j:Int)]) (λd=>match d with|.tp [.int a,.str [l],.int b,.int t]=>if a=i/\l=c/\b=j then some (.int t)else none|_=>none) (m.ds.map Dr.d) [none,none,none,none,some<|.int (i:Int),some<|.str [c],some<|.int (j:Int)] S ⟨rfl,none,none,none,none,rfl⟩ (λ_ _ _=>rfl) (by
   rintro d hd U u⟨rfl,x0,x1,x2,Z,rfl⟩;obtain⟨x,_,rfl⟩:=ar.mp hd;refine⟨[some<|.int x.a,some<|.str [x.l],some<|.int x.b,some<|.int x.t,some<|.int i,some<|.str [c],some<|.int j],u,?_,rfl,_,_,_,_,rfl⟩;unfold Eu Dr.d;by_cases h:x.a=i/\x.l=c/\x.b=j;.simp-implicitDefEqProofs only[zz,jw,q0,zH,zF,R.ax,sZ,sW,sq,qP,qf,zx,zD,Option.map_some,Option.bind_some,z0,Me,h];simp
   .simp-implicitDefEqProofs only[zz,jw,q0,zH,zF,R.ax,sZ,sW,sq,qP,qf,zx,zD,Option.map_some,Option.bind_some,z0,if_false,Bool.false_eq_true,decide_false,Me,h,if_neg (by omega:¬((x.a:Int)=(i:Int)/\x.l=c/\(x.b:Int)=(j:Int)))]);have er:(m.ds.map Dr.d).filterMap (λd=>match d with|.tp [.int a,.str [l],.int b,.int t]=>if a=i/\l=c/\b=j then some (D.int t)else none|_=>none)=xh ((m.ds.filterMap λd=>if d.a=i/\d.l=c/\d.b=j then some (d.t:Int)else none).map some):=by
   unfold xh;rw[cG,gz,List.map_filterMap];refine OR λx _=>?_;unfold Dr.d;simp only[nB];by_cases h:x.a=i/\x.l=c/\x.b=j;.rw[if_pos h,if_pos<|by omega];rfl
   .rw[if_neg h,if_neg<|by omega];rfl
  rw[er]at e1;generalize Uu:(m.ds.filterMap λd=>if d.a=i/\d.l=c/\d.b=j then some (d.t:Int)else none)=L at e1;have a0:L.length<=75:=by rw[<-Uu];exact au (g9 _ _) hD
  have J:∀q(s:cn),mk .list q s=.ok (.ref s.length) (s++[.J q]):=λ_ _=>rfl;have el:=PB (P:=P) n (s:=s1++[O.J<|xh<|L.map some]) (q:=s1.length) (l:=L.map some) (by rw[am<|ak _];simp) (by simp;omega);rw[(by rw[gz];exact List.filterMap_some:(L.map some).filterMap id=L)]at el;simp-implicitDefEqProofs only[vU];simp-implicitDefEqProofs only[zz,qX,rZ,zU,qw,l4,R.ax,zx,zD,aM1 n,Gq,Of,if_pos<|show(m.ds.map Dr.d).length<=ky by rw[aw];unfold ky;omega,show zP [some<|D.int (i:Int),some<|D.int (j:Int),some m.d,some<|D.str [c]] [none,none,none,none,some 0,some 3,some 1]=[none,none,none,none,some<|.int (i:Int),some<|.str [c],some<|.int (j:Int)]from rfl,e1,J,el];rw[<-Uu];exact zO (jq _) (JP _));rw[e0,show(bv some [m.d,D.str [c]]++ay vT.vs none)=[some m.d,some<|D.str [c],none]from rfl];simp-implicitDefEqProofs only[vT];simp-implicitDefEqProofs only[za,dt,B8,zz,qX,zU,qw,R.ax,xU,xV,zx,Option.map_some,AA,zb,jN,OH<|n+2];rw[jL (cs:=[m.d,.str [c]]) _ rfl];have e:yh m.R (λi j=>jg<|vY m.ds c i j)=oi m.R (vY m.ds c):=rfl;simp-implicitDefEqProofs only[zU,R.ax,jo,ju,hg,e,if_pos<|show((oi m.R<|vY m.ds c).eU&&s.all O.eU)=true by rw[Dv,hs];rfl];exact zo G2<|by nofun
end
theorem JZ k a v:∀l:List<|D×D,look k (l++[(a,v)])=match look k l with|some x=>al x|none=>if a=k then al v else aT
 |[]=>by rfl|(b,u)::l=>by
  rw[c6];unfold look;by_cases h:b=k;.rw[ef h,ef h]
  .rw[gc h,gc h];exact JZ k a v l
def QP(h:s[r]?=al (.dc l))(a:k.key=bY):qv .pb k (.ref r) s=.ok (.T<|!(look k l).isSome) s:=by show(xH k (.ref r) s).bind (λr s=>R.ok (D.T<|!r) s)=_;simp only[xH,h,a,if_true,R.ax]
def Oa(h:s[r]?=al (.dc l))(a:k.key=bY)(b:look k l=al v):rW (.ref r) k s=.ok v s:=by simp only[rW,h,a,if_true,b]
def XS(h:s[r]?=al (.dc l))(a:k.key=bY)(J:l.length<ky):ll (.ref r) k v s=.ok () (s.set r<|.dc<|Ab k v l):=by simp[ll,h,a,J]
def Yp:ev F (.dc .nil .nil) U s=.ok (.ref s.length) (s++[.dc []]):=rfl
def YB(h:look k l=aT):Ab k v l=l++[(k,v)]:=by unfold Ab;rw[h];rfl
def UT{s:cn}{o:O}:(s++[o]).set s.length p=s++[p]:=by simp_all
section
variable{P:Pr}[bc P t5][bc P vi][bc P vy][bc P vO][bc P vR][bc P vT][dy P vU][bc P vL][dy P vP][bc P vN][dy P vS][bc P v3]
def Cf(m:Mc)(l:List<|D×D):Prop:=(∀c v,look (.str [c]) l=al v->v=oi m.R (vY m.ds c))/\∀p∈l,p.2.eU=bY
def Cf.nil:Cf m []:=⟨λc v h=>(by cases h),λp J=>(by cases J)⟩
def aE4 n(hm:m.Ok)w(hw:w.length<=5000)(hs:s.all O.eU=bY):∃f,v9 m w f/\(cc P<|n+5).call "word_table" [m.d,.str w] s=.ok (oi m.R f) s:=by
 have r:(cc P<|n+5).call "word_table" [m.d,.str w] s=_:=zg v3 rfl;have o:=hm.R5;have b:∀l:List<|D×D,Cf m l->(s++[O.dc l]).all O.eU=true:=λl h=>qR hs<|zy λd a=>by obtain⟨p,e,rfl⟩:=ar.mp a;exact h.2 p e
 have key:=qF (ok:=λs1=>n5 (s++[O.dc []]) s1 []) (g:=turn (cc P<|n+4) (.Y 4) (.cons (.ite (.Z .pb (.X 4) (.X 2)) (.cons (.ll (.X 2) (.X 4) (.call "letter_table"<|.ex (.X 0) (.ex (.X 4) .nil))) .nil) .nil) (.cons (.A (.Y 3) (.call "product"<|.ex (.X 3) (.ex (.ix (.X 2) (.X 4)) .nil))) .nil)))
  (λk U t=>∃f l x,v9 m (w.take k) f/\Cf m l/\l.length<=k/\U=[al m.d,al<|.str w,al<|.ref s.length,al<|oi m.R f,x]/\t=s++[.dc l]) (sg w) 0 [al m.d,al<|.str w,al<|.ref s.length,al<|oi m.R λi j=>if i=j then al 0 else aT,aT] (s++[O.dc []])
  (Av _ [] aT (nh▸v9.nil) Cf.nil (ak _) rfl rfl) (λ_ _ _ _ _=>rfl) (by
  rintro k d U t a⟨f,l,x,Y,J,c,rfl,rfl⟩;rw[bM]at Y c⊢;unfold sg at a;rw[aF]at a;obtain⟨c,d,rfl⟩:=a7.mp a;have a:=(ae.mp d).1;have Z:∀l:List<|D×D,(s++[O.dc l])[s.length]?=al (.dc l):=λl=>by simp_all
  have g:=Z6 (P:=P) n hm c<|b l J;have hT:v9 m (w.take<|k+1) (Bq m.R f<|vY m.ds c):=IY d▸v9.mul hm Y (v9.ua c);cases a:look (.str [c]) l with|none=>
   have i:Cf m<|l++[(.str [c],oi m.R<|vY m.ds c)]:=by
    refine⟨λh v d=>?_,λp e=>?_⟩;.rw[JZ]at d;cases q:look (.str [h]) l with|none=>lia|some j=>cases q▸d;exact J.1 h v q
    .rcases aU.mp e with h|h;.exact J.2 p h
     .exact aI.mp h▸Dv
   have h:=OB (P:=P) n o f (vY m.ds c) (b _ i);have e:=Oa (Z<|l++[(.str [c],oi m.R<|vY m.ds c)]) rfl (v:=oi m.R<|vY m.ds c) (by rw[JZ,a];simp);have d:=XS (v:=oi m.R<|vY m.ds c) (Z l) (k:=.str [c]) rfl (by unfold ky;lia);rw[YB a,UT]at d;refine⟨_,_,.inl ?_,_,_,al<|.str [c],hT,i,by simp_all,rfl,rfl⟩;unfold turn;simp-implicitDefEqProofs only[za,zr,jc,qO,tV,zz,jw,g6,qX,zU,qw,R.ax,zA,qP,qf,zx,zD,Option.map_some,AA,zb,z0,if_true,Bool.not_false,QP (Z l) (k:=.str [c]) rfl,a,k8,g,d,e,h]|some v=>have d:=J.1 c v a;have h:=OB (P:=P) n o f (vY m.ds c) (b _ J);have e:=Oa (Z l) (k:=.str [c]) rfl a;rw[d]at e;refine⟨_,_,.inl ?_,_,_,al<|.str [c],hT,J,by lia,rfl,rfl⟩;unfold turn;simp-implicitDefEqProofs only[za,zr,jc,qO,tV,zz,jw,g6,qX,zU,qw,R.ax,zA,qP,qf,zx,zD,Option.map_some,AA,zb,z0,if_false,Bool.false_eq_true,Bool.not_true,QP (Z l) (k:=.str [c]) rfl,a,gB,e,h]);obtain⟨a,a,a,f,l,x,Y,J,_,rfl,rfl⟩:=key;rw[bM,Sn,fN]at Y;refine Ac f Y ?_;have h2:∀t,uD (.str w) t=.ok ⟨sg w,[]⟩ t:=λ_=>rfl;rw[r,show(bv al [m.d,D.str w]++ay v3.vs aT)=[al m.d,al<|D.str w,aT,aT,aT]from rfl];simp only[v3];simp only[za,jc,kc,zz,qX,zU,qw,l4,R.ax,zA,qP,qf,zx,zD,Option.map_some,AA,zb,Yp,OH<|n+3,(Zp (P:=P) (n+1) o<|b [] Cf.nil),h2];rw[a];simp only[za,dt,zz,R.ax,zx,zD,zb,jo,ju];exact zO G2<|by nofun
end
section
variable{P:Pr}[bc P t5][bc P vi][bc P vy][bc P vO][bc P vR][bc P vT][dy P vU][bc P vL][dy P vP][bc P vN][dy P vS][bc P v3]

end
section
variable{P:Pr}[bc P j0][bc P zY]
variable[bc P t5][bc P vi][bc P vy][bc P vO][bc P vR][bc P vT][dy P vU][bc P vL][dy P vP][bc P vN][dy P vS][bc P v3]
end
section
variable{P:Pr}[bc P vw]
end
section
variable{m:Nat}(hm:1<=m){g:Nat->Nat->Int}(hg:ue m g)(hst:tm m g)
include hm hg hst
end
section
variable{P:Pr}[bc P vw][bc P t5][bc P uX][dy P uY][bc P vZ][bc P vQ][bc P wq][dy P wt][ee P "FREE"<|.int 0][ee P "UNBOUND"<|.int 2][ee P "NONE"<|.int 3][bc P jU]
variable[bc P xN]
end
noncomputable def un(i j:Nat):Int:=if i=j then 0 else 3
section
variable{m:Nat}(hm:1<=m)
end
section
variable{P:Pr}[bc P t5][dy P jv][ee P "FREE"<|.int 0][ee P "NONE"<|.int 3]
variable[bc P uX][dy P uY]
variable[ee P "sign_product"<|.fn "sign_product"]
end
section
variable{P:Pr}[bc P vz]
end
section
variable{P:Pr}[bc P xN][bc P vw][bc P vz][bc P t5][dy P jv][bc P uX][dy P uY][ee P "FREE"<|.int 0][ee P "NONE"<|.int 3][ee P "sign_product"<|.fn "sign_product"]
end
noncomputable def sgn:Option Int->Int|none=>3|some i=>if i=0 then 0 else 1
def SR o:0<=sgn o/\sgn o<=3/\sgn o≠2:=by cases o with|none=>exact⟨by decide,by decide,by decide⟩|some i=>unfold sgn;simp only;split<;>exact⟨by decide,by decide,by decide⟩
theorem F8:∀{w}{p q}{c},Wk J w p q c->0<=c|[],p,q,c,h=>by have:=h.2;lia|x::w,p,q,c,h=>by refine Aa h λd a _ _ Zz=>AE Zz λUu a e=>?_;have:=F8 a;lia
structure yz(S:Int->Prop)(x:Int):Prop where
 lo:0<=x
 hi:x<=3
 n2:x≠2
 z:x=0↔S 0
 t:x=3↔∀c,¬S c
def yz.eq{S}(h:yz S x)(g:yz S y):x=y:=by have a:=h.z.trans g.z.symm;have J:=h.t.trans g.t.symm;have:=h.lo;have:=h.hi;have:=h.n2;have:=g.lo;have:=g.hi;have:=g.n2;lia
set_option tactic.hygienic true in def Wq{S}(h:wK S o)(nn:∀c,S c->0<=c):yz S<|sgn o:=by
 refine AI (SR o) λh0 a J=>⟨h0,a,J,?_,?_⟩;.cases o with|none=>exact⟨λz=>(by cases z),λz=>iN z<|h 0⟩|some i=>
   show(if i=0 then(0)else 1)=0↔_;constructor
   .intro z;split at z;.rename_i e;exact e▸h.1
    grind
   .intro z;have a:=h.2 0 z;have J:=nn i h.1;lia
 .cases o with|none=>exact⟨λ_=>h,λ_=>rfl⟩|some i=>
   show(if i=0 then(0)else 1)=3↔_;constructor;.grind
   .exactλz=>iN h.1<|z i
def va(m:Mc)(w:List Nat)(g:Nat->Nat->Int):Prop:=∀i j,i<m.R->j<m.R->yz (Wk m.ds w i j) (g i j)
def v9.sg(h:v9 m w f):va m w λi j=>sgn<|f i j:=λi j hi a=>Wq (h i j hi a) λc a=>F8 a
def va.Hy(h:va m w f)(h':va m w g):vA m.R f g:=λi j hi a=>(h i j hi a).eq<|h' i j hi a
def va.xI(h:va m w f):ue m.R f:=λi j hi a=>Ad (h i j hi a).lo (h i j hi a).hi
def va.mul(n:m.Ok)(h:va m v f)(h':va m w g):va m (v++w) (pr m.R f g):=λi j hi o=>by
 have a:=LA n.R1 h.xI h'.xI i j hi o;have p:∀x:Int,pr m.R f g i j<=x↔∃l,l<m.R/\f i l<=x/\g l j<=x:=λx=>HW n.R1 h.xI h'.xI hi o;refine⟨a.1,a.2,λe=>?_,?_,?_⟩;.refine AH ((p 2).mp<|by lia) λl d k h2=>?_;have a:=h i l hi d;have b:=h' l j d o;have:=(p 1).mpr<|Ag l d (by have:=a.n2;lia) (by have:=b.n2;lia);lia
 .constructor;.exactλe=>AH ((p 0).mp<|by lia) λl d k h2=>have a:=h i l hi d;have b:=h' l j d o;Cs.mpr<|Aq l 0 0 (a.z.mp<|by have:=a.lo;lia) (b.z.mp<|by have:=b.lo;lia) rfl
  .refineλe=>AR (Cs.mp e) λl a b k h2 c=>?_;have:=F8 k;have:=F8 h2;have c:a=0:=by lia
   have a:b=0:=by lia
   subst c a;have d:=F3 n hi k;have:=(p 0).mpr<|Ag l d (by rw[(h i l hi d).z.mpr k];lia) (by rw[(h' l j d o).z.mpr h2];lia);lia
 .constructor;.refineλe c q=>AR (Cs.mp q) λl a b k h2 _=>?_;have d:=F3 n hi k;have x:=h i l hi d;have y:=h' l j d o;have c:f i l≠3:=λz=>x.t.mp z a k;have a:g l j≠3:=λz=>y.t.mp z b h2;have:=(p 2).mpr<|Ag l d (by have:=x.hi;lia) (by have:=y.hi;lia);lia
  .refineλe=>eN λn=>AH ((p 2).mp<|by lia) λl d k h2=>?_;have y:=h' l j d o;obtain⟨a,d⟩:∃a,Wk m.ds v i l a:=eN λn=>by have:=(h i l hi d).t.mpr λc q=>n<|Ae c q;lia
   obtain⟨b,f⟩:∃a,Wk m.ds w l j a:=eN λn=>by have:=y.t.mpr λc q=>n<|Ae c q;lia
   exact e _<|Cs.mpr<|Aq l a b d f rfl
theorem Qj Uu c i j:∀k,k<=Uu.length->(um Uu c i j k=3/\∀d∈Uu.take k,¬(d.l=c/\d.a=i/\d.b=j))\/(um Uu c i j k=1/\(∃d∈Uu.take k,d.l=c/\d.a=i/\d.b=j)/\∀d∈Uu.take k,d.l=c/\d.a=i/\d.b=j->d.t≠0)\/(um Uu c i j k=0/\∃d∈Uu.take k,(d.l=c/\d.a=i/\d.b=j)/\d.t=0)
 |0,_=>.inl<|Ad rfl<|λd a=>by simp_all|k+1,a=>by
  have Z:=Qj Uu c i j k (by lia);have a:=aj (show k<Uu.length by lia);have J:∀d,d∈Uu.take (k+1)↔d∈Uu.take k\/d=Uu[k]:=λd=>by rw[IY a,aU,aI]
  have key:um Uu c i j (k+1)=if Uu[k].l=c/\i=Uu[k].a/\j=Uu[k].b then(if(if 0<Uu[k].t then(1)else 0)<um Uu c i j k then(if 0<Uu[k].t then(1)else 0)else um Uu c i j k)else um Uu c i j k:=by
   conv=>lhs;unfold um
   rw[a]
  rw[key];generalize a:Uu[k]=x at*;by_cases g:x.l=c/\i=x.a/\j=x.b
  .rw[ef g];have Y:x.l=c/\x.a=i/\x.b=j:=(Ai g.1 g.2.1.symm g.2.2.symm);by_cases k:0<x.t
   .rw[ef k];rcases Z with⟨e,h⟩|⟨e,f,h2⟩|⟨e,d,a,f⟩
    .rw[e,ef<|by decide];refine .inr<|.inl<|Ai rfl (Ac x ((J x).mpr<|.inr rfl) Y) (λd a b=>?_);rcases(J d).mp a with z|z;.exact iN b<|h d z
     .rw[z];lia
    .rw[e,gc<|by decide];refine .inr<|.inl<|Ai rfl (Ac x ((J x).mpr<|.inr rfl) Y) (λd a b=>?_);rcases(J d).mp a with z|z;.exact h2 d z b
     .rw[z];lia
    .rw[e,gc<|by decide];exact .inr<|.inr<|Aj rfl d ((J d).mpr<|.inl a) f
   .rw[gc k];have hz:x.t=0:=by lia
    rcases Z with⟨e,h⟩|⟨e,f,h2⟩|⟨e,d,a,f⟩;.rw[e,ef<|by decide];exact .inr<|.inr ⟨rfl,x,(J x).mpr<|.inr rfl,Y,hz⟩
    .rw[e,ef<|by decide];exact .inr<|.inr ⟨rfl,x,(J x).mpr<|.inr rfl,Y,hz⟩
    .rw[e,gc<|by decide];exact .inr<|.inr ⟨rfl,x,(J x).mpr<|.inr rfl,Y,hz⟩
  .rw[gc g];have Y:¬(x.l=c/\x.a=i/\x.b=j):=λz=>g<|Ai z.1 z.2.1.symm z.2.2.symm;rcases Z with⟨e,h⟩|⟨e,⟨d,a,f⟩,h2⟩|⟨e,d,a,f⟩
   .refine .inl<|Ad e<|λd a b=>?_;rcases(J d).mp a with z|z;.exact h d z b
    .exact Y<|z▸b
   .refine .inr<|.inl<|Ai e (Ac d ((J d).mpr<|.inl a) f) (λd a b=>?_);rcases(J d).mp a with z|z;.exact h2 d z b
    .exact iN (z▸b) Y
   .exact .inr<|.inr<|Aj e d ((J d).mpr<|.inl a) f
def va.ua m c:va m [c]<|sV m c:=λi j hi a=>by
 have h:=Qj m.ds c i j m.ds.length<|ak _;rw[fN]at h;unfold sV;rcases h with⟨e,h⟩|⟨e,⟨d,f,c⟩,h2⟩|⟨e,d,f,c,a⟩
 .rw[e];refine⟨by decide,by decide,by decide,⟨λz=>(by cases z),λz=>?_⟩,⟨λ_ x g=>?_,λ_=>rfl⟩⟩;.refine AN (BE.mp z) λd f a b J _=>?_;simp_all
  .refine AN (BE.mp g) λd f a b J _=>?_;simp_all
 .rw[e];refine⟨by decide,by decide,by decide,⟨λz=>(by cases z),λz=>?_⟩,⟨λz=>(by cases z),λz=>?_⟩⟩;.refine AN (BE.mp z) λd f a b J a=>?_;grind
  .exact iN (BE.mpr<|An d f c.1 c.2.1 c.2.2 rfl) (z _)
 .rw[e];exact⟨by decide,by decide,by decide,⟨λ_=>BE.mpr<|An d f c.1 c.2.1 c.2.2<|by lia,λ_=>rfl⟩,⟨λz=>(by cases z),λz=>iN (BE.mpr<|An d f c.1 c.2.1 c.2.2 rfl) (z _)⟩⟩
section
variable{P:Pr}[ee P "FREE"<|.int 0][ee P "SOME"<|.int 1][ee P "NONE"<|.int 3][bc P xo]
def WZ n o s:(cc P<|n+1).call "sign_of" [jg o] s=.ok (.int<|sgn o) s:=by have a:(cc P<|n+1).call "sign_of" [jg o] s=_:=zg xo rfl;rw[a,show(bv al [jg o]++ay xo.vs aT)=[al<|jg o]from rfl];simp only[xo];cases o with|none=>simp only[za,zr,qO,dt,zz,sQ,R.ax,zx,jo,ju,z0,if_true,decide_true,GJ,(λU s=>(qW (P:=P) (n:=n) (x:="NONE") (v:=.int 3) (U:=U) (s:=s)))];exact zQ|some i=>
  by_cases h:i=0;.subst h;simp only[za,zr,qO,dt,zz,jx,jw,uL,sQ,jG,R.ax,zx,zb,jo,ju,eq_int,z0,if_true,if_false,Bool.false_eq_true,decide_true,decide_false,jC,show(D.int 0=D.N)=False from eq_false<|by nofun,(λU s=>(qW (P:=P) (n:=n) (x:="FREE") (v:=.int 0) (U:=U) (s:=s))),sgn];exact zQ
  .simp only[za,zr,qO,dt,zz,jx,jw,uL,sQ,jG,R.ax,zx,zb,jo,ju,eq_int,z0,if_false,Bool.false_eq_true,decide_false,jC,show(D.int i=D.N)=False from eq_false<|by nofun,h,(λU s=>(qW (P:=P) (n:=n) (x:="SOME") (v:=.int 1) (U:=U) (s:=s))),sgn];exact zQ
variable[bc P t5][bc P xp][dy P xq]
def aY4 n(Z:m<=5)f(hs:s.all O.eU=bY):(cc P<|n+4).call "reading" [oi m f] s=.ok (gd m λi j=>sgn<|f i j) s:=by have a:(cc P<|n+4).call "reading" [oi m f] s=_:=zg xp rfl;have Y:=Du (P:=P) (n+2) (m:=m) (by omega) (d:=.sk "reading.0" [oi m f]) (λ_ _ n=>rfl) (λi j hi b=>by generalize J:s++[O.J<|(av i).map λi=>D.tp<|(av m).map λj=>.int<|sgn<|f i j]=S;refine(Dz xq rfl rfl<|by rw[(J▸GD hs (λ_ _=>rfl):S.all O.eU=true)];simp[D.lj,D.eU,Dv]).trans ?_;show(ev (cc P<|n+1) xq.body [al<|.int i,al<|.int j,al<|oi m f] S).bind (nf S)=_;simp only[xq];simp only[zz,g6,qX,zU,qw,R.ax,zx,zD,Ih hi,Jo b,WZ n];exact zQ);rw[a,show(bv al [oi m f]++ay xp.vs aT)=[al<|oi m f]from rfl];simp only[xp];simp only[za,dt,zz,i4,zH,zF,qw,R.ax,zx,jN,Mo];rw[jL _ rfl];have e:yh m (λi j=>.int<|sgn<|f i j)=gd m (λi j=>sgn<|f i j):=rfl;simp only[zU,R.ax,jo,ju,Y,e,ef<|show((gd m λi j=>sgn<|f i j).eU&&s.all O.eU)=bY by rw[Cy,hs];rfl];exact zo jd<|by nofun
variable[bc P vi][bc P vy][bc P vO][bc P vR][bc P vT][dy P vU][bc P vL][dy P vP][bc P vN][dy P vS][bc P v3][bc P xr]
def js n(h:m.Ok)w(hw:w.length<=5000)(hs:s.all O.eU=bY):∃g,va m w g/\(cc P<|n+6).call "word_signs" [m.d,.str w] s=.ok (gd m.R g) s:=by have a:(cc P<|n+6).call "word_signs" [m.d,.str w] s=_:=zg xr rfl;refine AE (aE4 (P:=P) n h w hw hs) λf J b=>Ac _ J.sg ?_;rw[a,show(bv al [m.d,D.str w]++ay xr.vs aT)=[al m.d,al<|D.str w]from rfl];simp only[xr];simp only[za,dt,zz,qX,zU,qw,R.ax,zx,zD,jo,ju,b,aY4 (n+1) h.R5 f hs];exact zo jd<|by nofun
variable[bc P j0][bc P zY]
end
structure Gx(ns:List Int)(r:Nat)(u:cn):Prop where
 scr:u[0]?=al (.ro<|ns.map D.int)eU:u.all O.eU=bY
 box:∃b,u[r]?=al (qt b)r0:r≠0
def Gx.put(h:Gx ns r u)b:Gx ns r<|u.set r<|qt b:=⟨by rw[aD h.r0];exact h.scr,Zi h.eU rfl,G5<|Dl h.box,h.r0⟩
def Gx.snoc(h:Gx ns r u)(a:o.eU=bY):Gx ns r<|u++[o]:=⟨qr h.scr,qR h.eU a,AF h.box λb a=>Ae b<|qr a,h.r0⟩
section
variable{P:Pr}[ee P "FREE"<|.int 0][ee P "SOME"<|.int 1][ee P "NONE"<|.int 3][bc P xo][bc P t5][bc P xp][dy P xq][bc P vi][bc P vy][bc P vO][bc P vR][bc P vT][dy P vU][bc P vL][dy P vP][bc P vN][dy P vS][bc P v3][bc P xr][bc P j0][bc P zY][bc P uX][dy P uY][bc P xN][bc P vw][bc P vz][bc P xS]
end
section
variable{P:Pr}[bc P A4][bc P A6][bc P A5][ee P "LETTERS"<|.tp uV][bc P xR][bc P A2][bc P A9][bc P A7][bc P A8]
def qh n l(k:Nat)s:(cc P<|n+1).call "is_tuple_of" [.tp l,.int<|k] s=.ok (.T<|decide<|l.length=k) s:=by have h:(cc P<|n+1).call "is_tuple_of" [.tp l,.int<|k] s=_:=zg A6 rfl;rw[h,show(bv al [D.tp l,.int<|k]++ay A6.vs aT)=[al<|.tp l,al<|.int<|k]from rfl];simp only[A6];simp only[za,dt,zz,jw,ox,i4,zH,zF,R.ax,zx,zD,jo,ju,eq_int,z0,if_true,QN,QS,show((l.length)=(k:Int))=(l.length=k)from propext<|by lia];exact qb
def JL n{k:Nat}(h:i<k)s:(cc P<|n+2).call "is_ahead" [.int<|i,.int<|k] s=.ok (.T bY) s:=by
 have J:(cc P<|n+2).call "is_ahead" [.int<|i,.int<|k] s=_:=zg A2 rfl;have a:(cc P<|n+1).call "is_whole" [.int<|i,.int 0,.int<|(k)-1] s=.ok (.T bY) s:=by have a:(cc P<|n+1).call "is_whole" [.int<|i,.int 0,.int<|(k)-1] s=_:=zg A4 rfl;rw[a,show(bv al [D.int<|i,.int 0,.int<|(k)-1]++ay A4.vs aT)=[al<|.int<|i,al<|.int 0,al<|.int<|(k)-1]from rfl];simp only[A4];simp only[za,dt,zz,wj,ox,i4,zH,zF,R.ax,zx,zD,le_int,z0,if_true,decide_true,Bool.not_false,Wm,aX7,Qb,eq_true<|by omega,show((i)<=(k:Int)-1)=True from eq_true<|by lia];exact qb
 rw[J,show(bv al [D.int<|i,.int<|k]++ay A2.vs aT)=[al<|.int<|i,al<|.int<|k]from rfl];simp only[A2];simp only[za,dt,zz,jx,kl,qX,zU,qw,jG,R.ax,zx,zD,jo,ju,sub_int,a];exact qb
noncomputable def EF:eH->Bool|.l6 _=>bY|_=>ce
noncomputable def HH:eH->Bool|.pair _ _=>bY|_=>ce
def YV{L}(a:L<=3)(a:97<=c)(h:c<97+L)s:xH (.str [c]) (.tp<|uV.take L) s=.ok bY s:=by rcases(by lia:L=1/\c=97\/L=2/\c=97\/L=2/\c=98\/L=3/\c=97\/L=3/\c=98\/L=3/\c=99)with⟨rfl,rfl⟩|⟨rfl,rfl⟩|⟨rfl,rfl⟩|⟨rfl,rfl⟩|⟨rfl,rfl⟩|⟨rfl,rfl⟩<;>rfl
def Z4 n{L:Nat}(h3:L<=3)(hx:∀c,x=.l6 c->97<=c/\c<97+L)s:(cc P<|n+2).call "is_letter_step" [x.d,.int<|L] s=.ok (.T<|EF x) s:=by have J:(cc P<|n+2).call "is_letter_step" [x.d,.int (L:Int)] s=_:=zg A9 rfl;rw[J,show(bv al [x.d,D.int (L:Int)]++ay A9.vs aT)=[al x.d,al<|.int (L:Int)]from rfl];simp only[A9];cases x with|l6 c=>
  obtain⟨a,h⟩:=hx c rfl;have b:(cc P<|n+1).call "is_letter" [.str [c],.int (L:Int)] s=.ok (.T bY) s:=by have b:(cc P<|n+1).call "is_letter" [.str [c],.int (L:Int)] s=_:=zg A5 rfl;rw[b,show(bv al [D.str [c],D.int (L:Int)]++ay A5.vs aT)=[al<|.str [c],al<|.int (L:Int)]from rfl];simp only[A5];simp only[za,dt,zz,jw,R.ax,zx,zD,jo,ju,T5,qW (v:=.tp uV),MY h3,XI,YV h3 a h];exact qb
  have a:=qh (P:=P) n [.str [108,101,116,116,101,114],.str [c]] 2 s;simp only[za,dt,zz,jx,jw,ox,g6,qX,zU,qw,jG,k4,R.ax,zx,zD,show(eH.l6 c).d=.tp [.str [108,101,116,116,101,114],.str [c]]from rfl];rw[show((2:Int))=((2:Nat):Int)from rfl,a];simp only[R.ax,jo,ju,z0,if_true,show decide ([D.str [108,101,116,116,101,114],.str [c]].length=2)=bY from rfl,show∀s,rW (.tp [.str [108,101,116,116,101,114],.str [c]]) (.int 0) s=.ok (.str [108,101,116,116,101,114]) s fromλ_=>rfl,show∀s,rW (.tp [.str [108,101,116,116,101,114],.str [c]]) (.int 1) s=.ok (.str [c]) s fromλ_=>rfl,show∀s,qv .eq (.str [108,101,116,116,101,114]) (.str [108,101,116,116,101,114]) s=.ok (.T bY) s fromλ_=>rfl,b];exact qb|pair i j=>have a:=qh (P:=P) n [.str [112,97,105,114],.int<|i,.int<|j] 2 s;simp only[za,dt,zz,jx,jw,ox,g6,qX,zU,qw,jG,k4,R.ax,zx,zD,show(eH.pair i j).d=.tp [.str [112,97,105,114],.int (i:Int),.int (j:Int)]from rfl];rw[show((2:Int))=((2:Nat):Int)from rfl,a];simp only[R.ax,jo,ju,z0,if_false,Bool.false_eq_true,show decide ([D.str [112,97,105,114],.int (i:Int),.int (j:Int)].length=2)=ce from rfl];exact qb|ew i=>have a:=qh (P:=P) n [.str [115,104,97,114,112],.int (i:Int)] 2 s;simp only[za,dt,zz,jx,jw,ox,g6,qX,zU,qw,jG,k4,R.ax,zx,zD,show(eH.ew i).d=.tp [.str [115,104,97,114,112],.int (i:Int)]from rfl];rw[show((2:Int))=((2:Nat):Int)from rfl,a];simp only[R.ax,jo,ju,z0,if_true,if_false,Bool.false_eq_true,show decide ([D.str [115,104,97,114,112],.int (i:Int)].length=2)=bY from rfl,show∀s,rW (.tp [.str [115,104,97,114,112],.int (i:Int)]) (.int 0) s=.ok (.str [115,104,97,114,112]) s fromλ_=>rfl,show∀s,qv .eq (.str [115,104,97,114,112]) (.str [108,101,116,116,101,114]) s=.ok (.T ce) s fromλ_=>rfl];exact qb
def OY n{k:Nat}(hx:∀i j,x=.pair i j->i<k/\j<k)(h:EF x=ce)s:(cc P<|n+3).call "is_pair_step" [x.d,.int<|k] s=.ok (.T<|HH x) s:=by have J:(cc P<|n+3).call "is_pair_step" [x.d,.int (k:Int)] s=_:=zg A7 rfl;rw[J,show(bv al [x.d,D.int (k:Int)]++ay A7.vs aT)=[al x.d,al<|.int (k:Int)]from rfl];simp only[A7];cases x with|l6 c=>cases h|pair i j=>obtain⟨hi,b⟩:=hx i j rfl;have a:=qh (P:=P) (n+1) [.str [112,97,105,114],.int<|i,.int<|j] 3 s;simp only[za,dt,zz,jx,jw,ox,g6,qX,zU,qw,jG,k4,R.ax,zx,zD,show(eH.pair i j).d=.tp [.str [112,97,105,114],.int (i:Int),.int (j:Int)]from rfl];rw[show((3:Int))=((3:Nat):Int)from rfl,a];simp only[R.ax,z0,if_true,show decide ([D.str [112,97,105,114],.int (i:Int),.int (j:Int)].length=3)=bY from rfl,λ_=>rfl,show∀s,rW (.tp [.str [112,97,105,114],.int (i:Int),.int (j:Int)]) (.int 1) s=.ok (.int (i:Int)) s fromλ_=>rfl,show∀s,rW (.tp [.str [112,97,105,114],.int (i:Int),.int (j:Int)]) (.int 2) s=.ok (.int (j:Int)) s fromλ_=>rfl,λ_=>rfl,JL n hi,JL n b];exact qb|ew i=>simp only[za,dt,zz,jx,jw,ox,g6,qX,zU,qw,jG,k4,R.ax,zx,zD,show(eH.ew i).d=.tp [.str [115,104,97,114,112],.int (i:Int)]from rfl];rw[show((3:Int))=((3:Nat):Int)from rfl,(qh (P:=P) (n+1) [.str [115,104,97,114,112],.int (i:Int)] 3 s)];simp only[R.ax,jo,ju,z0,if_false,Bool.false_eq_true,show decide ([D.str [115,104,97,114,112],.int (i:Int)].length=3)=ce from rfl];exact qb
def aD2 n(hi:i<k)s:(cc P<|n+3).call "is_sharp_step" [(eH.ew i).d,.int<|k] s=.ok (.T bY) s:=by have h:(cc P<|n+3).call "is_sharp_step" [(eH.ew i).d,.int<|k] s=_:=zg A8 rfl;rw[h,show(bv al [(eH.ew i).d,D.int<|k]++ay A8.vs aT)=[al (eH.ew i).d,al<|.int<|k]from rfl];simp only[A8];simp only[za,dt,zz,jx,jw,ox,g6,qX,zU,qw,jG,k4,R.ax,zx,zD,show(eH.ew i).d=.tp [.str [115,104,97,114,112],.int<|i]from rfl];rw[show((2))=((2:Nat):Int)from rfl,(qh (P:=P) (n+1) [.str [115,104,97,114,112],.int<|i] 2 s)];simp only[R.ax,z0,if_true,show decide ([D.str [115,104,97,114,112],.int<|i].length=2)=bY from rfl,λ_=>rfl,show∀s,rW (.tp [.str [115,104,97,114,112],.int<|i]) (.int 1) s=.ok (.int<|i) s fromλ_=>rfl,λ_=>rfl,JL n hi];exact qb
def YJ n{m:Mc}(h:m.Ok)s:(cc P<|n+1).call "letters_of" [m.d] s=.ok (.tp<|uV.take m.L) s:=Oo (P:=P) n (L:=m.L) h.L3 [.int m.R,.tp<|qN m.bg,.tp<|qN m.en,.tp<|m.ds.map Dr.d] s
def Zm{L}(h:L<=3)s:bi .len [.tp<|uV.take L] s=.ok (.int<|L) s:=by simp_all
end
def Bc(m:Mc)(fs:List<|Nat->Nat->Int)(f:Nat->Nat->Int):eH->Prop|.l6 c=>97<=c/\c<97+m.L/\f=sV m c|.pair i j=>∃a b,fs[i]?=al a/\fs[j]?=al b/\f=pr m.R a b|.ew i=>∃a,fs[i]?=al a/\tm m.R a/\f=sh m.R a
def t6.xI(d:m.Ok)(h:t6 m l fs):∀f∈fs,ue m.R f:=by induction h with|nil=>simp_all|l6 c _ _ _ c=>intro f J;rcases aU.mp J with h|h;exact c f h;exact aI.mp h▸λi j _ _=>NO _ _ _ _ _|pair i j a b _ b h2 c=>intro f J;rcases aU.mp J with h|h;exact c f h;exact aI.mp h▸LA d.R1 (c _<|aA b) (c _<|aA h2)|ew i a _ b _ c=>intro f J;rcases aU.mp J with h|h;exact c f h;exact aI.mp h▸Rk d.R1 (c _<|aA b)
def Bc.last(J:l.length=fs.length)(a:Bc m fs f y)(b:∀k x,l[k]?=al x->∃f,fs[k]?=al f/\Bc m (fs.take k) f x)k x(hx:(l++[y])[k]?=al x):∃g,(fs++[f])[k]?=al g/\Bc m ((fs++[f]).take k) g x:=by
 by_cases c:k<l.length;.rw[aC c]at hx;exact AE (b k x hx) λg Y b=>Ac g (by rw[aC<|by lia];exact Y) (by rw[dH<|by lia];exact b)
 .have h:k=l.length:=by have:=(ae.mp hx).1;simp at this;lia
  subst h;rw[am<|ak _]at hx;simp at hx;subst hx;exact Ac f (by rw[J];simp) (by rw[J,List.take_left'];exact a;rfl)
def t6.at(h:t6 m l fs):∀k x,l[k]?=al x->∃f,fs[k]?=al f/\Bc m (fs.take k) f x:=by induction h with|nil=>intro k x a;simp at a|l6 c h c h2 d=>exact Bc.last h.len ⟨c,h2,rfl⟩ d|pair i j a b h c h2 d=>exact Bc.last h.len ⟨a,b,c,h2,rfl⟩ d|ew i a h c h2 d=>exact Bc.last h.len ⟨a,c,h2,rfl⟩ d
def WG{fs:List<|Nat->Nat->Int}(h:fs[k]?=al f):zn m (fs.take k)++[gd m f]=zn m (fs.take<|k+1):=by rw[IY h];unfold zn;rw[aP];rfl
def Qf n:(O.J<|zn m fs).eu n=true:=zw (λd a n=>by obtain⟨x,_,rfl⟩:=ar.mp a;exact jd n) n
section
variable{P:Pr}[ee P "FREE"<|.int 0][ee P "SOME"<|.int 1][ee P "UNBOUND"<|.int 2][ee P "NONE"<|.int 3][ee P "LETTERS"<|.tp uV][bc P xo][bc P t5][bc P xp][dy P xq][bc P vi][bc P vy][bc P vO][bc P vR][bc P vT][dy P vU][bc P vL][dy P vP][bc P vN][dy P vS][bc P v3][bc P xr][bc P uX][dy P uY][bc P vZ][bc P vQ][bc P wq][dy P wt][bc P A4][bc P A6][bc P A5][bc P xR][bc P A2][bc P A9][bc P A7][bc P A8][bc P BI]
def Yv n(Uu:m.Ok)(Y:∀f∈fs,ue m.R f)(h:Bc m fs f x)(hp:s[p]?=al (.J<|zn m.R fs))(hs:s.all O.eU=bY):(cc P<|n+7).call "signs_of_step" [m.d,x.d,.ref p] s=.ok (gd m.R f) s:=by
 have b:(cc P<|n+7).call "signs_of_step" [m.d,x.d,.ref p] s=_:=zg BI rfl;have J:bi .len [.ref p] s=.ok (.int (fs.length:Int)) s:=by rw[qY hp];unfold zn;rw[aw]
 have lt:∀{i:Nat}{a:Nat->Nat->Int},fs[i]?=al a->i<fs.length:=λh=>(ae.mp h).1;have e1:=YJ (P:=P) (n+5) Uu s;have Z:=Zm Uu.L3 s;have l:=Z4 (P:=P) (n+4) (x:=x) Uu.L3 (by rintro c rfl;exact Ad h.1 h.2.1) s;rw[b,show(bv al [m.d,x.d,D.ref p]++ay BI.vs aT)=[al m.d,al x.d,al<|.ref p,aT]from rfl];simp only[BI];cases x with|l6 c=>refine AE (js (P:=P) n Uu [c] (by simp) hs) λg a d=>?_;obtain⟨_,_,rfl⟩:=h;rw[JI<|a.Hy<|va.ua m c]at d;simp only[za,zr,jc,qO,dt,zz,jx,g6,qX,i4,zH,zF,zU,qw,jG,R.ax,zA,qP,qf,zx,zD,Option.map_some,AA,zb,jo,ju,z0,if_true,J,e1,Z,l,EF,Ra,d];exact zo (λ_=>jd _) (by nofun)|pair i j=>obtain⟨a,b,c,f,rfl⟩:=h;have d:=OY (P:=P) (n+3) (x:=.pair i j) (by rintro m o e;cases e;exact⟨lt c,lt f⟩) rfl s;have j:=zN (P:=P) (n+3) Uu.R1 Uu.R5 (Y _<|aA c) (Y _<|aA f) hs;simp only[za,zr,jc,qO,dt,zz,jx,g6,qX,i4,zH,zF,zU,qw,jG,R.ax,zA,qP,qf,zx,zD,Option.map_some,AA,zb,jo,ju,z0,if_true,if_false,Bool.false_eq_true,J,e1,Z,l,EF,d,HH,Q9,Q8,qK hp<|jj c,qK hp<|jj f,j];exact zo (λ_=>jd _) (by nofun)|ew i=>obtain⟨a,c,a,rfl⟩:=h;have e:=Y _<|aA c;refine AE (qQ (P:=P) (n+2) Uu.R1 Uu.R5 e hs) λb h f=>?_;have i:b=true:=f.mpr a;subst i;simp only[za,zr,jc,qO,dt,zz,jx,ox,g6,qX,i4,zH,zF,zU,qw,jG,R.ax,zA,qP,qf,zx,zD,Option.map_some,AA,zb,jo,ju,z0,if_true,if_false,Bool.false_eq_true,J,e1,Z,l,EF,(OY (P:=P) (n+3) (x:=.ew i) (k:=fs.length) (by rintro m o e;cases e) rfl s),HH,Q7,(aD2 (P:=P) (n+3) (i:=i) (k:=fs.length) (lt c) s),qK hp<|jj c,h,(jD (P:=P) (n+1) Uu.R1 Uu.R5 e a hs)];exact zo (λ_=>jd _) (by nofun)
variable[ee P "MOST_STEPS"<|.int 100][bc P BH]
def jk n(Z:m.Ok)(h:t6 m l fs)(h1:1<=l.length)(h2:l.length<=100)(hs:s.all O.eU=bY):(cc P<|n+8).call "signs_made" [m.d,.tp<|l.map eH.d] s=.ok (.ref s.length) (s++[.J<|zn m.R fs]):=by
 have a:(cc P<|n+8).call "signs_made" [m.d,.tp<|l.map eH.d] s=_:=zg BH rfl;rw[a,show(bv al [m.d,D.tp<|l.map eH.d]++ay BH.vs aT)=[al m.d,al<|.tp<|l.map eH.d,aT,aT]from rfl];simp only[BH];simp only[za,zr,jc,qO,kc,zz,jx,wj,uj,sP,i4,zH,zF,l4,jG,R.ax,zA,qP,qf,zx,zD,Option.map_some,AA,zb,le_int,l5,z0,if_true,if_false,Bool.false_eq_true,decide_true,Bool.not_true,QN,QS,aw,Qb,qW (v:=.int 100),show((1:Int)<=(l.length:Int))=True from eq_true<|by lia,show((l.length:Int)<=100)=True from eq_true<|by lia,Gq];have key:=qF (ok:=λs1=>n5 (s++[O.J []]) s1 []) (g:=turn (cc P<|n+7) (.Y 3) (.cons (.ex<|.me .append (.X 2) (.cons (.call "signs_of_step"<|.ex (.X 0) (.ex (.X 3) (.ex (.X 2) .nil))) .nil)) .nil)) (λk U t=>t=s++[.J<|zn m.R<|fs.take k]/\∃x,U=[al m.d,al<|.tp<|l.map eH.d,al<|.ref s.length,x]) (l.map eH.d) 0 [al m.d,al<|.tp<|l.map eH.d,al<|.ref s.length,aT] (s++[O.J []]) (Al rfl _ rfl) (λ_ _ _ _ _=>rfl) (by
  rintro k d U t a⟨rfl,x,rfl⟩;rw[bM]at*;rw[aF,a7]at a;obtain⟨y,b,rfl⟩:=a;refine AE (h.at k y b) λf a J=>?_;have e1:=Yv (P:=P) n Z (λf a=>h.xI Z f<|et a) J (s:=s++[.J<|zn m.R<|fs.take k]) (p:=s.length) wQ<|qR hs<|show(O.J _).eU=bY from jn;have b:uJ .append (.ref s.length) [gd m.R f] (s++[.J<|zn m.R<|fs.take k])=.ok .N (s++[.J<|zn m.R<|fs.take<|k+1]):=by rw[PZ<|by unfold zn ky;grind,WG a]
  refine Ar _ _ (.inl ?_) rfl (al y.d) rfl;unfold turn;simp_all);obtain⟨a,t',Y,rfl,x,rfl⟩:=key;rw[bM,aw,h.len,fN]at Y;rw[Y];simp only[za,dt,zz,R.ax,zx,zD,zb,jo,ju];exact QK<|Qf _
end
def GW(h:gd m f=gd m g):vA m f g:=λi j hi b=>by have J:=congrArg (λl:List D=>l[i]?) (D.tp.inj h);simp only[aF,bW hi,bz,lK,D.tp.injEq]at J;have a:=congrArg (λl:List D=>l[j]?) J;simp only[j8 b,lK,D.int.injEq]at a;exact a
def ET(h:vA m f f')(k:vA m g g'):vA m (pr m f g) (pr m f' g'):=λi j hi c=>MD Ep Ep λx d=>by
 rw[Bb d,Bb d];constructor;.rintro⟨l,J,a,b⟩;exact Ag l J (h i l hi J▸a) (k l j J c▸b)
 .rintro⟨l,J,a,b⟩;exact Ag l J (h i l hi J▸a) (k l j J c▸b)
def Sl:vA m (pr m (pr m f g) h) (pr m f<|pr m g h):=λi j hi c=>MD Ep Ep λx e=>by
 rw[Bb e,Bb e];constructor;.rintro⟨l,J,a,b⟩;exact AH ((Bb e).mp a) λk f c d=>Ag k f c<|(Bb e).mpr<|Ag l J d b
 .rintro⟨k,f,c,a⟩;exact AH ((Bb e).mp a) λl J d b=>Ag l J ((Bb e).mpr<|Ag k f c d) b
def A0(h:vA m f g):gd m f=gd m g:=JI h
def Qa(h:vA m f g):vA m (sh m f) (sh m g):=λi j hi a=>by
 have:∀k,k<=m->wa f i j k=wa g i j k:=λk=>by induction k with|zero=>intro _;rfl|succ k b=>intro c;unfold wa;rw[b<|by lia,h i k hi<|by lia,h k k (by omega) (by omega),h k j (by omega) a]
 exact this m<|ak _
def Od(h:vA m f g)(k:tm m f):tm m g:=λi j hi a=>h i j hi a▸k i j hi a▸(ET h h i j hi a).symm
inductive s9(m:Mc):D->Prop|l6(c:Nat):97<=c->c<97+m.L->s9 m (gd m.R<|sV m c)|pair(f g:Nat->Nat->Int):s9 m (gd m.R f)->s9 m (gd m.R g)->s9 m (gd m.R<|pr m.R f g)|ew(f:Nat->Nat->Int):s9 m (gd m.R f)->tm m.R f->s9 m (gd m.R<|sh m.R f)
def t6.cl(h:t6 m l fs):∀f∈fs,s9 m<|gd m.R f:=by
 induction h with|nil=>simp_all|l6 c h a h2 b=>
  intro f J;rcases aU.mp J with z|z;.simp_all
  .exact aI.mp z▸.l6 c a h2|pair i j f g h a h2 b=>
  intro x J;rcases aU.mp J with z|z;.simp_all
  .exact aI.mp z▸.pair f g (b f<|aA a) (b g<|aA h2)|ew i f h a h2 b=>
  intro x J;rcases aU.mp J with z|z;.simp_all
  .exact aI.mp z▸.ew f (b f<|aA a) h2
def s9.KI{T:D->Prop}(d:∀c,97<=c->c<97+m.L->T (gd m.R<|sV m c))(e:∀f g,T (gd m.R f)->T (gd m.R g)->T (gd m.R<|pr m.R f g))(J:∀f,T (gd m.R f)->tm m.R f->T (gd m.R<|sh m.R f))(h:s9 m x):T x:=by induction h with|l6 c a b=>exact d c a b|pair f g _ _ a b=>exact e f g a b|ew f _ k a=>exact J f a k
inductive yZ(R:Nat)(G:D->Prop):D->Prop|Y{g:Nat->Nat->Int}:G (gd R g)->yZ R G (gd R g)|more{f g:Nat->Nat->Int}:yZ R G (gd R f)->G (gd R g)->yZ R G (gd R<|pr R f g)
def yZ.mono{R}(h:∀x,G x->J x)(k:yZ R G x):yZ R J x:=by induction k with|Y g=>exact .Y<|h _ g|more _ g a=>exact .more a<|h _ g
def ZG{R}{T:D->Prop}(J:∀a g,T (gd R a)->G (gd R g)->T (gd R<|pr R a g))(k:yZ R G b):∀h,b=gd R h->∀a,T (gd R a)->T (gd R<|pr R a h):=by induction k with|@Y g b=>exactλh e a c=>(A0<|ET (λ_ _ _ _=>rfl) (GW e.symm))▸J a g c b|@more f g _ b d=>exactλh e a c=>(A0<|ET (λ_ _ _ _=>rfl) (GW e.symm))▸A0 Sl▸J _ g (d f rfl a c) b
def XE{T:D->Prop}(d:∀c,97<=c->c<97+m.L->G (gd m.R<|sV m c))(J:∀x,G x->T x)(hT:∀x,T x->yZ m.R G x)(e:∀a g,T (gd m.R a)->G (gd m.R g)->T (gd m.R<|pr m.R a g))(i:∀a,T (gd m.R a)->tm m.R a->G (gd m.R<|sh m.R a))(h:s9 m x):T x:=h.KI (λc a b=>J _<|d c a b) (λf g a b=>ZG e (hT _ b) g rfl f a) λf a k=>J _<|i f a k
def VC(h:1<=m)(J:m<=5):(D.tp<|row m f).xa=true:=by obtain⟨k,rfl⟩:∃k,m=k+1:=⟨m-1,by lia⟩;show(D.Ej (row (k+1) f)&&((row (k+1) f).all D.vh&&decide ((row (k+1) f).length<=1000)))=bY;rw[af,af];refine⟨by unfold row;rw[cL];rfl,?_,by simp[];lia⟩;rw[aK];intro d a;obtain⟨j,_,rfl⟩:=ar.mp a;rfl
def YT{m:Nat}{f:Nat->Nat->Int}(h:1<=m)(J:m<=5):(gd m f).tI=true:=by obtain⟨k,rfl⟩:∃k,m=k+1:=⟨m-1,by omega⟩;show(D.Ej ((av<|k+1).map λi=>D.tp<|row (k+1) (f i))&&(((av<|k+1).map λi=>D.tp<|row (k+1) (f i)).all D.xa&&decide (((av<|k+1).map λi=>D.tp<|row (k+1) (f i)).length<=1000)))=true;rw[af,af];refine⟨by rw[cL];rfl,?_,by simp;omega⟩;rw[aK];intro d hd;obtain⟨i,_,rfl⟩:=ar.mp hd;exact VC h J
def XW(h:∀d∈tb,∀n,d.eu n=bY)n:(O.su<|rl tb).eu n=true:=by show(D.n7 n ((rl tb).map (·.1))&&D.n7 n ((rl tb).map (·.2)))=bY;unfold rl;rw[cG,cG,af];exact⟨zw (λd a n=>by simp_all) _,zw (λd a n=>by obtain⟨x,b,rfl⟩:=ar.mp a;rfl) _⟩
structure CI(m:Mc)(s:cn)(o a b e:Nat)(L:List eH)(T:List<|Nat->Nat->Int):Prop where
 cl:wz s o a b e (L.map eH.d) (T.map<|gd m.R)ms:t6 m L T
 nd:(T.map<|gd m.R).Nodup
 nc:s.all O.eU=bY
structure tD(s s':cn)(a b e:Nat):Prop where
 len:s'.length=s.length
 old:∀i,i≠a->i≠b->i≠e->s'[i]?=s[i]?
def tD.refl:tD s s a b e:=⟨rfl,λ_ _ _ _=>rfl⟩
theorem tD.trans(h:tD s t a b e)(g:tD t u a b e):tD s u a b e:=⟨g.len.trans h.len,λi x y z=>(g.old i x y z).trans<|h.old i x y z⟩
def CI.D3(h:CI m s' o a b e L' J)(fr:tD s s' a b e):wM s s'=true:=QO λi hi=>by
 by_cases c:i=a;.exact c▸.inr (Ac _ h.cl.stp<|zw h.cl.bs _)
 .by_cases h2:i=b;.exact h2▸.inr (Ac _ h.cl.tab<|zw h.cl.bt _)
  .by_cases h3:i=e;.subst h3;exact .inr<|Ac _ h.cl.see<|XW h.cl.bt _
   .exact .inl<|fr.old i c h2 h3
def CI.canon(h:CI m s' o a b e L' J)(fr:tD s s' a b e):nf s .N s'=.ok .N s':=O1 (h.D3 fr) fr.len
def CI.at{L}(h:CI m s o a b e L T){k:Nat}(J:T[k]?=al f):rW (.ref b) (.int<|k) s=.ok (gd m.R f) s:=qK h.cl.tab<|by simp_all
def XD{s:cn}(h:∀(i:Nat)(o:O),s[i]?=al o->o.eU=bY):s.all O.eU=true:=by rw[aK];exactλo a=>AF (fX a) λi e=>h i o e
def Yf{s:cn}(h:s.all O.eU=bY){i:Nat}(e:s[i]?=al o):o.eU=true:=by rw[aK]at h;exact h o<|aA e
def eH.Hm(x:eH):x.d.eU=true:=by cases x<;>rfl
def Y9(h:wz s o a b e st tb)(k:s.all O.eU=bY){L:List eH}{T:List<|Nat->Nat->Int}{R:Nat}:(uN s a b e (L.map eH.d) (T.map<|gd R)).all O.eU=true:=XD λi x c=>by
 have d:e<s.length:=(ae.mp h.see).1;refine AW h.ne λn1 f f J Z=>?_;by_cases j:i=e;.subst j;have:(uN s a b i (L.map eH.d) (T.map<|gd R))[i]?=al (.su<|rl<|T.map<|gd R):=qi (by simp;exact d);rw[this]at c;rw[<-az c];show D.lj ((rl<|T.map<|gd R).map (·.2))=bY;refine zy λd g=>?_;unfold rl at g;rw[cG]at g;obtain⟨_,_,rfl⟩:=ar.mp g;rfl
 .by_cases h2:i=b
  .subst h2;have:(uN s a i e (L.map eH.d) (T.map<|gd R))[i]?=al (.J<|T.map<|gd R):=by unfold uN;rw[aD<|bE Z];exact qi<|by simp;exact((ae.mp h.tab).1)
   rw[this]at c;rw[<-az c];show D.lj (T.map<|gd R)=bY;exact zy λd g=>by obtain⟨f,_,rfl⟩:=ar.mp g;exact Cy
  .by_cases h1:i=a
   .subst h1;have:(uN s i b e (L.map eH.d) (T.map<|gd R))[i]?=al (.J<|L.map eH.d):=by unfold uN;rw[aD<|bE J,aD<|bE h.ab];exact qi<|(ae.mp h.stp).1
    rw[this]at c;rw[<-az c];show D.lj (L.map eH.d)=bY;exact zy λd g=>by obtain⟨f,_,rfl⟩:=ar.mp g;exact f.Hm
   .exact Yf k<|GN h1 h2 j▸c
def tD.uN:tD s (uN s a b e st tb) a b e:=⟨MF,λi J h a=>GN J h a⟩
def S0:ex F .raise U s=.B:=rfl
def yU(m:Mc)(T:List<|Nat->Nat->Int):Prop:=(T.map<|gd m.R).Nodup/\T.length=80/\(∀f∈T,s9 m<|gd m.R f)/\∃g,s9 m (gd m.R g)/\gd m.R g∉T.map (gd m.R)
section
variable{P:Pr}[lb P "ClosedSet" "take" u7][ee P "MOST_TABLES"<|.int 80][hQ P "ClosedSet" "take" vx]
def Vp n(h:wz s o a b e st tb)(hy:y∉tb)(hk:y.tI=bY)(J:tb.length=80):(cc P<|n+1).cq "ClosedSet" "take" [.ref o,x,y] s=.B:=by have q:=jO h.see hk;rw[(qS).2 hy]at q;have a:=qY h.stp;have b:decide ((st.length:Int)=80)=true:=gv (by rw[h.len];omega);rw[ja u7 rfl,I8,show(bv al [D.ref o,x,y]++ay u7.vs aT)=[al<|.ref o,al x,al y]from rfl];simp only[za,zr,qO,zz,jw,i4,zH,zF,R.ax,zx,zD,zb,eq_int,z0,if_true,if_false,Bool.false_eq_true,zV,j3 h.ins,q,eW,Dx h.ins,a,qW (v:=.int 80),b,S0];rfl
def ZV(n:Nat){s:cn}{o a b e:Nat}{st tb:List D}(h:wz s o a b e st tb){x y:D}(hy:y∈tb)(hk:y.tI=true):(cc P<|n+1).xm "ClosedSet" "take" [.ref o,x,y] s=none:=by
 have q:=jO h.see hk;rw[(qS).1 hy]at q;rw[E8 vx rfl,show(bv some [D.ref o,x,y]++ay vx.vs none)=[some<|.ref o,some x,some y]from rfl];have J:ex (cc P n) (.ite (.Z .isin (.X 2) (.attr (.X 0) uv)) (.cons .uo .nil) .nil) [some<|.ref o,some x,some y] s=.ok (.ret .N) s:=by simp-implicitDefEqProofs only[za,zr,qO,zz,jw,R.ax,zx,zD,jo,z0,if_true,zV,j3 h.ins,q,eW,MZ]
 show(match ex (cc P n) (.ite (.Z .isin (.X 2) (.attr (.X 0) uv)) (.cons .uo .nil) .nil) [some<|.ref o,some x,some y] s with|.ok (.next U1) s1=>xB (cc P n) (.ur (.Z .eq (.bi .len<|.cons (.attr (.X 0) tL) .nil) (.gl "MOST_TABLES")) (.uR "TooMuch") .no) U1 s1|_=>none)=_;rw[J]
def VO n(h:wz s o a b e st tb)(hy:y∉tb)(hk:y.tI=bY)(Y:tb.length<80):(cc P<|n+1).xm "ClosedSet" "take" [.ref o,x,y] s=none:=by
 have q:=jO h.see hk;rw[(qS).2 hy]at q;have b:decide ((st.length:Int)=80)=false:=ij (by rw[h.len];lia);rw[E8 vx rfl,show(bv al [D.ref o,x,y]++ay vx.vs aT)=[al<|.ref o,al x,al y]from rfl];have c:ex (cc P n) (.ite (.Z .isin (.X 2) (.attr (.X 0) uv)) (.cons .uo .nil) .nil) [al<|.ref o,al x,al y] s=.ok (.next [al<|.ref o,al x,al y]) s:=by simp only[za,zr,qO,zz,jw,R.ax,zx,zD,z0,if_false,Bool.false_eq_true,zV,j3 h.ins,q,eW]
 have J:ev (cc P n) (.Z .eq (.bi .len<|.cons (.attr (.X 0) tL) .nil) (.gl "MOST_TABLES")) [al<|.ref o,al x,al y] s=.ok (.T ce) s:=by simp only[zz,jw,i4,zH,zF,R.ax,zx,eq_int,zV,Dx h.ins,(qY h.stp),qW (v:=.int 80),b]
 show(match ex (cc P n) (.ite (.Z .isin (.X 2) (.attr (.X 0) uv)) (.cons .uo .nil) .nil) [al<|.ref o,al x,al y] s with|.ok (.next U1) s1=>xB (cc P n) (.ur (.Z .eq (.bi .len<|.cons (.attr (.X 0) tL) .nil) (.gl "MOST_TABLES")) (.uR "TooMuch") .no) U1 s1|_=>aT)=_;rw[c];show(match ev (cc P n) (.Z .eq (.bi .len<|.cons (.attr (.X 0) tL) .nil) (.gl "MOST_TABLES")) [al<|.ref o,al x,al y] s with|.ok (.T b) s1=>if b then xB (cc P n) (.uR "TooMuch") [al<|.ref o,al x,al y] s1 else xB (cc P n) .no [al<|.ref o,al x,al y] s1|_=>aT)=_;rw[J];rfl
def take_any1[hE:uA P "TooMuch" ts]n(Z:m.Ok){L}(h:CI m s o a b e L T)(hx:t6 m (L++[x]) (T++[f]))(hg:gd m.R g=gd m.R f):(∃c i d,(cc P<|n+1).cq "ClosedSet" "take" [.ref o,x.d,gd m.R g] s=.ok .N c/\(cc P<|n+1).xm "ClosedSet" "take" [.ref o,x.d,gd m.R g] s=aT/\CI m c o a b e i (T++d)/\gd m.R f∈(T++d).map (gd m.R)/\tD s c a b e/\d.length<=1)\/((cc P<|n+1).cq "ClosedSet" "take" [.ref o,x.d,gd m.R g] s=.B/\(cc P<|n+1).xm "ClosedSet" "take" [.ref o,x.d,gd m.R g] s=al ("TooMuch",s)/\yU m T):=by
 rw[hg];have b:(gd m.R f).tI=true:=YT Z.R1 Z.R5;have Y:=h.cl.le;rw[aw]at Y;by_cases a:gd m.R f∈T.map (gd m.R);.exact .inl<|Aw s L [] (Yh (P:=P) n h.cl a b) (ZV (P:=P) n h.cl a b) (by simp_all) (by rw[aZ];exact a) tD.refl<|by simp
 .by_cases hl:T.length<80
  .refine AB (VF (P:=P) n h.cl a b (x:=x.d) (x.eu) (jd) (by simp_all)) λe1 c=>?_;have d:T.map (gd m.R)++[gd m.R f]=(T++[f]).map (gd m.R):=by rw[aP];rfl
   rw[(by rw[aP];rfl:L.map eH.d++[x.d]=(L++[x]).map eH.d),d]at e1 c;refine .inl<|Aw _ (L++[x]) [f] e1 (VO (P:=P) n h.cl a b<|by rw[aw];exact hl) ⟨c,hx,?_,Y9 h.cl h.nc⟩ (aP▸aR _ (aI.mpr rfl)) tD.uN (by simp);exact d▸EK h.nd a
  .have h80:T.length=80:=by lia
   have J:(T.map<|gd m.R).length=80:=by simp_all
   have c:=hx.cl;exact .inr ⟨Vp (P:=P) n h.cl a b J,Xa (P:=P) (ts:=ts) n h.cl a b J,h.nd,h80,λk b=>c k<|bq _ b,f,c f<|aR _<|aI.mpr rfl,a⟩
def take_any[hE:uA P "TooMuch" ts]n(J:m.Ok){L}(h:CI m s o a b e L T)(hx:t6 m (L++[x]) (T++[f]))(Y:gd m.R g=gd m.R f):(∃i k j,(cc P<|n+1).cq "ClosedSet" "take" [.ref o,x.d,gd m.R g] s=.ok .N i/\(cc P<|n+1).xm "ClosedSet" "take" [.ref o,x.d,gd m.R g] s=aT/\CI m i o a b e k (T++j)/\gd m.R f∈(T++j).map (gd m.R)/\tD s i a b e)\/((cc P<|n+1).cq "ClosedSet" "take" [.ref o,x.d,gd m.R g] s=.B/\(cc P<|n+1).xm "ClosedSet" "take" [.ref o,x.d,gd m.R g] s=al ("TooMuch",s)/\yU m T):=(take_any1 (P:=P) (ts:=ts) n J h hx Y).imp_left λ⟨i,k,j,a,b,c,d,e,_⟩=>Av i k j a b c d e
end
theorem Mz{ok:cn->Bool}{g:D->Env->cn->R Ct}{gx:D->Env->cn->Option (String×cn)}(Inv:Nat->Env->cn->Prop)(J:String->cn->Prop)(hok:∀k U s,Inv k U s->ok s=true):∀(l:List D)(k:Nat)(U:Env)(s:cn),Inv k U s->(∀j d U s,l[j]?=some d->Inv (k+j) U s->(∃U' s',g d U s=.ok (.next U') s'/\Inv (k+j+1) U' s')\/(g d U s=.B/\∃c s',gx d U s=some (c,s')/\J c s'))->(∃U' s',ux ok g l U s=.ok (.next U') s'/\Inv (k+l.length) U' s')\/(ux ok g l U s=.B/\∃c s',xn ok g gx l U s=some (c,s')/\J c s')
 |[],k,U,s,h,_=>.inl ⟨U,s,by unfold ux;rw[if_pos<|hok k U s h],h⟩|d::l,k,U,s,h,step=>by
  have ho:=hok k U s h;rcases step 0 d U s rfl h with⟨U1,s1,e1,Y⟩|⟨e1,c,s1,e2,hb⟩
  .have Uu:=Mz Inv J hok l (k+1) U1 s1 Y λj d U s hd Z=>by have:=step (j+1) d U s hd (by rw[show k+(j+1)=k+1+j by omega];exact Z);rw[show k+(j+1)+1=k+1+j+1 by omega]at this;exact this
   have f1:ux ok g (d::l) U s=ux ok g l U1 s1:=by show(if ok s=true then _ else _)=_;rw[if_pos ho,e1];rfl
   have f2:xn ok g gx (d::l) U s=xn ok g gx l U1 s1:=by show(if ok s=true then(match g d U s with|.ok (.next U1) s1=>xn ok g gx l U1 s1|.ok (.cont U1) s1=>xn ok g gx l U1 s1|.ok _ _=>none|_=>gx d U s)else none)=_;rw[if_pos ho,e1]
   rw[f1,f2,aQ,show k+(l.length+1)=k+1+l.length by omega];exact Uu
  .refine .inr ⟨?_,c,s1,?_,hb⟩;.show(if ok s=true then _ else _)=_;rw[if_pos ho,e1];rfl
   .show(if ok s=true then(match g d U s with|.ok (.next U1) s1=>xn ok g gx l U1 s1|.ok (.cont U1) s1=>xn ok g gx l U1 s1|.ok _ _=>none|_=>gx d U s)else none)=_;rw[if_pos ho,e1];exact e2
def jI o m h:ev F (.cq o m h) U s=(ev F o U s).bind λx s=>(Bw x s).bind λc s=>(tY F h U s).bind λl s=>F.cq c m (x::l) s:=rfl
def JF(a:ev F o U s=.ok x s1)(J:Bw x s1=.ok c s2)(a:tY F h U s2=.ok l s3):xB F (.cq o m h) U s=F.xm c m (x::l) s3:=by show(match(ev F o U s).bind λx s=>(Bw x s).bind λc s=>(tY F h U s).bind λl s=>.ok (c,x::l) s with|.ok p s1=>F.xm p.1 m p.2 s1|_=>aT)=_;simp_all
def aW9:xx.body=qa:=rfl
def yw:Xf:=⟨2,0,.ur DS (.cq (.X 0) "take" CT) .no⟩
section
variable{P:Pr}[lb P "ClosedSet" "take" u7][ee P "MOST_TABLES"<|.int 80][hQ P "ClosedSet" "take" vx][bc P t5][bc P uX][dy P uY][bc P vZ][bc P vQ][bc P wq][dy P wt][ee P "FREE"<|.int 0][ee P "UNBOUND"<|.int 2][ee P "NONE"<|.int 3][lb P "ClosedSet" "take_sharp" xx][hQ P "ClosedSet" "take_sharp" yw]
def tsharp_any[hE:uA P "TooMuch" ts]n(Y:m.Ok){L}(h:CI m s o a b e L T){k:Nat}(hf:T[k]?=al f):(∃d j i,(cc P<|n+6).cq "ClosedSet" "take_sharp" [.ref o,.int k] s=.ok .N d/\(cc P<|n+6).xm "ClosedSet" "take_sharp" [.ref o,.int k] s=aT/\CI m d o a b e j (T++i)/\(tm m.R f->gd m.R (sh m.R f)∈(T++i).map (gd m.R))/\tD s d a b e)\/((cc P<|n+6).cq "ClosedSet" "take_sharp" [.ref o,.int k] s=.B/\∃d,(cc P<|n+6).xm "ClosedSet" "take_sharp" [.ref o,.int k] s=al ("TooMuch",d)/\yU m T/\tD s d a b e):=by
 have d:=h.ms.xI Y f<|aA hf;have i:=h.at hf;refine AE (qQ (P:=P) (n+1) Y.R1 Y.R5 d h.nc) λbl e1 j=>?_;have e:ev (cc P<|n+5) DS [al<|.ref o,al<|.int k] s=.ok (.T bl) s:=by unfold DS;simp only[zz,g6,qX,zU,qw,R.ax,zx,zD,zV,G7 h.cl.ins,i,e1]
 have p:=ja (P:=P) xx (c:="ClosedSet") (m:="take_sharp") (n:=n+5) (l:=[.ref o,.int k]) (s:=s) rfl;rw[aW9,show(bv al [D.ref o,D.int k]++ay xx.vs aT)=[al<|.ref o,al<|.int k]from rfl]at p;have a:=E8 (P:=P) yw (c:="ClosedSet") (m:="take_sharp") (n:=n+5) (l:=[.ref o,.int k]) (s:=s) rfl;rw[show(bv al [D.ref o,D.int k]++ay yw.vs aT)=[al<|.ref o,al<|.int k]from rfl]at a;have J:(cc P<|n+6).xm "ClosedSet" "take_sharp" [.ref o,.int k] s=(match ev (cc P<|n+5) DS [al<|.ref o,al<|.int k] s with|.ok (.T b) s1=>if b then xB (cc P<|n+5) (.cq (.X 0) "take" CT) [al<|.ref o,al<|.int k] s1 else xB (cc P<|n+5) .no [al<|.ref o,al<|.int k] s1|_=>aT):=a;rw[e]at J;by_cases a:tm m.R f
 .have a2:=j.mpr a;subst a2;have b:=jD (P:=P) n Y.R1 Y.R5 d a h.nc;have c:tY (cc P<|n+5) CT [al<|.ref o,al<|.int k] s=.ok [(eH.ew k).d,gd m.R<|sh m.R f] s:=by unfold CT;simp only[zz,jx,q0,g6,qX,zH,zF,zU,qw,k4,R.ax,zx,zD,zV,G7 h.cl.ins,i,b];rfl
  have b:ev (cc P<|n+5) (.X 0) [al<|.ref o,al<|.int k] s=.ok (.ref o) s:=rfl;have l:=JF (F:=cc P<|n+5) (m:="take") b (BC h.cl.ins) c;have Z:(cc P<|n+6).xm "ClosedSet" "take_sharp" [.ref o,.int k] s=xB (cc P<|n+5) (.cq (.X 0) "take" CT) [al<|.ref o,al<|.int k] s:=J;rcases take_any (P:=P) (ts:=ts) (n+4) Y h (x:=.ew k) (f:=sh m.R f) (g:=sh m.R f) (.ew k f h.ms hf a) rfl with⟨d,j,i,f,m,b,g,k⟩|⟨f,b,g⟩;.refine .inl<|Av d j i ?_ (by rw[Z,l];exact m) b (λ_=>g) k;rw[p];simp only[za,zr,qO,mj,zz,R.ax,zx,zb,uK,z0,if_true,e,jI,BC h.cl.ins,c,f];exact b.canon k
  .refine .inr ⟨?_,s,by rw[Z,l];exact b,g,tD.refl⟩;rw[p];simp only[za,zr,qO,mj,zz,R.ax,zx,z0,if_true,e,jI,BC h.cl.ins,c,f];rfl
 .have a3:bl=false:=by lia
  subst a3;refine .inl<|Av s L [] ?_ J (by simp_all) (λz=>iN z a) tD.refl;simp_all
end
def Kq(i j:Nat):E:=.call "sign_product"<|.ex (.ix (.attr (.X 0) uM) (.X i)) (.ex (.ix (.attr (.X 0) uM) (.X j)) .nil)
def w5(i j:Nat):As:=.ex (.tp<|.cons (.K<|.str [112,97,105,114]) (.cons (.X i) (.cons (.X j) .nil))) (.ex (Kq i j) .nil)
def yP:Ss:=.cons (.ex<|.cq (.X 0) "take"<|w5 1 2) (.cons (.ex<|.cq (.X 0) "take"<|w5 2 1) .nil)
def CW:XB:=.alt (.cq (.X 0) "take"<|w5 1 2) (.seq (.ex<|.cq (.X 0) "take"<|w5 1 2) (.cq (.X 0) "take"<|w5 2 1))
def W6:xw.body=.cons (.fo (.Y 2) (.rg<|.G .add (.X 1) (.K<|.int 1)) yP) .nil:=rfl
def xP:Xf:=⟨2,1,.vI (.Y 2) (.rg<|.G .add (.X 1) (.K<|.int 1)) yP CW⟩
def MC(h:xB F a U s=al r):xB F (.alt a b) U s=al r:=by show(match xB F a U s with|some r=>al r|none=>xB F b U s)=_;rw[h]
def MS(h:xB F a U s=aT):xB F (.alt a b) U s=xB F b U s:=by show(match xB F a U s with|some r=>al r|none=>xB F b U s)=_;rw[h]
def Fb(h:ex F st U s=.ok (.next U1) s1):xB F (.seq st b) U s=xB F b U1 s1:=by show(match ex F st U s with|.ok (.next U1) s1=>xB F b U1 s1|_=>aT)=_;rw[h]
def Sz(h:wD F it U s=.ok q s0):xB F (.vI tg it b x) U s=xn (λs=>n5 s0 s q.src) (turn F tg b) (λd U s=>match jB U tg d with|some U=>xB F x U s|none=>aT) q.its U s0:=by show(match wD F it U s with|.ok q s0=>xn (λs=>n5 s0 s q.src) (λd U s=>match jB U tg d with|some U=>oo F b U s|none=>.B) (λd U s=>match jB U tg d with|some U=>xB F x U s|none=>aT) q.its U s0|_=>aT)=_;rw[h];rfl
section
variable{P:Pr}[lb P "ClosedSet" "take" u7][ee P "MOST_TABLES"<|.int 80][hQ P "ClosedSet" "take" vx][bc P t5][bc P uX][dy P uY]
def pr_take[hE:uA P "TooMuch" ts]n(J:m.Ok){L}(h:CI m s o a b e L T){u v:Nat}(Z:T[u]?=al f)(hg:T[v]?=al g)(r0:U[0]?=al (al<|.ref o))(ri:U[i]?=al (al<|.int (u:Int)))(rj:U[j]?=al (al<|.int (v:Int))):(∃c l k,ex (cc P<|n+5) (.ex<|.cq (.X 0) "take"<|w5 i j) U s=.ok (.next U) c/\xB (cc P<|n+5) (.cq (.X 0) "take"<|w5 i j) U s=aT/\CI m c o a b e l (T++k)/\gd m.R (pr m.R f g)∈(T++k).map (gd m.R)/\tD s c a b e)\/(ex (cc P<|n+5) (.ex<|.cq (.X 0) "take"<|w5 i j) U s=.B/\xB (cc P<|n+5) (.cq (.X 0) "take"<|w5 i j) U s=al ("TooMuch",s)/\yU m T):=by
 have a:ue m.R f:=h.ms.xI J f<|aA Z;have b:ue m.R g:=h.ms.xI J g<|aA hg;have Y:∀{i:Nat}{d:D},U[i]?=al (al d)->ev (cc P<|n+5) (.X i) U s=.ok d s:=λ{i d}q=>by show xT U i s=_;rw[xT,q]
 have v0:=Y r0;have c:=Y ri;have d:=Y rj;have e:=zN (P:=P) (n+2) J.R1 J.R5 a b h.nc;have a:tY (cc P<|n+5) (w5 i j) U s=.ok [(eH.pair u v).d,gd m.R<|pr m.R f g] s:=by unfold w5 Kq;simp only[qw,zU,q0,zF,zH,jx,k4,R.ax,c,d,qX,g6,zV,v0,G7 h.cl.ins,h.at Z,h.at hg,e];rfl
 have e:=JF (F:=cc P<|n+5) (m:="take") v0 (BC h.cl.ins) a;have p:ex (cc P<|n+5) (.ex<|.cq (.X 0) "take"<|w5 i j) U s=((cc P<|n+5).cq "ClosedSet" "take" [.ref o,(eH.pair u v).d,gd m.R<|pr m.R f g] s).bind λ_ s=>.ok (.next U) s:=by show(ev (cc P<|n+5) (.cq (.X 0) "take"<|w5 i j) U s).bind _=_;rw[jI,v0,R.ax,BC h.cl.ins,R.ax,a,R.ax]
 rcases take_any (P:=P) (ts:=ts) (n+4) J h (x:=.pair u v) (f:=pr m.R f g) (g:=pr m.R f g) (.pair u v f g h.ms Z hg) rfl with⟨c,l,k,a,f,b,d,g⟩|⟨a,b,d⟩;.exact .inl<|Av c l k (by rw[p,a];rfl) (by rw[e];exact f) b d g
 .exact .inr<|Ai (by rw[p,a];rfl) (by rw[e];exact b) d
variable[lb P "ClosedSet" "take_pairs" xw][hQ P "ClosedSet" "take_pairs" xP]
def tpairs_any[hE:uA P "TooMuch" ts]n(hm:m.Ok){L}(h:CI m s o a b e L T){k:Nat}(hf:T[k]?=al f):(∃q r p,(cc P<|n+6).cq "ClosedSet" "take_pairs" [.ref o,.int k] s=.ok .N q/\CI m q o a b e r (T++p)/\(∀i,i<k+1->∀g,T[i]?=al g->gd m.R (pr m.R f g)∈(T++p).map (gd m.R)/\gd m.R (pr m.R g f)∈(T++p).map (gd m.R))/\tD s q a b e)\/((cc P<|n+6).cq "ClosedSet" "take_pairs" [.ref o,.int k] s=.B/\∃q,(cc P<|n+6).xm "ClosedSet" "take_pairs" [.ref o,.int k] s=al ("TooMuch",q)/\(∃w,yU m w)/\tD s q a b e):=by
 have q:=(ae.mp hf).1;have d:=h.cl.le;rw[aw]at d;have y:wD (cc P<|n+5) (.rg<|.G .add (.X 1) (.K<|.int 1)) [al<|.ref o,al<|.int (k:Int),aT] s=.ok ⟨tP 0 ((k+1:Nat):Int),[]⟩ s:=by simp-implicitDefEqProofs only[zz,jx,kl,qT,jG,R.ax,zx,zD,add_int];rw[show(k:Int)+1=((k+1:Nat):Int)by lia,zI (by unfold hH;lia) (by unfold hH;lia)]
 have z:=ja (P:=P) xw (c:="ClosedSet") (m:="take_pairs") (n:=n+5) (l:=[.ref o,.int k]) (s:=s) rfl;rw[W6,show(bv al [D.ref o,D.int k]++ay xw.vs aT)=[al<|.ref o,al<|.int (k:Int),aT]from rfl]at z;have v:=E8 (P:=P) xP (c:="ClosedSet") (m:="take_pairs") (n:=n+5) (l:=[.ref o,.int k]) (s:=s) rfl;rw[show(bv al [D.ref o,D.int k]++ay xP.vs aT)=[al<|.ref o,al<|.int (k:Int),aT]from rfl,show xP.body=.vI (.Y 2) (.rg<|.G .add (.X 1) (.K<|.int 1)) yP CW from rfl,Sz y]at v;have key:=Mz (ok:=λu=>n5 s u []) (g:=turn (cc P<|n+5) (.Y 2) yP) (gx:=λd U s=>match jB U (.Y 2) d with|some U=>xB (cc P<|n+5) CW U s|none=>aT) (λj U t=>∃(r:List eH)(p:List<|Nat->Nat->Int)(x:Option D),U=[al<|.ref o,al<|.int<|k,x]/\CI m t o a b e r (T++p)/\tD s t a b e/\∀i,i<j->∀g,T[i]?=al g->gd m.R (pr m.R f g)∈(T++p).map (gd m.R)/\gd m.R (pr m.R g f)∈(T++p).map (gd m.R))
  (λc u=>c="TooMuch"/\(∃w,yU m w)/\tD s u a b e) (λ_ _ _ _=>rfl) (tP 0<|(k+1:Nat)) 0 [al<|.ref o,al<|.int (k:Int),aT] s (Ak L [] aT rfl (by rw[aZ];exact h) tD.refl<|λi hi=>iN hi<|cN _) (by
  rintro j d U t b⟨r,p,x,rfl,d,fr,a⟩;rw[bM]at a⊢;obtain⟨c,rfl⟩:=jP b;rw[iE];have J:j<T.length:=by lia
  have Z:(T++p)[j]?=al T[j]:=by rw[aC J,aj J]
  have g:(T++p)[k]?=al f:=aC q▸hf;rcases pr_take (P:=P) (ts:=ts) n hm d (i:=1) (j:=2) g Z (U:=[al<|.ref o,al<|.int (k:Int),al<|.int (j:Int)]) rfl rfl rfl with⟨s1,b,b,c,d,e,s,q⟩|⟨c,d,e⟩
  .have h:(T++p++b)[k]?=al f:=by rw[aC<|by rw[aN];lia];exact g
   rcases pr_take (P:=P) (ts:=ts) n hm e (i:=2) (j:=1) (by rw[aC<|by rw[aN];omega];exact Z) h (U:=[al<|.ref o,al<|.int (k:Int),al<|.int (j:Int)]) rfl rfl rfl with⟨g,L2,f,h,r,l,u,i⟩|⟨h,r,l⟩
   .refine .inl ⟨[al<|.ref o,al<|.int (k:Int),al<|.int (j:Int)],g,?_,L2,p++b++f,_,rfl,by rw[<-bf,<-bf];exact l,(fr.trans q).trans i,λi hi g f=>?_⟩;.show oo (cc P<|n+5) yP [al<|.ref o,al<|.int (k:Int),al<|.int (j:Int)] t=_;unfold yP;rw[za,c,R.ax,zb,za,h,R.ax,zb,zr]
    .have up:∀{x:D}{A B:List<|Nat->Nat->Int},x∈A.map (gd m.R)->x∈(A++B).map (gd m.R):=λv=>aP▸bq _ v;rw[<-bf,<-bf];by_cases b:i=j;.subst b;have:g=T[i]:=(az<|aj J▸f).symm;exact this▸(Ad (up s) u)
     .have:=a i (by lia) g f;exact Ad (up<|up this.1) (up<|up this.2)
   .refine .inr ⟨?_,"TooMuch",s1,?_,rfl,Ae _ l,fr.trans q⟩;.show oo (cc P<|n+5) yP [al<|.ref o,al<|.int (k:Int),al<|.int (j:Int)] t=_;unfold yP;rw[za,c,R.ax,zb,za,h];rfl
    .show xB (cc P<|n+5) CW [al<|.ref o,al<|.int (k:Int),al<|.int (j:Int)] t=_;unfold CW;rw[MS d,Fb c];exact r
  .refine .inr ⟨?_,"TooMuch",t,?_,rfl,Ae _ e,fr⟩;.show oo (cc P<|n+5) yP [al<|.ref o,al<|.int (k:Int),al<|.int (j:Int)] t=_;unfold yP;rw[za,c];rfl
   .show xB (cc P<|n+5) CW [al<|.ref o,al<|.int (k:Int),al<|.int (j:Int)] t=_;exact MC d);have a:(tP 0 ((k+1:Nat):Int)).length=k+1:=zC<|k+1;rw[bM,a]at key;rcases key with⟨a,q,b,r,p,x,rfl,d,fr,a⟩|⟨b,c,q,c,rfl,hO⟩;.refine .inl<|Ak q r p ?_ d a fr;rw[z,za,kc,y,R.ax,b,R.ax,zb,zr,R.ax];exact d.canon fr
 .refine .inr<|Aj ?_ q ?_ hO;.rw[z,za,kc,y,R.ax,b];rfl
  .rw[v];exact c
end
def vB(s:cn):cn:=s++[.ins "ClosedSet"<|sO (s.length+1) (s.length+2) (s.length+3),.J [],.J [],.su []]
def bs7{s X:cn}:(s++a::X).set s.length b=s++b::X:=by simp_all
def Jw(a:ok "ClosedSet"=bY){X:cn}(h:fs.length<1000):E2 ok f (.ref s.length) v (s++.ins "ClosedSet" fs::X)=.ok () (s++.ins "ClosedSet" (xi (.str f) v fs)::X):=by unfold E2;simp_all
def aY7 i(hi:i<s.length)(J:t[i]?=al x)(h:s[i]?≠al x)(h3:x.eu s.length=ce):nf s d t=.ok d t:=by
 have:wM s t=false:=by rw[<-Bool.not_eq_true];intro z;have:=aK.mp z i<|bI.mpr hi;rw[J]at this;simp only[h3,nv,iS]at this;exact h this.symm
 unfold nf;rw[this];rfl
def ZQ{a b e n:Nat}(h:n<=a):(O.ins "ClosedSet"<|sO a b e).eu n=false:=by unfold O.eu sO;simp only[aS,fA,D.n7,D.eu];rw[decide_eq_false (by omega:¬a<n)];simp
def Vu o f e:ex F (.wc o f e) U s=(ev F e U s).bind λd s=>(ev F o U s).bind λx s=>(E2 (λc=>F.att c f) f x d s).bind λ_ s=>.ok (.next U) s:=rfl
def VE:ev F .ym U s=.ok (.ref s.length) (s++[.su []]):=rfl
def Zo c h:ev F (.new c h) U s=(tY F h U s).bind λl s=>(F.new c (.ref s.length::l) (s++[.ins c []])).bind λd a=>if d=.N then .ok (.ref s.length) a else .B:=rfl
def ZJ:(cc P<|k+2).new c l s=(cc P<|k+1).cq c "__init__" l s:=rfl
section
variable{P:Pr}[lb P "ClosedSet" "__init__" yx][sv P "ClosedSet" tL][sv P "ClosedSet" uM][sv P "ClosedSet" uv]
def aZ9:yx.body=qe:=rfl
def Vq n s:(cc P<|n+1).cq "ClosedSet" "__init__" [.ref s.length] (s++[.ins "ClosedSet" []])=.ok .N (vB s):=by
 have b:=Jw (ok:=λc=>(cc P n).att c tL) JC (s:=s) (X:=[.J []]) (fs:=[]) (by decide) (f:=tL) (v:=.ref<|s.length+1);have d:=Jw (ok:=λc=>(cc P n).att c uM) JC (s:=s) (X:=[.J [],.J []]) (fs:=xi (.str tL) (.ref<|s.length+1) []) (by simp[xi]) (f:=uM) (v:=.ref<|s.length+2);have h:=Jw (ok:=λc=>(cc P n).att c uv) JC (s:=s) (X:=[.J [],.J [],.su []]) (fs:=xi (.str uM) (.ref<|s.length+2) (xi (.str tL) (.ref<|s.length+1) [])) (by simp[xi,tL,uM]) (f:=uv) (v:=.ref<|s.length+3);have a:xi (.str uv) (.ref<|s.length+3) (xi (.str uM) (.ref<|s.length+2) (xi (.str tL) (.ref<|s.length+1) []))=sO (s.length+1) (s.length+2) (s.length+3):=by simp[xi,sO,tL,uM,uv]
 rw[a]at h;rw[ja yx rfl,aZ9,show(bv al [D.ref s.length]++ay yx.vs aT)=[al<|.ref s.length]from rfl];have a:(s++[O.ins "ClosedSet" []]).length=s.length+1:=by simp
 simp only[za,zr,zz,sP,zH,R.ax,zx,zb,uK,l5,Vu,VE,bf,c6,f7,a,(λ_ _=>by simp:∀x y:O,(s++[x,y]).length=s.length+2),(λ_ _ _=>by simp:∀x y z:O,(s++[x,y,z]).length=s.length+3),b,d,h];refine aY7 s.length (by simp) (x:=.ins "ClosedSet"<|sO (s.length+1) (s.length+2) (s.length+3)) ?_ ?_ ?_;.rw[am<|ak _];simp
 .rw[wQ];intro z;injection z with z;injection z with _ z;cases z
 .exact a▸ZQ (ak _)
def SA(a:s.all O.eU=bY):CI m (vB s) s.length (s.length+1) (s.length+2) (s.length+3) [] []:=by
 have g:∀i,s.length<=i->(vB s)[i]?=([.ins "ClosedSet"<|sO (s.length+1) (s.length+2) (s.length+3),.J [],.J [],.su []])[i-s.length]?:=λi hi=>am hi;refine⟨⟨?_,?_,?_,?_,by lia,rfl,by simp,λd b=>(by grind),λd b=>(by grind)⟩,.nil,gC,?_⟩;.simp_all
 .simp_all
 .simp_all
 .rw[g _<|by lia,bV];rfl
 .unfold vB;rw[fg,a];rfl
def Y8 n:ev (cc P<|n+2) (.new "ClosedSet" .nil) U s=.ok (.ref s.length) (vB s):=by rw[Zo,zU,R.ax,ZJ,Vq,R.ax,ef rfl]
end
section
variable{c:Env->cn->R D}{g:Env->cn->R Ct}{gx:Env->cn->Option (String×cn)}
def aY0(h:c U s=.ok (.T ce) s1):∀N,qo c g gx N U s=aT|0=>rfl|N+1=>by unfold qo;rw[h]
def OJ(h:c U s=.ok (.T bY) s1)(J:g U s1=.ok (.next U1) s2)N:qo c g gx (N+1) U s=qo c g gx N U1 s2:=by
 show(match c U s with
  |.ok (.T bY) s1=>match g U s1 with|.ok (.next U1) s2=>qo c g gx N U1 s2|.ok (.cont U1) s2=>qo c g gx N U1 s2|.ok _ _=>aT|_=>gx U s1
  |_=>aT)=_;rw[h];show(match g U s1 with|.ok (.next U1) s2=>qo c g gx N U1 s2|.ok (.cont U1) s2=>qo c g gx N U1 s2|.ok _ _=>aT|_=>gx U s1)=_;rw[J]
def Pn(h:c U s=.ok (.T bY) s1)(J:g U s1=.B)N:qo c g gx (N+1) U s=gx U s1:=by
 show(match c U s with
  |.ok (.T bY) s1=>match g U s1 with|.ok (.next U1) a=>qo c g gx N U1 a|.ok (.cont U1) a=>qo c g gx N U1 a|.ok _ _=>aT|_=>gx U s1
  |_=>aT)=_;rw[h];show(match g U s1 with|.ok (.next U1) a=>qo c g gx N U1 a|.ok (.cont U1) a=>qo c g gx N U1 a|.ok _ _=>aT|_=>gx U s1)=_;rw[J]
set_option tactic.hygienic true in theorem ji:∀{N}{U}{s}{r},qo c g gx N U s=al r->∀K,qo c g gx (N+K) U s=al r
 |0,U,s,r,h,K=>by cases h|N+1,U,s,r,h,K=>by
  rw[show N+1+K=(N+K)+1 by lia];unfold qo at h⊢;split at h
  .rename_i s1 e1;split at h;.exact ji h K
   .exact ji h K
   .cases h
   .exact h
  .cases h
def aY8(h:qo c g gx N U s=al r):tj c g gx U s=al r:=by unfold tj;have ex:∃n,(qo c g gx n U s).isSome=true:=⟨N,by rw[h];rfl⟩;rw[dif_pos ex];have a:=ex.choose_spec;generalize ex.choose=K at a⊢;cases d:qo c g gx K U s with|none=>simp_all|some a=>have b:=ji d N;rw[lI]at b;rw[(ji h K)]at b;exact b.symm
def WS(h:∀N,qo c g gx N U s=aT):tj c g gx U s=none:=by unfold tj;simp_all
end
def U0(J:xT U i s=.ok (.int a) s)(h:ev F e U s=.ok (.int b) s)(c:xM U i (.int<|a+b)=al U'):ex F (.aug i e) U s=.ok (.next U') s:=by
 show(xT U i s).bind (λx s=>(ev F e U s).bind λy s=>match x,y with
  |.int a,.int b=>match xM U i<|.int (a+b)with|some U=>R.ok (Ct.next U) s|none=>.B
  |_,_=>.B)=_;simp_all
def C9:XB:=.alt (.cq (.X 1) "take_sharp"<|.ex (.X 3) .nil) (.seq (.ex clS) (.cq (.X 1) "take_pairs"<|.ex (.X 3) .nil))
def xQ:Xf:=⟨1,3,.seq (.A (.Y 1) (.new "ClosedSet" .nil)) (.seq Ek<|.seq (.A (.Y 3) (.K<|.int 0)) (.tj z1 xg C9))⟩
def aN9:yX.body=Oy:=rfl
def FL(m:Mc)(k:Nat)(T:List<|Nat->Nat->Int):Prop:=∀i f,i<k->T[i]?=al f->(tm m.R f->gd m.R (sh m.R f)∈T.map (gd m.R))/\∀j g,j<i+1->T[j]?=al g->gd m.R (pr m.R f g)∈T.map (gd m.R)/\gd m.R (pr m.R g f)∈T.map (gd m.R)
section
variable{P:Pr}[lb P "ClosedSet" "take" u7][ee P "MOST_TABLES"<|.int 80][hQ P "ClosedSet" "take" vx][bc P t5][bc P uX][dy P uY][bc P vZ][bc P vQ][bc P wq][dy P wt][ee P "FREE"<|.int 0][ee P "UNBOUND"<|.int 2][ee P "NONE"<|.int 3][lb P "ClosedSet" "take_sharp" xx][hQ P "ClosedSet" "take_sharp" yw][lb P "ClosedSet" "take_pairs" xw][hQ P "ClosedSet" "take_pairs" xP]
theorem clw[hE:uA P "TooMuch" ts]n(hm:m.Ok):∀J k L T t,81<=J+k->CI m t o a b e L T->k<=T.length->FL m k T->(∃v r t' w,u5 (ev (cc P<|n+6) z1) (oo (cc P<|n+6) xg) [x0,al<|.ref o,x2,al<|.int<|k] t=.ok (.next [x0,al<|.ref o,x2,al<|.int (w:Nat)]) t'/\(∀N,qo (ev (cc P<|n+6) z1) (oo (cc P<|n+6) xg) (xB (cc P<|n+6) C9) N [x0,al<|.ref o,x2,al<|.int<|k] t=aT)/\CI m t' o a b e v (T++r)/\tD t t' a b e/\FL m (T++r).length (T++r))\/(∃N t',qo (ev (cc P<|n+6) z1) (oo (cc P<|n+6) xg) (xB (cc P<|n+6) C9) N [x0,al<|.ref o,x2,al<|.int<|k] t=al ("TooMuch",t')/\(∃c,yU m c)/\tD t t' a b e)
 |0,k,L,T,t,c,h,hk,_=>by have Z:=h.cl.le;rw[aw]at Z;omega|J+1,k,L,T,t,c,h,hk,r=>by
  have Z:=h.cl.le;rw[aw]at Z;have c:(L.map eH.d).length=T.length:=by rw[h.cl.len,aw]
  have d:bi .len [.ref a] t=.ok (.int T.length) t:=by rw[qY h.cl.stp,c]
  have c:ev (cc P<|n+6) z1 [x0,al<|.ref o,x2,al<|.int (k:Int)] t=.ok (.T<|decide<|(k:Int)<(T.length:Int)) t:=by unfold z1;simp only[zz,jw,i4,zH,zF,R.ax,zx,zD,lt_int,zV,Dx h.cl.ins,d]
  by_cases hlt:k<T.length
  .rw[gv<|by lia]at c;obtain⟨f,Y⟩:∃f,T[k]?=al f:=(Ae _<|aj hlt);have l:∀{u:cn}{L:List eH}{T:List<|Nat->Nat->Int}(_:CI m u o a b e L T)(q:String),ex (cc P<|n+6) (.ex<|.cq (.X 1) q<|.ex (.X 3) .nil) [x0,al<|.ref o,x2,al<|.int (k:Int)] u=((cc P<|n+6).cq "ClosedSet" q [.ref o,.int k] u).bind λ_ s=>.ok (.next [x0,al<|.ref o,x2,al<|.int (k:Int)]) s:=λ{u L T}r q=>by show(ev (cc P<|n+6) (.cq (.X 1) q<|.ex (.X 3) .nil) [x0,al<|.ref o,x2,al<|.int (k:Int)] u).bind _=_;rw[jI];simp only[zz,zU,qw,R.ax,zx,zD,BC r.cl.ins]
   have mx:∀{u:cn}{L:List eH}{T:List<|Nat->Nat->Int}(_:CI m u o a b e L T)(q:String),xB (cc P<|n+6) (.cq (.X 1) q<|.ex (.X 3) .nil) [x0,al<|.ref o,x2,al<|.int (k:Int)] u=(cc P<|n+6).xm "ClosedSet" q [.ref o,.int k] u:=λ{u L T}r q=>JF rfl (BC r.cl.ins) (by simp_all);rcases tsharp_any (P:=P) (ts:=ts) n hm h Y with⟨s1,a,a,q,F,e,y,s⟩|⟨q,s1,e,y,s⟩
   .rcases tpairs_any (P:=P) (ts:=ts) n hm e<|aC hlt▸Y with⟨p,L2,b,z,C,E,u⟩|⟨z,p,C,E,u⟩
    .have hb:oo (cc P<|n+6) xg [x0,al<|.ref o,x2,al<|.int (k:Int)] t=.ok (.next [x0,al<|.ref o,x2,al<|.int ((k+1:Nat):Int)]) p:=by have d:ex (cc P<|n+6) (.aug 3<|.K<|.int 1) [x0,al<|.ref o,x2,al<|.int (k:Int)] p=.ok (.next [x0,al<|.ref o,x2,al<|.int ((k+1:Nat):Int)]) p:=U0 rfl rfl rfl;unfold xg clS HU;rw[za,l h,q,R.ax,R.ax,zb,za,l e,z,R.ax,R.ax,zb,za,d,R.ax,zb,zr]
     have d:∀{x:D}{A B:List<|Nat->Nat->Int},x∈A.map (gd m.R)->x∈(A++B).map (gd m.R):=λg=>by rw[aP];exact bq _ g
     have A:FL m (k+1) (T++a++b):=λi m hi g=>by
      have j:i<T.length:=by lia
      have x:T[i]?=al m:=by rw[bf,aC j]at g;exact g
      by_cases g:i=k;.subst g;have:m=f:=az<|x▸Y;subst this;refine Ad (λv=>d<|y v) (λj g w f=>E j w g ?_);rw[aC<|by rw[aN];lia]at f;exact f
      .have hq:=r i m (by lia) x;refine Ad (λv=>d<|d<|hq.1 v) (λj g w f=>?_);have i:T[j]?=al g:=by rw[bf,aC<|by lia]at f;exact f
       have:=hq.2 j g w i;exact Ad (d<|d this.1) (d<|d this.2)
     rcases clw (ts:=ts) n hm J (k+1) L2 (T++a++b) p (by lia) C (by grind) A with⟨v,r,t',w,d,f,g,i,j⟩|⟨N,t',d,f,g⟩
     .refine .inl<|Ax v (a++b++r) t' w ?_ (λN=>?_) (by rw[<-bf,<-bf];exact g) ((s.trans u).trans i) (by rw[<-bf,<-bf];exact j);.rw[PR c hb];exact d
      .cases N with|zero=>rfl|succ N=>rw[OJ c hb];exact f N
     .exact .inr<|Ah (N+1) t' (by rw[OJ c hb];exact d) f<|(s.trans u).trans g
    .refine .inr<|Ah 1 p ?_ E<|s.trans u;have hb:oo (cc P<|n+6) xg [x0,al<|.ref o,x2,al<|.int (k:Int)] t=.B:=by unfold xg clS HU;rw[za,l h,q,R.ax,R.ax,zb,za,l e,z];rfl
     rw[Pn c hb];unfold C9;rw[MS<|by rw[mx h];exact F,Fb (U1:=[x0,al<|.ref o,x2,al<|.int (k:Int)]) (s1:=s1)<|by unfold clS;rw[l h,q];rfl,mx e];exact C
   .refine .inr<|Ah 1 s1 ?_ (Ae _ y) s;have hb:oo (cc P<|n+6) xg [x0,al<|.ref o,x2,al<|.int (k:Int)] t=.B:=by unfold xg clS;rw[za,l h,q];rfl
    rw[Pn c hb];exact MC<|by rw[mx h];exact e
  .rw[ij<|by lia]at c;have a:k=T.length:=by lia
   refine .inl<|Ax L [] t k (Mm c) (aY0 c) (by simp_all) tD.refl ?_;simp_all
end
def wo{L}(h:(uV.take L)[j]?=al d):j<3/\j<L/\d=.str [97+j]:=by
 have a:j<L:=by have:=(ae.mp h).1;rw[bL]at this;lia
 rw[dm a]at h;match j,h with|0,h=>exact Ai (by lia) a (az h).symm|1,h=>exact Ai (by lia) a (az h).symm|2,h=>exact Ai (by lia) a (az h).symm|j+3,h=>simp[]at h
def Ms q s:mk .tuple q s=.ok (.tp q) s:=rfl
def Pk(h:s[r]?=al (.J l)):xK (.ref r) s=.ok l s:=by unfold xK;simp only[h]
def Iu{s t:cn}(J:s.length<=t.length)(h:∀i,i<s.length->t[i]?=s[i]?):∃G,t=s++G:=by
 refine⟨t.drop s.length,?_⟩;have:t.take s.length=s:=by
  apply gT;intro i;by_cases hi:i<s.length;.rw[dm hi,h i hi]
  .rw[b9<|by rw[bL];omega,b9<|by omega]
 conv=>lhs;rw[<-iW s.length t,this]
def Dn{R}{T:List<|Nat->Nat->Int}(h:gd R f∈T.map (gd R)):∃(i:Nat)(g:Nat->Nat->Int),T[i]?=al g/\vA R f g:=AE (ar.mp h) λg J e=>AF (fX J) λi hi=>Af i g hi<|GW e.symm
def Yl(h:FL m T.length T)(a:∀c,97<=c->c<97+m.L->gd m.R (sV m c)∈T.map (gd m.R))(k:s9 m x):x∈T.map (gd m.R):=by
 refine k.KI a (λf g b c=>?_) λf b f=>?_
 .refine AD (Dn b) λi a hi J=>AD (Dn c) λj e c d=>?_;have Y:=(ae.mp hi).1;rw[A0<|ET J d];by_cases d:j<i+1;.exact((h i a Y hi).2 j e d c).1
  .exact((h j e ((ae.mp c).1) c).2 i a (by lia) hi).2
 .exact AD (Dn b) λi a hi J=>have Y:=(ae.mp hi).1;A0 (Qa J)▸(h i a Y hi).1 (Od J f)
def t6.Ei{L}(h:t6 m L T)(a:x∈T.map (gd m.R)):s9 m x:=by obtain⟨f,J,rfl⟩:=ar.mp a;exact h.cl f J
section
variable{P:Pr}[lb P "ClosedSet" "take" u7][ee P "MOST_TABLES"<|.int 80][hQ P "ClosedSet" "take" vx][bc P t5][bc P uX][dy P uY][bc P vZ][bc P vQ][bc P wq][dy P wt][ee P "FREE"<|.int 0][ee P "UNBOUND"<|.int 2][ee P "NONE"<|.int 3][lb P "ClosedSet" "take_sharp" xx][hQ P "ClosedSet" "take_sharp" yw][lb P "ClosedSet" "take_pairs" xw][hQ P "ClosedSet" "take_pairs" xP][lb P "ClosedSet" "__init__" yx][sv P "ClosedSet" tL][sv P "ClosedSet" uM][sv P "ClosedSet" uv][ee P "SOME"<|.int 1][bc P xo][bc P xp][dy P xq][bc P vi][bc P vy][bc P vO][bc P vR][bc P vT][dy P vU][bc P vL][dy P vP][bc P vN][dy P vS][bc P v3][bc P xr][bc P xR][ee P "LETTERS"<|.tp uV]
def Y5[hE:uA P "TooMuch" ts]n(J:m.Ok)(hs:s.all O.eU=bY):∃(L:List eH)(T:List<|Nat->Nat->Int)(t:cn)(x:Option D),ex (cc P<|n+6) Ek [al m.d,al<|.ref s.length,aT,aT] (vB s)=.ok (.next [al m.d,al<|.ref s.length,x,aT]) t/\CI m t s.length (s.length+1) (s.length+2) (s.length+3) L T/\tD (vB s) t (s.length+1) (s.length+2) (s.length+3)/\∀c,97<=c->c<97+m.L->gd m.R (sV m c)∈T.map (gd m.R):=by
 have a:=J.L3;have a:=Oo (P:=P) (n+5) J.L3;have e:∀u,(cc P<|n+6).call "letters_of" [m.d] u=.ok (.tp<|uV.take m.L) u:=(a _);refine AD (qF (g:=turn (cc P<|n+6) (.Y 2) FW) (λj U t=>∃(L:List eH)(T:List<|Nat->Nat->Int)(x:Option D),U=[al m.d,al<|.ref s.length,x,aT]/\CI m t s.length (s.length+1) (s.length+2) (s.length+3) L T/\tD (vB s) t (s.length+1) (s.length+2) (s.length+3)/\T.length<=j/\∀i,i<j->gd m.R (sV m<|97+i)∈T.map (gd m.R))
  (uV.take m.L) 0 [al m.d,al<|.ref s.length,aT,aT] (vB s) (Av [] [] aT rfl (SA hs) tD.refl (ak _) (λi hi=>iN hi<|cN _)) (λ_ _ _ _ _=>rfl) (by
  rintro j d U t c⟨L,T,x,rfl,b,fr,hT,a⟩;rw[bM]at hT a⊢;obtain⟨d,d,rfl⟩:=wo c;refine AE (js (P:=P) n J [97+j] (by simp) b.nc) λg c d=>?_;have Y:=A0<|c.Hy<|va.ua m _;have c:tY (cc P<|n+6) El [al m.d,al<|.ref s.length,al<|.str [97+j],aT] t=.ok [(eH.l6<|97+j).d,gd m.R g] t:=by unfold El;simp only[zz,jx,q0,qX,zH,zF,zU,qw,k4,R.ax,zx,zD,d];rfl
  have Z:ex (cc P<|n+6) (.ex<|.cq (.X 1) "take" El) [al m.d,al<|.ref s.length,al<|.str [97+j],aT] t=((cc P<|n+6).cq "ClosedSet" "take" [.ref s.length,(eH.l6<|97+j).d,gd m.R g] t).bind λ_ u=>.ok (.next [al m.d,al<|.ref s.length,al<|.str [97+j],aT]) u:=by show(ev (cc P<|n+6) (.cq (.X 1) "take" El) [al m.d,al<|.ref s.length,al<|.str [97+j],aT] t).bind _=_;rw[jI];simp only[zz,R.ax,zx,zD,BC b.cl.ins,c]
  rcases take_any1 (P:=P) (ts:=ts) (n+5) J b (.l6 (97+j) b.ms (by lia) (by lia)) Y with⟨b,c,d,f,g,g,h,i,k⟩|⟨_,_,_,k,_⟩
  .refine⟨[al m.d,al<|.ref s.length,al<|.str [97+j],aT],b,.inl ?_,c,T++d,_,rfl,g,fr.trans i,?_,λi hi=>?_⟩;.show oo (cc P<|n+6) FW [al m.d,al<|.ref s.length,al<|.str [97+j],aT] t=_;unfold FW;rw[za,Z,f,R.ax,R.ax,zb,zr]
   .rw[aN];lia
   .by_cases hij:i=j;.exact hij▸h
    .exact aP▸bq _ (a i<|by lia)
  .omega)) λU' t d h=>?_;obtain⟨L,T,x,rfl,b,fr,_,a⟩:=h;refine⟨L,T,t,x,?_,b,fr,λc b h2=>?_⟩;.unfold Ek;rw[kc];simp only[zz,qX,zU,qw,l4,R.ax,zx,e];rw[show uD (D.tp<|uV.take m.L) (vB s)=.ok ⟨uV.take m.L,[]⟩ (vB s)from rfl,R.ax];exact d
 .have:=a (c-97) (by rw[bM,bL];show c-97<min m.L 3;lia);rwa[show 97+(c-97)=c by omega]at this
def closed_any[bc P yX][xA P "closed" xQ]{ts}[hE:uA P "TooMuch" ts]n{m}(Y:m.Ok){s}(hs:s.all O.eU=bY):(∃L T,(cc P<|n+7).call "closed" [m.d] s=.ok (.tp<|L.map eH.d) s/\(cc P<|n+7).xcall "closed" [m.d] s=aT/\t6 m L T/\(T.map<|gd m.R).Nodup/\T.length<=80/\∀x,s9 m x↔x∈T.map (gd m.R))\/(∃a,(cc P<|n+7).xcall "closed" [m.d] s=al ("TooMuch",a)/\(∃T,yU m T)/\∃G,a=s++G):=by
 have Z:(cc P<|n+7).call "closed" [m.d] s=_:=zg yX rfl;have d:(cc P<|n+7).xcall "closed" [m.d] s=_:=V1 xQ rfl;rw[aN9,show(bv al [m.d]++ay yX.vs aT)=[al m.d,aT,aT,aT]from rfl]at Z;rw[show(bv al [m.d]++ay xQ.vs aT)=[al m.d,aT,aT,aT]from rfl]at d;have g:ex (cc P<|n+6) (.A (.Y 1) (.new "ClosedSet" .nil)) [al m.d,aT,aT,aT] s=.ok (.next [al m.d,al<|.ref s.length,aT,aT]) (vB s):=by rw[jc,Y8<|n+4,R.ax];rfl
 refine AM (Y5 (P:=P) (ts:=ts) n Y hs) λL T t x h Zz=>AI Zz λhc fr k=>?_;have j:ex (cc P<|n+6) (.A (.Y 3) (.K<|.int 0)) [al m.d,al<|.ref s.length,x,aT] t=.ok (.next [al m.d,al<|.ref s.length,x,al<|.int ((0:Nat):Int)]) t:=by simp_all
 have a:xB (cc P<|n+6) xQ.body [al m.d,aT,aT,aT] s=tj (ev (cc P<|n+6) z1) (oo (cc P<|n+6) xg) (xB (cc P<|n+6) C9) [al m.d,al<|.ref s.length,x,al<|.int ((0:Nat):Int)] t:=by show xB (cc P<|n+6) (.seq (.A (.Y 1) (.new "ClosedSet" .nil)) (.seq Ek<|.seq (.A (.Y 3) (.K<|.int 0)) (.tj z1 xg C9))) _ _=_;rw[Fb g,Fb h,Fb j];rfl
 rw[a]at d;rcases clw (P:=P) (ts:=ts) n Y 81 0 L T t (by lia) hc (cz _) (λi f hi=>iN hi<|cN _)with⟨c,i,t',a,e,f,a,b,l⟩|⟨N,t',e,f,b⟩
 .refine .inl ⟨c,T++i,?_,d▸WS f,a.ms,a.nd,by have:=a.cl.le;rwa[aw]at this,λy=>⟨(Yl l<|λc i h2=>by rw[aP];exact bq _<|k c i h2),a.ms.Ei⟩⟩;have J:(vB s).length=s.length+4:=by unfold vB;simp
  refine AF (Iu (s:=s) (by rw[b.len,fr.len,J];lia) λi hi=>by rw[b.old i (by lia) (by lia) (by lia),fr.old i (by omega) (by omega) (by omega)];unfold vB;rw[aC hi]) λG c=>?_;rw[Z,za,g,R.ax,zb,za,h,R.ax,zb,za,j,R.ax,zb,za,yk,e,R.ax,zb];simp only[za,dt,zz,rZ,tW,R.ax,zx,zD,jo,ju,zV,Dx a.cl.ins,Pk a.cl.stp,Ms];exact c▸zO (ZC) (by nofun)
 .have J:(vB s).length=s.length+4:=by unfold vB;simp
  exact .inr<|Ag t' (d▸aY8 e) f<|Iu (by rw[b.len,fr.len,J];omega) λi hi=>by rw[b.old i (by omega) (by omega) (by omega),fr.old i (by omega) (by omega) (by omega)];unfold vB;rw[aC hi]
end
theorem MR{R}:∀F:List<|Nat->Nat->Int,C8 s (gd R f) (F.map<|gd R)=al (decide<|gd R f∈F.map (gd R))|[]=>rfl|g::F=>by obtain⟨b,e,h⟩:=NA;show(match eqv s tO (gd R g) (gd R f),C8 s (gd R f) (F.map<|gd R)with|some a,al b=>al<|a||b|_,_=>aT)=_;rw[e,MR F];show al (b||decide (gd R f∈F.map (gd R)))=_;congr 1;rw[f9,cf,iS,iS,aS,aE,h];exact⟨λz=>z.imp (λz=>(A0 z).symm) id,λz=>z.imp (λz=>GW z.symm) id⟩
def ES{R}{F:List<|Nat->Nat->Int}(h:s[p]?=al (.J<|F.map<|gd R))f:qv .pb (gd R f) (.ref p) s=.ok (.T<|!decide (gd R f∈F.map (gd R))) s:=by
 show(xH (gd R f) (.ref p) s).bind _=_;have e:xH (gd R f) (.ref p) s=.ok (decide<|gd R f∈F.map (gd R)) s:=by unfold xH;simp only[h,MR]
 rw[e];rfl
def Bx(R:Nat)(F:List<|Nat->Nat->Int):List (Nat->Nat->Int)->List (Nat->Nat->Int)|[]=>F|x::X=>Bx R (if gd R x∈F.map (gd R)then F else F++[x]) X
theorem Jc{R}:∀X F,(F.map<|gd R).Nodup->∃Uu,Bx R F X=F++Uu/\((F++Uu).map<|gd R).Nodup/\(∀f∈Uu,f∈X)/\(∀x∈X,gd R x∈(F++Uu).map (gd R))/\Uu.length<=X.length
 |[],F,h=>(An [] (by rw[aZ];rfl) (by simp_all) (λf J=>(nomatch J)) (λx c=>(nomatch c)) (ak _))|x::X,F,h=>by
  by_cases c:gd R x∈F.map (gd R)
  .refine AN (Jc X F h) λUu e Y Z d g=>An Uu (by unfold Bx;exact ef c▸e) Y (λf J=>ah _<|Z f J) (λy b=>?_) (by grind);rcases aE.mp b with rfl|b;.exact aP▸bq _ c
   .exact d y b
  .refine AN (Jc X (F++[x]) (aP▸EK h c:((F++[x]).map<|gd R).Nodup)) λUu e Y Z d g=>?_;rw[bf]at e Y d;refine An ([x]++Uu) (by unfold Bx;exact gc c▸e) Y (λf J=>?_) (λy b=>?_) (by simp;omega)
   .rcases aU.mp J with z|z;.exact aI.mp z▸ao ..
    .exact ah _<|Z f z
   .rcases aE.mp b with rfl|b;.rw[aP,aP];exact aR _<|bq _<|aI.mpr rfl
    .exact d y b
structure wy(m:Mc)(k:Nat)(F H:List<|Nat->Nat->Int):Prop where
 nd:(F.map<|gd m.R).Nodup
 hd:(H.map<|gd m.R).Nodup
 lt:∀c,97<=c->c<97+m.L->gd m.R (sV m c)∈H.map (gd m.R)sub:∀x∈H.map<|gd m.R,x∈F.map (gd m.R)gen:∀x∈F.map<|gd m.R,yZ m.R (λy=>y∈H.map (gd m.R)) x
 sk:∀i f h,i<k->F[i]?=al f->h∈H->gd m.R (pr m.R f h)∈F.map (gd m.R)rX:∀i f,i<k->F[i]?=al f->tm m.R f->gd m.R (sh m.R f)∈H.map (gd m.R)cl:∀f∈F,s9 m<|gd m.R f
def wy.all(h:wy m k F H)(a:F.length<=k)x:s9 m x↔x∈F.map (gd m.R):=by
 constructor
 .refineλhx=>XE h.lt h.sub h.gen (λa g b Y=>?_) (λa b a=>?_) hx;.exact AD (Dn b) λi f hi J=>AD (Dn Y) λj c d e=>A0 (ET J e)▸h.sk i f c (by grind) hi (aA d)
  .exact AD (Dn b) λi f hi J=>A0 (Qa J)▸h.rX i f (by grind) hi (Od J a)
 .intro hx;obtain⟨f,a,rfl⟩:=ar.mp hx;exact h.cl f a
set_option tactic.hygienic true in def wy.turn{m:Mc}{k:Nat}{F H Uu:List<|Nat->Nat->Int}(h:wy m k F H){f:Nat->Nat->Int}(hf:F[k]?=some f)(N:Bool)(hN:N=true↔tm m.R f/\gd m.R (sh m.R f)∉H.map (gd m.R))(nd:((F++Uu).map<|gd m.R).Nodup)(hU:∀g∈Uu,g∈H.map (pr m.R f)\/(N=true/\(g=sh m.R f\/∃o,o∈F/\g=pr m.R o (sh m.R f))))(hX:∀x∈H.map<|pr m.R f,gd m.R x∈(F++Uu).map (gd m.R))(hS:N=true->gd m.R (sh m.R f)∈(F++Uu).map (gd m.R)/\∀i o,i<k+1->F[i]?=some o->gd m.R (pr m.R o<|sh m.R f)∈(F++Uu).map (gd m.R)):wy m (k+1) (F++Uu) (if N=true then H++[sh m.R f]else H):=by
 have hk:k<F.length:=(ae.mp hf).1;have a0:f∈F:=aA hf;have up:∀{x:D},x∈F.map (gd m.R)->x∈(F++Uu).map (gd m.R):=λhx=>by rw[aP];exact bq _ hx
 have Z:∀{x:D},x∈H.map (gd m.R)->x∈(if N=true then H++[sh m.R f]else H).map (gd m.R):=λhx=>by
  split;.rw[aP];exact bq _ hx
  .exact hx
 have a2:∀g,g∈(if N=true then H++[sh m.R f]else H)->g∈H\/(N=true/\g=sh m.R f):=λg Y=>by
  split at Y
  .rename_i hn;rcases aU.mp Y with z|z;.exact .inl z
   .exact .inr ⟨hn,aI.mp z⟩
  .exact .inl Y
 have a1:∀i g,i<k+1->(F++Uu)[i]?=some g->F[i]?=some g:=λi g hi Y=>by rwa[aC<|by omega]at Y
 have a4:∀g∈H,s9 m<|gd m.R g:=λg Y=>c5 (ar.mp<|h.sub _<|ar.mpr ⟨g,Y,rfl⟩) λg' a3 e=>by rw[<-e];exact h.cl g' a3
 have clS:N=true->s9 m (gd m.R<|sh m.R f):=λn=>.ew f (h.cl f a0) (hN.mp n).1;refine⟨nd,?_,λc a b=>Z<|h.lt c a b,λx hx=>?_,λx hx=>?_,λi g q hi Y hq=>?_,λi g hi Y hs=>?_,λg Y=>?_⟩
 .split;.rename_i hn;rw[aP];exact EK h.hd (hN.mp hn).2
  .exact h.hd
 .obtain⟨g,Y,rfl⟩:=ar.mp hx;rcases a2 g Y with z|⟨n,rfl⟩;.exact up<|h.sub _<|ar.mpr ⟨g,z,rfl⟩
  .exact(hS n).1
 .obtain⟨g,Y,rfl⟩:=ar.mp hx;have gF:∀o,o∈F->yZ m.R (λy=>y∈(if N=true then H++[sh m.R f]else H).map (gd m.R)) (gd m.R o):=λo ho=>(h.gen _<|ar.mpr ⟨o,ho,rfl⟩).mono λ_=>Z;rcases aU.mp Y with z|z;.exact gF g z
  .rcases hU g z with w|⟨n,w⟩;.obtain⟨q,hq,rfl⟩:=ar.mp w;exact .more (gF f a0) (Z<|ar.mpr ⟨q,hq,rfl⟩)
   .have hs:gd m.R (sh m.R f)∈(if N=true then H++[sh m.R f]else H).map (gd m.R):=by rw[if_pos n,aP];exact aR _<|aI.mpr rfl
    rcases w with rfl|⟨o,ho,rfl⟩;.exact .Y hs
    .exact .more (gF o ho) hs
 .have J:=a1 i g (by omega) Y;rcases a2 q hq with z|⟨n,rfl⟩
  .by_cases hik:i=k
   .subst hik;have:g=f:=by rw[hf]at J;exact(az J).symm
    subst this;exact hX _<|ar.mpr ⟨q,z,rfl⟩
   .exact up<|h.sk i g q (by omega) J z
  .exact(hS n).2 i g (by omega) J
 .have J:=a1 i g (by omega) Y;by_cases hik:i=k
  .subst hik;have:g=f:=by rw[hf]at J;exact(az J).symm
   subst this;by_cases hq:gd m.R (sh m.R g)∈H.map (gd m.R);.exact Z hq
   .rw[if_pos<|hN.mpr ⟨hs,hq⟩,aP];exact aR _<|aI.mpr rfl
  .exact Z<|h.rX i g (by omega) J hs
 .rcases aU.mp Y with z|z;.exact h.cl g z
  .rcases hU g z with w|⟨n,rfl|⟨o,ho,rfl⟩⟩;.obtain⟨q,hq,rfl⟩:=ar.mp w;exact .pair f q (h.cl f a0) (a4 q hq)
   .exact clS n
   .exact .pair o _ (h.cl o ho) (clS n)
theorem JY{α:Type}(hok:ok u=bY)(E:Env->Prop)a b:∀(l:List α)U,E U->(∀d∈l,∀U,E U->∃U',g (a d) U u=.ok (al<|b d,U') u/\E U')->qE ok g (l.map a) U u=.ok (l.map b) u|[],U,_,_=>by show(if ok u=bY then _ else _)=_;simp_all|d::l,U,e,h=>by refine AE (h d (ao ..) U e) λU' d J=>?_;have d:=JY hok E a b l U' J λx a=>h x<|ah _ a;rw[aS,aS];show(if ok u=bY then _ else _)=_;simp_all
def Yx:A3.body=OT:=rfl
structure uF(s u:cn)(Ww:Nat)(F H:List<|Nat->Nat->Int):Prop where
 len:s.length+2<=u.length
 p:u[s.length]?=al (.J<|F.map<|gd Ww)q:u[s.length+1]?=al (.J<|H.map<|gd Ww)old:∀i,i<s.length->u[i]?=s[i]?
def uF.app(h:uF s u Ww F H)T:uF s (u++T) Ww F H:=⟨by rw[aN];have:=h.len;lia,qr h.p,qr h.q,λi hi=>by rw[aC<|by have:=h.len;lia];exact h.old i hi⟩
def uF.DX(h:uF s u Ww F H):uF s (u.set s.length<|.J<|F'.map<|gd Ww) Ww F' H:=⟨by rw[bw];exact h.len,qi<|by have:=h.len;lia,by rw[aD<|by lia];exact h.q,λi hi=>by rw[aD<|by lia];exact h.old i hi⟩
def uF.DW(h:uF s u Ww F H):uF s (u.set (s.length+1) (.J<|H'.map<|gd Ww)) Ww F H':=⟨by rw[bw];exact h.len,by rw[aD<|by lia];exact h.p,qi<|by have:=h.len;lia,λi hi=>by rw[aD<|by lia];exact h.old i hi⟩
section
variable{F':uQ}
def S5(h:uF s u Ww F H)(a:s.length+2<=J)(i:u[J]?=al (.J<|X.map<|gd Ww))(l:F.length+X.length<=1000)x0 x1 x3 x4 Z x6 x7 x9 x10:∃u' y,ex F' FD [x0,x1,al<|.ref s.length,x3,x4,Z,x6,x7,al<|.ref J,x9,x10] u=.ok (.next [x0,x1,al<|.ref s.length,x3,x4,Z,x6,x7,al<|.ref J,x9,y]) u'/\uF s u' Ww (Bx Ww F X) H:=by
 have key:∀(X':List<|Nat->Nat->Int)(a:List<|Nat->Nat->Int)(v:cn)(x10:Option D),uF s v Ww a H->v[J]?=al (.J<|X.map<|gd Ww)->a.length+X'.length<=1000->∃v' y,ux (λw=>n5 u w [J]) (turn F' (.Y 10) Bz) (X'.map<|gd Ww) [x0,x1,al<|.ref s.length,x3,x4,Z,x6,x7,al<|.ref J,x9,x10] v=.ok (.next [x0,x1,al<|.ref s.length,x3,x4,Z,x6,x7,al<|.ref J,x9,y]) v'/\uF s v' Ww (Bx Ww a X') H:=by intro X';induction X' with|nil=>refineλUu v x10 b Y _=>Af v x10 ?_ b;show(if n5 u v [J]=bY then _ else _)=_;rw[ef<|by unfold n5;simp_all]|cons x X' j=>
   intro a v x10 b Y e;rw[aQ]at e;have hok:n5 u v [J]=true:=by unfold n5;simp_all
   have e:=ES b.p x;by_cases k:gd Ww x∈a.map (gd Ww)
   .rw[gv k]at e;refine AD (j a v (al<|gd Ww x) b Y<|by lia) λv' y f g=>Af v' y ?_ (by unfold Bx;simp_all);rw[aS];show(if n5 u v [J]=bY then(turn F' (.Y 10) Bz (gd Ww x) _ v).bind _ else _)=_;rw[ef hok];have:turn F' (.Y 10) Bz (gd Ww x) [x0,x1,al<|.ref s.length,x3,x4,Z,x6,x7,al<|.ref J,x9,x10] v=.ok (.next [x0,x1,al<|.ref s.length,x3,x4,Z,x6,x7,al<|.ref J,x9,al<|gd Ww x]) v:=by unfold turn Bz;simp_all
    simp_all
   .rw[ij k]at e;have k:=zE (v:=gd Ww x) b.p (by rw[aw];unfold ky;lia);have f:a.map (gd Ww)++[gd Ww x]=(a++[x]).map (gd Ww):=by simp_all
    rw[f]at k;refine AD (j (a++[x]) (v.set s.length<|.J<|(a++[x]).map<|gd Ww) (al<|gd Ww x) b.DX (by grind) (by grind)) λv' y f g=>Af v' y ?_ (by unfold Bx;grind);rw[aS];show(if n5 u v [J]=bY then(turn F' (.Y 10) Bz (gd Ww x) _ v).bind _ else _)=_;rw[ef hok];have:turn F' (.Y 10) Bz (gd Ww x) [x0,x1,al<|.ref s.length,x3,x4,Z,x6,x7,al<|.ref J,x9,x10] v=.ok (.next [x0,x1,al<|.ref s.length,x3,x4,Z,x6,x7,al<|.ref J,x9,al<|gd Ww x]) (v.set s.length<|.J<|(a++[x]).map<|gd Ww):=by unfold turn Bz;simp only[zS,za,zr,qO,mj,zz,jw,jY,zH,zF,R.ax,zA,qP,qf,zx,zD,Option.map_some,zb,z0,if_true,Bool.not_false,e,zS,k]
    exact this▸f
 refine AD (key X F u x10 h i l) λu' y f g=>Af u' y ?_ g;unfold FD;rw[kc];have a:uD (.ref J) u=.ok ⟨X.map<|gd Ww,[J]⟩ u:=by simp only[uD,i]
 simp_all
end
def Rj{l:List D}{k:Nat}:BO l aT (al<|k)=l.take (min k l.length):=by unfold BO;simp only[Ea,FH,DZ,lh,if_true,d6,eA,lJ]
def Mn a hi:ev F (.yN a hi) U s=(ev F a U s).bind λx s=>(ev F hi U s).bind λy s=>match y with|.int i=>Bm x aT (al i) s|_=>.B:=rfl
section
variable{P:Pr}[bc P vz][bc P wO]
def Ue n(Uu:m<=5){H:List<|Nat->Nat->Int}(hq:u[b]?=al (.J<|H.map<|gd m))(hl:H.length<=1000)x0 x1 x2 Z Y x6 x8 x9 x10:ev (cc P<|n+1) (.mk .list C6) [x0,x1,x2,al<|.ref b,Z,Y,x6,al<|gd m f,x8,x9,x10] u=.ok (.ref u.length) (u++[.J<|(H.map<|pr m f).map<|gd m]):=by have c:qE (λJ=>n5 u J [b]) (qd (cc P<|n+1) (.Y 0) (.call "_law_product"<|.ex (.X 1) (.ex (.X 0) .nil))) (H.map<|gd m) [aT,al<|gd m f] u=.ok (H.map λh=>gd m<|pr m f h) u:=JY (by unfold n5;simp) (λU=>∃x,U=[x,al<|gd m f]) (gd m) (λh=>gd m<|pr m f h) H _ (Ae aT rfl) (by rintro h _ U⟨x,rfl⟩;refine⟨[al<|gd m h,al<|gd m f],?_,_,rfl⟩;unfold qd;simp only[zz,qX,zU,qw,R.ax,zA,qf,zx,zD,je n Uu f h u]);unfold C6;simp only[zz,rZ,l4,R.ax,zx,zD,qU,(by simp only[uD,hq]:uD (.ref b) u=.ok ⟨H.map<|gd m,[b]⟩ u)];rw[ef<|by rw[aw];unfold ky;lia,show zP [x0,x1,x2,al<|.ref b,Z,Y,x6,al<|gd m f,x8,x9,x10] [aT,al 7]=[aT,al<|gd m f]from rfl,c];rw[cG];rfl
def Th n(Uu:m<=5){k:Nat}{F:List<|Nat->Nat->Int}(hp:u[p]?=al (.J<|F.map<|gd m))(hl:F.length<=1000)x0 x1 x3 Z Y x7 x8 x10:ev (cc P<|n+1) (.mk .list C5) [x0,x1,al<|.ref p,x3,Z,Y,al<|.int (k:Int),x7,x8,al<|gd m f,x10] u=.ok (.ref<|u.length+1) (u++[.J<|(F.take<|k+1).map<|gd m,.J<|((F.take<|k+1).map λo=>pr m o f).map<|gd m]):=by
 have sl:Bm (.ref p) aT (al ((k+1:Nat):Int)) u=.ok (.ref u.length) (u++[.J<|(F.take<|k+1).map<|gd m]):=by unfold Bm;simp only[hp];rw[Rj,nD,show∀l:List D,l.take (min (k+1) l.length)=l.take (k+1)fromλl=>by simp_all];rfl
 have b:qE (λJ=>n5 (u++[.J<|(F.take<|k+1).map<|gd m]) J [u.length]) (qd (cc P<|n+1) (.Y 0) (.call "_law_product"<|.ex (.X 0) (.ex (.X 1) .nil))) ((F.take<|k+1).map<|gd m) [aT,al<|gd m f] (u++[.J<|(F.take<|k+1).map<|gd m])=.ok ((F.take<|k+1).map λh=>gd m<|pr m h f) (u++[.J<|(F.take<|k+1).map<|gd m]):=JY (by unfold n5;simp) (λU=>∃x,U=[x,al<|gd m f]) (gd m) (λh=>gd m<|pr m h f) (F.take<|k+1) _ (Ae aT rfl) (by rintro h _ U⟨x,rfl⟩;refine⟨[al<|gd m h,al<|gd m f],?_,_,rfl⟩;unfold qd;simp only[zz,qX,zU,qw,R.ax,zA,qf,zx,zD,je (P:=P) n Uu h f<|u++[.J<|(F.take<|k+1).map<|gd m]]);unfold C5;simp only[zz,jx,kl,rZ,l4,jG,R.ax,zx,zD,add_int,qU,Mn];rw[show(k:Int)+1=((k+1:Nat):Int)by lia,sl];simp only[R.ax,(by simp only[uD,wQ]:uD (.ref u.length) (u++[.J<|(F.take<|k+1).map<|gd m])=.ok ⟨(F.take<|k+1).map<|gd m,[u.length]⟩ (u++[.J<|(F.take<|k+1).map<|gd m]))];rw[ef<|by rw[aw,bL];unfold ky;lia,show zP [x0,x1,al<|.ref p,x3,Z,Y,al<|.int (k:Int),x7,x8,al<|gd m f,x10] [aT,al 9]=[aT,al<|gd m f]from rfl,b];rw[cG];show R.ok _ _=_;rw[aN,bf];rfl
end
def yp(Ww k:Nat)(F H:List<|Nat->Nat->Int)(f:Nat->Nat->Int)(N:Bool):List<|Nat->Nat->Int:=H.map (pr Ww f)++(if N=bY then sh Ww f::(F.take<|k+1).map (λo=>pr Ww o<|sh Ww f)else[])
section
variable{P:Pr}[bc P vz][bc P wO]
def YS(n:Nat){Ww:Nat}(Y:Ww<=5){s u:cn}{F H:List<|Nat->Nat->Int}(h:uF s u Ww F H){k:Nat}{f:Nat->Nat->Int}(hf:F[k]?=some f)(hl:F.length<=80)(c0:H.length<=80)(x0 x1 Uu J x7 x8 x9 x10:Option D)(nx:Ss):∃(N:Bool)(u':cn)(a8:Nat)(y9:Option D),(N=true↔tm Ww f/\gd Ww (sh Ww f)∉H.map (gd Ww))/\s.length+2<=a8/\u'[a8]?=some (.J<|(yp Ww k F H f N).map<|gd Ww)/\uF s u' Ww F (if N=true then H++[sh Ww f]else H)/\oo (cc P<|n+1) (.cons (.A (.Y 7) (.ix (.X 2) (.X 6))) (.cons (.A (.Y 8) (.mk .list C6)) (.cons (.ite C3 C4 .nil) nx))) [x0,x1,some<|.ref s.length,some<|.ref<|s.length+1,Uu,J,some<|.int (k:Int),x7,x8,x9,x10] u=oo (cc P<|n+1) nx [x0,x1,some<|.ref s.length,some<|.ref<|s.length+1,Uu,J,some<|.int (k:Int),some<|gd Ww f,some<|.ref a8,y9,x10] u':=by
 have b2:rW (.ref s.length) (.int (k:Int)) u=.ok (gd Ww f) u:=qK h.p (by rw[aF,hf];rfl);have e2:=Ue (P:=P) n Y (f:=f) h.q (by omega) x0 x1 (some<|.ref s.length) Uu J (some<|.int (k:Int)) x8 x9 x10;generalize hA:(H.map<|pr Ww f).map (gd Ww)=A at e2;have Z:=h.app [.J A];have b6:u.length=(u++[O.J A]).length-1:=by simp
 have g8:(u++[O.J A])[u.length]?=some (.J A):=wQ;have a1:s.length+2<=u.length:=h.len;have b3:oo (cc P<|n+1) (.cons (.A (.Y 7) (.ix (.X 2) (.X 6))) (.cons (.A (.Y 8) (.mk .list C6)) (.cons (.ite C3 C4 .nil) nx))) [x0,x1,some<|.ref s.length,some<|.ref<|s.length+1,Uu,J,some<|.int (k:Int),x7,x8,x9,x10] u=oo (cc P<|n+1) (.cons (.ite C3 C4 .nil) nx) [x0,x1,some<|.ref s.length,some<|.ref<|s.length+1,Uu,J,some<|.int (k:Int),some<|gd Ww f,some<|.ref u.length,x9,x10] (u++[.J A]):=by
  have s7:ex (cc P<|n+1) (.A (.Y 7) (.ix (.X 2) (.X 6))) [x0,x1,some<|.ref s.length,some<|.ref<|s.length+1,Uu,J,some<|.int (k:Int),x7,x8,x9,x10] u=.ok (.next [x0,x1,some<|.ref s.length,some<|.ref<|s.length+1,Uu,J,some<|.int (k:Int),some<|gd Ww f,x8,x9,x10]) u:=by simp-implicitDefEqProofs only[jc,zz,g6,R.ax,zA,qP,qf,zx,zD,Option.map_some,AA,b2]
  have s8:ex (cc P<|n+1) (.A (.Y 8) (.mk .list C6)) [x0,x1,some<|.ref s.length,some<|.ref<|s.length+1,Uu,J,some<|.int (k:Int),some<|gd Ww f,x8,x9,x10] u=.ok (.next [x0,x1,some<|.ref s.length,some<|.ref<|s.length+1,Uu,J,some<|.int (k:Int),some<|gd Ww f,some<|.ref u.length,x9,x10]) (u++[.J A]):=by rw[jc,e2,R.ax];rfl
  rw[za,s7,R.ax,zb,za,s8,R.ax,zb]
 rw[b3];generalize b1:u++[O.J A]=u1 at Z g8;have b4:u1.length=u.length+1:=by rw[<-b1];simp
 refine c5 (IF (s:=u1) (m:=Ww) (f:=pr Ww f f) (g:=f)) λb eb hb=>?_;have hT:ev (cc P<|n+1) C3 [x0,x1,some<|.ref s.length,some<|.ref<|s.length+1,Uu,J,some<|.int (k:Int),some<|gd Ww f,some<|.ref u.length,x9,x10] u1=.ok (.T b) u1:=by unfold C3;simp-implicitDefEqProofs only[zz,jw,qX,zU,qw,R.ax,zx,zD,je (P:=P) n Y f f u1,eb]
 by_cases hs:tm Ww f
 .have b0:b=true:=hb.mpr hs;subst b0;have e9:=Qc (P:=P) n Y f u1;have hn:=ES Z.q<|sh Ww f;by_cases hq:gd Ww (sh Ww f)∈H.map (gd Ww)
  .rw[decide_eq_true hq]at hn;refine⟨false,u1,u.length,some<|gd Ww<|sh Ww f,⟨λz=>(by cases z),λz=>absurd hq z.2⟩,a1,?_,Z,?_⟩;.rw[g8,<-hA];unfold yp;simp
   .rw[za,qO,hT,z0];unfold C4;simp-implicitDefEqProofs only[zS,za,zr,jc,qO,mj,zz,jw,qX,jY,zH,zF,zU,qw,R.ax,zA,qP,qf,zx,zD,Option.map_some,AA,zb,z0,if_true,if_false,Bool.false_eq_true,Bool.not_true,e9,hn]
  .rw[decide_eq_false hq]at hn;have ea:=zE (v:=gd Ww<|sh Ww f) Z.q (by rw[aw];unfold ky;omega);have em:H.map (gd Ww)++[gd Ww<|sh Ww f]=(H++[sh Ww f]).map (gd Ww):=by rw[aP];rfl
   rw[em]at ea;have h2:uF s (u1.set (s.length+1) (.J<|(H++[sh Ww f]).map<|gd Ww)) Ww F<|H++[sh Ww f]:=Z.DW;have a3:(u1.set (s.length+1) (.J<|(H++[sh Ww f]).map<|gd Ww))[u.length]?=some (.J A):=by rw[aD<|by omega];exact g8
   generalize c2:u1.set (s.length+1) (.J<|(H++[sh Ww f]).map<|gd Ww)=u2 at ea h2 a3;have c1:A.length=H.length:=by rw[<-hA];simp
   have a0:=JG (s:=u2++[.J [gd Ww<|sh Ww f]]) (a:=u.length) (b:=u2.length) (l:=A) (m:=[gd Ww<|sh Ww f]) (qr a3) wQ (by simp;unfold ky;omega);generalize a2:u2++[O.J [gd Ww<|sh Ww f]]++[O.J<|A++[gd Ww<|sh Ww f]]=u4 at a0;have h4:uF s u4 Ww F<|H++[sh Ww f]:=by rw[<-a2];exact(h2.app _).app _
   have g4:u4[(u2++[O.J [gd Ww<|sh Ww f]]).length]?=some (.J<|A++[gd Ww<|sh Ww f]):=by rw[<-a2];exact wQ
   have e5:=Th (P:=P) n Y (k:=k) (f:=sh Ww f) h4.p (by omega) x0 x1 (some<|.ref<|s.length+1) Uu J (some<|gd Ww f) (some<|.ref u.length) x10;generalize hB:((F.take<|k+1).map λo=>pr Ww o<|sh Ww f).map (gd Ww)=B at e5;generalize hC:(F.take<|k+1).map (gd Ww)=Cc at e5;have b5:B.length<=80:=by rw[<-hB];simp;omega
   have a5:=JG (s:=u4++[.J Cc,.J B]) (a:=(u2++[O.J [gd Ww<|sh Ww f]]).length) (b:=u4.length+1) (l:=A++[gd Ww<|sh Ww f]) (m:=B) (qr g4) (by rw[am<|by omega];simp) (by simp;unfold ky;omega);refine⟨true,u4++[.J Cc,.J B]++[.J<|A++[gd Ww<|sh Ww f]++B],(u4++[O.J Cc,.J B]).length,some<|gd Ww<|sh Ww f,⟨λ_=>⟨hs,hq⟩,λ_=>rfl⟩,?_,?_,(h4.app _).app _,?_⟩;.have:=h4.len;rw[aN];omega
   .rw[wQ,<-hA,<-hB];unfold yp;simp
   .rw[za,qO,hT,z0];unfold C4;have a4:∀(K:M D),((ev (cc P<|n+1) (.mk .list C5) [x0,x1,some<|.ref s.length,some<|.ref<|s.length+1,Uu,J,some<|.int (k:Int),some<|gd Ww f,some<|.ref u.length,some<|gd Ww<|sh Ww f,x10] u4).bind λy s=>xj .add (.ref (u2++[O.J [gd Ww<|sh Ww f]]).length) y s)=.ok (.ref (u4++[O.J Cc,.J B]).length) (u4++[.J Cc,.J B]++[.J<|A++[gd Ww<|sh Ww f]++B]):=λ_=>by rw[e5,R.ax,a5]
    have e8:ev (cc P<|n+1) (.G .add (.G .add (.X 8) (.J<|.cons (.X 9) .nil)) (.mk .list C5)) [x0,x1,some<|.ref s.length,some<|.ref<|s.length+1,Uu,J,some<|.int (k:Int),some<|gd Ww f,some<|.ref u.length,some<|gd Ww<|sh Ww f,x10] u2=.ok (.ref (u4++[O.J Cc,.J B]).length) (u4++[.J Cc,.J B]++[.J<|A++[gd Ww<|sh Ww f]++B]):=by
     have i1:ev (cc P<|n+1) (.G .add (.X 8) (.J<|.cons (.X 9) .nil)) [x0,x1,some<|.ref s.length,some<|.ref<|s.length+1,Uu,J,some<|.int (k:Int),some<|gd Ww f,some<|.ref u.length,some<|gd Ww<|sh Ww f,x10] u2=.ok (.ref (u2++[O.J [gd Ww<|sh Ww f]]).length) u4:=by simp-implicitDefEqProofs only[zz,kl,sP,zH,zF,R.ax,zx,zD,l5,a0]
     rw[kl,i1,R.ax,a4<|λs=>.B]
    have sA:ex (cc P<|n+1) (.A (.Y 9) (.call "_law_sharp"<|.ex (.X 7) .nil)) [x0,x1,some<|.ref s.length,some<|.ref<|s.length+1,Uu,J,some<|.int (k:Int),some<|gd Ww f,some<|.ref u.length,x9,x10] u1=.ok (.next [x0,x1,some<|.ref s.length,some<|.ref<|s.length+1,Uu,J,some<|.int (k:Int),some<|gd Ww f,some<|.ref u.length,some<|gd Ww<|sh Ww f,x10]) u1:=by simp-implicitDefEqProofs only[jc,zz,qX,zU,qw,R.ax,zA,qP,qf,zx,zD,Option.map_some,AA,e9]
    have sN:ev (cc P<|n+1) (.Z .pb (.X 9) (.X 3)) [x0,x1,some<|.ref s.length,some<|.ref<|s.length+1,Uu,J,some<|.int (k:Int),some<|gd Ww f,some<|.ref u.length,some<|gd Ww<|sh Ww f,x10] u1=.ok (.T true) u1:=by simp-implicitDefEqProofs only[zz,jw,R.ax,zx,zD,Bool.not_false,hn]
    have sM:ex (cc P<|n+1) (.ex<|.me .append (.X 3) (.cons (.X 9) .nil)) [x0,x1,some<|.ref s.length,some<|.ref<|s.length+1,Uu,J,some<|.int (k:Int),some<|gd Ww f,some<|.ref u.length,some<|gd Ww<|sh Ww f,x10] u1=.ok (.next [x0,x1,some<|.ref s.length,some<|.ref<|s.length+1,Uu,J,some<|.int (k:Int),some<|gd Ww f,some<|.ref u.length,some<|gd Ww<|sh Ww f,x10]) u2:=by simp-implicitDefEqProofs only[zS,mj,zz,jY,zH,zF,R.ax,zx,zD,zS,ea]
    have s8:ex (cc P<|n+1) (.A (.Y 8) (.G .add (.G .add (.X 8) (.J<|.cons (.X 9) .nil)) (.mk .list C5))) [x0,x1,some<|.ref s.length,some<|.ref<|s.length+1,Uu,J,some<|.int (k:Int),some<|gd Ww f,some<|.ref u.length,some<|gd Ww<|sh Ww f,x10] u2=.ok (.next [x0,x1,some<|.ref s.length,some<|.ref<|s.length+1,Uu,J,some<|.int (k:Int),some<|gd Ww f,some<|.ref (u4++[O.J Cc,.J B]).length,some<|gd Ww<|sh Ww f,x10]) (u4++[.J Cc,.J B]++[.J<|A++[gd Ww<|sh Ww f]++B]):=by rw[jc,e8,R.ax];rfl
    rw[if_pos rfl,za,sA,R.ax,zb,za,qO,sN,z0,if_pos rfl,za,sM,R.ax,zb,za,s8,R.ax,zb,zr,R.ax,zb,zr,R.ax,zb]
 .have a6:b=false:=by cases b with|true=>exact absurd (hb.mp rfl) hs|false=>rfl
  subst a6;refine⟨false,u1,u.length,x9,⟨λz=>(by cases z),λz=>absurd z.1 hs⟩,a1,?_,Z,?_⟩;.rw[g8,<-hA];unfold yp;simp
  .rw[za,qO,hT,z0];simp-implicitDefEqProofs only[zr,R.ax,zb,if_false,Bool.false_eq_true]
end
def aW4(h:∀i,i<s.length->u[i]?=s[i]?)(J:s.length<u.length)(a:u[s.length]?=al o)(b:o.eu s.length=bY):nf s (.ref s.length) u=.ok (.ref s.length) (s++[o]):=by obtain⟨G,rfl⟩:=Iu (by lia) h;unfold nf;rw[ef<|GK s G];simp only[bO,if_false,a,b,if_true];rw[List.take_left]
section
variable{P:Pr}[bc P vz][bc P wO]
theorem KC(n:Nat){m:Mc}(v:m.Ok){s:cn}(b Y J:Option D):∀(h k:Nat)(F H:List<|Nat->Nat->Int)(u:cn)(e x8 x9 x10:Option D),81<=h+k->uF s u m.R F H->wy m k F H->k<=F.length->F.length<=1000->∃(F' H':List<|Nat->Nat->Int)(j:cn)(y6 p q c r:Option D),u5 (ev (cc P<|n+1) FE) (oo (cc P<|n+1) FF) [b,al<|.int 80,al<|.ref s.length,al<|.ref<|s.length+1,Y,J,al<|.int (k:Int),e,x8,x9,x10] u=.ok (.next [b,al<|.int 80,al<|.ref s.length,al<|.ref<|s.length+1,Y,J,y6,p,q,c,r]) j/\uF s j m.R F' H'/\(F'.map<|gd m.R).Nodup/\(∀f∈F',s9 m<|gd m.R f)/\F'.length<=1000/\(F'.length<=80->∀x,s9 m x↔x∈F'.map (gd m.R))
 |h,k,F,H,u,e,x8,x9,x10,g,t,d,a,A=>by
  have a:bi .len [.ref s.length] u=.ok (.int F.length) u:=by rw[qY t.p,aw]
  have l:ev (cc P<|n+1) FE [b,al<|.int 80,al<|.ref s.length,al<|.ref<|s.length+1,Y,J,al<|.int (k:Int),e,x8,x9,x10] u=.ok (.T<|decide (k<F.length)&&decide (F.length<=80)) u:=by
   unfold FE;simp only[zz,jw,ox,i4,zH,zF,R.ax,zx,zD,lt_int,le_int,z0,a];have a:decide ((k:Int)<(F.length:Int))=decide (k<F.length):=by rw[decide_eq_decide];omega
   have c:decide ((F.length:Int)<=80)=decide (F.length<=80):=by rw[decide_eq_decide];omega
   rw[a,c];cases decide<|k<F.length<;>rfl
  by_cases a:k<F.length/\F.length<=80
  .rw[gv a.1,gv a.2]at l;obtain⟨f,i⟩:∃f,F[k]?=al f:=(Ae _<|aj a.1);have c:H.length<=F.length:=by have:=IH d.hd (m:=F.map<|gd m.R) d.sub;rwa[aw,aw]at this
   refine AM (YS (P:=P) n v.R5 t i a.2 (by omega) b (al<|.int 80) Y J e x8 x9 x10<|.cons FD<|.cons (.A (.Y 6) (.G .add (.X 6) (.K<|.int 1))) .nil) λN c j c q Zz=>AU Zz λh8 p r B=>?_;match h,g with
   |0,g=>omega|h+1,g=>
    have g:(yp m.R k F H f N).length<=300:=by
     unfold yp;rw[aN,aw];split;.rw[aQ,aw,bL];omega
     .simp;omega
    refine AD (S5 (F':=cc P<|n+1) r h8 p (by omega) b (al<|.int 80) (al<|.ref<|s.length+1) Y J (al<|.int (k:Int)) (al<|gd m.R f) c x10) λu2 y r p=>AN (Jc (yp m.R k F H f N) F d.nd) λUu g x z Z C=>?_;rw[g]at p;have C:=d.turn i N q x (λg i=>by
     have:=z g i;unfold yp at this;rcases aU.mp this with z|z;.exact .inl z
     .cases N with|false=>cases z|true=>
       refine .inr<|Ad rfl ?_;rcases aE.mp z with z|z;.exact .inl z
       .obtain⟨o,ho,rfl⟩:=ar.mp z;exact .inr<|Ac o (et ho) rfl) (λx g=>Z x<|by unfold yp;exact bq _ g) (λg=>by subst g;refine Ad (Z _<|by unfold yp;exact aR _<|ao ..) (λi o hi ho=>Z _ ?_);unfold yp;refine aR _<|ah _<|ar.mpr<|Ac o ?_ rfl;exact aA (i:=i)<|by rw[dm hi];exact ho);have g:oo (cc P<|n+1) FF [b,al<|.int 80,al<|.ref s.length,al<|.ref<|s.length+1,Y,J,al<|.int (k:Int),e,x8,x9,x10] u=.ok (.next [b,al<|.int 80,al<|.ref s.length,al<|.ref<|s.length+1,Y,J,al<|.int ((k+1:Nat):Int),al<|gd m.R f,al<|.ref j,c,y]) u2:=by
     have e:ex (cc P<|n+1) (.A (.Y 6) (.G .add (.X 6) (.K<|.int 1))) [b,al<|.int 80,al<|.ref s.length,al<|.ref<|s.length+1,Y,J,al<|.int (k:Int),al<|gd m.R f,al<|.ref j,c,y] u2=.ok (.next [b,al<|.int 80,al<|.ref s.length,al<|.ref<|s.length+1,Y,J,al<|.int ((k+1:Nat):Int),al<|gd m.R f,al<|.ref j,c,y]) u2:=by simp only[jc,zz,jx,kl,jG,R.ax,zA,qP,qf,zx,zD,Option.map_some,AA,add_int];rw[show(k:Int)+1=((k+1:Nat):Int)by omega]
     unfold FF;rw[B,za,r,R.ax,zb,za,e,R.ax,zb,zr]
    exact AJ (KC n v b Y J h (k+1) (F++Uu) _ u2 (al<|gd m.R f) (al<|.ref j) c y (by omega) p C (by rw[aN];omega) (by rw[aN];omega)) λF' H' j Zz=>AJ Zz λy6 p q Zz=>AD Zz λa4 r b c=>⟨F',H',j,y6,p,q,a4,r,by rw[PR l g];exact b,c⟩
  .have a5:(decide (k<F.length)&&decide (F.length<=80))=false:=by
    rw[Bool.and_eq_false_iff];by_cases z:k<F.length;.exact .inr<|ij λy=>a<|Ad z y
    .exact .inl<|ij z
   rw[a5]at l;exact⟨F,H,u,_,_,_,_,_,Mm l,t,d.nd,d.cl,A,λb x=>d.all (by by_cases z:k<F.length;exact iN (Ad z b) a;omega) x⟩
end
def YL{L}(h:(([97,98,99]:List Nat).take L|>.map λc=>D.str [c])[j]?=al d):j<L/\d=.str [97+j]:=by rw[(by rw[nD];rfl:(([97,98,99]).take L|>.map λc=>D.str [c])=uV.take L)]at h;exact AI (wo h) λ_ a b=>Ad a b
section
variable{P:Pr}[bc P vz][bc P wO][bc P xS]
def TZ(n:Nat){m:Mc}(h:m.Ok){s u:cn}(o:uF s u m.R [] [])(a e l b d x8 x9 x10:Option D):∃(F:List<|Nat->Nat->Int)(k:cn)(Z Y:Option D),ex (cc P<|n+1) Ht [al m.d,a,al<|.ref s.length,al<|.ref<|s.length+1,e,l,b,d,x8,x9,x10] u=.ok (.next [al m.d,a,al<|.ref s.length,al<|.ref<|s.length+1,Z,Y,b,d,x8,x9,x10]) k/\uF s k m.R F F/\wy m 0 F F/\F.length<=3:=by
 have c:=h.L3;have c:=h.L1;have sl:Bm (.str [97,98,99]) aT (al (m.L:Int)) u=.ok (.str<|([97,98,99]:List Nat).take m.L) u:=by show R.ok (D.str<|BO [97,98,99] aT<|al (m.L:Int)) u=_;congr 2;unfold BO;simp only[Ea,FH,DZ,lh,if_true,d6,eA,lJ];rcases(by omega:m.L=1\/m.L=2\/m.L=3)with z|z|z<;>rw[z]<;>rfl
 refine AD (qF (ok:=λw=>n5 u w []) (g:=turn (cc P<|n+1) (.Y 4) (.cons (.A (.Y 5) (.call "_law_letter_signs"<|.ex (.X 0) (.ex (.X 4) .nil))) (.cons (.ite (.Z .pb (.X 5) (.X 2)) (.cons (.ex<|.me .append (.X 2) (.cons (.X 5) .nil)) (.cons (.ex<|.me .append (.X 3) (.cons (.X 5) .nil)) .nil)) .nil) .nil))) (λj U t=>∃(F:List<|Nat->Nat->Int)(Z Y:Option D),U=[al m.d,a,al<|.ref s.length,al<|.ref<|s.length+1,Z,Y,b,d,x8,x9,x10]/\uF s t m.R F F/\(F.map<|gd m.R).Nodup/\F.length<=j/\(∀i,i<j->gd m.R (sV m<|97+i)∈F.map (gd m.R))/\∀f∈F,∃c,97<=c/\c<97+m.L/\f=sV m c)
  ((([97,98,99]:List Nat).take m.L).map λc=>.str [c]) 0 [al m.d,a,al<|.ref s.length,al<|.ref<|s.length+1,e,l,b,d,x8,x9,x10] u (Aw [] e l rfl o gC (ak _) (λi hi=>iN hi<|cN _) (λf e=>(nomatch e))) (λ_ _ _ _ _=>rfl) (by
  rintro j d U t b⟨F,Z,Y,rfl,d,g,l,a,J⟩;rw[bM]at l a⊢;obtain⟨c,rfl⟩:=YL b;have k:=jJ (P:=P) n h (97+j) t;have c:=ES d.p<|sV m<|97+j;by_cases b:gd m.R (sV m<|97+j)∈F.map (gd m.R)
  .rw[gv b]at c;refine⟨_,t,.inl ?_,F,al<|.str [97+j],al<|gd m.R<|sV m<|97+j,rfl,d,g,by omega,λi hi=>?_,J⟩;.unfold turn;simp only[zS,za,zr,jc,qO,mj,zz,jw,qX,jY,zH,zF,zU,qw,R.ax,zA,qP,qf,zx,zD,Option.map_some,AA,zb,z0,if_false,Bool.false_eq_true,Bool.not_true,k,c]
   .by_cases hij:i=j;.rw[hij];exact b
    .exact a i<|by omega
  .rw[ij b]at c;have h:=zE (v:=gd m.R<|sV m<|97+j) d.p (by rw[aw];unfold ky;omega);have e:F.map (gd m.R)++[gd m.R<|sV m<|97+j]=(F++[sV m<|97+j]).map (gd m.R):=by rw[aP];rfl
   rw[e]at h;have h2:uF s (t.set s.length<|.J<|(F++[sV m<|97+j]).map<|gd m.R) m.R (F++[sV m<|97+j]) F:=d.DX;have d:=zE (v:=gd m.R<|sV m<|97+j) h2.q (by rw[aw];unfold ky;omega);rw[e]at d;refine⟨_,_,.inl ?_,F++[sV m<|97+j],al<|.str [97+j],al<|gd m.R<|sV m<|97+j,rfl,h2.DW,by rw[aP];exact EK g b,by rw[aN,cK];omega,λi hi=>?_,λf e=>?_⟩;.unfold turn;simp only[zS,za,zr,jc,qO,mj,zz,jw,qX,jY,zH,zF,zU,qw,R.ax,zA,qP,qf,zx,zD,Option.map_some,AA,zb,z0,if_true,Bool.not_false,k,c,zS,h,d]
   .rw[aP];by_cases hij:i=j;.rw[hij];exact aR _<|aI.mpr rfl
    .exact bq _<|a i<|by omega
   .rcases aU.mp e with z|z;.exact J f z
    .exact Ag (97+j) (by omega) (by omega) (aI.mp z))) λU' k j h=>?_;obtain⟨F,Z,Y,rfl,d,g,l,a,J⟩:=h;have b:0+((([97,98,99]:List Nat).take m.L).map λc=>D.str [c]).length=m.L:=by rw[aw,bL];show 0+min m.L 3=m.L;omega
 rw[b]at l a;refine⟨F,k,Z,Y,?_,d,⟨g,g,λc d h2=>?_,λx b=>b,λx b=>?_,λi f h hi=>iN hi<|cN _,λi f hi=>iN hi<|cN _,λf e=>?_⟩,by omega⟩;.unfold Ht;rw[kc];simp only[zz,jx,g6,l4,jG,k4,R.ax,zx,Mn,Hw];rw[sl];simp only[R.ax,show uD (D.str<|([97,98,99]:List Nat).take m.L) u=.ok ⟨(([97,98,99]:List Nat).take m.L).map λc=>.str [c],[]⟩ u from rfl];exact j
 .have:=a (c-97) (by omega);rwa[show 97+(c-97)=c by omega]at this
 .obtain⟨f,e,rfl⟩:=ar.mp b;exact .Y<|ar.mpr<|Ac f e rfl
 .obtain⟨c,d,h2,rfl⟩:=J f e;exact .l6 c d h2
def ZH[bc P A3]n{m}(Z:m.Ok)s:∃F:List<|Nat->Nat->Int,(cc P<|n+2).call "_law_closed" [m.d,.int 80] s=.ok (.ref s.length) (s++[.J<|F.map<|gd m.R])/\(F.map<|gd m.R).Nodup/\(∀f∈F,s9 m<|gd m.R f)/\F.length<=1000/\(F.length<=80->∀x,s9 m x↔x∈F.map (gd m.R)):=by
 have c:(cc P<|n+2).call "_law_closed" [m.d,.int 80] s=_:=zg A3 rfl;rw[Yx,show(bv al [m.d,D.int 80]++ay A3.vs aT)=[al m.d,al<|.int 80,aT,aT,aT,aT,aT,aT,aT,aT,aT]from rfl]at c;have a:uF s (s++[.J [],.J []]) m.R [] []:=⟨by simp,by simp_all,by simp_all,λi hi=>aC hi⟩;refine AM (TZ (P:=P) n Z a (al<|.int 80) aT aT aT aT aT aT aT) λF0 b Y J d Zz=>AI Zz λh1 a e=>AJ (KC (P:=P) n Z (al m.d) Y J 81 0 F0 F0 b aT aT aT aT (by lia) h1 a (cz _) (by lia)) λF H a Zz=>AG Zz λz6 a a a a e h f Zz=>AI Zz λcl g a=>An F ?_ f cl g a;have a:ex (cc P<|n+1) (.A (.Y 2) (.J .nil)) [al m.d,al<|.int 80,aT,aT,aT,aT,aT,aT,aT,aT,aT] s=.ok (.next [al m.d,al<|.int 80,al<|.ref s.length,aT,aT,aT,aT,aT,aT,aT,aT]) (s++[.J []]):=by simp_all
 have f:ex (cc P<|n+1) (.A (.Y 3) (.J .nil)) [al m.d,al<|.int 80,al<|.ref s.length,aT,aT,aT,aT,aT,aT,aT,aT] (s++[.J []])=.ok (.next [al m.d,al<|.int 80,al<|.ref s.length,al<|.ref<|s.length+1,aT,aT,aT,aT,aT,aT,aT]) (s++[.J [],.J []]):=by simp_all
 rw[c,za,a,R.ax,zb,za,f,R.ax,zb,za,d,R.ax,zb,za,(by simp_all:ex (cc P<|n+1) (.A (.Y 6) (.K<|.int 0)) [al m.d,al<|.int 80,al<|.ref s.length,al<|.ref<|s.length+1,Y,J,aT,aT,aT,aT,aT] b=.ok (.next [al m.d,al<|.int 80,al<|.ref s.length,al<|.ref<|s.length+1,Y,J,al<|.int ((0:Nat):Int),aT,aT,aT,aT]) b),R.ax,zb,za,yk,e,R.ax,zb];simp only[za,dt,zz,R.ax,zx,zD,jo,ju];exact aW4 h.old (by have:=h.len;lia) h.p<|zw (λd a n=>by obtain⟨f,_,rfl⟩:=ar.mp a;exact jd n) _
end
def Y4{F:List<|Nat->Nat->Int}(h:yU m T)(a:∀x,s9 m x↔x∈F.map (gd m.R)):80<F.length:=by
 refine AU h λnd Y b Zz=>AE Zz λg c J=>?_;have:=IH (EK nd J) λx d=>by
  rcases aU.mp d with z|z;.obtain⟨f,Z,rfl⟩:=ar.mp z;exact(a _).mp<|b f Z
  .rw[aI.mp z];exact(a _).mp c
 rw[aN,aw,aw,cK]at this;lia
def Ff(s:cn)(r a c k:Nat)(u:cn):Prop:=∃(b:Int)(l:List Dr),(∀d∈l,d.Ok ⟨a,c,[],[],[]⟩)/\l.length=k/\u=s.set r (qt b)++[.J<|l.map Dr.d]
def Ib{s:cn}:(s.set r (qt b)++[o])[s.length]?=al o:=by rw[am<|by simp];simp
section
variable{P:Pr}[bc P vw]
def XM{l:List Dr}(J:∀d∈l,d.Ok ⟨a,c,[],[],[]⟩)(e:l.length=k){x:Dr}(f:x.Ok ⟨a,c,[],[],[]⟩):Ff s r a c (k+1) (s.set r (qt b)++[.J<|l.map Dr.d++[x.d]]):=by
 refine⟨b,l++[x],λd a=>?_,by simp[e],by rw[aP];rfl⟩;rcases aU.mp a with h|h;.exact J d h
 .rw[aI.mp h];exact f
end
def X4:A1.body=Qp:=rfl
section
variable{P:Pr}[bc P vw]
def SU n{hi:Nat}(a0:1<=hi)(hh:hi<=4)(hr:r<s.length)(a3:1<=a)(ha:a<=3)(a1:1<=c)(hc:c<=5)(hk:k<1000)(h:Ff s r a c k u)x1 Z x7 x8 x9 x10:∃b d e f,oo (cc P<|n+1) Fv [al<|.ref r,x1,al<|.int<|a,al<|.int<|c,al<|.int<|hi,Z,al<|.ref s.length,x7,x8,x9,x10] u=.ok (.next [al<|.ref r,x1,al<|.int<|a,al<|.int<|c,al<|.int<|hi,Z,al<|.ref s.length,x7,d,e,f]) b/\Ff s r a c (k+1) b:=by obtain⟨b,l,d,J,rfl⟩:=h;refine AD (j2 (P:=P) n (t:=[.J<|l.map Dr.d]) hr b (c) (by lia) (qG<|by lia)) λk1 e f f=>AD (j2 (P:=P) n (t:=[.J<|l.map Dr.d]) hr e (c) (by lia) (qG<|by lia)) λk2 c e e=>AD (j2 (P:=P) n (t:=[.J<|l.map Dr.d]) hr c (a:Nat) (by lia) (qG<|by lia)) λk3 c a g=>AD (j2 (P:=P) n (t:=[.J<|l.map Dr.d]) hr c (hi:Nat) (by lia) (qG<|by lia)) λY a h h=>have ha:=L7 (s:=s) (r:=r) (b:=a) (t:=[]) (l:=l.map Dr.d) (v:=.tp [.int (k1:Int),.str [97+k3],.int (k2:Int),.int (Y:Int)]) (by rw[aw];unfold ky;lia);(Ao _ (al<|.int (k1:Int)) (al<|.int (k2:Int)) (al<|.str [97+k3]) ?_<|XM (x:=⟨k1,97+k3,k2,Y⟩) (b:=a) d J ⟨by lia,(Ad (by simp) (by lia)),by lia,by lia⟩);unfold Fv;simp only[za,zr,jc,mj,zz,jx,q0,g6,qX,jY,zH,zF,zU,qw,k4,R.ax,zA,qP,qf,zx,zD,Option.map_some,AA,zb,f,e,g,h,H6<|show k3<3 by lia,YK (Ib (s:=s) (r:=r) (b:=c) (o:=.J<|l.map Dr.d)) (Ib (s:=s) (r:=r) (b:=a) (o:=.J<|l.map Dr.d)),ha];rfl
def ZP[bc P A1]n{s}{r}(hs:∃b,s[r]?=al (qt b)){k}(a3:1<=k)(a1:k<=5):McB s r<|(cc P<|n+2).call "_law_small" [.ref r,.int k] s:=by
 have m:(cc P<|n+2).call "_law_small" [.ref r,.int k] s=_:=zg A1 rfl;rw[X4,show(bv al [D.ref r,D.int k]++ay A1.vs aT)=[al<|.ref r,al<|.int k,aT,aT,aT,aT,aT,aT,aT,aT,aT]from rfl]at m;have e:=Dl hs;refine AD (DA (P:=P) n hs 3 (by decide) (by decide)) λa d f z=>AD (DA (P:=P) n (G5 (b:=d) e) k (by lia) (qG<|by lia)) λc d f p=>?_;rw[iD]at p;refine AD (DA (P:=P) n (G5 (b:=d) e) 2 (by decide) (by decide)) λv d f u=>?_;rw[iD]at u;refine AD (DA (P:=P) n (G5 (b:=d) e) (2*((c+1:Nat))+3) (by lia) (qG<|by lia)) λq f d y=>?_;rw[iD]at y;obtain⟨U1,d,H,l,i,Y,h,rfl,x⟩:=qF (ok:=λw=>n5 (s.set r (qt f)++[.J []]) w []) (g:=turn (cc P<|n+1) (.Y 7) Fv) (λj U t=>∃(l i Y h:Option D),U=[al<|.ref r,al<|.int k,al<|.int (a+1:Nat),al<|.int (c+1:Nat),al<|.int (2*v+2:Nat),al<|.int (q+1:Nat),al<|.ref s.length,l,i,Y,h]/\Ff s r (a+1) (c+1) j t)
  (tP 0 ((q+1:Nat):Int)) 0 [al<|.ref r,al<|.int k,al<|.int (a+1:Nat),al<|.int (c+1:Nat),al<|.int (2*v+2:Nat),al<|.int (q+1:Nat),al<|.ref s.length,aT,aT,aT,aT] (s.set r (qt f)++[.J []]) (Ao aT aT aT aT rfl ⟨f,[],λd d=>(nomatch d),rfl,rfl⟩) (λ_ _ _ _ _=>rfl) (by rintro j d U t f⟨l,i,Y,h,rfl,d⟩;rw[bM]at d⊢;obtain⟨g,rfl⟩:=jP f;exact AM (SU (P:=P) n (hi:=2*v+2) (by lia) (by lia) e (by lia) (by lia) (by lia) (by lia) (by lia) d (al<|.int k) (al<|.int (q+1:Nat)) (al<|.int<|0+(j:Int)) i Y h) λt' d f Z e g=>⟨_,t',.inl e,_,d,f,Z,rfl,g⟩);rw[bM,zC]at x;obtain⟨e,l,f,J,rfl⟩:=x;refine⟨⟨a+1,c+1,[0],[c],l⟩,e,⟨by simp,by lia,by simp,by lia,(Ad (λx d=>?_) (ig _ _)),(Ad (λx d=>?_) (ig _ _)),(Ad (λx d=>?_) (by rw[J];lia))⟩,?_⟩;.rw[aI.mp d];simp
 .rw[aI.mp d];simp
 .have:=f x d;exact⟨this.a,this.l,this.b,this.t⟩
 .rw[m];simp-implicitDefEqProofs only[za,jc,kc,zz,jx,kl,sP,qX,zH,zU,qw,qT,jG,R.ax,zA,qP,qf,zx,zD,Option.map_some,AA,zb,add_int,l5,z,(by lia:(1:Int)+(a:Int)=((a+1:Nat):Int)),p,(by lia:(1:Int)+(c:Int)=((c+1:Nat):Int)),u,CA<|(λx=>EJ<|by decide:∀x:Int,pE 2 x=true) _,(by lia:(2:Int)+2*(v:Int)=((2*v+2:Nat):Int)),y,(by lia:(1:Int)+(q:Int)=((q+1:Nat):Int)),bw];rw[zI (by unfold hH;lia) (by unfold hH;lia)];simp-implicitDefEqProofs only[R.ax];rw[H];simp-implicitDefEqProofs only[za,dt,zz,jx,kl,q0,rZ,zH,zF,tW,jG,R.ax,zx,zD,zb,jo,ju,sub_int,(by lia:((c+1:Nat):Int)-1=(c:Int)),Pk<|Ib (s:=s) (r:=r) (b:=e) (o:=.J<|l.map Dr.d),Ms];exact Qo (Tc ⟨a+1,c+1,[0],[c],l⟩) (by nofun) rfl
end
def VX:wD F (.w3 a b c) U s=(ev F a U s).bind λx s=>(ev F b U s).bind λy s=>match x,y with|.int i,.int j=>if c=2/\(0<=i/\i<1048576)/\0<=j/\j<1048576 then .ok ⟨Et i j c,[]⟩ s else .B|_,_=>.B:=rfl
section
variable{P:Pr}[lb P "ClosedSet" "take" u7][ee P "MOST_TABLES"<|.int 80][hQ P "ClosedSet" "take" vx][bc P t5][bc P uX][dy P uY][bc P vZ][bc P vQ][bc P wq][dy P wt][ee P "FREE"<|.int 0][ee P "UNBOUND"<|.int 2][ee P "NONE"<|.int 3][lb P "ClosedSet" "take_sharp" xx][hQ P "ClosedSet" "take_sharp" yw][lb P "ClosedSet" "take_pairs" xw][hQ P "ClosedSet" "take_pairs" xP][lb P "ClosedSet" "__init__" yx][sv P "ClosedSet" tL][sv P "ClosedSet" uM][sv P "ClosedSet" uv][ee P "SOME"<|.int 1][bc P xo][bc P xp][dy P xq][bc P vi][bc P vy][bc P vO][bc P vR][bc P vT][dy P vU][bc P vL][dy P vP][bc P vN][dy P vS][bc P v3][bc P xr][bc P xR][ee P "LETTERS"<|.tp uV][bc P yX][xA P "closed" xQ]
end
noncomputable def Ze:Tf:=⟨1,1,.cons (.ex<|.call "closed"<|.ex (.X 0) .nil) .nil,.call "closed"<|.ex (.X 0) .nil,"TooMuch",1,.ret<|.not<|.FG ["NoMaking","NotSteady","TooLong"],.cons (.ret<|.K<|.T ce) .nil,.nil⟩
section
variable{P:Pr}[lb P "ClosedSet" "take" u7][ee P "MOST_TABLES"<|.int 80][hQ P "ClosedSet" "take" vx][bc P t5][bc P uX][dy P uY][bc P vZ][bc P vQ][bc P wq][dy P wt][ee P "FREE"<|.int 0][ee P "UNBOUND"<|.int 2][ee P "NONE"<|.int 3][lb P "ClosedSet" "take_sharp" xx][hQ P "ClosedSet" "take_sharp" yw][lb P "ClosedSet" "take_pairs" xw][hQ P "ClosedSet" "take_pairs" xP][lb P "ClosedSet" "__init__" yx][sv P "ClosedSet" tL][sv P "ClosedSet" uM][sv P "ClosedSet" uv][ee P "SOME"<|.int 1][bc P xo][bc P xp][dy P xq][bc P vi][bc P vy][bc P vO][bc P vR][bc P vT][dy P vU][bc P vL][dy P vP][bc P vN][dy P vS][bc P v3][bc P xr][bc P xR][ee P "LETTERS"<|.tp uV][bc P yX][xA P "closed" xQ][Bf P "_law_refused" Ze][hE:uA P "TooMuch" ["NoMaking","NotSteady","TooLong"]]
variable[bc P xN][bc P vw][bc P vz][bc P wO][bc P xS][bc P A3][bc P A1]
end
def FN(L:Nat)(w:List Nat):Prop:=w≠[]/\w.length<=40/\∀c∈w,97<=c/\c<97+L
theorem Pz(J:m.Ok):∀w:List Nat,w≠[]->(∀c∈w,97<=c/\c<97+m.L)->∃g,va m w g/\s9 m (gd m.R g)|[],h,_=>iN rfl h|[c],_,h=>(Ac _ (va.ua m c) (.l6 c (h c<|ao ..).1 (h c<|ao ..).2))|c::d::v,_,h=>AE (Pz J (d::v) (by nofun) λx a=>h x<|ah _ a) λg a b=>Ac _ (va.mul J (va.ua m c) a) (.pair _ _ (.l6 c (h c<|ao ..).1 (h c<|ao ..).2) b)
def YA(J:m.Ok)(h:FN m.L w)(Y:va m w g):s9 m<|gd m.R g:=AE (Pz J w h.1 h.2.2) λf a b=>by rwa[JI<|Y.Hy a]
def aO3{o:O}(J:h.eu s.length=bY)(a:o.eu s.length=bY):nf s (.ref s.length) (s.set q h++[o])=.ok (.ref s.length) (s.set q h++[o]):=by unfold nf;simp_all
def aY5{s:cn}(h:s[r]?=al o):s.set r o=s:=by obtain⟨J,rfl⟩:=ae.mp h;exact iY J
def Yc:BG.body=OE:=rfl
def Ha(s:cn)(r L k:Nat)(u:cn):Prop:=∃(b:Int)(l:List<|List Nat),(∀w∈l,FN L w)/\l.length=k/\u=s.set r (qt b)++[.J<|l.map D.str]
section
variable{P:Pr}[bc P vw]
def TF n{m:Mc}(hm:m.Ok){s:cn}(hr:r<s.length)b(hv:v<=40)Y Z:∃(w:List Nat)(a:Int)(J:Option D),w.length=v/\(∀c∈w,97<=c/\c<97+m.L)/\ux (λs1=>n5 (s.set r (qt b)++[.J A]) s1 []) (turn (cc P<|n+1) (.Y 5) Fo) (tP 0 (v:Int)) [al<|.ref r,al m.d,al<|.ref s.length,Y,al<|.str [],Z] (s.set r (qt b)++[.J A])=.ok (.next [al<|.ref r,al m.d,al<|.ref s.length,Y,al<|.str w,J]) (s.set r (qt a)++[.J A]):=by
 have a:=hm.L3;have a:=hm.L1;have key:=qF (ok:=λs1=>n5 (s.set r (qt b)++[.J A]) s1 []) (g:=turn (cc P<|n+1) (.Y 5) Fo) (λk U t=>∃(w:List Nat)(a:Int)(J:Option D),w.length=k/\(∀c∈w,97<=c/\c<97+m.L)/\U=[al<|.ref r,al m.d,al<|.ref s.length,Y,al<|.str w,J]/\t=s.set r (qt a)++[.J A]) (tP 0 (v:Int)) 0 [al<|.ref r,al m.d,al<|.ref s.length,Y,al<|.str [],Z] (s.set r (qt b)++[.J A]) (Ak [] b Z rfl (by nofun) rfl rfl) (λ_ _ _ _ _=>rfl) (by
  rintro k d U t a⟨w,e,J,b,d,rfl,rfl⟩;have f:=(qu a).1;rw[(qu a).2];rw[bM]at b⊢;refine AD (j2 (P:=P) n (t:=[.J A]) hr e (m.L:Int) (by lia) (qG<|by lia)) λc a e e=>have f:∀s,xj .add (.str w) (.str [97+c]) s=.ok (.str<|w++[97+c]) s:=λs=>VM (by unfold ky;grind);⟨_,_,.inl ?_,w++[97+c],a,al<|.int (k:Int),by simp[b],λx a=>?_,rfl,rfl⟩;.unfold turn Fo;simp only[za,zr,jc,zz,jx,kl,g6,qX,zU,qw,jG,k4,R.ax,zA,qP,qf,zx,zD,Option.map_some,AA,zb,Hw,e,H6<|show c<3 by lia,f]
  .rcases aU.mp a with h|h;.exact d x h
   .rw[aI.mp h];lia);obtain⟨a,a,c,w,a,J,b,d,rfl,rfl⟩:=key;exact Aq w a J (by rw[b,zC];lia) d c
def Sv(n:Nat){m:Mc}(d:m.Ok){s u:cn}{r k:Nat}(c:r<s.length)(a:k<1000)(h:Ha s r m.L k u)(Y e Z:Option D):∃(b:cn)(f a:Option D),oo (cc P<|n+1) Fn [al<|.ref r,al m.d,al<|.ref s.length,Y,e,Z] u=.ok (.next [al<|.ref r,al m.d,al<|.ref s.length,Y,f,a]) b/\Ha s r m.L (k+1) b:=by
 obtain⟨b,l,e,J,rfl⟩:=h;refine AD (j2 (P:=P) n (t:=[.J<|l.map D.str]) c b 40 (by decide) (by decide)) λq a f f=>AR (TF (P:=P) n d c (A:=l.map D.str) a (v:=q+1) (by omega) Y Z) λw c a d g h=>?_;refine⟨_,al<|.str w,a,?_,c,l++[w],λx a=>?_,by simp[J],rfl⟩;.unfold Fn;simp-implicitDefEqProofs only[za,jc,kc,zz,jx,kl,qX,zU,qw,qT,jG,k4,R.ax,zA,qP,qf,zx,Option.map_some,AA,zb,add_int,f,(by omega:(1:Int)+(q:Int)=((q+1:Nat):Int))];rw[zI (by unfold hH;omega) (by unfold hH;omega)];simp-implicitDefEqProofs only[R.ax];rw[h];simp-implicitDefEqProofs only[zS,za,zr,mj,zz,jY,zH,zF,R.ax,zx,zD,zb,zS,(L7 (s:=s) (r:=r) (b:=c) (t:=[]) (l:=l.map D.str) (v:=.str w)<|by rw[aw];unfold ky;omega)];rw[aP];rfl
 .rcases aU.mp a with h|h;.exact e x h
  .rw[aI.mp h];exact⟨(λh0=>by rw[h0]at d;cases d),by omega,g⟩
def WM[bc P BG]n{s}{r}(hs:∃b,s[r]?=al (qt b)){m:Mc}(hm:m.Ok):∃(l:List<|List Nat)(b:Int),(∀w∈l,FN m.L w)/\l.length=3/\(cc P<|n+2).call "_law_words" [.ref r,m.d] s=.ok (.ref s.length) (s.set r (qt b)++[.J<|l.map D.str]):=by
 have c:(cc P<|n+2).call "_law_words" [.ref r,m.d] s=_:=zg BG rfl;rw[Yc,show(bv al [D.ref r,m.d]++ay BG.vs aT)=[al<|.ref r,al m.d,aT,aT,aT,aT]from rfl]at c;have e:=Dl hs;refine AF hs λb0 Y=>?_;have d:Ha s r m.L 0<|s++[.J []]:=⟨b0,[],by nofun,rfl,by rw[aY5 Y];rfl⟩;obtain⟨U1,a,i,b,a,J,rfl,f⟩:=qF (ok:=λw=>n5 (s++[.J []]) w []) (g:=turn (cc P<|n+1) (.Y 3) Fn) (λj U t=>∃b a J,U=[al<|.ref r,al m.d,al<|.ref s.length,b,a,J]/\Ha s r m.L j t)
  (tP 0 ((3:Nat):Int)) 0 [al<|.ref r,al m.d,al<|.ref s.length,aT,aT,aT] (s++[.J []]) ⟨aT,aT,aT,rfl,d⟩ (λ_ _ _ _ _=>rfl) (by rintro j d U t d⟨b,a,J,rfl,b⟩;rw[bM]at b⊢;obtain⟨g,rfl⟩:=jP d;exact AX (Sv (P:=P) n hm e (by omega) b (al<|.int<|0+(j:Int)) a J) λt' a b e Z=>⟨_,t',.inl e,_,a,b,rfl,Z⟩);rw[bM,zC]at f;obtain⟨b,l,a,h,rfl⟩:=f;refine Ah l b a h ?_;rw[c];simp only[za,jc,kc,jx,sP,zH,qT,jG,R.ax,zA,qP,qf,Option.map_some,AA,zb,l5];rw[show(D.int 3)=D.int ((3:Nat):Int)from rfl,zI (by decide) (by decide)];simp only[R.ax];rw[i];simp only[za,dt,zz,R.ax,zx,zD,zb,jo,ju];exact aO3 (rfl) (by show D.n7 _ _=bY;exact zw (λd a n=>by obtain⟨w,_,rfl⟩:=ar.mp a;rfl) _)
end
noncomputable def xO:Tf:=⟨1,0,(.cons (.ret<|.call "signs_made"<|.ex (.X 0) (.ex (.call "closed"<|.ex (.X 0) .nil) .nil)) .nil),.yr "signs_made" (.X 0) "closed"<|.ex (.X 0) .nil,"TooMuch",0,.xC,.nil,.nil⟩
def SI:yY.body=ON:=rfl
def RH{b:Nat}(h:b<=7):∀d∈Et 0 (b) 2,∃k:Nat,k<=6/\d=.int (k):=by intro d a;unfold Et at a;rw[ef<|by decide]at a;obtain⟨k,b,rfl⟩:=ar.mp a;have b:=bI.mp b;exact⟨2*k,by lia,by push_cast;rw[iE]⟩
section
variable{P:Pr}[lb P "ClosedSet" "take" u7][ee P "MOST_TABLES"<|.int 80][hQ P "ClosedSet" "take" vx][bc P t5][bc P uX][dy P uY][bc P vZ][bc P vQ][bc P wq][dy P wt][ee P "FREE"<|.int 0][ee P "UNBOUND"<|.int 2][ee P "NONE"<|.int 3][lb P "ClosedSet" "take_sharp" xx][hQ P "ClosedSet" "take_sharp" yw][lb P "ClosedSet" "take_pairs" xw][hQ P "ClosedSet" "take_pairs" xP][lb P "ClosedSet" "__init__" yx][sv P "ClosedSet" tL][sv P "ClosedSet" uM][sv P "ClosedSet" uv][ee P "SOME"<|.int 1][bc P xo][bc P xp][dy P xq][bc P vi][bc P vy][bc P vO][bc P vR][bc P vT][dy P vU][bc P vL][dy P vP][bc P vN][dy P vS][bc P v3][bc P xr][bc P xR][ee P "LETTERS"<|.tp uV][bc P yX][xA P "closed" xQ][bc P A4][bc P A6][bc P A5][bc P A2][bc P A9][bc P A7][bc P A8][bc P BI][ee P "MOST_STEPS"<|.int 100][bc P BH][Bf P "_law_set" xO][hE:uA P "TooMuch" []]
def set36_ok n(h:m.Ok)(hs:s.all O.eU=bY):(∃T:List<|Nat->Nat->Int,(cc P<|n+9).call "_law_set" [m.d] s=.ok (.ref s.length) (s++[.J<|T.map<|gd m.R])/\1<=T.length/\T.length<=80/\(∀f∈T,ue m.R f)/\∀x,s9 m x↔x∈T.map (gd m.R))\/((cc P<|n+9).call "_law_set" [m.d] s=.ok .N s/\∃T,yU m T):=by
 rw[(XY xO rfl),ZR rfl,show(bv al [m.d]++ay xO.vs aT)=[al m.d]from rfl];unfold F6;have a:=h.L1;rw[show xB (cc P<|n+8) xO.xb [al m.d] s=(if@decide (∃l t,(cc P<|n+8).call "signs_made" l t≠.B) (bU _)=bY then(cc P<|n+8).xcall "closed" [m.d] s else aT)from rfl,ef<|@gv _ (bU _) ((Ay _ s<|by rw[jk n h (t6.l6 97 t6.nil (by lia) (by lia)) (by decide) (by decide) hs];nofun))];rcases closed_any (P:=P) (ts:=[]) (n+1) h hs with⟨L,T,a,b,c,a,d,a⟩|⟨b,b,hO,G,rfl⟩
 .rw[b];have e:1<=T.length:=by have:=(a _).mp<|.l6 97 (by lia) (by lia);grind
  have f:=c.len;refine .inl<|An T ?_ e d (c.xI h) a;have J:=jk (P:=P) n h c (by lia) (by lia) hs;have a:oo (cc P<|n+8) xO.body [al m.d] s=.ok (.ret<|.ref s.length) (s++[.J<|zn m.R T]):=by show oo (cc P<|n+8) (.cons (.ret<|.call "signs_made"<|.ex (.X 0) (.ex (.call "closed"<|.ex (.X 0) .nil) .nil)) .nil) _ _=_;simp_all
  show(oo (cc P<|n+8) xO.body [al m.d] s).bind _=_;rw[a];exact QK<|Qf s.length
 .rw[b];refine .inr<|Ad ?_ hO;show(if xO.tk "TooMuch"=bY/\(cc P<|n+8).xc "TooMuch"=bY/\Hd.ok (cc P<|n+8).xt .xC=bY/\Hd.KD (cc P<|n+8).kd .xC=bY then Hd.out .xC "TooMuch" s (s++G)else .B)=_;rw[ef ⟨rfl,Nc.1▸hE.at_,rfl,rfl⟩];exact zO (λ_=>rfl) (by nofun)
def Zn n(Uu:m.Ok){l:List<|List Nat}(J:∀w∈l,FN m.L w)(hu:u.all O.eU=bY):∃X:List<|Nat->Nat->Int,X.length=l.length/\(∀f∈X,ue m.R f/\s9 m (gd m.R f))/\∀ok,ok u=bY->∀a,qE ok (qd (cc P<|n+6) (.Y 0) (.call "word_signs"<|.ex (.X 1) (.ex (.X 0) .nil))) (l.map D.str) [a,al m.d] u=.ok (X.map<|gd m.R) u:=by induction l with|nil=>exact Ag [] rfl (by nofun) (λok hok a=>by show(if ok u=bY then _ else _)=_;simp_all)|cons w l a=>
  refine AH (a λv a=>J v<|ah _ a) λX Z a e=>have b:=J w<|ao ..;AE (js (P:=P) n Uu w (by have:=b.2.1;lia) hu) λg Y a=>Ag (g::X) (by simp[Z]) (λf c=>?_) (λok hok a=>?_)
  .rcases aE.mp c with rfl|h;.exact Ad Y.xI<|YA Uu b Y
   simp_all
  .have e1:qd (cc P<|n+6) (.Y 0) (.call "word_signs"<|.ex (.X 1) (.ex (.X 0) .nil)) (.str w) [a,al m.d] u=.ok (al<|gd m.R g,[al<|.str w,al m.d]) u:=by unfold qd;simp_all
   rw[aS];show(if ok u=bY then _ else _)=_;simp_all
def Xk n(Uu:m.Ok)(hu:u.all O.eU=bY){T X:List<|Nat->Nat->Int}(hp:u[p]?=al (.J<|T.map<|gd m.R))(hall:∀x,s9 m x↔x∈T.map (gd m.R))(hX:∀f∈X,ue m.R f/\s9 m (gd m.R f))(Y:ue m.R g/\s9 m (gd m.R g))(hok:ok u=bY)x0 x1 x2 x3 x4 x5 x8:∃J,ux ok (turn (cc P<|n+3) (.Y 8) FQ) (X.map<|gd m.R) [x0,x1,x2,x3,x4,x5,al<|.ref p,al<|gd m.R g,x8] u=.ok (.next [x0,x1,x2,x3,x4,x5,al<|.ref p,al<|gd m.R g,J]) u:=by obtain⟨a,a,e,J,rfl,rfl⟩:=qF (ok:=ok) (g:=turn (cc P<|n+3) (.Y 8) FQ) (λ_ U t=>∃J,U=[x0,x1,x2,x3,x4,x5,al<|.ref p,al<|gd m.R g,J]/\t=u) (X.map<|gd m.R) 0 _ u (Ac x8 rfl rfl) (λ_ _ _ _ h=>by obtain⟨_,_,rfl⟩:=h;exact hok) (by rintro j d U t a⟨J,rfl,rfl⟩;rw[aF]at a;obtain⟨f,b,rfl⟩:=a7.mp a;refine AB (hX f<|aA b) λf1 Z=>⟨_,_,.inl ?_,al<|gd m.R f,rfl,rfl⟩;unfold turn FQ;simp only[za,zr,qO,dt,zz,jx,jw,uj,qX,zU,qw,vb,R.ax,zA,qP,qf,zx,zD,Option.map_some,zb,jo,z0,if_false,Bool.false_eq_true,Bool.not_true,ES hp,gv<|(hall _).mp Z,zN (P:=P) n Uu.R1 Uu.R5 f1 Y.1 hu,zN (P:=P) n Uu.R1 Uu.R5 Y.1 f1 hu,gv<|(hall _).mp<|.pair f g Z Y.2,gv<|(hall _).mp<|.pair g f Y.2 Z]);exact Ae J e
def XX n(Z:m.Ok)(hu:u.all O.eU=bY){T:List<|Nat->Nat->Int}(hp:u[p]?=al (.J<|T.map<|gd m.R))(hall:∀x,s9 m x↔x∈T.map (gd m.R))(hT:∀f∈T,ue m.R f)(hok:ok u=bY)x0 x1 x2 x3 x4 x5 x7 x8:∃J,ux ok (turn (cc P<|n+5) (.Y 8) FX) (T.map<|gd m.R) [x0,x1,x2,x3,x4,x5,al<|.ref p,x7,x8] u=.ok (.next [x0,x1,x2,x3,x4,x5,al<|.ref p,x7,J]) u:=by obtain⟨U',u',e,J,rfl,rfl⟩:=qF (ok:=ok) (g:=turn (cc P<|n+5) (.Y 8) FX) (λ_ U t=>∃J,U=[x0,x1,x2,x3,x4,x5,al<|.ref p,x7,J]/\t=u) (T.map<|gd m.R) 0 _ u (Ac x8 rfl rfl) (λ_ _ _ _ h=>by lia) (by rintro j d U t hj⟨J,rfl,rfl⟩;rw[aF]at hj;obtain⟨f,hf,rfl⟩:=a7.mp hj;have Y:=aA hf;have f1:=hT f Y;refine AE (qQ (P:=P) (n+1) Z.R1 Z.R5 f1 hu) λb eb hb=>⟨_,_,.inl ?_,al<|gd m.R f,rfl,rfl⟩;unfold turn FX;cases b with|false=>simp_all|true=>have Uu:=hb.mp rfl;simp only[za,zr,qO,dt,zz,jx,jw,ox,qX,zU,qw,vb,R.ax,zA,qP,qf,zx,zD,Option.map_some,zb,jo,z0,if_true,if_false,Bool.false_eq_true,Bool.not_true,eb,jD (P:=P) n Z.R1 Z.R5 f1 Uu hu,ES hp,gv<|(hall _).mp<|.ew f ((hall _).mpr<|ar.mpr<|Ac f Y rfl) Uu]);exact Ae J e
variable[bc P xN][bc P vw][bc P vz][bc P wO][bc P xS][bc P A3][bc P A1][bc P EX][bc P BG]
def Gx.EO(h:Gx ns r u)(hT:T.all O.eU=bY):Gx ns r<|u++T:=⟨qr h.scr,by rw[fg,h.eU,hT];rfl,AF h.box λb a=>Ae b<|qr a,h.r0⟩
def ZI n(h:Gx ns r u)(hm:m.Ok){X:List<|Nat->Nat->Int}(hq:u[q]?=al (.J<|X.map<|gd m.R))(a1:q≠r)(hX:∀f∈X,ue m.R f/\s9 m (gd m.R f))J x6 x7 x8 k:∃a b c y8,Gx ns r a/\((oo (cc P<|n+9) EG [al<|.ref 0,al<|.int k,al<|.ref r,al m.d,J,al<|.ref q,x6,x7,x8] u=.ok (.next [al<|.ref 0,al<|.int k,al<|.ref r,al m.d,J,al<|.ref q,b,c,y8]) a)\/(oo (cc P<|n+9) EG [al<|.ref 0,al<|.int k,al<|.ref r,al m.d,J,al<|.ref q,x6,x7,x8] u=.ok (.cont [al<|.ref 0,al<|.int k,al<|.ref r,al m.d,J,al<|.ref q,b,c,y8]) a)):=by
 have l:decide (D.N=D.N)=true:=gv rfl;have a:=Dl h.box;rcases set36_ok (P:=P) n hm h.eU with⟨T,es,a,f,c,a⟩|⟨es,T,hO⟩
 .have h1:Gx ns r<|u++[.J<|T.map<|gd m.R]:=h.snoc jn;refine AD (DA (P:=P) (n+8) h1.box (T.length) (by lia) (qG<|by lia)) λkk b f f=>?_;have h2:=h1.put b;have i:bi .len [.ref u.length] (u++[O.J<|T.map<|gd m.R])=.ok (.int T.length) (u++[O.J<|T.map<|gd m.R]):=by rw[qY wQ,aw]
  have Y:((u++[O.J<|T.map<|gd m.R]).set r<|qt b)[u.length]?=al (.J<|T.map<|gd m.R):=by simp_all
  have Z:((u++[O.J<|T.map<|gd m.R]).set r<|qt b)[q]?=al (.J<|X.map<|gd m.R):=by grind
  generalize(u++[O.J<|T.map<|gd m.R]).set r (qt b)=b at f h2 Y Z;obtain⟨g,i⟩:∃g,T[kk]?=al g:=(Ae _<|aj<|by lia);have f:=aA i;have i:ue m.R g/\s9 m (gd m.R g):=(Ad (c g f) ((a _).mpr<|ar.mpr<|Ac g f rfl));have f:=qK Y (j:=kk) (d:=gd m.R g) (by simp_all);have d:uD (.ref q) b=.ok ⟨X.map<|gd m.R,[q]⟩ b:=by simp only[uD,Z]
  have d:uD (.ref u.length) b=.ok ⟨T.map<|gd m.R,[u.length]⟩ b:=by simp only[uD,Y]
  refine AF (Xk (P:=P) (n+6) hm h2.eU Y a hX i (ok:=λs1=>n5 b s1 [q]) (by unfold n5;simp) (al<|.ref 0) (al<|.int k) (al<|.ref r) (al m.d) J (al<|.ref q) x8) λy8 d=>AF (XX (P:=P) (n+4) hm h2.eU Y a c (ok:=λs1=>n5 b s1 [u.length]) (by unfold n5;simp) (al<|.ref 0) (al<|.int k) (al<|.ref r) (al m.d) J (al<|.ref q) (al<|gd m.R g) y8) λz8 fb=>Ao b (al<|.ref u.length) (al<|gd m.R g) z8 h2<|.inl ?_;unfold EG IA;simp_all
 .refine AN (ZH (P:=P) (n+7) hm u) λF a b b b b=>?_;have f:80<F.length:=(iB 80 F.length).elim (λh=>h) λh=>Y4 hO<|b h;have i:bi .len [.ref u.length] (u++[O.J<|F.map<|gd m.R])=.ok (.int F.length) (u++[O.J<|F.map<|gd m.R]):=by rw[qY wQ,aw]
  have b:decide ((F.length:Int)<=80)=false:=ij (by lia);refine Ao _ (al .N) x7 x8 (h.snoc (o:=.J<|F.map<|gd m.R) jn) (.inr ?_);unfold EG IA;simp only[za,zr,jc,qO,dt,zR,zz,jx,jw,qX,i4,sQ,zH,zF,zU,qw,vb,jG,R.ax,zA,qP,qf,zx,zD,Option.map_some,AA,zb,jo,ya,le_int,z0,if_true,if_false,Bool.false_eq_true,decide_true,es,l,a,i,b]
def RD[bc P yY]n:Rl P<|n+10:=by
 intro ns a;have a:(cc P<|n+10).call "law" [.ref 0] [.ro<|ns.map D.int]=_:=zg yY rfl;rw[a,SI,show(bv al [D.ref 0]++ay yY.vs aT)=[al<|.ref 0,aT,aT,aT,aT,aT,aT,aT,aT]from rfl];have a:([.ro<|ns.map D.int]:cn)[0]?=al (.ro<|ns.map D.int):=rfl;have b:bi .len [.ref 0] [.ro<|ns.map D.int]=.ok (.int ns.length) [.ro<|ns.map D.int]:=by rw[Nr a,aw]
 have a:(if(ns.length:Int)<6 then(ns.length:Int)else 6)+1=((min ns.length 6+1:Nat):Int):=by lia
 haveI:bc P EW:=(inferInstance:bc P EX);simp-implicitDefEqProofs only[za,kc,zz,jx,kl,i4,zH,zF,jG,R.ax,zx,add_int,VX,b,Je,a];rw[ef<|Au trivial (Ad (by decide) (by decide)) (by lia) (by omega)];simp only[R.ax];rw[R.bind_assoc];refine aY9 (Ww:=J4) (λj U t=>t[0]?=al (.ro<|ns.map D.int)/\t.all O.eU=bY/\∃i o q u g b c x8,U=[al<|.ref 0,i,o,q,u,g,b,c,x8]) (λd _=>d=.T bY) ⟨rfl,by simp only[dj,nQ,fS];exact ZN,_,_,_,_,_,_,_,_,rfl⟩ (λ_ _ _ _ _=>rfl) ?_ ?_ ?_
 .rintro j d U t hj⟨ht,hn,i,o,q,u,g,b,c,x8,rfl⟩;obtain⟨k,a,rfl⟩:=RH (by omega) d<|aA hj;have a:0<t.length:=(ae.mp ht).1;refine AF (To (P:=P) (n+8) ns k ht) λN0 J=>?_;have a:Gx ns t.length<|t++[qt N0]:=⟨qr ht,qR hn rfl,(Ae _ wQ),by lia⟩;generalize t++[qt N0]=S at J a;generalize t.length=r at J a;refine AD (ZP (P:=P) (n+7) a.box (k:=3) (by decide) (by decide)) λm f e j=>?_;have d:=a.put f;generalize S.set r (qt f)=h at j d;refine AG (aY1 (P:=P) (n+7) d.box e 12 (by decide) (by decide) 6) λl fs j T p Z v a Zz=>AI Zz λ_ hT a=>?_;have a:(cc P<|n+9).call "_law_makings" [.ref r,m.d,.int 12,.int 6] h=_:=a;have f:=(d.put j).EO hT;generalize h.set r (qt j)++T=Y at a f;have a:rW (.tp [.tp<|l.map eH.d,.ref p]) (.int 0) Y=.ok (.tp<|l.map eH.d) Y:=Gg 0 rfl;refine AL (WM (P:=P) (n+7) f.box e) λws a j x p=>?_;have h:Gx ns r<|Y.set r (qt a)++[.J<|ws.map D.str]:=(f.put a).snoc (zy λd f=>by obtain⟨w,_,rfl⟩:=ar.mp f;rfl);have f:(Y.set r (qt a)++[O.J<|ws.map D.str])[Y.length]?=al (.J<|ws.map D.str):=by simp_all
  generalize Y.set r (qt a)++[O.J<|ws.map D.str]=a at p h f;have w:uD (.ref Y.length) a=.ok ⟨ws.map D.str,[Y.length]⟩ a:=by simp only[uD,f]
  refine AH (Zn (P:=P) (n+3) e j h.eU) λX f f f=>?_;have f:=f (λs1=>n5 a s1 [Y.length]) (by unfold n5;simp) aT;have j:Gx ns r<|a++[.J<|X.map<|gd m.R]:=h.snoc jn;have h:(a++[O.J<|X.map<|gd m.R])[a.length]?=al (.J<|X.map<|gd m.R):=wQ;have y:ev (cc P<|n+9) Hh [al<|.ref 0,al<|.int (k:Int),al<|.ref r,al m.d,al<|.tp<|l.map eH.d,g,b,c,x8] Y=.ok (.ref a.length) (a++[.J<|X.map<|gd m.R]):=by unfold Hh Kg;simp-implicitDefEqProofs only[zz,qX,rZ,zU,qw,l4,R.ax,zx,zD,qU,p,w];rw[ef<|by rw[aw,x];unfold ky;lia,show zP [al<|.ref 0,al<|.int (k:Int),al<|.ref r,al m.d,al<|.tp<|l.map eH.d,g,b,c,x8] [aT,al 3]=[aT,al m.d]from rfl,f];rfl
  generalize a++[O.J<|X.map<|gd m.R]=a at y j h;have f:=jk (P:=P) (n+1) e Z v (by lia) j.eU;have f:Gx ns r<|a++[.J<|zn m.R fs]:=j.snoc jn;have p:=JG (s:=a++[.J<|zn m.R fs]) (qr h) wQ (by have:=Z.len;unfold zn;rw[aw,aw];unfold ky;lia);have h:Gx ns r<|a++[.J<|zn m.R fs]++[.J<|X.map (gd m.R)++zn m.R fs]:=f.snoc (by show D.lj _=bY;unfold zn;exact aP▸jn);have j:(a++[O.J<|zn m.R fs]++[O.J<|X.map (gd m.R)++zn m.R fs])[(a++[O.J<|zn m.R fs]).length]?=al (.J<|(X++fs).map<|gd m.R):=aP▸wQ;have v:=Dl f.box;generalize a++[O.J<|zn m.R fs]++[O.J<|X.map (gd m.R)++zn m.R fs]=f at p h j;refine AM (ZI (P:=P) n h e j (by lia) (λf h=>by
   rcases aU.mp h with h|h;.simp_all
   .exact Ad (Z.xI e f h) (Z.cl f h)) (al<|.tp<|l.map eH.d) b c x8 (k:Int)) λu' f j n e h=>?_;rcases h with h|h;.refine Yj (U:=[al<|.ref 0,al<|.int (k:Int),al<|.ref r,al m.d,al<|.tp<|l.map eH.d,al<|.ref (a++[O.J<|zn m.R fs]).length,f,j,n]) (s:=u') ?_ ⟨e.scr,e.eU,_,_,_,_,_,_,_,_,rfl⟩;unfold turn HP;simp_all
  .refine Yy (U:=[al<|.ref 0,al<|.int (k:Int),al<|.ref r,al m.d,al<|.tp<|l.map eH.d,al<|.ref (a++[O.J<|zn m.R fs]).length,f,j,n]) (s:=u') ?_ ⟨e.scr,e.eU,_,_,_,_,_,_,_,_,rfl⟩;unfold turn HP;simp_all
 .rintro U t⟨ht,hn,i,o,q,u,g,b,c,x8,rfl⟩;simp-implicitDefEqProofs only[za,dt,jx,vb,R.ax,zb,jo,ju];exact Qv _ _
 .rintro d t rfl;exact Qv _ _
end
end DV
end
noncomputable section
namespace My
open PySem L2
noncomputable def top(i:Nat):Stmt:=PySem.Challenge.pw_leasttolls_k36_whole_words_have_signs_of.main.body.getD i<|.Pass ⟨0,0,0,0⟩
def Dh:Ew ["i","j"]:=λa h _ _ _ _ _ _ _ _ c a=>by
 obtain⟨a,rfl,b⟩:=OA h;revert c;refine uc λJ c=>?_;rcases a with _|⟨⟨a,_,_⟩,_|⟨⟨a,_,_⟩,_|⟨_,_⟩⟩⟩;all_goals simp only[aS,fA,List.cons.injEq,and_true,and_false,reduceCtorEq]at b
 obtain⟨rfl,rfl⟩:=b;exact⟨rfl,λ_ _=>rfl⟩
noncomputable def pN:List Str:=["plain","product","letter_table","reading","sign_product","sharpened"]
abbrev tT:Stmt:=top 7
abbrev Oq:Stmt:=top 8
abbrev Ov:Stmt:=top 9
abbrev Oi:Stmt:=top 10
abbrev O2:Stmt:=top 11
abbrev ui:Stmt:=top 12
abbrev NX:Stmt:=top 14
abbrev L8:Stmt:=top 16
abbrev MM:Stmt:=top 17
abbrev M6:Stmt:=top 18
abbrev QG:Stmt:=top 19
abbrev sF:Stmt:=top 20
abbrev OU:Stmt:=top 21
abbrev QJ:Stmt:=top 27
abbrev Qq:Stmt:=top 28
abbrev O9:Stmt:=top 29
abbrev O0:Stmt:=top 30
abbrev at2:Stmt:=top 32
abbrev Oc:Stmt:=top 33
abbrev OD:Stmt:=top 34
abbrev EU:Stmt:=top 38
abbrev Ow:Stmt:=top 41
abbrev sd:Stmt:=top 42
abbrev O8:Stmt:=top 43
abbrev Pc:Stmt:=top 44
abbrev OV:Stmt:=top 45
abbrev Pd:Stmt:=top 46
abbrev Ox:Stmt:=top 48
abbrev OM:Stmt:=top 49
abbrev Pb:Stmt:=top 50
abbrev oR:Stmt:=top 51
abbrev OS:Stmt:=top 52
abbrev OQ:Stmt:=top 53
abbrev O6:Stmt:=top 54
abbrev Pa:Stmt:=top 55
abbrev Jg:Stmt:=top 56
abbrev OX:Stmt:=top 57
abbrev BK:Stmt:=top 58
noncomputable def F4:Stmt->List Stmt|.ClassDef _ _ _ b _ _ _ _ _ _ _=>b|_=>[]
abbrev Pe:Stmt:=(F4<|top 37).getD 0<|.Pass ⟨0,0,0,0⟩
abbrev EY:Stmt:=(F4<|top 37).getD 1<|.Pass ⟨0,0,0,0⟩
abbrev E1:Stmt:=(F4<|top 37).getD 2<|.Pass ⟨0,0,0,0⟩
abbrev EZ:Stmt:=(F4<|top 37).getD 3<|.Pass ⟨0,0,0,0⟩
def uI:List<|(String×String)×pd×Stmt:=[(("ClosedSet","__init__"),DV.yx,Pe),(("ClosedSet","take"),DV.u7,EY),(("ClosedSet","take_sharp"),DV.xx,E1),(("ClosedSet","take_pairs"),DV.xw,EZ)]
def yd:List<|(String×String)×pT×Stmt:=[(("ClosedSet","take"),DV.vx,EY),(("ClosedSet","take_sharp"),DV.yw,E1),(("ClosedSet","take_pairs"),DV.xP,EZ)]
noncomputable def vF:List<|String×List (List Nat):=[("ClosedSet",[[115,116,101,112,115],[116,97,98,108,101,115],[115,101,101,110]])]
def tb:List<|String×pd×Stmt:=[("letters_of",DV.xR,tT),("rooms_of",DV.vO,Oq),("doors_of",DV.vR,Ov),("is_whole",DV.A4,Oi),("is_tuple_of",DV.A6,O2),("is_letter",DV.A5,ui),("grid",DV.t5,NX),("least",DV.vi,L8),("added",DV.vy,MM),("plain",DV.vL,M6),("product",DV.vN,QG),("letter_table",DV.vT,sF),("word_table",DV.v3,OU),("sign_of",DV.xo,QJ),("reading",DV.xp,Qq),("sign_product",DV.uX,O9),("word_signs",DV.xr,O0),("is_steady",DV.vZ,at2),("round_of",DV.vQ,Oc),("sharpened",DV.wq,OD),("closed",DV.yX,EU),("is_ahead",DV.A2,Ow),("is_letter_step",DV.A9,sd),("is_pair_step",DV.A7,O8),("is_sharp_step",DV.A8,Pc),("signs_made",DV.BH,OV),("signs_of_step",DV.BI,Pd),("_law_box",DV.xN,Ox),("_law_draw",DV.vw,OM),("_law_product",DV.vz,Pb),("_law_letter_signs",DV.xS,oR),("_law_sharp",DV.wO,OS),("_law_small",DV.A1,OQ),("_law_closed",DV.A3,O6),("_law_makings",DV.EX,Pa),("_law_words",DV.BG,OX),("law",DV.yY,BK)]
noncomputable def K6:List<|String×ot:=[("LETTERS",.tp [.str [97],.str [98],.str [99]]),("FREE",.int<|0),("SOME",.int<|1),("UNBOUND",.int<|2),("NONE",.int<|3),("MOST_TABLES",.int<|80),("MOST_STEPS",.int<|100)]
def UC:List<|String×pS:=[("plain.0",DV.vP),("product.0",DV.vS),("letter_table.least_fee",DV.vU),("reading.0",DV.xq),("sign_product.0",DV.uY),("sharpened.0",DV.wt)]
noncomputable def tbl:List<|String×pd:=tb.map λp=>(p.1,p.2.1)
def Ke:List<|String×pT:=[("closed",DV.xQ)]
def Kh:List<|String×rV:=[("_law_set",DV.xO)]
def dl:List<|String×Stmt:=[("closed",EU),("_law_set",Jg)]
noncomputable def Kf:List String:=["TooMuch"]
noncomputable def Kd:List String:=[]
noncomputable def P:oH:=⟨λf=>tbl.lookup f,λf=>UC.lookup f,λx=>K6.lookup x,λf=>Ke.lookup f,λf=>Kh.lookup f,λc=>Kf.contains c,λc=>Kd.contains c,λ_=>aT,λc m=>(uI.lookup (c,m)).map (·.1),λc f=>(vF.lookup c).any λl=>l.contains f,λc m=>(yd.lookup (c,m)).map (·.1)⟩
instance:DV.xA P "closed" DV.xQ:=⟨rfl⟩
instance:DV.Bf P "_law_set" DV.xO:=⟨rfl,rfl⟩
instance:DV.uA P "TooMuch" []:=⟨rfl,by decide⟩
instance:DV.dy P DV.vP:=⟨rfl⟩
instance:DV.dy P DV.vS:=⟨rfl⟩
instance:DV.dy P DV.vU:=⟨rfl⟩
instance:DV.dy P DV.xq:=⟨rfl⟩
instance:DV.dy P DV.uY:=⟨rfl⟩
instance:DV.dy P DV.wt:=⟨rfl⟩
instance:DV.ee P "LETTERS"<|.tp [.str [97],.str [98],.str [99]]:=⟨rfl⟩
instance:DV.ee P "FREE"<|.int<|0:=⟨rfl⟩
instance:DV.ee P "SOME"<|.int<|1:=⟨rfl⟩
instance:DV.ee P "UNBOUND"<|.int<|2:=⟨rfl⟩
instance:DV.ee P "NONE"<|.int<|3:=⟨rfl⟩
instance:DV.ee P "MOST_TABLES"<|.int<|80:=⟨rfl⟩
instance:DV.ee P "MOST_STEPS"<|.int<|100:=⟨rfl⟩
instance:DV.bc P DV.xR:=⟨rfl⟩
instance:DV.bc P DV.vO:=⟨rfl⟩
instance:DV.bc P DV.vR:=⟨rfl⟩
instance:DV.bc P DV.A4:=⟨rfl⟩
instance:DV.bc P DV.A6:=⟨rfl⟩
instance:DV.bc P DV.A5:=⟨rfl⟩
instance:DV.bc P DV.t5:=⟨rfl⟩
instance:DV.bc P DV.vi:=⟨rfl⟩
instance:DV.bc P DV.vy:=⟨rfl⟩
instance:DV.bc P DV.vL:=⟨rfl⟩
instance:DV.bc P DV.vN:=⟨rfl⟩
instance:DV.bc P DV.vT:=⟨rfl⟩
instance:DV.bc P DV.v3:=⟨rfl⟩
instance:DV.bc P DV.xo:=⟨rfl⟩
instance:DV.bc P DV.xp:=⟨rfl⟩
instance:DV.bc P DV.uX:=⟨rfl⟩
instance:DV.bc P DV.xr:=⟨rfl⟩
instance:DV.bc P DV.vZ:=⟨rfl⟩
instance:DV.bc P DV.vQ:=⟨rfl⟩
instance:DV.bc P DV.wq:=⟨rfl⟩
instance:DV.bc P DV.yX:=⟨rfl⟩
instance:DV.bc P DV.A2:=⟨rfl⟩
instance:DV.bc P DV.A9:=⟨rfl⟩
instance:DV.bc P DV.A7:=⟨rfl⟩
instance:DV.bc P DV.A8:=⟨rfl⟩
instance:DV.bc P DV.BH:=⟨rfl⟩
instance:DV.bc P DV.BI:=⟨rfl⟩
instance:DV.bc P DV.xN:=⟨rfl⟩
instance:DV.bc P DV.vw:=⟨rfl⟩
instance:DV.bc P DV.vz:=⟨rfl⟩
instance:DV.bc P DV.xS:=⟨rfl⟩
instance:DV.bc P DV.wO:=⟨rfl⟩
instance:DV.bc P DV.A1:=⟨rfl⟩
instance:DV.bc P DV.A3:=⟨rfl⟩
instance:DV.bc P DV.EX:=⟨rfl⟩
instance:DV.bc P DV.BG:=⟨rfl⟩
instance:DV.bc P DV.yY:=⟨rfl⟩
instance:DV.lb P "ClosedSet" "__init__" DV.yx:=⟨rfl⟩
instance:DV.lb P "ClosedSet" "take" DV.u7:=⟨rfl⟩
instance:DV.lb P "ClosedSet" "take_sharp" DV.xx:=⟨rfl⟩
instance:DV.lb P "ClosedSet" "take_pairs" DV.xw:=⟨rfl⟩
instance:DV.hQ P "ClosedSet" "take" DV.vx:=⟨rfl⟩
instance:DV.hQ P "ClosedSet" "take_sharp" DV.yw:=⟨rfl⟩
instance:DV.hQ P "ClosedSet" "take_pairs" DV.xP:=⟨rfl⟩
instance:DV.sv P "ClosedSet" DV.tL:=⟨by decide⟩
instance:DV.sv P "ClosedSet" DV.uM:=⟨by decide⟩
instance:DV.sv P "ClosedSet" DV.uv:=⟨by decide⟩
def jT:DM "ClosedSet" "__init__" DV.yx Pe:=⟨["self"],["self"],rk,rfl,rfl,λ_ _ _ _ _ _=>vJ<|λ_=>rfl,by decide+kernel⟩
def Z8:DM "ClosedSet" "take" DV.u7 EY:=⟨["self","step","signs"],["self","step","signs"],rk,rfl,rfl,λ_ _ _ _ _ _=>EI<|λ_ _ _=>rfl,by decide+kernel⟩
def jy:DM "ClosedSet" "take_sharp" DV.xx E1:=⟨["self","at"],["self","at"],rk,rfl,rfl,λ_ _ _ _ _ _=>uc<|λ_ _=>rfl,by decide+kernel⟩
def jz:DM "ClosedSet" "take_pairs" DV.xw EZ:=⟨["self","at","other"],["self","at"],rk,rfl,rfl,λ_ _ _ _ _ _=>uc<|λ_ _=>rfl,by decide+kernel⟩
def am2:Fm "ClosedSet" "take" DV.vx EY:=⟨["self","step","signs"],["self","step","signs"],rk,rfl,rfl,λ_ _ _ _ _ _=>EI<|λ_ _ _=>rfl,by decide+kernel⟩
def jr:Fm "ClosedSet" "take_sharp" DV.yw E1:=⟨["self","at"],["self","at"],rk,rfl,rfl,λ_ _ _ _ _ _=>uc<|λ_ _=>rfl,by decide+kernel⟩
def jh:Fm "ClosedSet" "take_pairs" DV.xP EZ:=⟨["self","at","other"],["self","at"],rk,rfl,rfl,λ_ _ _ _ _ _=>uc<|λ_ _=>rfl,by decide+kernel⟩
def SS:∀p∈yd,Fm p.1.1 p.1.2 p.2.1 p.2.2:=by
 intro p h;unfold yd at h;simp only[aE,eK,or_false]at h;rcases h with rfl|rfl|rfl;.exact am2
 .exact jr
 .exact jh
def Rg:∀p∈uI,DM p.1.1 p.1.2 p.2.1 p.2.2:=by
 intro p h;unfold uI at h;simp only[aE,eK,or_false]at h;rcases h with rfl|rfl|rfl|rfl;.exact jT
 .exact Z8
 .exact jy
 .exact jz
def aI8:DT pN P "letters_of" DV.xR tT:=⟨["machine"],["machine"],rk,rfl,rfl,λ_ _ _ _ _ _=>vJ<|λ_=>rfl,.inl<|by decide+kernel⟩
def aY6:DT pN P "rooms_of" DV.vO Oq:=⟨["machine"],["machine"],rk,rfl,rfl,λ_ _ _ _ _ _=>vJ<|λ_=>rfl,.inl<|by decide+kernel⟩
def aW8:DT pN P "doors_of" DV.vR Ov:=⟨["machine"],["machine"],rk,rfl,rfl,λ_ _ _ _ _ _=>vJ<|λ_=>rfl,.inl<|by decide+kernel⟩
def aX2:DT pN P "is_whole" DV.A4 Oi:=⟨["thing","low","high"],["thing","low","high"],rk,rfl,rfl,λ_ _ _ _ _ _=>EI<|λ_ _ _=>rfl,.inl<|by decide+kernel⟩
def aD3:DT pN P "is_tuple_of" DV.A6 O2:=⟨["thing","many"],["thing","many"],rk,rfl,rfl,λ_ _ _ _ _ _=>uc<|λ_ _=>rfl,.inl<|by decide+kernel⟩
def aL7:DT pN P "is_letter" DV.A5 ui:=⟨["thing","letters"],["thing","letters"],rk,rfl,rfl,λ_ _ _ _ _ _=>uc<|λ_ _=>rfl,.inl<|by decide+kernel⟩
def Tb:DT pN P "grid" DV.t5 NX:=⟨["size","entry","rows","i"],["size","entry"],rk,rfl,rfl,λ_ _ _ _ _ _=>uc<|λ_ _=>rfl,.inl<|by decide+kernel⟩
def YC:DT pN P "least" DV.vi L8:=⟨["prices"],["prices"],rk,rfl,rfl,λ_ _ _ _ _ _=>vJ<|λ_=>rfl,.inl<|by decide+kernel⟩
def XH:DT pN P "added" DV.vy MM:=⟨["one","other"],["one","other"],rk,rfl,rfl,λ_ _ _ _ _ _=>uc<|λ_ _=>rfl,.inl<|by decide+kernel⟩
def mf{α:Type}{P:α->Prop}{a}{l}(h:P a)(t:∀x∈l,P x):∀x∈a::l,P x:=List.forall_mem_cons.mpr<|Ad h t
def wC{α:Type}{P:α->Prop}:∀x∈([]),P x:=λ_ h=>nomatch h
def Xq:DT pN P "plain" DV.vL M6:=⟨["n"],["n"],rk,rfl,rfl,λ_ _ _ _ _ _=>vJ<|λ_=>rfl,.inr ⟨by decide,[("plain.0",DV.vP,["i","j"],[])],by decide+kernel,by decide+kernel,mf (Ad rfl Dh) wC⟩⟩
def Wf:DT pN P "product" DV.vN QG:=⟨["one","other","size"],["one","other"],rk,rfl,rfl,λ_ _ _ _ _ _=>uc<|λ_ _=>rfl,.inr ⟨by decide,[("product.0",DV.vS,["i","j"],["size","one","other"])],by decide+kernel,by decide+kernel,mf (Ad rfl Dh) wC⟩⟩
def Z3:DT pN P "letter_table" DV.vT sF:=⟨["machine","letter","least_fee"],["machine","letter"],rk,rfl,rfl,λ_ _ _ _ _ _=>uc<|λ_ _=>rfl,.inr ⟨by decide,[("letter_table.least_fee",DV.vU,["i","j"],["machine","letter"])],by decide+kernel,by decide+kernel,mf (Ad rfl Dh) wC⟩⟩
def aJ8:DT pN P "word_table" DV.v3 OU:=⟨["machine","word","made","table","letter"],["machine","word"],rk,rfl,rfl,λ_ _ _ _ _ _=>uc<|λ_ _=>rfl,.inl<|by decide+kernel⟩
def Wh:DT pN P "sign_of" DV.xo QJ:=⟨["price"],["price"],rk,rfl,rfl,λ_ _ _ _ _ _=>vJ<|λ_=>rfl,.inl<|by decide+kernel⟩
def Wx:DT pN P "reading" DV.xp Qq:=⟨["table"],["table"],rk,rfl,rfl,λ_ _ _ _ _ _=>vJ<|λ_=>rfl,.inr ⟨by decide,[("reading.0",DV.xq,["i","j"],["table"])],by decide+kernel,by decide+kernel,mf (Ad rfl Dh) wC⟩⟩
def Z0:DT pN P "sign_product" DV.uX O9:=⟨["one","other","size"],["one","other"],rk,rfl,rfl,λ_ _ _ _ _ _=>uc<|λ_ _=>rfl,.inr ⟨by decide,[("sign_product.0",DV.uY,["i","j"],["size","one","other"])],by decide+kernel,by decide+kernel,mf (Ad rfl Dh) wC⟩⟩
def aK2:DT pN P "word_signs" DV.xr O0:=⟨["machine","word"],["machine","word"],rk,rfl,rfl,λ_ _ _ _ _ _=>uc<|λ_ _=>rfl,.inl<|by decide+kernel⟩
def aM5:DT pN P "is_steady" DV.vZ at2:=⟨["signs"],["signs"],rk,rfl,rfl,λ_ _ _ _ _ _=>vJ<|λ_=>rfl,.inl<|by decide+kernel⟩
def aX9:DT pN P "round_of" DV.vQ Oc:=⟨["sign"],["sign"],rk,rfl,rfl,λ_ _ _ _ _ _=>vJ<|λ_=>rfl,.inl<|by decide+kernel⟩
def aM4:DT pN P "sharpened" DV.wq OD:=⟨["signs","size","rounds"],["signs"],rk,rfl,rfl,λ_ _ _ _ _ _=>vJ<|λ_=>rfl,.inr ⟨by decide,[("sharpened.0",DV.wt,["i","j"],["size","signs","rounds"])],by decide+kernel,by decide+kernel,mf (Ad rfl Dh) wC⟩⟩
def Vo:DT pN P "closed" DV.yX EU:=⟨["machine","found","letter","at"],["machine"],rk,rfl,rfl,λ_ _ _ _ _ _=>vJ<|λ_=>rfl,.inl<|by decide+kernel⟩
def WU:DT pN P "is_ahead" DV.A2 Ow:=⟨["thing","at"],["thing","at"],rk,rfl,rfl,λ_ _ _ _ _ _=>uc<|λ_ _=>rfl,.inl<|by decide+kernel⟩
def Z9:DT pN P "is_letter_step" DV.A9 sd:=⟨["thing","letters"],["thing","letters"],rk,rfl,rfl,λ_ _ _ _ _ _=>uc<|λ_ _=>rfl,.inl<|by decide+kernel⟩
def ZZ:DT pN P "is_pair_step" DV.A7 O8:=⟨["thing","at"],["thing","at"],rk,rfl,rfl,λ_ _ _ _ _ _=>uc<|λ_ _=>rfl,.inl<|by decide+kernel⟩
def Z7:DT pN P "is_sharp_step" DV.A8 Pc:=⟨["thing","at"],["thing","at"],rk,rfl,rfl,λ_ _ _ _ _ _=>uc<|λ_ _=>rfl,.inl<|by decide+kernel⟩
def aH1:DT pN P "signs_made" DV.BH OV:=⟨["machine","makings","made","step"],["machine","makings"],rk,rfl,rfl,λ_ _ _ _ _ _=>uc<|λ_ _=>rfl,.inl<|by decide+kernel⟩
def Z5:DT pN P "signs_of_step" DV.BI Pd:=⟨["machine","step","made","at"],["machine","step","made"],rk,rfl,rfl,λ_ _ _ _ _ _=>EI<|λ_ _ _=>rfl,.inl<|by decide+kernel⟩
def aZ8:DT pN P "_law_box" DV.xN Ox:=⟨["_law_script","_law_at","_law_cell","_law_number","_law_j","_law_part"],["_law_script","_law_at"],rk,rfl,rfl,λ_ _ _ _ _ _=>uc<|λ_ _=>rfl,.inl<|by decide+kernel⟩
def aP6:DT pN P "_law_draw" DV.vw OM:=⟨["_law_box_here","_law_many","_law_found"],["_law_box_here","_law_many"],rk,rfl,rfl,λ_ _ _ _ _ _=>uc<|λ_ _=>rfl,.inl<|by decide+kernel⟩
def Z1:DT pN P "_law_product" DV.vz Pb:=⟨["_law_one","_law_other","_law_found","_law_line","_law_new","_law_k"],["_law_one","_law_other"],rk,rfl,rfl,λ_ _ _ _ _ _=>uc<|λ_ _=>rfl,.inl<|by decide+kernel⟩
def j4:DT pN P "_law_letter_signs" DV.xS oR:=⟨["_law_machine","_law_letter","_law_rooms","_law_lines","_law_start","_law_sign","_law_goal","_law_cost"],["_law_machine","_law_letter"],rk,rfl,rfl,λ_ _ _ _ _ _=>uc<|λ_ _=>rfl,.inl<|by decide+kernel⟩
def aH2:DT pN P "_law_sharp" DV.wO OS:=⟨["_law_signs","_law_size","_law_found","_law_i","_law_line","_law_j","_law_best","_law_k","_law_here"],["_law_signs"],rk,rfl,rfl,λ_ _ _ _ _ _=>vJ<|λ_=>rfl,.inl<|by decide+kernel⟩
def aK3:DT pN P "_law_small" DV.A1 OQ:=⟨["_law_box_here","_law_most","_law_letters","_law_rooms","_law_high","_law_many","_law_doors","_law_k","_law_start","_law_goal","_law_letter"],["_law_box_here","_law_most"],rk,rfl,rfl,λ_ _ _ _ _ _=>uc<|λ_ _=>rfl,.inl<|by decide+kernel⟩
def aB8:DT pN P "_law_closed" DV.A3 O6:=⟨["_law_machine","_law_most","_law_tables","_law_gens","_law_letter","_law_signs","_law_at","_law_here","_law_new","_law_sharp_here","_law_one"],["_law_machine","_law_most"],rk,rfl,rfl,λ_ _ _ _ _ _=>uc<|λ_ _=>rfl,.inl<|by decide+kernel⟩
def Z2:DT pN P "_law_makings" DV.EX Pa:=⟨["_law_box_here","_law_machine","_law_most","_law_sharps","_law_steps","_law_tables","_law_steady","_law_k","_law_way","_law_one","_law_other","_law_letter"],["_law_box_here","_law_machine","_law_most","_law_sharps"],rk,rfl,rfl,λ_ _ _ _ _ _=>WJ<|λ_ _ _ _=>rfl,.inl<|by decide+kernel⟩
def aH9:DT pN P "_law_words" DV.BG OX:=⟨["_law_box_here","_law_machine","_law_words_here","_law_turn","_law_word","_law_place"],["_law_box_here","_law_machine"],rk,rfl,rfl,λ_ _ _ _ _ _=>uc<|λ_ _=>rfl,.inl<|by decide+kernel⟩
def NS:fP ["_law_script","_law_k","_law_box_here","_law_machine","_law_makings_here","_law_tables","_law_found","_law_one","_law_signs"] ["_law_script"]<|bb BK:=rk
def Lx:vg ⟨["_law_script","_law_k","_law_box_here","_law_machine","_law_makings_here","_law_tables","_law_found","_law_one","_law_signs"],bb BK,λ_ _ _=>ce⟩ DV.yY.body (eh BK)=true:=by decide+kernel
def Lb:LW "law" BK ["_law_script"]:=λ_ _ _ _ _ _=>vJ λ_=>rfl
def RI:DT pN P "law" DV.yY BK:=⟨_,_,NS,rfl,rfl,Lb,.inl Lx⟩
def ZE:Hf pN P "closed" DV.xQ.ps DV.xQ.vs (λh S=>mX h DV.xQ.body S) EU:=⟨["machine","found","letter","at"],["machine"],rk,rfl,rfl,λ_ _ _ _ _ _=>vJ<|λ_=>rfl,.inl<|by decide+kernel⟩
def aZ4:Hf pN P "_law_set" DV.xO.ps DV.xO.vs (λh S=>mT h DV.xO S) Jg:=⟨["_law_machine"],["_law_machine"],rk,rfl,rfl,λ_ _ _ _ _ _=>vJ<|λ_=>rfl,.inl<|by decide+kernel⟩
def Ry:∀p∈tb,DT pN P p.1 p.2.1 p.2.2:=mf aI8<|mf aY6<|mf aW8<|mf aX2<|mf aD3<|mf aL7<|mf Tb<|mf YC<|mf XH<|mf Xq<|mf Wf<|mf Z3<|mf aJ8<|mf Wh<|mf Wx<|mf Z0<|mf aK2<|mf aM5<|mf aX9<|mf aM4<|mf Vo<|mf WU<|mf Z9<|mf ZZ<|mf Z7<|mf aH1<|mf Z5<|mf aZ8<|mf aP6<|mf Z1<|mf j4<|mf aH2<|mf aK3<|mf aB8<|mf Z2<|mf aH9<|mf RI wC
def TY{l:dL}{mg:yC}(X:K.In h)(G:h.Ns aV mg)(j:mg "law"=al (.ref fa))(hD:∀p∈tb,FP K p.1 p.2.2)(hz:∀x∈tK,bC K aV x=al aT){a:yI}{b:yE}(gc_LETTERS:bC K aV "LETTERS"=al (al<|.ref J))(gl_LETTERS:K.lookup J=al ⟨.type "tuple",a,.seq #[.str ⟨#[97]⟩ a0,.str ⟨#[98]⟩ a1,.str ⟨#[99]⟩ Z] a5,b⟩)(gc_FREE:bC K aV "FREE"=al (al<|.int (0) a6))(gc_SOME:bC K aV "SOME"=al (al<|.int (1) b0))(gc_UNBOUND:bC K aV "UNBOUND"=al (al<|.int (2) a3)){a:Tok}(gc_NONE:bC K aV "NONE"=al (al<|.int (3) a)){a:Tok}(gc_MOST_TABLES:bC K aV "MOST_TABLES"=al (al<|.int (80) a)){Y:Tok}(gc_MOST_STEPS:bC K aV "MOST_STEPS"=al (al<|.int (100) Y))(hT:∀x∈pN,(bG K x).isSome=bY)(tnd:decide (((IC pN K).map (·.1)).Nodup)=bY)(hDx:∀p∈dl,FP K p.1 p.2)(hcl:Iv K Kf Kd=bY)(hO:(vF.all λp=>Cg K p.1 p.2)=bY)(hM:∀p∈uI,HK K p.1.1 p.1.2 p.2.2):∃a:bS,(∀(s:ag)(v:Value),mJ s a ⟨[v],[]⟩ [("_law_script",v)])/\∀base:Heap,K.In base->base.Ns aV mg->BM mg base->ID K pN base->k6 l.prog w K mg base t7 48 fa a ["_law_script"] (Fu pN K):=by
 have b:=TQ (names:=pN) (P:=P) (uI:=uI) (vF:=vF) X G (λ_ _=>rfl) (λ_ _=>rfl) hO (by decide) hM Rg;have c:=Zh (names:=pN) (P:=P) (uI:=uI) (yd:=yd) (vF:=vF) (K:=K) (λ_ _=>rfl) (λ_ _=>rfl) hO (by decide) (λp a=>by
  unfold yd at a;simp only[aE,eK,or_false]at a;rcases a with rfl|rfl|rfl;.exact hM (("ClosedSet","take"),DV.u7,EY)<|by unfold uI;simp
  .exact hM (("ClosedSet","take_sharp"),DV.xx,E1)<|by unfold uI;simp
  .exact hM (("ClosedSet","take_pairs"),DV.xw,EZ)<|by unfold uI;simp) SS;have g:ud (wu pN P K) (Cj pN K) P mg w:=by
  refine⟨(P7 (tbl:=tbl)<|λp a=>?_),(Mw (tbl:=K6) ?_),λx a=>lc X G<|hz x a,RK X G,RQ,dO tnd,Jy (tbl:=Ke)<|λp a=>?_,Jy (tbl:=Kh)<|λp a=>?_,(Cp X G hcl).1,(Cp X G hcl).2.1,(Cp X G hcl).2.2.1,(Cp X G hcl).2.2.2.1,(Cp X G hcl).2.2.2.2.1,(Cp X G hcl).2.2.2.2.2.1,(Cp X G hcl).2.2.2.2.2.2,λ_ _ h=>(by cases h),b.1,c,b.2.1,b.2.2⟩;.obtain⟨r,hr,rfl⟩:=ar.mp a;exact wB X G hT (hD r hr) (Ry r hr)
  .refine mf ?_<|mf ?_<|mf ?_<|mf ?_<|mf ?_<|mf ?_<|mf ?_ wC;.exact Yz (bX X G gc_LETTERS) gl_LETTERS rfl rfl (show 3<=1000 by decide) (.cons (.str _ _<|by decide) (.cons (.str _ _<|by decide) (.cons (.str _ _<|by decide) (.nil))))
   .exact Dy<|bX X G gc_FREE
   .exact Dy<|bX X G gc_SOME
   .exact Dy<|bX X G gc_UNBOUND
   .exact Dy<|bX X G gc_NONE
   .exact Dy<|bX X G gc_MOST_TABLES
   .exact Dy<|bX X G gc_MOST_STEPS
  .revert p a;exact mf (JS X G hT (hDx ("closed",EU)<|aA (i:=0) rfl) ZE) wC
  .revert p a;exact mf (JS X G hT (hDx ("_law_set",Jg)<|aA (i:=1) rfl) aZ4) wC
 refine AJ (hD ("law",DV.yY,BK)<|aA (i:=36) rfl) λf a a Zz=>AZ Zz λsl a Zz=>AG Zz λkV a a a a a b c k=>?_;have e:=j.symm.trans<|bX X G a;cases e;have F:=GO (st:=BK) b c k;refine Ac _ (λs v=>.of_eq rfl) (λbase _ _ b c=>(Lw g (Nu hT b c) 16 (YG g (Nu hT b c) 16) (d:=DV.yY) (f:="law") rfl ⟨F,bX X G a,F.binds Lb⟩ NS rfl rfl Lx M4).imp<|λvs H Q E q=>SF ((DV.RD (P:=P) 7)) vs H Q E<|ZD hT q)
end My
end
end
end
end Internal
open Internal
open PySem PySem.W PyProof.Rows
set_option maxRecDepth 100000 in
set_option maxHeartbeats 0 in
theorem PySem.Challenge.cw_leasttolls_k36_whole_words_have_signs_of_holds : PySem.Challenge.rw_leasttolls_k36_whole_words_have_signs_of.Holds := by
 refine My.He.2.2.2 My.Ee My.Eb ?_
 delta My.He
 dsimp only
 k_fill
 refine L2.VP (l:=PySem.Challenge.rw_leasttolls_k36_whole_words_have_signs_of) (n:=63) (k:=48) (x := "_law_script") (sp:=L2.Fu My.pN) My.pN rfl (by decide) rfl ⟨rfl,by decide,by decide⟩ (λ w h Y=>⟨PySem.W.km_in_of Y,PySem.W.km_tabs_of Y⟩) (λ w=>?R) (λ w=>?NT) ?F (λ K H a ns a b c d=>L2.SE a b c d)
 case R=>kernel_rfl
 case NT=>kernel_rfl
 case F =>
  intro w mg a h b G a
  refine' My.TY b G a ?hD ?hz ?gc_LETTERS ?gl_LETTERS ?gc_FREE ?gc_SOME ?gc_UNBOUND ?gc_NONE ?gc_MOST_TABLES ?gc_MOST_STEPS ?hT ?tnd ?hDx ?hcl ?hO ?hM
  case hD=>repeat' first|exact My.wC|refine My.mf ?_ ?_|(dsimp only;exact Kc (by k_is) (by k_is) (by k_is) (by k_is))
  case hz=>repeat' first|exact My.wC|refine My.mf ?_ ?_|k_is
  (case gc_LETTERS=>k_is)
  (case gl_LETTERS=>k_is)
  (case gc_FREE=>k_is)
  (case gc_SOME=>k_is)
  (case gc_UNBOUND=>k_is)
  (case gc_NONE=>k_is)
  (case gc_MOST_TABLES=>k_is)
  (case gc_MOST_STEPS=>k_is)
  case hT=>repeat' first|exact My.wC|refine My.mf ?_ ?_|kernel_rfl
  (case tnd=>kernel_rfl)
  case hDx=>repeat' first|exact My.wC|refine My.mf ?_ ?_|(dsimp only;exact Kc (by k_is) (by k_is) (by k_is) (by k_is))
  (case hcl=>kernel_rfl)
  (case hO=>kernel_rfl)
  case hM =>
   intro p a;unfold My.uI at a;simp only[aE,eK,or_false]at a;rcases a with rfl|rfl|rfl|rfl
   all_goals (dsimp only;exact ⟨_,_,_,_,_,_,_,_,_,_,_,by k_is,by k_is,by k_is,by k_is,by k_is,by k_is⟩)
