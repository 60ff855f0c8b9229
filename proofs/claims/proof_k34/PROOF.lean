import PyProof.Rows.All
import OpenK.KLine
import OpenK.KQuick
import OpenK.KMake
import OpenK.KDescr
import OpenK.KMore
import OpenK.KCls
import OpenK.KGet
import OpenK.KCell
import OpenK.KCall
import OpenK.KWalk
import OpenK.KFacts
import KE.KLam
import KE.KNest
import KE.KNestM
import KE.KItem
import KE.KFromBytes
import KE.KIsAll
import KE.KMinBuiltin
import KE.KxBytes
import KE.KTops
import KE.KTabLook
import Wide.FinOn
import Wide.BytesRules
import Wide.ObjOpen
import Wide.Head
import Wide.Well
import PyProof.EqAt
import PyProof.EqKinds
import PyProof.TupleCall
import PyProof.MinMaxWalk
import PyProof.WalkInts
import PyProof.NeKinds
import PyProof.SliceStr2
import PyProof.StrBlockI
import PyProof.MaxThree
import PyProof.ZipIter
import PyProof.Draws
import PyProof.EnumMake
import PyProof.ListMulRoad
import PyProof.Rows.StrRev
import PyProof.DictItems
import PyProof.ListRange
import PyProof.AutoIntG2
import PyProof.FactsAll.int_6
import KE.KMinKey
import PyProof.Rows.TupDisplay
import PyProof.Rows.CatchBare
import KE.KTryMore
import PyProof.RulesAs
import PyProof.StrOps
import KE.KDictList
import PyProof.Rows.SortShell
import KE.KDictLaws
import KE.KDictSum
import KE.IntBitsLaws
import KE.KIntText
import PyProof.CallStr
import PyProof.StrBlockL
import PyProof.StrLawsChain
import PyProof.StrLawsTight
import PyProof.Rows.StrItems
import PySem.Challenge.RW_leasttolls_k34_the_closed_set
set_option bootstrap.genMatcherCode false
set_option genSizeOf false
set_option tactic.hygienic false
set_option genInjectivity false
set_option genCtorIdx false
set_option compiler.extract_closed false
set_option Elab.async false
set_option linter.all false
set_option maxRecDepth 100000
set_option maxHeartbeats 4000000
open PySem.W renaming Frag->ac,openSeen->bf,openGood->bh,findIn->bu,kitOne->bz,tabIn->bI,nsIn->bJ,CodeHd->bL,openEnds->bP,keepIn->bR,kia_one->bW,mg_of->b7,exmOne->cu,kla_fn->cB,emptyDict->cF,instObj->cR,fnOf->cU,recOk->cW,fnX->cX,xlAt->dh,envX->dN,OpenLaw->dP,makesIn->dS,looks_findIn->eB,plainGet->eJ,KitX->eO,Looks->eZ,callWith_K->fm,hasDictIn->fx,specialIn->fA,codeIn->fF,tabObj->fJ,takesIn->gk,plainGet_of->gz,callWith_K0->gA,lookIn->gJ,methodObj->gW,plainOver->gY,mroIn->ii,isFn->iG,cellsFrom_some->iH,takerIn->iT,methodCall_KW->i4,kitAny->j9,kitx_tuple->kP,mg_none_of->kX,kitx_list->ln,kitx_dict->lp,handedIn->lL,codeHdIn->lQ,TabsAt->mZ,noTabs->ng,LeftO->nk,WalkO->nq
open Bool renaming and_eq_true->ae,false_ne_true->bB,false_eq_true->bG,or_eq_true->cf,true_and->du,not_true->eV,eq_iff_iff->fj,not_eq_true'->fL,and_true->f6,and_eq_true_iff->jO,or_eq_false_iff->j7,false_or->kH,noConfusion->lT,or_false->nv
open PySem renaming Shared->af,wpAny_bind->ai,wpAny_pure->aE,Program->aH,mem_of_lookup->aL,Around->aU,mainGlobals->aV,cellsFrom->aX,sizeLine->a7,starEach->a9,importedModules->br,wpAny_mono->bD,Arguments->bK,bootBuiltins->bM,FuncData->bS,wpAny_Call_Name_kw->cz,NameKind->cA,wpAny_newObj_type->cG,wpAny_truthy_bool->cL,wpAny_holding->cQ,backTo->cT,treeTable->cY,assignEach->c6,wpAny_passesOwn->dg,keywordEach->di,wpAny_call_entry->dz,Paired->dA,wpAny_seqItems->dC,rawInt->dD,wpAny_callSpecial?_slot->dF,codeAmong->dG,sysModules->dM,wpAny_specialOf->dQ,wpAny_execs_nil->dR,pushCells_keeps->dU,compareOp->dZ,behindInMarks->d3,wpAny_callSpecialIfBoundUnlessNone?_slot->d4,wpAny_pyIter_list->d6,foldedSetIterable->d8,argBest->eM,binaryOp->eW,attributeBase->eX,bindArgs->eY,IsTupleKey->fk,wpAny_field->fq,sliceBounds->ft,codeAny->fy,codeAny_mono->fB,backToKw->fC,Keyword->fD,wpAny_tryCatch->fG,storeName->fQ,swapsWith->fR,pushCells->fT,relabel->fX,ExceptHandler->fZ,callSpecialIfBoundUnlessNone?->f7,sizeLine_eq->f8,letOwnedTupleGo->gj,codeAny_builtin->gq,notedBy->gC,wpAny_call->gM,newFunctionEnv->gP,holding->gX,InCallC->gZ,isTrue->ie,IsPart->ik,wpAny_comprehension_free->il,plainId_quiet->im,wpAny_forIn_list->iq,builtinsNs->iB,assign->iC,wpAny_pyNext_range_end->iD,wpAny_pyIter_rangeiter->iE,name_of_addr->iI,getItem->iJ,codeAny_compStart_list->iO,wpAny_updateSeq->iU,isSubtype_tuple_tuple->iY,wpAny_storeName_local->iZ,wpAny_isTrue_Compare1->i3,codeAny_call_function->i5,wpAny_storeName_cell->jT,wpAny_loadName_local->jU,IsRangeIter->jV,wpAny_letGo->j0,strIterType->j2,codeAny_call_builtin->j3,methodCallForm->j8,PassesOwn->ka,getMethod->ke,callerA->kg,seqItems?->kh,TriplesOk->ki,valueAt->kj,wpAny_loadName_cell->ku,wpAny_standAt->kF,swappedStores->kG,annotationsOf->kI,wpAny_rule->kL,wpAny_pyIter_tuple->kM,wpAny_pyIter_range->kN,Result->kO,typeOf->kR,cameBackBy->kW,eqIsQuiet_byValue->k8,Within->k9,standAt->lc,wpAny_assign_Name->lh,wpAny_sequenceKey->lu,wpAny_typeOf->lv,seqIndex_neg->lw,slot_list_getitem->lx,beq_builtin_none->lG,eqIsQuiet->lH,wpAny_isInstance->lI,wpAny_execs_cons->lJ,pyNext->lK,noteFrame->lO,wpAny_Dict_empty->lR,setFlight->lU,wpAny_Try_except->lX,seqIndex_of->lZ,wpAny_of_eq->l6,BindsTo->mD,call->mH,reduceHash->mJ,wpAny_Name->mK,Operator->mM,typeIs_str->mP,PlainAttrs->mQ,defaultsOf->mV,qualnameIn->mW,quietNames->mY,KeyKind->nu,pyIter->nG
open List renaming getElem?_eq_some_iff->ag,mem_cons_of_mem->ah,mem_cons_self->am,mem_map->ao,range->aq,getElem?_eq_getElem->ar,length_map->av,getElem?_append_right->aw,replicate->az,getElem?_append_left->aB,getElem?_set_ne->aC,mem_cons->aD,mem_of_getElem?->aF,all_eq_true->aG,size_toArray->aJ,getElem?_map->aK,mem_append_right->aN,length_append->aO,mem_singleton->aP,map_cons->aQ,length_cons->aR,map_append->aS,append_nil->aY,mem_append->aZ,append_assoc->be,lookup_cons->bj,mem_append_left->bn,getElem?_set_self->bq,filterMap_cons->bw,length_set->bA,mem_range->bC,getD_eq_getElem?_getD->bE,mem_map_of_mem->bF,map->bN,length_take->bQ,getElem?_range->bV,getElem?_eq_none->b9,map_map->cD,length_singleton->cH,set_append_right->cI,range_succ_eq_map->cK,drop_eq_getElem_cons->cN,mem_filterMap->cO,nodup_cons->cS,take_of_length_le->cV,getElem?_toArray->c8,contains_iff_mem->da,mem_iff_getElem->dj,all_cons->dk,getElem?_take_of_lt->dm,map_congr_left->dw,cons_append->dB,lookup->dJ,find?_cons->dW,range_succ->dX,drop_zero->eD,map_nil->eK,not_mem_nil->eP,of_mem_zip->fh,length_nil->fi,length_eq_zero_iff->fu,drop_eq_nil_of_le->fN,length_drop->fS,take_length->fU,any_cons->fY,mem_of_mem_take->gf,take_append_of_le_length->gh,getElem?_of_mem->gi,nil_append->gu,filterMap_map->gO,nodup_nil->gR,mem_or_eq_of_mem_set->gU,flatten_cons->g6,length_range->hJ,ext_getElem?->ib,length_filterMap_le->io,getElem?_replicate->ir,pairwise_singleton->iz,set_set->iQ,foldl_cons->iV,take_append_drop->i8,length->jW,forIn_nil->jZ,filterMap->j1,pairwise_append->j6,replicate_succ->kA,length_pos_iff->kC,nodup_append->ly,drop_sublist->lz,any_eq_true->lP,getElem_mem->lW,mem_filter->l9,forIn_cons->mq,set_append->my,all_append->mB,take_succ->nh,take_zero->ni,map_take->nB,all_map->nF,all_nil->nK
open Nat renaming le_refl->aj,le_trans->au,lt_of_lt_of_le->aA,ne_of_lt->aI,lt_irrefl->bO,add_sub_cancel_left->bU,zero_add->cb,zero_le->cy,not_lt_zero->cM,lt_succ_self->dE,le_succ->dL,add_assoc->dY,le_of_lt->eF,ne_of_gt->eI,lt_trans->fI,le_of_succ_le->g7,lt_succ_of_lt->g9,lt_trichotomy->ia,lt_or_ge->lA,add_zero->lB,sub_self->lC,add_comm->lD,sub_zero->lE,le_of_not_lt->lN,not_lt->mU,le_of_eq->nI
open PySem.Heap renaming get?_push_of_some->ak,lt_size->aM,get?_push_size->aW,size_push->cx,get?_update_other->cC,get?_update_self->d5,SameBut->eG,ExtBut->l7
open Option.some renaming inj->ay,injEq->lF
open False renaming elim->bo
open Option renaming map_eq_some_iff->bp,map_some->bX,isSome_iff_exists->cw,isSome->fe,isSome_some->gQ,isSome_map->hV,isSome_none->kS,getD_none->lM,bind_some->lY
open PySem.Str renaming ofString->bv
open Ne renaming symm->bH
open PyProof.Rows renaming slot_tuple_getitem->bT,callWith_type1->d7,kindOf->eR,envOfC->gm,AllBare->gB,subscriptTail_builtinR->iK,entry_tuple_getitem->kz,Constant_none->kE,args_tuple_getitem->kQ,SortSt->lV,IntsAre->mF,tail_any->mO,pendingOf->nE
open PySem.W.OpenRow renaming toRowW->bZ
open PySem.Builtin.Str renaming strSliceIndices->b8
open PySem.Builtin.Range renaming rangeSize->ci,small->kB,rangeFitsLong->mG
open PySem.W.RowW renaming records->cj
open PySem.Builtin.Tuple renaming tupleHashOf->cr,tupleExact->dq,tupleItemsOf->eA
open PySem.Builtin.SmallTypes renaming nextOf->cE
open Int renaming le_refl->cJ,toNat_natCast->d9,le_trans->fK,zero_add->iR,emod_lt_of_pos->kY,natCast_nonneg->kZ,le_antisymm->mr,emod_nonneg->mz,le_total->nM
open PySem.F renaming plain_min_loop->cZ,slot_tuple_iterator_next->c7,slot_NoneType_hash->et,slot_tuple_hash->fw,attrBase_ValueError->fO,args_tuple_iterator_next_1->gy,entry_tuple_iterator_next->gE,slot_dict_getitem->gT,entry_min_loop->iu,plainAttrs_list->iy,slot_list_append->i6,excBase_ValueError->j5,slot_tuple_eq->l8
open PySem.W.Looks renaming andThen->c9,now->hZ,ld->lS,here->nX,tag->n6
open PySem.Builtin.Slice renaming slicePlaces->db,sliceAdjust->eQ,sliceApplied->gN,slicePartIndex->mn,sliceFields->nj
open Array renaming length_toList->dv,toList_append->eT,forIn_toList->gG,getElem?_eq_getElem->gS,getElem?_mapIdx->i7,getElem?_toList->i9,toList->lf
open PySem.Builtin.Getset_descriptor renaming descrCheckInstance->dH,descrOwnerAndName->dI,descrGetter->eN,descrNameAndClass->iA,descrGetArgs->j4
open PySem.SeqAt.EqAt renaming same->fg,of_refs->gH,none_tuple->iW,tuple_none->iX,int_tuple->jP,str_tuple->jQ,tuple_int->jR,tuple_str->jS,none_int->km,none_str->ko,int_none->kq,str_none->kr,int_str->kJ,str_int->kK
open PySem.Builtin.ObjectAttr renaming find->fv
open PySem.Builtin renaming bitNot->fM,bitOr->ig
open PySem.Paired renaming length->fW,mono->nQ,snoc->nW
open PySem.Around renaming under_plainId->f9,frames_deeper->jX,under->lq
open PySem.Txt renaming slice->gr
open PySem.Builtin.Builtins renaming bindParams->gD
open PySem.Calls renaming Name_function_global->gI,callWith_builtin->iM,evalArgs_plain->jY
open PySem.W.OpenLaw renaming wellSaid->ic
open Prod renaming ext->ip
open Classical renaming propDecidable->iw
open PySem.Obj renaming mapSeq->iL,data_mapFields->kT
open PySem.SeqAt renaming EqAt->iP,RcNeAt->nJ,RcAt->nZ
open PySem.Heap.SameBut renaming update->kD
open PySem.W.KF renaming slot_gs->kU
open PySem.SeqAt.RcAt renaming tuples->k7
open PySem.Code renaming isFrame->lr,frames->nU
open PySem.PassesOwn renaming never->mw
open PySem.Walks renaming list->mR,range->nR
open PySem.Value renaming isStrOf->nr,isInt->nO
open PySem.CmpOf renaming ints_lt->ny
open Function renaming comp->nA
open PyProof.Rows.IsTup renaming new->nD
open Prod.mk renaming inj->nN
open PySem.IsRange renaming new->nT
open PySem.Heap.Ns renaming new->nV
open PySem.Heap.IsSliceOf renaming new->nY
section
variable{G:Prop}
def AM{A B:Prop}{C D:a->Prop}(h:A/\B/\∃x,C x/\D x)(k0:A->B->∀x,C x->D x->G):G:=let⟨p0,p1,x,p2,p3⟩:=h;k0 p0 p1 x p2 p3
def AO{A:Prop}{B C:a->Prop}(h:A/\∃x,B x/\C x)(k0:A->∀x,B x->C x->G):G:=let⟨p0,x,p1,p2⟩:=h;k0 p0 x p1 p2
def AY{A:Prop}{B C:a->b->Prop}(h:A/\∃x y,B x y/\C x y)(k0:A->∀x y,B x y->C x y->G):G:=let⟨p0,x,y,p1,p2⟩:=h;k0 p0 x y p1 p2
end
section
variable{G:Prop}{A B C D E F:Prop}
def AB(h:A/\B)(k0:A->B->G):G:=let⟨p0,p1⟩:=h;k0 p0 p1
def AI(h:A/\B/\C)(k0:A->B->C->G):G:=let⟨p0,p1,p2⟩:=h;k0 p0 p1 p2
def AU(h:A/\B/\C/\D)(k0:A->B->C->D->G):G:=let⟨p0,p1,p2,p3⟩:=h;k0 p0 p1 p2 p3
def AV(h:A/\B/\C/\D/\E/\F)(k0:A->B->C->D->E->F->G):G:=let⟨p0,p1,p2,p3,p4,p5⟩:=h;k0 p0 p1 p2 p3 p4 p5
def AW(h:A/\B/\C/\D/\E)(k0:A->B->C->D->E->G):G:=let⟨p0,p1,p2,p3,p4⟩:=h;k0 p0 p1 p2 p3 p4
end
section
variable{G:Prop}{A B C D E:a->Prop}
def AD(h:∃x,A x/\B x)(k0:∀x,A x->B x->G):G:=let⟨x,p0,p1⟩:=h;k0 x p0 p1
def AF(h:∃x,A x)(k0:∀x,A x->G):G:=let⟨x,p0⟩:=h;k0 x p0
def AH(h:∃x,A x/\B x/\C x)(k0:∀x,A x->B x->C x->G):G:=let⟨x,p0,p1,p2⟩:=h;k0 x p0 p1 p2
def AQ(h:∃x,A x/\B x/\C x/\D x/\E x)(k0:∀x,A x->B x->C x->D x->E x->G):G:=let⟨x,p0,p1,p2,p3,p4⟩:=h;k0 x p0 p1 p2 p3 p4
def AZ(h:∃x,A x/\B x/\C x/\D x)(k0:∀x,A x->B x->C x->D x->G):G:=let⟨x,p0,p1,p2,p3⟩:=h;k0 x p0 p1 p2 p3
end
section
variable{G:Prop}{A B C D:a->b->Prop}
def AE(h:∃x y,A x y/\B x y)(k0:∀x y,A x y->B x y->G):G:=let⟨x,y,p0,p1⟩:=h;k0 x y p0 p1
def AL(h:∃x y,A x y/\B x y/\C x y)(k0:∀x y,A x y->B x y->C x y->G):G:=let⟨x,y,p0,p1,p2⟩:=h;k0 x y p0 p1 p2
def AR(h:∃x y,A x y/\B x y/\C x y/\D x y)(k0:∀x y,A x y->B x y->C x y->D x y->G):G:=let⟨x,y,p0,p1,p2,p3⟩:=h;k0 x y p0 p1 p2 p3
def Aa(h:∃x y,A x y)(k0:∀x y,A x y->G):G:=let⟨x,y,p0⟩:=h;k0 x y p0
end
section
variable{G:Prop}{A B C D:a->b->c->Prop}
def AJ(h:∃x y z,A x y z)(k0:∀x y z,A x y z->G):G:=let⟨x,y,z,p0⟩:=h;k0 x y z p0
def AK(h:∃x y z,A x y z/\B x y z/\C x y z/\D x y z)(k0:∀x y z,A x y z->B x y z->C x y z->D x y z->G):G:=let⟨x,y,z,p0,p1,p2,p3⟩:=h;k0 x y z p0 p1 p2 p3
def AS(h:∃x y z,A x y z/\B x y z/\C x y z)(k0:∀x y z,A x y z->B x y z->C x y z->G):G:=let⟨x,y,z,p0,p1,p2⟩:=h;k0 x y z p0 p1 p2
def AX(h:∃x y z,A x y z/\B x y z)(k0:∀x y z,A x y z->B x y z->G):G:=let⟨x,y,z,p0,p1⟩:=h;k0 x y z p0 p1
end
section
variable{G:Prop}{A B:a->b->c->d->Prop}
def AN(h:∃x y z u,A x y z u/\B x y z u)(k0:∀x y z u,A x y z u->B x y z u->G):G:=let⟨x,y,z,u,p0,p1⟩:=h;k0 x y z u p0 p1
end
section
variable{G:Prop}{A B C D:a->b->c->d->e->Prop}
def AG(h:∃x y z u v,A x y z u v/\B x y z u v/\C x y z u v/\D x y z u v)(k0:∀x y z u v,A x y z u v->B x y z u v->C x y z u v->D x y z u v->G):G:=let⟨x,y,z,u,v,p0,p1,p2,p3⟩:=h;k0 x y z u v p0 p1 p2 p3
end
abbrev yA:=List<|PySem.Addr×PySem.Obj
abbrev yB:=PySem.Value->PySem.Shared->Prop
abbrev yC:=List<|PySem.Str×PySem.Addr
abbrev yD:=PySem.Str->Option PySem.Value
abbrev yE:=List<|Option Nat
abbrev yF:=Array<|Option PySem.Value
abbrev yG:=List<|PySem.Addr×PySem.Addr
abbrev yH:=List PySem.Value
abbrev yI:=List PySem.Str
abbrev yJ:=Option PySem.Addr
abbrev yK:=Array PySem.Value
abbrev yL:=List PySem.Expr
abbrev yM:=List PySem.Stmt
def Zq0(_:True:=by first|exact .inl rfl|exact .inr rfl|assumption):=trivial
def Zq1(_:True:=by decide):=trivial
def Zq2(_:True:=by first|exact aQ5 _ (by decide) (by decide)|rfl):=trivial
def Zq3(_:True:=by intro _;rfl):=trivial
def Zq4(_:True:=by rfl):=trivial
def Zq5(_:True:=by first|exact Or.inl rfl|exact Or.inr<|Or.inl rfl|exact Or.inr<|Or.inr rfl):=trivial
def Zq6(_:True:=by first|exact .inl rfl|exact .inr rfl):=trivial
def Zq7(_:True:=by nofun):=trivial
def Zq8(_:True:=by decide+kernel):=trivial
open Option renaming some->al,none->aT
open Bool renaming true->bY,false->ce
abbrev dr:=@of_decide_eq_true
abbrev dO:=@if_pos
abbrev ef:=@if_neg
abbrev gc:=@decide_eq_true
abbrev gn:=@decide_eq_false
abbrev gv:=@eq_of_beq
abbrev ij:=@absurd
abbrev iF:=@decide_eq_true_eq
namespace Internal
noncomputable section
namespace L2
open PySem PySem.Spec PyProof.Rows
def head_of{l:dP}{q:aH}{loose:yI}{H:PySem.W.Hook}{N:Nat}{d:DefRec}{h:List<|Str×Expr}(left:nk l.row.prog q loose (λs=>dh q [] s&&cW (cj<|bZ l.row) s) H.obs H.val N)(z:PySem.W.defOf q l.row.name=al (d,h))(hp:l.row.prog.theDef l.row.name=al (d.params,d.body,d.scope))(hk:PySem.W.kwWritten? d.params.kwonlyargs d.params.kw_defaults=al h)(J:(!l.row.writes||l.row.records.isEmpty)=bY)(k1:l.row.wellSaid=bY)(ok:(PySem.W.chainsOk q&&PySem.W.opensWell l.row.prog&&(PySem.W.frees l.row.toRowW&&l.row.within.isEmpty))=bY)(hb:l.row.prog.bare)(hw:l.row.toRowW.promised)(call:nq q loose (PySem.W.XL q []) H.says l.row.toRowW d h λf vs=>mH f vs):l.row.Holds:=PySem.W.holds_open left H.of H.keeps (λs e=>PySem.W.xl_of s (jO.mp e).1) PySem.W.XL.keeps z hp hk (λs e=>PySem.W.recFacts_of (jO.mp e).2) J k1 ok hb hw call
def bc4{a:yI}{α:Type}{J}{z:World->α}(c:(bP cY p w N).map (λs=>((bf q a (br p.main.body) h bY s).1,(bf q a (br p.main.body) h bY s).2.1,(bf q a (br p.main.body) h bY s).2.2.1))=al ((bh q a).1,(bh q a).2.1,(bh q a).2.2.1))(d:(bP cY p w N).map (λs=>(bf q a (br p.main.body) h bY s).2.2.2)=al (bh q a).2.2.2)(Z:(bP cY p w N).map J=al (z w)):(bP cY p w N).map (λs=>((bf q a (br p.main.body) h bY s),J s))=al ((bh q a),z w):=by obtain⟨s,a,b⟩:=bp.mp c;obtain⟨c,c,e⟩:=bp.mp d;obtain⟨d,d,Y⟩:=bp.mp Z;rw[a]at d c;cases d;cases c;obtain⟨d,c⟩:=nN b;obtain⟨c,b⟩:=nN c;rw[a];exact congrArg al<|ip (ip d<|ip c<|ip b e) Y
theorem left_rows{a:yI}{z:World->α}row (a0:∀w:World,(bP cY p (w.withFollow row ce) N).map (λs=>((bf q a (br p.main.body) h bY s).1,(bf q a (br p.main.body) h bY s).2.1,(bf q a (br p.main.body) h bY s).2.2.1))=al ((bh q a).1,(bh q a).2.1,(bh q a).2.2.1))(a1:∀w:World,(bP cY p (w.withFollow row ce) N).map (λs=>(bf q a (br p.main.body) h bY s).2.2.2)=al (bh q a).2.2.2)(Uu:∀w:World,(bP cY p (w.withFollow row bY) N).map (λs=>((bf q a (br p.main.body) h bY s).1,(bf q a (br p.main.body) h bY s).2.1,(bf q a (br p.main.body) h bY s).2.2.1))=al ((bh q a).1,(bh q a).2.1,(bh q a).2.2.1))(b1:∀w:World,(bP cY p (w.withFollow row bY) N).map (λs=>(bf q a (br p.main.body) h bY s).2.2.2)=al (bh q a).2.2.2)(a2:∀w:World,(bP cY p (w.withFollow row ce) N).map J=al (z<|w.withFollow row ce))(b2:∀w:World,(bP cY p (w.withFollow row bY) N).map J=al (z<|w.withFollow row bY)):nk p q a h J z N:=λw=>by
 have e:=PySem.World.withFollow_self w row;cases a:w.params.followText row<;>rw[a]at e;.have:=bc4 (a0 w) (a1 w) (a2 w);rwa[e]at this
 .have:=bc4 (Uu w) (b1 w) (b2 w);rwa[e]at this
end L2
end
noncomputable section
namespace My
open PySem L2
noncomputable def nmS:Stmt->Bool|.Assign [.Name x _] _ _=>decide<|x=("__name__")|_=>ce
def vq:aH:={PySem.Challenge.pw_leasttolls_k34_the_closed_set with main:={(PySem.Challenge.pw_leasttolls_k34_the_closed_set).main with body:=(PySem.Challenge.pw_leasttolls_k34_the_closed_set).main.body.filter λs=>!nmS s}}
set_option maxRecDepth 100000 in set_option maxHeartbeats 0 in theorem left0:∀w:World,(bP cY PySem.Challenge.rw_leasttolls_k34_the_closed_set.row.prog (w.withFollow "special-get-raises" ce) 6300).map (λs=>((bf vq ["ClosedSet","NoMaking"] (br PySem.Challenge.rw_leasttolls_k34_the_closed_set.row.prog.main.body) (λs=>dh vq [] s&&cW (cj<|bZ PySem.Challenge.rw_leasttolls_k34_the_closed_set.row) s) bY s).1,(bf vq ["ClosedSet","NoMaking"] (br PySem.Challenge.rw_leasttolls_k34_the_closed_set.row.prog.main.body) (λs=>dh vq [] s&&cW (cj<|bZ PySem.Challenge.rw_leasttolls_k34_the_closed_set.row) s) bY s).2.1,(bf vq ["ClosedSet","NoMaking"] (br PySem.Challenge.rw_leasttolls_k34_the_closed_set.row.prog.main.body) (λs=>dh vq [] s&&cW (cj<|bZ PySem.Challenge.rw_leasttolls_k34_the_closed_set.row) s) bY s).2.2.1))=al ((bh vq ["ClosedSet","NoMaking"]).1,(bh vq ["ClosedSet","NoMaking"]).2.1,(bh vq ["ClosedSet","NoMaking"]).2.2.1):=λw=>by kernel_rfl
set_option maxRecDepth 100000 in set_option maxHeartbeats 0 in theorem left1:∀w:World,(bP cY PySem.Challenge.rw_leasttolls_k34_the_closed_set.row.prog (w.withFollow "special-get-raises" ce) 6300).map (λs=>(bf vq ["ClosedSet","NoMaking"] (br PySem.Challenge.rw_leasttolls_k34_the_closed_set.row.prog.main.body) (λs=>dh vq [] s&&cW (cj<|bZ PySem.Challenge.rw_leasttolls_k34_the_closed_set.row) s) bY s).2.2.2)=al (bh vq ["ClosedSet","NoMaking"]).2.2.2:=λw=>by kernel_rfl
set_option maxRecDepth 100000 in set_option maxHeartbeats 0 in theorem left3:∀w:World,(bP cY PySem.Challenge.rw_leasttolls_k34_the_closed_set.row.prog (w.withFollow "special-get-raises" bY) 6300).map (λs=>((bf vq ["ClosedSet","NoMaking"] (br PySem.Challenge.rw_leasttolls_k34_the_closed_set.row.prog.main.body) (λs=>dh vq [] s&&cW (cj<|bZ PySem.Challenge.rw_leasttolls_k34_the_closed_set.row) s) bY s).1,(bf vq ["ClosedSet","NoMaking"] (br PySem.Challenge.rw_leasttolls_k34_the_closed_set.row.prog.main.body) (λs=>dh vq [] s&&cW (cj<|bZ PySem.Challenge.rw_leasttolls_k34_the_closed_set.row) s) bY s).2.1,(bf vq ["ClosedSet","NoMaking"] (br PySem.Challenge.rw_leasttolls_k34_the_closed_set.row.prog.main.body) (λs=>dh vq [] s&&cW (cj<|bZ PySem.Challenge.rw_leasttolls_k34_the_closed_set.row) s) bY s).2.2.1))=al ((bh vq ["ClosedSet","NoMaking"]).1,(bh vq ["ClosedSet","NoMaking"]).2.1,(bh vq ["ClosedSet","NoMaking"]).2.2.1):=λw=>by kernel_rfl
set_option maxRecDepth 100000 in set_option maxHeartbeats 0 in theorem left4:∀w:World,(bP cY PySem.Challenge.rw_leasttolls_k34_the_closed_set.row.prog (w.withFollow "special-get-raises" bY) 6300).map (λs=>(bf vq ["ClosedSet","NoMaking"] (br PySem.Challenge.rw_leasttolls_k34_the_closed_set.row.prog.main.body) (λs=>dh vq [] s&&cW (cj<|bZ PySem.Challenge.rw_leasttolls_k34_the_closed_set.row) s) bY s).2.2.2)=al (bh vq ["ClosedSet","NoMaking"]).2.2.2:=λw=>by kernel_rfl
inductive IsL:dP->Prop|mk:IsL PySem.Challenge.rw_leasttolls_k34_the_closed_set
def cb6(h:IsL l):PySem.Challenge.rw_leasttolls_k34_the_closed_set=l:=by cases h;rfl
noncomputable def lwp:{l:dP//IsL l}:=by refine⟨?p,?h⟩;case h=>
  have e:PySem.Challenge.rw_leasttolls_k34_the_closed_set=?p:=by conv=>lhs;reduce
  exact e▸IsL.mk
def ws1:ic lwp.1=true:=by k_qdec
def ws:ic PySem.Challenge.rw_leasttolls_k34_the_closed_set=true:=by rw[cb6 lwp.2];exact ws1
end My
end
section
open PySem PySem.W PyProof.Rows
set_option hygiene false in
local macro_rules|`(tactic|o_head$H)=>`(tactic|(refine L2.head_of (q:=My.vq) (loose:=["ClosedSet","NoMaking"]) (H:=$H) (N:=6300) (L2.left_rows "special-get-raises" My.left0 My.left1 My.left3 My.left4 ?my2 ?my5) (by rfl) (by rfl) (by rfl) rfl (by assumption) (by decide+kernel) ⟨rfl,rfl,rfl,rfl,rfl,by decide+kernel⟩ ?_ ?_;(case my2=>exact myl2);(case my5=>exact myl5)))
set_option maxRecDepth 100000 in set_option maxHeartbeats 0 in noncomputable def My.GT0:(L2:Prop)×'(L5:Prop)×'{G:Prop//L2->L5->G->PySem.Challenge.rw_leasttolls_k34_the_closed_set.Holds}:=by refine⟨?L2,?L5,?G,?h⟩;case h=>intro myl2 myl5 g;w_on;refine holds_law My.ws λsaid=>?_;k_head;(focus w_witness2);exact g
set_option maxRecDepth 100000 in set_option maxHeartbeats 0 in theorem My.left2:My.GT0.1:=λw=>by kernel_rfl
set_option maxRecDepth 100000 in set_option maxHeartbeats 0 in theorem My.left5:My.GT0.2.1:=λw=>by kernel_rfl
end
noncomputable section
namespace L2
open PySem PySem.Spec PyProof.Rows
abbrev Key:=Sum Int Str
noncomputable def aH7:Key->Value->Bool|.inl k,v=>nO k v|.inr x,v=>nr x v
noncomputable def cu5(w:World):Key->Int|.inl k=>hashInt k|.inr x=>hashStr w x
def zo:∀{k}{v},aH7 k v=bY->(∃i t,k=Sum.inl i/\v=Value.int i t)\/(∃x t,k=Sum.inr x/\v=Value.str x t)|.inl i,v,h=>by obtain⟨t,e⟩:=Value.isInt_shape h;exact .inl ⟨i,t,rfl,e⟩|.inr x,v,h=>by obtain⟨t,e⟩:=Value.isStrOf_shape h;exact .inr ⟨x,t,rfl,e⟩
def bj9 i t:aH7 (.inl i) (.int i t)=true:=by simp[aH7,nO]
def aX4 x t:aH7 (.inr x) (.str x t)=true:=by simp[aH7,nr]
def bX2 a b:decide ((Sum.inl a:Key)=Sum.inl b)=(a==b):=by
 by_cases e:a=b;.subst e;simp
 .have h:¬(Sum.inl a:Key)=Sum.inl b:=λq=>e<|Sum.inl.inj q;rw[gn h];exact(beq_eq_false_iff_ne.mpr e).symm
def cb7 a b:decide ((Sum.inr a:Key)=Sum.inr b)=decide (a=b):=by
 by_cases e:a=b;.subst e;simp
 .have h:¬(Sum.inr a:Key)=Sum.inr b:=λq=>e<|Sum.inr.inj q;rw[gn h,gn e]
def bW2 a b:decide ((Sum.inl a:Key)=Sum.inr b)=false:=gn<|λq=>nomatch q
def cf1 a b:decide ((Sum.inr a:Key)=Sum.inl b)=false:=gn<|λq=>nomatch q
def zT prog w:nu prog w Key where
 is:=aH7;hash:=cu5 w;inj:=λv a b a b=>by
  rcases zo a with⟨i,t,rfl,rfl⟩|⟨x,t,rfl,rfl⟩
  .rcases zo b with⟨j,u,rfl,e⟩|⟨y,u,rfl,e⟩;.injection e with a _;rw[a]
   .exact nomatch e
  .rcases zo b with⟨j,u,rfl,e⟩|⟨y,u,rfl,e⟩;.exact nomatch e
   .injection e with a _;rw[a]
 byValue:=λk v h=>by rcases zo h with⟨i,t,rfl,rfl⟩|⟨x,t,rfl,rfl⟩<;>rfl
 pyHash:=λa h=>by
  rcases zo a with⟨i,t,rfl,rfl⟩|⟨x,t,rfl,rfl⟩;.exact wpAny_pyHash_int h
  .exact wpAny_pyHash_str h
 eqBool:=λb a h=>by
  rcases zo b with⟨i,t,rfl,rfl⟩|⟨x,t,rfl,rfl⟩
  .rcases zo a with⟨j,u,rfl,rfl⟩|⟨y,u,rfl,rfl⟩;.rw[bX2]at h;exact wpAny_eqBool_int h
   .rw[bW2]at h;exact kJ i t y u _ _ _ _ h
  .rcases zo a with⟨j,u,rfl,rfl⟩|⟨y,u,rfl,rfl⟩;.rw[cf1]at h;exact kK x t j u _ _ _ _ h
   .rw[cb7]at h;exact wpAny_eqBool_str h
 «strs»:=λk x t v h=>by
  rcases zo h with⟨i,u,rfl,e⟩|⟨y,u,rfl,e⟩;.exact nomatch e
  .injection e with a _;subst a;cases v<;>rfl
def aK2 prog w i t:(zT prog w).is (.inl i) (.int i t)=true:=bj9 i t
def aJ7 prog w x t:(zT prog w).is (.inr x) (.str x t)=true:=aX4 x t
abbrev FK:=Option Key
def fIs:FK->Value->Bool
 |none,v=>match v with|.none=>bY|_=>ce
 |some k,v=>aH7 k v
def fH(w:World):FK->Int|none=>0xFCA86420|some k=>cu5 w k
def qb(h:fIs aT v=bY):v=.none:=by cases v with|none=>rfl|_=>exact nomatch h
def bi5{E:yB}(h:Q 0xFCA86420 {s with toks:=s.toks+1}):wpAny (model P w) A (PySem.pyHash .none) Q E s:=by
 have a:s.TypeIs .none "NoneType":=rfl;refine ai<|wpAny_cRoomFor_byValue rfl ?_;refine ai<|dQ a et.lookup ?_;rw[ef<|by rw[lG];exact bB];refine ai<|dQ a et.lookup ?_;refine ai<|d4 a et<|dz et a F.entry_NoneType_hash
   (wpAny_ret_mkInt ?_) (F.args_NoneType_hash_1 _);show wpAny _ _ (if _ then _ else _) Q E _;rw[dO<|by decide];exact aE h
def jf prog w:nu prog w FK where
 is:=fIs;hash:=fH w;inj:=λv a b c d=>by cases a with
  |none=>cases qb c;cases b with|none=>rfl|some k=>rcases zo d with⟨_,_,_,e⟩|⟨_,_,_,e⟩<;>exact nomatch e
  |some k=>cases b with|none=>cases qb d;rcases zo c with⟨_,_,_,e⟩|⟨_,_,_,e⟩<;>exact nomatch e|some j=>exact congrArg al<|(zT prog w).inj v k j c d
 byValue:=λk v h=>by cases k with|none=>cases qb h;rfl|some k=>exact(zT prog w).byValue k v h
 pyHash:=λ{A E s k v Q}c h=>by cases k with|none=>cases qb c;exact bi5 h|some k=>exact(zT prog w).pyHash c h
 eqBool:=λ{A E s a b u v Q}d c h=>by cases a with
  |none=>cases qb d;cases b with|none=>cases qb c;exact fg _ prog w E Q h|some k=>
    rcases zo c with⟨i,t,rfl,rfl⟩|⟨x,t,rfl,rfl⟩;.exact km i t _ _ _ _ h
    .exact ko x t _ _ _ _ h
  |some k=>cases b with|none=>
    cases qb c;rcases zo d with⟨i,t,rfl,rfl⟩|⟨x,t,rfl,rfl⟩;.exact kq i t _ _ _ _ h
    .exact kr x t _ _ _ _ h|some j=>refine(zT prog w).eqBool d c ?_;simp_all
 «strs»:=λk x t v h=>by cases k with|none=>exact nomatch qb h|some k=>exact(zT prog w).strs k x t v h
abbrev NI:=Sum FK<|List FK
section
variable(P:aH)(w:World)
def NIs(h:Heap):NI->Value->Prop|.inl f,v=>fIs f v=bY|.inr l,v=>∃b,v=.ref b/\fk (jf P w) h l b
def bA7(h:Heap)(c:List NI)(a:Addr):Prop:=∃o b n,h.get? a=al o/\o.cls=.type "tuple"/\o.data=.seq b n/\dA (NIs P w h) c b.toList
def aK1:NI->Int|.inl f=>fH w f|.inr l=>tupleKeyHash (jf P w) l
noncomputable def aV3:NI->Nat|.inl f=>1|.inr l=>l.length+1
def jC:List NI->Nat|[]=>0|k::a=>aV3 k+jC a
end
section
variable{P:aH}{w:World}{h h':Heap}
theorem NIs.inj(c:NIs P w h x v)(a:NIs P w h y v):x=y:=by cases x with
 |inl f=>cases y with|inl g=>exact congrArg Sum.inl<|(jf P w).inj v f g c a|inr l=>obtain⟨b,rfl,_⟩:=a;exact ij ((jf P w).byValue f _ c) (by nofun)
 |inr l=>obtain⟨b,rfl,b⟩:=c;cases y with|inl g=>exact ij ((jf P w).byValue g _ a) (by nofun)|inr m=>refine AD a λc e a=>?_;cases e;exact congrArg Sum.inr<|b.inj a
theorem NIs.all_inj:∀{x y}{a:yH},dA (NIs P w h) x a->dA (NIs P w h) y a->x=y|_,_,_,.nil,.nil=>rfl|_,_,_,.cons a p,.cons b q=>by rw[a.inj b,NIs.all_inj p q]
def bA7.inj(b:bA7 P w h x a)(c:bA7 P w h y a):x=y:=by refine AK b λo i n e _ d p=>AK c λUu J Y a _ b z=>?_;cases e▸a;cases d▸b;exact NIs.all_inj p z
def NIs.keep(k:∀b l,fk (jf P w) h l b->fk (jf P w) h' l b)(a:NIs P w h x v):NIs P w h' x v:=by cases x with|inl f=>exact a|inr l=>exact AD a λb e p=>⟨b,e,k _ _ p⟩
def bN3{E:yB}(g:A.units+1<cLine)(hk:bA7 P w s.heap k a)(h:Q (mJ<|cr<|k.map<|aK1 P w) {s with toks:=s.toks+(jC k+1)}):wpAny (model P w) A (PySem.pyHash<|.ref a) Q E s:=by
 refine AK hk λo b n e c d p=>have b:s.TypeIs (.ref a) "tuple":=⟨o,e,c⟩;ai<|wpAny_cRoomFor (by lia) ?_;refine ai<|dQ b fw.lookup ?_;rw[ef<|by lia];refine ai<|dQ b fw.lookup ?_;refine ai<|d4 b fw<|dz fw b F.entry_tuple_hash ?_<|F.args_tuple_hash_1 _;show wpAny _ _ (eA (.ref a)>>=_) _ _ s;refine ai<|wpAny_tupleItemsOf e d<|ai ?_;rw[<-gG];refine iq _
  (λrest(b)d=>∃q r,k=q++r/\dA (NIs P w s.heap) r rest/\b.toList=q.map (aK1 P w)/\d={s with toks:=s.toks+jC q}) _ ?_ ?_ _ _ ⟨[],k,rfl,p,rfl,rfl⟩;.rintro x rest b d⟨q,r,rfl,pr,hb,rfl⟩;cases pr with|@cons u _ a _ e t=>
   have z:∀q:List NI,jC (q++[u])=jC q+aV3 u:=λq=>by induction q with|nil=>simp[jC]|cons c q c=>rw[dB,jC,jC,c];lia
   refine ai ?_;cases u with
   |inl f=>refine(jf P w).pyHash e ?_;first|exact aE ⟨q++[.inl f],a,by simp,t,by simp[];rfl,by rw[z];simp[dY]⟩|exact ai<|aE<|aE ⟨q++[.inl f],a,by simp,t,by simp[hb];rfl,by rw[z];simp[aV3,dY]⟩
   |inr l=>obtain⟨c,rfl,J⟩:=e;refine wpAny_pyHash_tuple (g) J ?_;first|exact aE ⟨q++[.inr l],a,by simp,t,by simp[];rfl,by rw[z];simp[dY]⟩|exact ai<|aE<|aE ⟨q++[.inr l],a,by simp,t,by simp[hb];rfl,by rw[z];simp[aV3,dY]⟩
 .rintro b d⟨q,r,rfl,pr,hb,rfl⟩;cases pr;rw[aY]at h;show wpAny _ _ (retInt<|cr b.toList) _ _ _;rw[hb];refine wpAny_ret_mkInt ?_;show wpAny _ _ (if(decide (-(2:Int)^63<=cr (q.map<|aK1 P w))&&decide (cr (q.map<|aK1 P w)<2^63))=bY then _ else _) Q E _;unfold mJ at h;by_cases a:(decide (-(2:Int)^63<=cr (q.map<|aK1 P w))&&decide (cr (q.map<|aK1 P w)<2^63))=bY;.rw[dO a]at h⊢;exact aE<|by simpa[dY]using h
  .rw[ef a]at h⊢;exact ai<|kL<|aE<|by simpa[dY]using h
def aN7(x:fk (jf P w) h l b):∃a,h.IsTuple b a:=let⟨o,a,n,e,c,d,_⟩:=x;⟨a,o,e,c,n,d⟩
theorem ItemsAre.cg:∀{l}{a:yH},ItemsAre (jf P w) l a->ItemsAre (jf z J) l a|_,_,.nil=>.nil|_,_,.cons h t=>.cons (h) (ItemsAre.cg t)
theorem fk.cg:fk (jf P w) h l b->fk (jf z J) h l b:=λ⟨o,i,n,e,c,d,p⟩=>⟨o,i,n,e,c,d,ItemsAre.cg p⟩
theorem NIs.cg(a:NIs P w h x v):NIs z J h x v:=by cases x with|inl f=>exact a|inr l=>exact AD a λb e p=>⟨b,e,fk.cg p⟩
def cp0(a:A.units<cLine)(e:NIs P w s.heap x u)(d:NIs P w s.heap y v){E:yB}(h:Q (decide<|x=y) s):wpAny (model P w) A (PySem.eqBool u v) Q E s:=by cases x with
 |inl f=>cases y with|inl g=>refine(jf P w).eqBool e d ?_;simp_all|inr l=>obtain⟨b,rfl,g⟩:=d;obtain⟨j,c⟩:=aN7 g;cases f with|none=>cases qb e;exact iW c a _ _ _ _ h|some k=>
    rcases zo e with⟨i,t,rfl,rfl⟩|⟨z,t,rfl,rfl⟩;.exact jP i t c a _ _ _ _ h
    .exact jQ z t c a _ _ _ _ h
 |inr l=>obtain⟨b,rfl,g⟩:=e;cases y with
  |inl f=>obtain⟨j,c⟩:=aN7 g;cases f with|none=>cases qb d;exact iX c a _ _ _ _ h|some k=>
    rcases zo d with⟨i,t,rfl,rfl⟩|⟨z,t,rfl,rfl⟩;.exact jR i t c a _ _ _ _ h
    .exact jS z t c a _ _ _ _ h|inr m=>obtain⟨c,rfl,b⟩:=d;refine wpAny_eqBool_tuple a g b ?_;simp_all
theorem aZ5:∀(x y:List NI),((aq<|min x.length y.length).all (λj=>decide<|x[j]?=y[j]?)&&x.length==y.length)=decide (x=y)
 |[],[]=>rfl|[],_::_=>by simp|_::_,[]=>by simp|a::x,b::y=>by
  have h:=aZ5 x y;have z:min (a::x).length (b::y).length=min x.length y.length+1:=by simp only[aR];lia
  rw[z,cK,dk,nF];by_cases e:a=b
  .subst e;have:decide (a::x=a::y)=decide (x=y):=by simp
   rw[this,<-h];simp[Function.comp_def]
  .have:decide ((a::x)[0]?=(b::y)[0]?)=false:=by simp[e]
   rw[this];simp[e]
theorem bS8:∀{J}{z},dA F J z->∀j(h:j<z.length),∃a,J[j]?=al a/\F a z[j]|_,_,.nil,j,h=>ij h<|cM _|_,_,.cons r t,0,h=>⟨_,rfl,r⟩|_,_,.cons r t,j+1,h=>bS8 t j<|Nat.lt_of_succ_lt_succ h
def cr4{E:yB}(k:A.units+1<cLine)(c:bA7 P w s.heap x a)(g:bA7 P w s.heap y b)(h:Q (decide<|x=y) s):wpAny (model P w) A (PySem.eqBool (.ref a) (.ref b)) Q E s:=by
 by_cases f:a=b;.subst f;cases c.inj g;rw[gc rfl]at h;exact fg _ _ _ _ _ h
 .refine AK c λo i n e c d p=>AK g λo' a Z b g l z=>?_;have m:x.length=i.size:=fW p;have i:y.length=a.size:=fW z;have key:=k7 (A:=A) (e:=λj=>decide<|x[j]?=y[j]?) ⟨o,e,c,n,d⟩ ⟨o',b,g,Z,l⟩ (by lia) λj a J a Y a a a=>by refine AD (bS8 p j<|by simp_all) λu a a=>AD (bS8 z j<|by simp_all) λv b b=>cp0 (k) (NIs.cg<|by simpa using a) (NIs.cg<|by simpa using b) ?_;simp_all
  rw[<-m,<-i,aZ5]at key;exact gH f key P w E Q h
def aS3{E:yB}(a:NIs P w s.heap x v)(z:Q bY s):wpAny (model P w) A (lH 7 v) Q E s:=by cases x with|inl f=>exact k8 _ ((jf P w).byValue f _ a)▸aE z|inr l=>
  obtain⟨b,rfl,o,c,n,e,c,d,p⟩:=a;have a:s.TypeIs (.ref b) "tuple":=⟨o,e,c⟩;unfold lH;refine ai<|dQ a l8.lookup ?_;refine ai<|lI a iY ?_;simp only[if_false];refine ai<|dC e d<|ai ?_;rw[<-gG];refine iq _ (λrest r a=>r.1=aT/\a=s/\∀v∈rest,carriedByValue v=bY) _ ?_ ?_ _ _ ⟨rfl,rfl,p.byValue⟩;.rintro v rest r a⟨hr,rfl,h⟩;rw[k8 _<|h v am];refine ai<|aE ?_;simp only[eV,if_false];exact aE ⟨rfl,rfl,λu q=>h u<|ah _ q⟩
  .rintro⟨r1,J⟩a⟨hr,rfl,_⟩;simp only at hr;exact hr▸aE z
def bo5{E:yB}(b:bA7 P w s.heap k a)(z:Q bY s):wpAny (model P w) A (lH 8<|.ref a) Q E s:=by
 refine AK b λo b n e c d p=>?_;have b:s.TypeIs (.ref a) "tuple":=⟨o,e,c⟩;unfold lH;refine ai<|dQ b l8.lookup ?_;refine ai<|lI b iY ?_;simp only[if_false];refine ai<|dC e d<|ai ?_;rw[<-gG];refine iq _ (λrest r a=>r.1=aT/\a=s/\∃b,dA (NIs P w s.heap) b rest) _ ?_ ?_ _ _ ⟨rfl,rfl,k,p⟩;.rintro v rest r a⟨hr,rfl,b,h⟩;cases h with|cons b t=>refine ai<|aS3 b ?_;simp only[eV,if_false];exact aE ⟨rfl,rfl,_,t⟩
 .rintro⟨r1,J⟩a⟨hr,rfl,_⟩;simp only at hr;exact hr▸aE z
end
def aD9 P w:HeapKind P w<|List NI where
 is:=bA7 P w;hash:=λk=>mJ<|cr<|k.map<|aK1 P w;draws:=λk=>jC k+1;room:=λA=>A.units+1<cLine;inj:=λf g=>f.inj g;keeps:=λ{h h' k a d o b b}x f g h=>by
  refine AK x λo' i n e c q p=>?_;have ne:a≠d:=by rintro rfl;cases e▸f;cases g▸q
  exact⟨o',i,n,(h.2 a ne).trans e,c,q,nQ (λx v z=>NIs.keep (λb l t=>t.keeps f g h) z) p⟩
 pyHash:=λa b h=>bN3 a b h;eqBool:=λa f g h=>cr4 a f g h;quiet:=λb h=>bo5 b h
set_option genCtorIdx true in set_option genInjectivity true in inductive V where|N|T(b:Bool)|int(i:Int)|str(x:Str)|byt(b:Array UInt8)|flt(b:UInt64)|ref(a:Addr)|ty(n:String)deriving DecidableEq
noncomputable def RelV:V->Value->Prop|.N,u=>u=Value.none|.T b,u=>u=Value.bool b|.int i,u=>∃t,u=Value.int i t|.str x,u=>∃t,u=Value.str x t|.byt b,u=>∃t,u=Value.bytes b t|.flt b,u=>∃t,u=Value.float b t|.ref a,u=>u=Value.ref a|.ty n,u=>u=Value.type n
abbrev Vals:List V->List Value->Prop:=dA RelV
theorem Vals.length{a:yH}(r:Vals h a):h.length=a.length:=fW r
theorem Vals.get:∀{h}{us:yH}{i:Nat}{x},Vals h us->h[i]?=al x->∃u,us[i]?=al u/\RelV x u|_,_,_,_,.nil,e=>by simp at e|_,_,0,_,.cons r _,e=>by simp at e;subst e;exact⟨_,rfl,r⟩|_,_,i+1,x,.cons _ t,e=>by obtain⟨u,J,z⟩:=Vals.get t (by simpa using e);exact⟨u,by simpa using J,z⟩
theorem Vals.set(r:RelV x u):∀{h}{a:yH}i,Vals h a->Vals (h.set i x) (a.set i u)|_,_,_,.nil=>.nil|_,_,0,.cons _ t=>.cons r t|_,_,i+1,.cons q t=>.cons q<|Vals.set r i t
theorem Vals.append:∀{h a}{b ws:yH},Vals h b->Vals a ws->Vals (h++a) (b++ws)|_,_,_,_,.nil,s=>s|_,_,_,_,.cons r t,s=>.cons r<|Vals.append t s
theorem Vals.take:∀{h}{a:yH}n,Vals h a->Vals (h.take n) (a.take n)|_,_,0,_=>.nil|_,_,_+1,.nil=>.nil|_,_,n+1,.cons r t=>.cons r<|Vals.take n t
theorem Vals.drop:∀{h}{a:yH}n,Vals h a->Vals (h.drop n) (a.drop n)|_,_,0,r=>r|_,_,_+1,.nil=>.nil|_,_,n+1,.cons _ t=>Vals.drop n t
def aA7:Option V->Option Value->Prop|some v,al u=>RelV v u|none,aT=>True|_,_=>False
def KV:List (κ×V)->List (κ×Value)->Prop:=dA λ(p)(q)=>p.1=q.1/\RelV p.2 q.2
noncomputable def kV:Key->V|.inl i=>.int i|.inr x=>.str x
inductive HO where|J(xs:List V)|tp(xs:List V)|dK(kvs:List<|Key×V)|dT(kvs:List<|List NI×V)|set(S:Int->Bool)(n:Nat)|ins(Cc dx:Addr)(fs:List<|Str×V)|own(x:Addr)|xd(fs:List<|Str×V)|met(f x:Addr)|rng(lo hi:Int)|frz(o:Obj)(u:HO)|tbl(ps:yK)|ext(C:Heap->Prop)
noncomputable abbrev HO.ctorIdx(x:HO):Nat:=HO.casesOn x (λ_=>0) (λ_=>1) (λ_=>2) (λ_=>3) (λ_ _=>4) (λ_ _ _=>5) (λ_=>6) (λ_=>7) (λ_ _=>8) (λ_ _=>9) (λ_ _=>10) (λ_=>11) (λ_=>12)
abbrev Hp:=Addr->Option HO
def fV:FK->V|none=>.N|some k=>kV k
def NAt(H:Hp):NI->V->Prop|.inl f,v=>v=fV f|.inr l,v=>∃c,v=.ref c/\H c=al (.tp<|l.map fV)
def NK(H:Hp)(k:List NI)(b:Addr):Prop:=∃a,H b=al (.tp a)/\dA (NAt H) k a
def NAt.mono(a:∀b z,H b=al (.tp z)->H' b=al (.tp z))(h:NAt H k v):NAt H' k v:=by cases k with|inl f=>exact h|inr l=>exact AD h λc e q=>⟨c,e,a _ _ q⟩
theorem NK.mono(a:∀b J,H b=al (.tp J)->H' b=al (.tp J))(h:NK H k b):NK H' k b:=let⟨J,e,p⟩:=h;⟨J,a _ _ e,nQ (λ_ _ z=>z.mono a) p⟩
noncomputable def upd(H:Hp)(a:Addr)(o:HO):Hp:=λb=>if b=a then al o else H b
def zh:upd H a o a=al o:=by unfold upd;rw[dO rfl]
def zb(h:b≠a):upd H a o b=H b:=by unfold upd;rw[ef h]
def cq0{H:Hp}(h:H a=al o)(h':H b=al u)(d:o≠u):a≠b:=by intro e;subst e;rw[h]at h';exact d<|ay h'
def zu{H:Hp}(h:H a=al o)(h':H b=aT):a≠b:=by lia
section
variable(P:aH)(w:World)
def ad9(H:Hp)(h:Heap)(a:Addr):HO->Prop|.J c=>c.length<=a7/\∃(b:yH)(n:Nat),Vals c b/\h.get? a=al {cls:=.type "list",data:=.seq b.toArray n}|.tp c=>c.length<=a7/\∃b,Vals c b/\IsTup h a b.toArray|.dK b=>b.length<=a7/\(a==dM)=ce/\∃c,KV b c/\h.DictOf (zT P w) a c|.dT b=>b.length<=a7/\(a==dM)=ce/\∃c,dA (λ(p)(q)=>p.1=q.1/\NK H p.1 q.2.1/\RelV p.2 q.2.2) b c/\∃o b d,h.get? a=al o/\o.ExactDict/\o.data=.dict b d/\b.toList=c.map (entryOfKey<|aD9 P w)/\(c.map (·.1)).Nodup|.set S n=>h.SetOf (intKind P w) a S n|.ins b c fs=>H c=al (.own a)/\fs.length<=1000/\c≠a/\h.get? a=al (cR b c)/\∃b,h.Ns1 c b/\(∀f,aA7 (fs.lookup f) (b f))/\k9 b (fs.map (·.1))|.own _=>∃o,h.get? a=al o|.xd fs=>∃b,h.Ns1 a b/\∀f,aA7 (fs.lookup f) (b f)|.rng b c=>∃t u v,h.get? a=al {cls:=.type "range",data:=.fields #[.int b t,.int c u,.int 1 v]}|.frz o u=>h.get? a=al o/\ad9 H h a u|.tbl ps=>h.get? a=al {cls:=.none,data:=.fields ps}|.met f x=>h.get? a=al (gW (.ref f) (.ref x))|.ext C=>C h/\(∃o,h.get? a=al o)/\∀b h2:Heap,C b->(∀o,b.get? a=al o->h2.get? a=al o)->C h2
def HOk(H:Hp)(h:Heap):Prop:=∀a o,H a=al o->ad9 P w H h a o
end
section
variable{P:aH}{w:World}{H H':Hp}{h h':Heap}{a:Addr}{o:HO}
theorem ad9.lt(x:ad9 P w H h a o):a<h.objs.size:=by cases o with|J a=>exact AY x λ_ _ _ _ e=>aM e|tp a=>exact AO x λ_ _ _ p=>p.lt|dK a=>exact AM x λ_ _ _ _ AA=>AX AA λo _ _ e _=>aM e|dT a=>exact AM x λ_ _ _ _ AA=>AX AA λo _ _ e _=>aM e|set S n=>exact AN x λo _ _ _ e _=>aM e|ins a a fs=>exact AW x λ_ _ _ e _=>aM e|own y=>exact AF x λ_ e=>aM e|xd fs=>obtain⟨_,⟨_,_,_,e,_⟩,_⟩:=x;exact aM e|rng a a=>exact AJ x λ_ _ _ e=>aM e|frz a u=>exact AB x λe _=>aM e|tbl ps=>exact aM<|x|met f y=>exact aM<|x|ext C=>obtain⟨_,⟨_,e⟩,_⟩:=x;exact aM e
theorem dA.mapP:∀{z}{h},dA F z h->(∀a b,F a b->G a b)->dA G z h|_,_,.nil,_=>.nil|_,_,.cons r t,f=>.cons (f _ _ r) (dA.mapP t f)
def ad9.stay(x:ad9 P w H h a o)(k:∀b u,(b=a\/H b=al (.own a))->h.get? b=al u->h'.get? b=al u)(i:∀b,H b=al (.own a)->H' b=al (.own a))(g:∀b J,H b=al (.tp J)->H' b=al (.tp J)):ad9 P w H' h' a o:=by induction o with|J J=>exact AY x λz b n r e=>⟨z,b,n,r,k _ _ (.inl rfl) e⟩|tp J=>exact AO x λz b r AA=>AD AA λob e c=>⟨z,b,r,ob,k _ _ (.inl rfl) e,c⟩|dK d=>exact AM x λz y d r AA=>AX AA λob b f e c=>⟨z,y,d,r,ob,b,f,k _ _ (.inl rfl) e,c⟩|dT d=>exact AM x λz y J r AA=>AX AA λob b f e c=>⟨z,y,J,dA.mapP r λp q z=>⟨z.1,z.2.1.mono g,z.2.2⟩,ob,b,f,k _ _ (.inl rfl) e,c⟩|set S n=>exact AN x λob b f t e c=>⟨ob,b,f,t,k _ _ (.inl rfl) e,c⟩|ins b b fs=>obtain⟨d,z,ne,e,g,⟨h,b,f,j,c⟩,r⟩:=x;exact⟨i _ d,z,ne,k _ _ (.inl rfl) e,g,⟨h,b,f,k _ _ (.inr d) j,c⟩,r⟩|own y=>exact AF x λob e=>⟨ob,k _ _ (.inl rfl) e⟩|xd fs=>obtain⟨g,⟨h,b,f,e,c⟩,r⟩:=x;exact⟨g,⟨h,b,f,k _ _ (.inl rfl) e,c⟩,r⟩|rng b b=>exact AJ x λt u v e=>⟨t,u,v,k _ _ (.inl rfl) e⟩|frz ob u b=>exact AB x λe q=>⟨k _ _ (.inl rfl) e,b q⟩|tbl ps=>have e:=x;exact k a _ (.inl rfl) e|met f y=>have e:=x;exact k a _ (.inl rfl) e|ext C=>obtain⟨p,⟨o,e⟩,a⟩:=x;exact⟨a _ _ p λo q=>k _ _ (.inl rfl) q,⟨o,k _ _ (.inl rfl) e⟩,a⟩
theorem HOk.lt(x:HOk P w H h)(e:H a=al o):a<h.objs.size:=(x a o e).lt
def HOk.fresh(x:HOk P w H h)(e:h.objs.size<=a):H a=none:=by cases q:H a with|none=>rfl|some u=>exact ij (aA (x.lt q) e) (bO _)
def HOk.kept(x:HOk P w H h)(k:∀b u,h.get? b=al u->h'.get? b=al u):HOk P w H h':=λa o e=>(x a o e).stay (λb u _ q=>k b u q) (λ_ q=>q) λ_ _ q=>q
def HOk.laid(x:HOk P w H h)(k:∀b u,h.get? b=al u->h'.get? b=al u)(c:h.objs.size<=a)(new:ad9 P w (upd H a o) h' a o):HOk P w (upd H a o) h':=λb u e=>by
 have d:=x.fresh c;by_cases c:b=a;.subst c;rw[zh]at e;simp_all
 .rw[zb c]at e;exact(x b u e).stay (λc v _ q=>k c v q) (λc q=>zb (zu q d)▸q) λc z q=>zb (zu q d)▸q
end
def Rd(H:Hp)(a:Addr)(u:HO):Prop:=H a=al u\/∃o,H a=al (.frz o u)
def Rd.ok(r:Rd H a u)(x:HOk P w H h):ad9 P w H h a u:=by
 rcases r with r|⟨o,r⟩;.exact x a u r
 .exact AB (x a _ r) λ_ q=>q
noncomputable def Mut:Option HO->Prop|some<|.J _=>True|some<|.dK _=>True|some<|.dT _=>True|some<|.set _ _=>True|some<|.ins _ _ _=>True|some<|.ext _=>True|_=>False
section
variable{P:aH}{w:World}{H:Hp}{h h':Heap}{x e:Addr}{o':HO}
def HOk.write(ok:HOk P w H h)(mu:Mut<|H x)(he:e=x\/H e=al (.own x))(k:∀b u,b≠e->h.get? b=al u->h'.get? b=al u)(Z:∃u,h'.get? e=al u)(new:ad9 P w (upd H x o') h' x o'):HOk P w (upd H x o') h':=λb u q=>by
 have J:∀c y,H c=al (.own y)->c≠x:=λc y r z=>by subst z;rw[r]at mu;exact mu
 have Uu:∀c Y,H c=al (.tp Y)->c≠x:=λc Y r z=>by subst z;rw[r]at mu;exact mu
 by_cases hb:b=x;.subst hb;rw[zh]at q;cases q;exact new
 .rw[zb hb]at q;by_cases hbe:b=e
  .have q':H b=al (.own x):=by
    rcases he with z|z;.exact ij (hbe.trans z) hb
    .rw[hbe];exact z
   rw[q]at q';cases q';obtain⟨v,hv⟩:=Z;exact⟨v,by rw[hbe];exact hv⟩
  .refine(ok b u q).stay (λc v hc r=>k c v ?_ r) (λc r=>by rw[zb<|J c b r];exact r) λc Y r=>by rw[zb<|Uu c Y r];exact r
   rcases hc with rfl|hc;.exact hbe
   .rintro rfl;rcases he with z|z;.exact J c b hc z
    .rw[hc]at z;cases z;exact hb rfl
end
structure Un(fs ex:List Addr)(H H':Hp)(h h':Heap):Prop where
 keep:∀b o,h.get? b=al o->H b=aT->b∉fs->b∉ex->h'.get? b=al o
 slot:∀b o,h.get? b=al o->H b=aT->b∈fs->b∉ex->∃sl,h'.get? b=al {o with slots:=sl}free:∀b o,h.get? b=al o->H b=aT->b∉ex->H' b=aT
 there:∀b o,h.get? b=al o->b∉ex->∃o',h'.get? b=al o'
 tups:∀b xs,H b=al (.tp xs)->H' b=al (.tp xs)frzs:∀b o u,H b=al (.frz o u)->H' b=al (.frz o u)tbls:∀b ps,H b=al (.tbl ps)->∃more,H' b=al (.tbl<|ps++more)
section
variable{fs fs' ex ex':List Addr}{H H1 H2:Hp}{h h1 h2 h':Heap}{a x e:Addr}{o:HO}
def Un.any(u:Un fs ex H H1 h h1)(q:h.get? b=al ob)(n:H b=aT)(a:b∉ex):∃c,h1.get? b=al {ob with slots:=c}:=by
 by_cases c:b∈fs;.exact u.slot b ob q n c a
 .exact⟨ob.slots,u.keep b ob q n c a⟩
def Un.kept(k:∀b u,h.get? b=al u->h'.get? b=al u):Un fs ex H H h h':=⟨λb a q _ _ _=>k b a q,λb a q _ _ _=>⟨a.slots,k b a q⟩,λ_ _ _ n _=>n,λb a q _=>⟨a,k b a q⟩,λ_ _ q=>q,λ_ _ _ q=>q,λ_ ps q=>⟨#[],by simp_all⟩⟩
def Un.refl:Un fs ex H H h h:=Un.kept λ_ _ q=>q
def Un.laid(k:∀b u,h.get? b=al u->h'.get? b=al u)(d:h.objs.size<=a)(c:H a=aT):Un fs ex H (upd H a o) h h' where keep:=λb u q _ _ _=>k b u q;slot:=λb u q _ _ _=>⟨u.slots,k b u q⟩;free:=λb u q n _=>zb (aI<|aA (aM q) d)▸n;there:=λb u q _=>⟨u,k b u q⟩;tups:=λb z q=>zb (zu q c)▸q;frzs:=λb u z q=>zb (zu q c)▸q;tbls:=λb ps q=>⟨#[],by rw[zb<|zu q c,q];simp⟩
def Un.write(mu:Mut<|H x)(Y:e=x\/H e=al (.own x))(k:∀b u,b≠e->h.get? b=al u->h'.get? b=al u)(J:∃u,h'.get? e=al u):Un fs ex H (upd H x o) h h':=by
 have hx:∀b,H b=aT->b≠x:=λb n z=>by subst z;rw[n]at mu;exact mu
 have hb:∀b,H b=aT->b≠e:=λb n z=>by
  subst z;rcases Y with r|r;.exact hx b n r
  .rw[n]at r;cases r
 have Uu:∀b u,H b=al u->¬Mut (al u)->b≠x:=λb u q nm z=>by subst z;rw[q]at mu;exact nm mu
 refine⟨λb u q n _ _=>k b u (hb b n) q,λb u q n _ _=>⟨u.slots,k b u (hb b n) q⟩,λb u q n _=>by rw[zb<|hx b n];exact n,λb u q _=>?_,λb Z q=>by rw[zb<|Uu b _ q λz=>z];exact q,λb u Z q=>by rw[zb<|Uu b _ q λz=>z];exact q,λb ps q=>⟨#[],by rw[zb<|Uu b _ q λz=>z,q];simp⟩⟩;by_cases hbe:b=e;.subst hbe;exact J
 .exact⟨u,k b u hbe q⟩
end
noncomputable def trk(h:Heap)(H:Hp):List Addr:=(aq h.objs.size).filter λa=>(H a).isSome
def bn0(h:Heap)(H:Hp):Heap:=PySem.W.hideAll h<|trk h H
def aZ1 h H:(bn0 h H).objs.size=h.objs.size:=PySem.W.hideAll_size _ _
def an2(e:h.get? b=al o)(n:H b=aT):(bn0 h H).get? b=al o:=PySem.W.hideAll_get _ e λz=>by have q:=(l9.mp z).2;simp_all
def bI9(e:(bn0 h H).get? b=al o):h.get? b=al o/\H b=none:=by have a:=PySem.W.of_hideAll (trk h H) e;refine⟨a,?_⟩;cases q:H b with|none=>rfl|some x=>have J:b∈trk h H:=l9.mpr ⟨bC.mpr<|aM a,by simp[q]⟩;have z:(bn0 h H).get? b=none:=PySem.W.hideAll_none (trk h H) J;lia
noncomputable def bO3(g h:Heap)(L:Addr):List<|Addr×Obj:=(aq h.objs.size).filterMap λa=>if a=L\/(g.get? a).isSome=bY then aT else(h.get? a).map λo=>(a,o)
def rest(g h:Heap)(L d:Addr):List<|Addr×Obj:=(bO3 g h L).filter λp=>decide<|p.1≠d
structure Mod(K:ac)(mg:yD)(base:Heap):Prop where
 kin:K.In base
 glob:base.Ns aV mg
 blt:∃mb,base.Ns iB mb/\∀x:Str,x≠"__name__"->mb x=bM x
 nolimit:base.NoLimit
structure Cx where
 prog:aH
 w:World
 K:ac
 mg:Str->Option Value
 base:Heap
 A:aU
 N:List Str
 s₀:af
 H₀:Hp
 env:Env
 outer:List Env
 stack:List Env
 ex:List Addr
 fn:Str->Bool
 calm:Bool
 pn:List<|Addr×Obj
 xe:Value->af->Prop
noncomputable def frs(l:List Env):List Addr:=l.filterMap (·.frame)
abbrev Cx.fs(X:Cx):List Addr:=frs X.outer
def Vis(a:Scope)(x:Str):Prop:=a.names.lookup x=al .local\/a.names.lookup x=al .cell\/a.names.lookup x=al .free
def Loc(a:Scope)(x:Str):Prop:=a.names.lookup x=al .local\/a.names.lookup x=al .cell
def Look(env:Env)(h:Heap)(m:yD)(x:Str)(u:Value):Prop:=(env.kindOf x=al .local/\m x=al u)\/((env.kindOf x=al .cell\/env.kindOf x=al .free)/\∃c,env.cells.lookup x=al c/\h.IsCell c (al u))
structure Cx.Ok(X:Cx):Prop where
 mod:Mod X.K X.mg X.base
 kind:X.env.scope.kind=.function
 glob:X.env.globals=aV
 blt:X.env.builtins=iB
 above:X.s₀.heap.objs.size<=X.env.locals
 inj:∀x y c,X.env.cells.lookup x=al c->X.env.cells.lookup y=al c->x=y
 has:∀x,(X.env.kindOf x=al .cell\/X.env.kindOf x=al .free)->∃c,X.env.cells.lookup x=al c
 cab:∀x c,X.fn x=bY->X.env.cells.lookup x=al c->X.s₀.heap.objs.size<=c
 hd:X.calm=bY->X.A.handled=aT
 frames:X.A.frames=al X.stack
 stk:X.stack=X.outer\/(X.stack=X.env::X.outer/\X.env.frame=al X.env.locals)exf:∀b∈X.ex,b≠X.env.locals/\∀x c,X.env.cells.lookup x=al c->c≠b
 bs:∀b o,X.base.get? b=al o->X.s₀.heap.get? b=al o/\X.H₀ b=aT
 bsz:X.base.objs.size<=X.s₀.heap.objs.size
 noex:∀b o,X.base.get? b=al o->b∉X.ex
 exfs:∀b∈X.ex,b∉X.fs
 funs:X.s₀.heap.FunFrames X.base X.outer
 frf:∀b∈X.fs,X.H₀ b=aT
structure Inv(X:Cx)(pins:yA)(W:List<|Option V)(H:Hp)(s:af):Prop where
 ok:X.Ok
 os:s.os=X.s₀.os
 bare:gB s.gens
 base:Un X.fs X.ex X.H₀ H X.s₀.heap s.heap
 loc:∃m,s.heap.Ns X.env.locals m/\∀(i:Nat)(x:Str)(v:V),X.N[i]?=al x->W[i]?=al (al v)->Vis X.env.scope x->∃u,RelV v u/\Look X.env s.heap m x u
 cell:∀x c,X.env.cells.lookup x=al c->∃v,s.heap.IsCell c v
 free:H X.env.locals=aT
 freeC:∀x c,X.env.cells.lookup x=al c->H c=aT
 pin:∀p∈X.pn++pins,s.heap.get? p.1=al p.2/\H p.1=aT/\p.1≠X.env.locals/\p.1∉X.fs/\∀v,p.2.data≠.cell v
 hok:HOk X.prog X.w H s.heap
 len:W.length=X.N.length
section
variable{X:Cx}{pins:yA}{W:List<|Option V}{H H':Hp}{s:af}{h':Heap}
def Cx.Ok.nofr(ok:X.Ok)(e:X.base.get? b=al o):b∉X.fs:=λa=>by have:=(ok.funs.mem a).1;lia
theorem Inv.bs(I:Inv X pins W H s):∀b o,X.base.get? b=al o->s.heap.get? b=al o/\H b=none:=λb o e=>⟨I.base.keep b o (I.ok.bs b o e).1 (I.ok.bs b o e).2 (I.ok.nofr e) (I.ok.noex b o e),I.base.free b o (I.ok.bs b o e).1 (I.ok.bs b o e).2<|I.ok.noex b o e⟩
def Inv.bk(I:Inv X pins W H s):∀b o,X.base.get? b=al o->s.heap.get? b=al o:=λb o e=>(I.bs b o e).1
theorem Inv.mod(I:Inv X pins W H s):Mod X.K X.mg X.base:=I.ok.mod
def Inv.kIn(I:Inv X pins W H s):X.K.In s.heap:=I.ok.mod.kin.keeps I.bk
theorem Inv.nolimit(I:Inv X pins W H s):s.heap.NoLimit:=I.ok.mod.nolimit.keeps I.bk
theorem Inv.lt(I:Inv X pins W H s):X.env.locals<s.heap.objs.size:=let⟨_,hn,_⟩:=I.loc;hn.lt
def Inv.sz(I:Inv X pins W H s):X.s₀.heap.objs.size<=s.heap.objs.size:=au I.ok.above<|eF I.lt
def Inv.nofs(I:Inv X pins W H s){a:Addr}(h:s.heap.objs.size<=a):a∉X.fs:=λa=>AO (I.ok.funs.mem a) λ_ o a _=>ij (aA (aM a) (au I.sz h)) (bO _)
def Inv.cne(I:Inv X pins W H s):∀x c,X.env.cells.lookup x=al c->c≠X.env.locals:=λx c e z=>by refine AE (I.cell x c e) λv o a a=>?_;obtain⟨m,⟨a,a,a,J,h,_⟩,_⟩:=I.loc;lia
theorem Inv.funs(I:Inv X pins W H s):s.heap.FunFrames X.base X.outer:=by
 have all:∀l,(∀b∈frs l,b∈X.fs)->X.s₀.heap.FunFrames X.base l->s.heap.FunFrames X.base l:=by intro l;induction l with|nil=>intro _ _;trivial|cons a r a=>intro c b;obtain⟨d,⟨L,o,h,f,e,g⟩,i⟩:=b;have J:=c L (by unfold frs;rw[bw,h];exact am);exact AF (I.base.slot L o e (I.ok.frf L J) J λz=>I.ok.exfs L z J) λsl e=>⟨d,⟨L,_,h,f,e,g⟩,a (λb a=>c b<|by unfold frs;rw[bw,h];exact ah _ a) i⟩
 exact all X.outer (λ_ a=>a) I.ok.funs
theorem Inv.stack(I:Inv X pins W H s):s.heap.FunFrames X.base X.stack:=by
 rcases I.ok.stk with e|⟨e,h⟩;.exact e▸I.funs
 .rw[e];refine AD I.loc λm a _=>.cons (by rw[I.ok.kind];decide) h a ?_ I.funs;exact Heap.get?_none_of_le<|au I.ok.bsz I.ok.above
def Inv.stkSub(I:Inv X pins W H s):∀b∈frs X.stack,b∈X.env.locals::X.fs:=λb hb=>by
 rcases I.ok.stk with e|⟨e,h⟩;.rw[e]at hb;exact ah _ hb
 .rw[e]at hb;unfold frs at hb;rw[bw,h]at hb;exact hb
def Inv.stkFree(I:Inv X pins W H s):∀b∈frs X.stack,H b=none:=λb a=>by
 rcases aD.mp (I.stkSub b a)with e|a;.exact e▸I.free
 .exact AO (I.ok.funs.mem a) λ_ o c _=>I.base.free b o c (I.ok.frf b a) λz=>I.ok.exfs b z a
def Inv.step{ch:List Addr}(I:Inv X pins W H s)(J:∀b∈ch,(b∈X.ex\/X.s₀.heap.objs.size<=b)/\b≠X.env.locals/\(∀x c,X.env.cells.lookup x=al c->c≠b)/\∀p∈X.pn++pins,p.1≠b)(keep:∀b o,b≠X.env.locals->b∉X.fs->b∉ch->s.heap.get? b=al o->H b=aT->h'.get? b=al o)(d:∀b o,b≠X.env.locals->b∈X.fs->b∉ch->s.heap.get? b=al o->H b=aT->∃c,h'.get? b=al {o with slots:=c})(f:∀b o,b∉ch->s.heap.get? b=al o->H b=aT->H' b=aT)(there:∀b o,b∉ch->s.heap.get? b=al o->∃o',h'.get? b=al o')(tups:∀b Z,H b=al (.tp Z)->H' b=al (.tp Z))(i:∀b o u,H b=al (.frz o u)->H' b=al (.frz o u))(a:∀b ps,H b=al (.tbl ps)->∃more,H' b=al (.tbl<|ps++more))(w:∀m,s.heap.Ns X.env.locals m->h'.Ns X.env.locals m)(l:HOk X.prog X.w H' h')(n:gB g'):Inv X pins W H' {s with heap:=h',gens:=g',drawn:=d',toks:=t'}:=by
 have r:∀b o,X.s₀.heap.get? b=al o->b≠X.env.locals:=λb o e=>aI<|aA (aM e) I.ok.above;have Y:∀b o,X.s₀.heap.get? b=al o->b∉X.ex->b∉ch:=λb o e a g=>((J b g).1).elim (λz=>a z) λz=>ij (aA (aM e) z) (bO _);have t:∀x c,X.env.cells.lookup x=al c->∀v,s.heap.IsCell c v->h'.IsCell c v:=λx c e v⟨o,j,s⟩=>by
  have h:c∉ch:=λz=>(J c z).2.2.1 x c e rfl;by_cases a:c∈X.fs;.exact AF (d c o (I.cne x c e) a h j<|I.freeC x c e) λsl q=>⟨_,q,s⟩
  .exact⟨o,keep c o (I.cne x c e) a h j<|I.freeC x c e,s⟩
 refine⟨I.ok,I.os,n,⟨λb o e n g a=>?_,λb o e n g a=>?_,λb o e n a=>?_,λb o e a=>?_,λb Z e=>tups b Z<|I.base.tups b Z e,λb o Z e=>i b o Z<|I.base.frzs b o Z e,λb ps e=>?_⟩,?_,λx c e=>?_,?_,λx c e=>?_,λp q=>?_,l,I.len⟩;.exact keep b o (r b o e) g (Y b o e a) (I.base.keep b o e n g a) (I.base.free b o e n a)
 .exact AF (I.base.slot b o e n g a) λsl c=>AF (d b _ (r b o e) g (Y b o e a) c<|I.base.free b o e n a) λa1 d=>⟨a1,d⟩
 .exact AF (I.base.there b o e a) λo' c=>f b o' (Y b o e a) c<|I.base.free b o e n a
 .exact AF (I.base.there b o e a) λo' c=>there b o' (Y b o e a) c
 .refine AF (I.base.tbls b ps e) λm1 c=>?_;grind
 .refine AD I.loc λm a b=>⟨m,w m a,λi x v c d a=>AD (b i x v c d a) λu r l=>⟨u,r,?_⟩⟩;rcases l with l|⟨k,c,e,z⟩;.exact .inl l
  .exact .inr ⟨k,c,e,t x c e _ z⟩
 .exact AF (I.cell x c e) λv z=>⟨v,t x c e v z⟩
 .obtain⟨m,⟨o,_,_,j,_⟩,_⟩:=I.loc;exact f _ o (λz=>(J _ z).2.1 rfl) j I.free
 .exact AE (I.cell x c e) λv o j s=>f c o (λz=>(J c z).2.2.1 x c e rfl) j<|I.freeC x c e
 .exact AW (I.pin p q) λe n ne a d=>have h:p.1∉ch:=λz=>(J p.1 z).2.2.2 p q rfl;⟨keep p.1 p.2 ne a h e n,f p.1 p.2 h e n,ne,a,d⟩
def Inv.un(I:Inv X pins W H s)(u:Un X.fs [] H H' s.heap h')(hok:HOk X.prog X.w H' h'):Inv X pins W H' {s with heap:=h',toks:=t'}:=by obtain⟨m,⟨o,es,ep,ho,r⟩,_⟩:=id I.loc;exact AF (u.any ho I.free<|by simp) λsl Z=>I.step (ch:=[]) (λ_ z=>nomatch z) (λb o _ hb _ e n=>u.keep b o e n hb<|by simp) (λb o _ hb _ e n=>u.slot b o e n hb<|by simp) (λb o _ e n=>u.free b o e n<|by simp) (λb o _ e=>u.there b o e<|by simp) u.tups u.frzs u.tbls (λm' hm=>by refine AX hm λo' J Uu h Y=>?_;cases ho▸h;exact⟨_,J,Uu,Z,Y⟩) hok I.bare
def Inv.call(I:Inv X pins W H s)(u:Un (frs X.stack) ch H H' s.heap h')(d:HOk X.prog X.w H' h')(f:gB g')(h:∀b∈ch,(b∈X.ex\/X.s₀.heap.objs.size<=b)/\b≠X.env.locals/\(∀x c,X.env.cells.lookup x=al c->c≠b)/\∀p∈X.pn++pins,p.1≠b):Inv X pins W H' {s with heap:=h',gens:=g',drawn:=a,toks:=t'}:=by obtain⟨m,⟨o,a,a,c,r⟩,_⟩:=id I.loc;exact AF (u.any c I.free λz=>(h _ z).2.1 rfl) λsl Z=>I.step h (λb o Z g a e n=>u.keep b o e n (λz=>(aD.mp<|I.stkSub b z).elim Z g) a) (λb o _ _ a e n=>u.any e n a) (λb o a e n=>u.free b o e n a) (λb o a e=>u.there b o e a) u.tups u.frzs u.tbls (λa a=>by refine AX a λo' a Y J b=>?_;cases c▸J;exact⟨_,a,Y,Z,b⟩) d f
def Inv.turned(I:Inv X pins W H s)(k:∀b o,b≠it->s.heap.get? b=al o->h'.get? b=al o)(hn:H it=aT)(J:it≠X.env.locals)(Y:it∈X.ex\/X.s₀.heap.objs.size<=it)(Uu:∀x c,X.env.cells.lookup x=al c->c≠it)(h3:∀p∈X.pn++pins,p.1≠it):Inv X pins W H {s with heap:=h',toks:=t'}:=by
 have h:∀b u,H b=al u->b≠it:=λb u e z=>by rw[z,hn]at e;cases e
 refine I.step (ch:=[it]) (λb hb=>?_) (λb o _ _ hc e _=>k b o (λz=>hc<|by simp[z]) e) (λb o _ _ hc e _=>⟨o.slots,k b o (λz=>hc<|by simp[z]) e⟩) (λ_ _ _ _ n=>n)
  (λb o hc e=>⟨o,k b o (λz=>hc<|by simp[z]) e⟩) (λ_ _ e=>e) (λ_ _ _ e=>e) (λb ps e=>⟨#[],by rw[e];simp⟩) (λm Z=>?_) (λb u e=>?_) I.bare
 .have e:=by simpa using hb
  subst e;exact⟨Y,J,Uu,h3⟩
 .obtain⟨o,es,ep,ho,r⟩:=Z;exact⟨o,es,ep,k _ o (bH J) ho,r⟩
 .refine(I.hok b u e).stay (λc v hc q=>k c v ?_ q) (λ_ q=>q) λ_ _ q=>q;rcases hc with z|z;.rw[z];exact h b u e
  .exact h c _ z
def Inv.tok(I:Inv X pins W H s)t:Inv X pins W H {s with toks:=t}:=I.un Un.refl I.hok
theorem Inv.kept(I:Inv X pins W H s)(k:∀b u,s.heap.get? b=al u->h'.get? b=al u):Inv X pins W H {s with heap:=h',toks:=t'}:=I.un (Un.kept k) (I.hok.kept k)
theorem Inv.laid{a:Addr}(I:Inv X pins W H s)(k:∀b u,s.heap.get? b=al u->h'.get? b=al u)(b:s.heap.objs.size<=a)(new:ad9 X.prog X.w (upd H a o) h' a o):Inv X pins W (upd H a o) {s with heap:=h',toks:=t'}:=I.un (Un.laid k b<|I.hok.fresh b) (I.hok.laid k b new)
theorem Inv.write(I:Inv X pins W H s)(mu:Mut<|H x)(z:e=x\/H e=al (.own x))(k:∀b u,b≠e->s.heap.get? b=al u->h'.get? b=al u)(h:∃u,h'.get? e=al u)(new:ad9 X.prog X.w (upd H x o) h' x o):Inv X pins W (upd H x o) {s with heap:=h',toks:=a}:=I.un (Un.write mu z k h) (I.hok.write mu z k h new)
def Inv.pins_of(I:Inv X pins W H s)(h:∀p∈J,s.heap.get? p.1=al p.2/\H p.1=aT/\p.1≠X.env.locals/\p.1∉X.fs/\∀v,p.2.data≠.cell v):Inv X J W H s:=⟨I.ok,I.os,I.bare,I.base,I.loc,I.cell,I.free,I.freeC,λp a=>(aZ.mp a).elim (λz=>I.pin p<|bn _ z) (h p),I.hok,I.len⟩
def aw9{N:yI}(c:N.Nodup){j:Nat}(a:N[i]?=al x)(b:N[j]?=al x):i=j:=by obtain⟨z,d⟩:=ag.mp a;obtain⟨h,a⟩:=ag.mp b;exact(List.getElem_inj c).mp<|d.trans a.symm
def aE3{E:yB}(I:Inv X pins W H s)(hN:X.N.Nodup)(hi:X.N[i]?=al x)(hx:Loc X.env.scope x)(r:RelV v u)(h:∀s',Inv X pins (W.set i<|al v) H s'->(∃a,eG a s.heap s'.heap/\(a=X.env.locals\/X.env.cells.lookup x=al a))->Q () s')(hf:autoParam (X.fn x=bY\/X.env.scope.names.lookup x=al .local) Zq0._auto_1):wpAny M A (fQ X.env x u) Q E s:=by
 obtain⟨m,hn,hl⟩:=id I.loc;have a0:(X.env.scope.kind==.class||(X.env.scope.kind==.module&&X.env.locals !=X.env.globals))=false:=by rw[I.ok.kind];rfl
 have a1:i<W.length:=by rw[I.len];exact(ag.mp hi).1
 have cne:=I.cne;have J:∀{a}{h'},(∃o,s.heap.get? a=al o/\H a=aT)->eG a s.heap h'->HOk X.prog X.w H h':=λ{a h'}ha hs b ob e=>by
  obtain⟨_,_,Uu⟩:=ha;refine(I.hok b ob e).stay (λc w' hc q=>(hs.2 c ?_).trans q) (λ_ q=>q) λ_ _ q=>q;rintro rfl;rcases hc with rfl|hc;.rw[Uu]at e;cases e
  .rw[Uu]at hc;cases hc
 rcases hx with hk|hk
 .refine iZ hk hn (λh' a4 hs=>?_) a0;obtain⟨oL,_,_,a5,_⟩:=id hn;refine h _ ⟨I.ok,I.os,I.bare,⟨λb o e n hb hx=>?_,λb o e n hb hx=>?_,I.base.free,λb o e hx=>?_,I.base.tups,I.base.frzs,I.base.tbls⟩,⟨_,a4,λj y v' e1 e2 e3=>?_⟩,λy c e=>?_,I.free,I.freeC,λp hp=>?_,J ⟨oL,a5,I.free⟩ hs,by simpa using I.len⟩ ⟨_,hs,.inl rfl⟩;.exact(hs.2 b<|aI<|aA (aM e) I.ok.above).trans<|I.base.keep b o e n hb hx
  .obtain⟨sl,e1⟩:=I.base.slot b o e n hb hx;exact⟨sl,(hs.2 b<|aI<|aA (aM e) I.ok.above).trans e1⟩
  .obtain⟨o',e1⟩:=I.base.there b o e hx;exact⟨o',(hs.2 b<|aI<|aA (aM e) I.ok.above).trans e1⟩
  .by_cases hj:j=i;.subst hj;rw[hi]at e1;cases e1;rw[bq a1]at e2;cases e2;exact⟨u,r,.inl ⟨hk,by simp⟩⟩
   .rw[aC<|bH hj]at e2;obtain⟨u',r',q⟩:=hl j y v' e1 e2 e3;refine⟨u',r',?_⟩;rcases q with⟨k,e⟩|⟨k,c,e,z⟩;.refine .inl ⟨k,?_⟩;have:y≠x:=λe=>hj<|aw9 hN e1<|e▸hi;simp[this,e]
    .exact .inr ⟨k,c,e,z.sameBut hs<|cne y c e⟩
  .obtain⟨w',z⟩:=I.cell y c e;exact⟨w',z.sameBut hs<|cne y c e⟩
  .obtain⟨e,n,ne,nf,d⟩:=I.pin p hp;exact⟨(hs.2 p.1 ne).trans e,n,ne,nf,d⟩
 .have Y:X.fn x=true:=by
   rcases hf with z|z;.exact z
   .rw[z]at hk;cases hk
  obtain⟨c,hc⟩:=I.ok.has x<|.inl hk;obtain⟨w',z⟩:=I.cell x c hc;refine jT I.ok.kind hk hc z<|λh' Z hs=>?_;obtain⟨oc,a3,a2⟩:=id z;refine h {s with heap:=h'} ⟨I.ok,I.os,I.bare,⟨λb o e n hb hx=>?_,λb o e n hb hx=>?_,I.base.free,λb o e hx=>?_,I.base.tups,I.base.frzs,I.base.tbls⟩,⟨m,hn.sameBut hs<|bH<|cne x c hc,λj y v' e1 e2 e3=>?_⟩,λy c' e=>?_,I.free,I.freeC,λp hp=>?_,J ⟨oc,a3,I.freeC x c hc⟩ hs,by simpa using I.len⟩ ⟨c,hs,.inr hc⟩;.exact(hs.2 b<|aI<|aA (aM e) (I.ok.cab x c Y hc)).trans<|I.base.keep b o e n hb hx
  .obtain⟨sl,e1⟩:=I.base.slot b o e n hb hx;exact⟨sl,(hs.2 b<|aI<|aA (aM e) (I.ok.cab x c Y hc)).trans e1⟩
  .obtain⟨o',e1⟩:=I.base.there b o e hx;exact⟨o',(hs.2 b<|aI<|aA (aM e) (I.ok.cab x c Y hc)).trans e1⟩
  .by_cases hj:j=i;.subst hj;rw[hi]at e1;cases e1;rw[bq a1]at e2;cases e2;exact⟨u,r,.inr ⟨.inl hk,c,hc,Z⟩⟩
   .rw[aC<|bH hj]at e2;obtain⟨u',r',q⟩:=hl j y v' e1 e2 e3;refine⟨u',r',?_⟩;rcases q with q|⟨k,c',e,z'⟩;.exact .inl q
    .refine .inr ⟨k,c',e,z'.sameBut hs ?_⟩;rintro rfl;exact hj<|aw9 hN e1<|I.ok.inj _ _ _ e hc▸hi
  .by_cases hcc:c'=c;.subst hcc;exact⟨_,Z⟩
   .obtain⟨w2,z2⟩:=I.cell y c' e;exact⟨w2,z2.sameBut hs hcc⟩
  .obtain⟨e,n,ne,nf,d⟩:=I.pin p hp;refine⟨(hs.2 p.1 ?_).trans e,n,ne,nf,d⟩;intro q;rw[q,a3]at e;have q':=ay e;exact d w'<|by rw[<-q'];exact a2
def jo{E:yB}(I:Inv X pins W H s)(b:X.N.Nodup)(hi:X.N[i]?=al x)(c:Loc X.env.scope x)(r:RelV v u)(h:∀a,Inv X pins (W.set i<|al v) H a->Q () a)(z:autoParam (X.fn x=bY\/X.env.scope.names.lookup x=al .local) Zq0._auto_1):wpAny M A (fQ X.env x u) Q E s:=aE3 I b hi c r (λa J _=>h a J) z
def Inv.call'(I:Inv X pins W H s)(d:s'.os=s.os)(u:Un (frs X.stack) ch H H' s.heap s'.heap)(a:HOk X.prog X.w H' s'.heap)(J:gB s'.gens)(h:∀b∈ch,(b∈X.ex\/X.s₀.heap.objs.size<=b)/\b≠X.env.locals/\(∀x c,X.env.cells.lookup x=al c->c≠b)/\∀p∈X.pn++pins,p.1≠b):Inv X pins W H' s':=by obtain⟨h',b,b,b,z⟩:=s';have e:=d;subst e;exact I.call u a J h
end
abbrev XK:=Value->Option Addr->Hp->Prop
abbrev St:=List<|Option V
abbrev VK:=V->Hp->Prop
abbrev TE:=St->Hp->VK->Prop
abbrev TT:=St->Hp->(Bool->Hp->Prop)->Prop
abbrev TA:=St->Hp->(List V->Hp->Prop)->Prop
structure Ends where
 nx:St->Hp->Prop
 rt:VK
 bk:St->Hp->Prop:=λ_ _=>False
 ct:St->Hp->Prop:=λ_ _=>False
abbrev TS:=Ends->St->Hp->Prop
def EP(X:Cx)(a:yA)(W:St)(Q:VK)(u:Value)(b:af):Prop:=∃v H',Inv X a W H' b/\RelV v u/\Q v H'
def TP(X:Cx)(a:yA)(W:St)(Q:Bool->Hp->Prop)(b:Bool)(c:af):Prop:=∃H',Inv X a W H' c/\Q b H'
def AP(X:Cx)(a:yA)(W:St)(Q:List V->Hp->Prop)(c:yH)(d:af):Prop:=∃b H',Inv X a W H' d/\Vals b c/\Q b H'
def SP(X:Cx)(a:yA)(D:Ends)(f:Flow)(c:af):Prop:=match f with|.next=>∃b H',Inv X a b H' c/\D.nx b H'|.brk=>∃b H',Inv X a b H' c/\D.bk b H'|.cont=>∃b H',Inv X a b H' c/\D.ct b H'|.ret u=>∃v b H',Inv X a b H' c/\RelV v u/\D.rt v H'
def PE(X:Cx)(e:Expr)(t:TE):Prop:=∀a s(W:St)H Q,Inv X a W H s->t W H Q->wpAny (model X.prog X.w) X.A (eval e X.env) (EP X a W Q) X.xe s
def PT(X:Cx)(e:Expr)(t:TT):Prop:=∀a s(W:St)H Q,Inv X a W H s->t W H Q->wpAny (model X.prog X.w) X.A (ie e X.env<|eval e X.env) (TP X a W Q) X.xe s
def PW(X:Cx)(e:Expr)(t:TT):Prop:=∀b a s(W:St)H Q,Inv X a W H s->t W H Q->wpAny (model X.prog X.w) X.A (ie e X.env b) (TP X a W Q) X.xe s
def PW.pt(h:PW X e t):PT X e t:=h _
def PA(X:Cx)(es:yL)(t:TA):Prop:=∀b a s(W:St)H Q,Inv X a W H s->t W H Q->wpAny (model X.prog X.w) X.A (spliced<|cT b<|a9 es X.env) (AP X a W Q) X.xe s
def PS(X:Cx)(st:Stmt)(t:TS):Prop:=∀a s(W:St)H D,Inv X a W H s->t D W H->wpAny (model X.prog X.w) X.A (exec st X.env) (SP X a D) X.xe s
def PSs(X:Cx)(st:yM)(t:TS):Prop:=∀a s(W:St)H D,Inv X a W H s->t D W H->wpAny (model X.prog X.w) X.A (execs st X.env) (SP X a D) X.xe s
def thn{M}{A}{E:yB}{s}(h:wpAny M A t Q E s)(J:∀a s,Q a s->z a s):wpAny M A t z E s:=bD h J λ_ _ x=>x
section
variable{X:Cx}
def bin(e:PE X a Uu)(g:PE X b tb){W:St}{R:V->V->Hp->Prop}(I:Inv X z W H s)(h:Uu W H λx J=>tb W J λy c=>R x y c){f:Value->Value->Sem α}(Y:∀v u d x y c,Inv X z W c d->RelV x v->RelV y u->R x y c->wpAny (model X.prog X.w) X.A (f v u) Q X.xe d):wpAny (model X.prog X.w) X.A (eval a X.env) (λv a=>wpAny (model X.prog X.w) X.A (eval b X.env) (λu b=>wpAny (model X.prog X.w) X.A (f v u) Q X.xe b) X.xe a) X.xe s:=thn (e z s W H _ I h) λv a⟨x,J,b,e,c⟩=>thn (g z a W J _ b c) λu d⟨y,c,a,Z,b⟩=>Y v u d x y c a e Z b
def bm8(i:Nat):TE:=λW H Q=>∃v,W[i]?=al (al v)/\Q v H
def tC(v:V):TE:=λ_ H Q=>Q v H
def aB9{pos}(a:X.N[i]?=al x)(b:Vis X.env.scope x)(d:autoParam ((x==("__debug__":Str))=ce) Zq1._auto_1)(J:autoParam ((x==("__classdict__":Str))=ce) Zq1._auto_1):PE X (.Name x pos) (bm8 i):=by
 refineλz s W H Q I h=>AD h λv e h=>AD I.loc λm f c=>AD (c i x v a e b) λu r l=>?_;have fin:EP X z W Q u s:=⟨v,H,I,r,h⟩;rcases l with⟨hk,Y⟩|⟨hk,c,c,a⟩;.exact mK (jU I.ok.kind hk f Y fin) d
 .exact hk.elim (λhk=>mK (ku I.ok.kind hk c a fin) d) λhk=>mK (wpAny_loadName_free I.ok.kind hk c a fin J) d
def bB4:PE X (.Constant (.int i) j pos) (tC<|.int i):=λ_ _ _ H _ I h=>wpAny_Constant_int ⟨.int i,H,I.tok _,⟨_,rfl⟩,h⟩
def cn7:PE X (.Constant (.bool b) j pos) (tC<|.T b):=λ_ _ _ H _ I h=>Constant_bool ⟨.T b,H,I,rfl,h⟩
def cb2:PE X (.Constant .none j pos) (tC .N):=λ_ _ _ H _ I h=>kE ⟨.N,H,I,rfl,h⟩
def by8:PE X (.Constant (.str x) j pos) (tC<|.str x):=λ_ _ _ H _ I h=>Calls.Constant_str ⟨.str x,H,I.tok _,⟨_,rfl⟩,h⟩
def Gl(X:Cx)(x:Str):Prop:=X.env.kindOf x=al .globalImplicit
def ak0{E:yB}{W:St}{Q:yB}(I:Inv X z W H s)(J:Gl X x)(a:X.mg x=al u)(h:Q u s)(b:autoParam ((x==("__debug__":Str))=ce) Zq1._auto_1):wpAny (model X.prog X.w) X.A (eval (.Name x pos) X.env) Q E s:=gI I.ok.kind J (Calls.loadGlobal_global (I.ok.glob▸I.mod.glob.keeps I.bk) a h) b
def au4{E:yB}{W:St}{pos}{Q:yB}(I:Inv X z W H s)(a:Gl X x)(Y:X.mg x=aT)(b:bM x=al u)(h:Q u s)(c:autoParam (x≠"__name__") Zq1._auto_1)(d:autoParam ((x==("__debug__":Str))=ce) Zq1._auto_1):wpAny (model X.prog X.w) X.A (eval (.Name x pos) X.env) Q E s:=AD I.mod.blt λmb Z J=>gI I.ok.kind a (Calls.loadGlobal_builtin (I.ok.glob▸I.mod.glob.keeps I.bk) Y (I.ok.blt▸Z.keeps I.bk) ((J x c).trans b) h) d
def ao2(J:Gl X x)(z:X.mg x=al u)(r:RelV v u)(a:autoParam ((x==("__debug__":Str))=ce) Zq1._auto_1):PE X (.Name x pos) (tC v):=λ_ _ _ H _ I h=>ak0 I J z ⟨v,H,I,r,h⟩ a
def bG3{pos}(J:Gl X x)(z:X.mg x=aT)(a:bM x=al u)(r:RelV v u)(b:autoParam (x≠"__name__") Zq1._auto_1)(c:autoParam ((x==("__debug__":Str))=ce) Zq1._auto_1):PE X (.Name x pos) (tC v):=λ_ _ _ H _ I h=>au4 I J z a ⟨v,H,I,r,h⟩ b c
variable{a b:Expr}{ta tb:TE}{pos:Pos}
def PC(X:Cx)(d:CmpOp)(a b:Expr)(t:TE):Prop:=∀c s(W:St)H Q,Inv X c W H s->t W H Q->wpAny (model X.prog X.w) X.A (eval a X.env) (λv a=>wpAny (model X.prog X.w) X.A (eval b X.env) (λu b=>wpAny (model X.prog X.w) X.A (dZ d v u) (EP X c W Q) X.xe b) X.xe a) X.xe s
def aQ5 b(h:op≠.In)(z:op≠.NotIn):d3 op b=false:=by
 have a:(op==CmpOp.In)=false:=by lia
 have c:(op==CmpOp.NotIn)=false:=by lia
 cases b<;>simp[d3,a,c]
def cv0(a:TE):TE:=λW H Q=>a W H λx a=>Q (.T<|decide<|x=.N) a
def bT9(a:TE):TE:=λW H Q=>a W H λx a=>Q (.T<|!decide (x=.N)) a
def RelV.none_iff(r:RelV x v):(v==Value.none)=decide (x=.N):=by cases x with|N=>cases r;rfl|T _=>cases r;rfl|int _=>obtain⟨t,rfl⟩:=r;rfl|str _=>obtain⟨t,rfl⟩:=r;rfl|byt _=>obtain⟨t,rfl⟩:=r;rfl|flt _=>obtain⟨t,rfl⟩:=r;rfl|ref _=>cases r;rfl|ty _=>cases r;rfl
def bE1(b:PE X a ta):PC X .Is a (.Constant .none j pos') (cv0 ta):=λz s W H Q I h=>thn (b z s W H _ I h) λv a⟨x,J,Y,a,b⟩=>kE<|is_none_gen ⟨.T _,J,Y,by rw[a.none_iff];rfl,b⟩
def be2(b:PE X a ta):PC X .IsNot a (.Constant .none j pos') (bT9 ta):=λz s W H Q I h=>thn (b z s W H _ I h) λv a⟨x,J,Y,a,b⟩=>kE<|isnot_none_gen ⟨.T _,J,Y,by rw[a.none_iff];rfl,b⟩
def tB(t:TE):TT:=λW H Q=>t W H λx a=>∃c,x=.T c/\Q c a
def bB9(h:PC X op a b t)(J:autoParam (d3 op b=ce) Zq2._auto_1):PE X (.Compare a [op] [b] pos) t:=λz s W H Q I a=>wpAny_Compare1 (h z s W H Q I a) J
def bB1(h:PC X op a b t)(J:autoParam (d3 op b=ce) Zq2._auto_1):PT X (.Compare a [op] [b] pos) (tB t):=by refineλz s W H Q I a=>i3 (thn (h z s W H _ I a) λv a J=>thn J λu a Y=>thn Y λc a⟨x,a,b,c,Z⟩=>?_) J;obtain⟨d,rfl,q⟩:=Z;exact c▸cL ⟨a,b,q⟩
def bc2(h:PE X e t)(Y:autoParam (∀z,ie e X.env z=(do let v<-z;lc e.pos;gX [v]<|truthy v)) Zq3._auto_1):PT X e<|tB t:=by refineλJ s W H Q I a=>isTrue_plain (thn (h J s W H _ I a) λv a⟨x,a,b,c,Z⟩=>?_) (Y _);obtain⟨d,rfl,q⟩:=Z;exact c▸cL ⟨a,b,q⟩
variable{tA tB':TT}{rest:yL}
def cu1(t u:TT):TT:=λW H Q=>t W H λc a=>if c=bY then u W a Q else Q ce a
def tOr(t u:TT):TT:=λW H Q=>t W H λc a=>if c=bY then Q bY a else u W a Q
def cw3(t:TT):TT:=λW H Q=>t W H λc a=>Q (!c) a
def bS1(b:PT X a tA):PW X (.BoolOp .And [a] pos) tA:=by refineλJ z s W H Q I h=>isTrue_and<|thn (b z s W H Q I h) λc a e=>?_;cases c with|true=>exact isTrue_and_nil e|false=>exact e
def cc6(b:PT X a tA):PW X (.BoolOp .Or [a] pos) tA:=by refineλJ z s W H Q I h=>isTrue_or<|thn (b z s W H Q I h) λc a e=>?_;cases c with|false=>exact isTrue_or_nil e|true=>exact e
def bC9(c:PT X a tA)(d:PW X (.BoolOp .And (b::rest) pos) tB'):PW X (.BoolOp .And (a::b::rest) pos) (cu1 tA tB'):=by refineλZ z s W H Q I h=>isTrue_and<|thn (c z s W H _ I h) λc b⟨J,Y,a⟩=>?_;cases c with|true=>exact d Z z b W J Q Y a|false=>exact⟨J,Y,a⟩
def ch0(c:PT X a tA)(d:PW X (.BoolOp .Or (b::rest) pos) tB'):PW X (.BoolOp .Or (a::b::rest) pos) (tOr tA tB'):=by refineλZ z s W H Q I h=>isTrue_or<|thn (c z s W H _ I h) λc b⟨J,Y,a⟩=>?_;cases c with|true=>exact⟨J,Y,a⟩|false=>exact d Z z b W J Q Y a
def bC6(b:PT X a tA):PT X (.UnaryOp .Not a pos) (cw3 tA):=λz s W H Q I h=>isTrue_not<|b z s W H (λc J=>Q (!c) J) I h
def bW3(a tb:TE):TE:=λW H Q=>a W H λx a=>∃c,x=.T c/\if c=bY then tb W a Q else Q (.T ce) a
def cv5(a tb:TE):TE:=λW H Q=>a W H λx a=>∃c,x=.T c/\if c=bY then Q (.T bY) a else tb W a Q
def cb5(a:TE):TE:=λW H Q=>a W H λx a=>∃c,x=.T c/\Q (.T<|!c) a
def bD9(h:PE X a t):PE X (.BoolOp op [a] pos) t:=λz s W H Q I a=>BoolOp_one<|h z s W H Q I a
def bD1(c:PE X a ta)(d:PE X (.BoolOp .And (b::rest) pos) tb):PE X (.BoolOp .And (a::b::rest) pos) (bW3 ta tb):=by refineλz s W H Q I h=>BoolOp_and<|thn (c z s W H _ I h) λv b⟨x,a,Y,e,J⟩=>?_;obtain⟨c,rfl,J⟩:=J;cases e;refine cL ?_;cases c with|true=>exact d z b W a Q Y J|false=>exact⟨.T ce,a,Y,rfl,J⟩
def cd0(c:PE X a ta)(d:PE X (.BoolOp .Or (b::rest) pos) tb):PE X (.BoolOp .Or (a::b::rest) pos) (cv5 ta tb):=by refineλz s W H Q I h=>BoolOp_or<|thn (c z s W H _ I h) λv b⟨x,a,Y,e,J⟩=>?_;obtain⟨c,rfl,J⟩:=J;cases e;refine cL ?_;cases c with|false=>exact d z b W a Q Y J|true=>exact⟨.T bY,a,Y,rfl,J⟩
def bC7(b:PE X a ta):PE X (.UnaryOp .Not a pos) (cb5 ta):=by refineλz s W H Q I h=>UnaryOp_<|thn (b z s W H _ I h) λv a⟨x,a,Y,b,J⟩=>?_;obtain⟨c,rfl,J⟩:=J;exact b▸not_of (cL ⟨.T<|!c,a,Y,rfl,J⟩)
def tIf(t:TT)(b tb:TE):TE:=λW H Q=>t W H λc a=>if c=bY then b W a Q else tb W a Q
def bx7(d:PT X c tA)(e:PE X a ta)(f:PE X b tb):PE X (.IfExp c a b pos) (tIf tA ta tb):=by refineλz s W H Q I h=>wpAny_IfExp<|thn (d z s W H _ I h) λd a⟨J,Y,b⟩=>?_;cases d with|true=>exact e z a W J Q Y b|false=>exact f z a W J Q Y b
end
def SqL(K:ac)(H:Hp)(a:Addr)(c:List V):Prop:=Rd H a (.J c)\/∃(o:Obj)(b:yK)(n:Nat),K.lookup a=al o/\o.cls=.type "list"/\o.dict=aT/\o.data=.seq b n/\b.size<=a7/\Vals c b.toList
def SqT(K:ac)(H:Hp)(a:Addr)(c:List V):Prop:=Rd H a (.tp c)\/∃(o:Obj)(b:yK)(n:Nat),K.lookup a=al o/\o.cls=.type "tuple"/\o.data=.seq b n/\b.size<=a7/\Vals c b.toList
noncomputable def cx5:Value->Option V|.none=>al .N|.bool b=>al<|.T b|.int i _=>al<|.int i|.str x _=>al<|.str x|.bytes b _=>al<|.byt b|.float b _=>al<|.flt b|.ref a=>al<|.ref a|.type n=>al<|.ty n|_=>aT
def RelV.abs(r:RelV x u):cx5 u=al x:=by cases x with|N=>cases r;rfl|T _=>cases r;rfl|int _=>obtain⟨t,rfl⟩:=r;rfl|str _=>obtain⟨t,rfl⟩:=r;rfl|byt _=>obtain⟨t,rfl⟩:=r;rfl|flt _=>obtain⟨t,rfl⟩:=r;rfl|ref _=>cases r;rfl|ty _=>cases r;rfl
def RelV.inj(r:RelV x u)(q:RelV y u):x=y:=ay<|r.abs.symm.trans q.abs
theorem Vals.inj:∀{h a}{b:yH},Vals h b->Vals a b->h=a|_,_,_,.nil,.nil=>rfl|_,_,_,.cons r t,.cons a b=>by rw[r.inj a,Vals.inj t b]
section
variable{X:Cx}{pins:yA}{W:St}{H:Hp}{s:af}{a:Addr}{xs ys:List V}
def SqL.of{K}(h:H a=al (.J xs)):SqL K H a xs:=.inl<|.inl h
def SqT.of{K}(h:H a=al (.tp xs)):SqT K H a xs:=.inl<|.inl h
def Inv.list(I:Inv X pins W H s)(h:SqL X.K H a xs):∃b,Vals xs b/\PlainL s.heap a b.toArray/\xs.length<=a7:=by
 rcases h with h|⟨o,b,n,c,d,f,hs,hz,r⟩;.exact AY (h.ok I.hok) λz b n r e=>⟨b,r,⟨_,n,e,rfl,rfl,rfl⟩,z⟩
 .refine⟨b.toList,r,⟨o,n,I.kIn a o c,d,f,by simp_all⟩,?_⟩;have e:=r.length;simp_all
def Inv.tuple(I:Inv X pins W H s)(h:SqT X.K H a xs):∃its,Vals xs its/\IsTup s.heap a its.toArray/\xs.length<=a7:=by
 rcases h with h|⟨o,its,n,hk,hc,hs,hz,r⟩;.obtain⟨z,its,r,p⟩:=h.ok I.hok;exact⟨its,r,p,z⟩
 .refine⟨its.toList,r,⟨o,I.kIn a o hk,hc,n,by simpa using hs⟩,?_⟩;have e:=r.length;simp only[dv]at e;omega
def Inv.list_inj(I:Inv X pins W H s)(h:SqL X.K H a xs)(h':SqL X.K H a ys):xs=ys:=by
 obtain⟨its,r,⟨o,n,e,_,_,d⟩,_⟩:=I.list h;obtain⟨its',z,⟨J,Uu,e',_,_,d'⟩,_⟩:=I.list h';rw[e]at e';cases e';rw[d]at d';injection d' with d1 _;have:=by simpa using congrArg lf d1
 subst this;exact r.inj z
def Inv.tuple_inj(I:Inv X pins W H s)(h:SqT X.K H a xs)(h':SqT X.K H a ys):xs=ys:=by
 obtain⟨b,r,⟨o,e,_,n,d⟩,_⟩:=I.tuple h;obtain⟨a,z,⟨J,f,_,c,c⟩,_⟩:=I.tuple h';cases e▸f;rw[d]at c;injection c with c _;have:b=a:=by lia
 subst this;exact r.inj z
end
noncomputable abbrev Cx.wish(X:Cx)(E:yB):Cx:={X with xe:=E}
noncomputable abbrev Cx.nox(X:Cx):Cx:=X.wish λ_ _=>False
theorem Cx.Ok.wish{X:Cx}(ok:X.Ok)E:(X.wish E).Ok:=⟨ok.mod,ok.kind,ok.glob,ok.blt,ok.above,ok.inj,ok.has,ok.cab,ok.hd,ok.frames,ok.stk,ok.exf,ok.bs,ok.bsz,ok.noex,ok.exfs,ok.funs,ok.frf⟩
def Cx.Ok.unwish{X:Cx}(ok:(X.wish E).Ok):X.Ok:=⟨ok.mod,ok.kind,ok.glob,ok.blt,ok.above,ok.inj,ok.has,ok.cab,ok.hd,ok.frames,ok.stk,ok.exf,ok.bs,ok.bsz,ok.noex,ok.exfs,ok.funs,ok.frf⟩
section
variable{X:Cx}{pins:yA}{W:St}{H:Hp}{s:af}{E:yB}
theorem Inv.wish(I:Inv X pins W H s)E:Inv (X.wish E) pins W H s:=⟨I.ok.wish E,I.os,I.bare,I.base,I.loc,I.cell,I.free,I.freeC,I.pin,I.hok,I.len⟩
theorem Inv.unwish(I:Inv (X.wish E) pins W H s):Inv X pins W H s:=⟨I.ok.unwish,I.os,I.bare,I.base,I.loc,I.cell,I.free,I.freeC,I.pin,I.hok,I.len⟩
theorem SP.unwish(h:SP (X.wish E) pins D f s'):SP X pins D f s':=by cases f with|next=>exact AE h λW' H' I q=>⟨W',H',I.unwish,q⟩|brk=>exact AE h λW' H' I q=>⟨W',H',I.unwish,q⟩|cont=>exact AE h λW' H' I q=>⟨W',H',I.unwish,q⟩|ret u=>exact AS h λv W' H' I r q=>⟨v,W',H',I.unwish,r,q⟩
theorem PE.nox(h:PE X.nox e t):PE X e t:=λJ s W H Q I a=>bD (h J s W H Q (I.wish _) a) (λ_ _⟨v,H',a,r,q⟩=>⟨v,H',a.unwish,r,q⟩) λ_ _ z=>bo z
theorem PT.nox(h:PT X.nox e t):PT X e t:=λJ s W H Q I a=>bD (h J s W H Q (I.wish _) a) (λ_ _⟨H',a,q⟩=>⟨H',a.unwish,q⟩) λ_ _ z=>bo z
theorem PSs.nox{st}(h:PSs X.nox st t):PSs X st t:=λJ s W H D I a=>bD (h J s W H D (I.wish _) a) (λ_ _ q=>q.unwish) λ_ _ z=>bo z
end
section
variable{X:Cx}{st:Stmt}{rest:yM}{t u:TS}{e:Expr}{te:TE}{pos:Pos}
def bV5:TS:=λD W H=>D.nx W H
noncomputable def cn8(t u:TS):TS:=λD W H=>t {D with nx:=u D} W H
def az9:PSs X [] bV5:=λ_ _ W H _ I h=>dR ⟨W,H,I,h⟩
set_option tactic.hygienic true in def zC(Y:PS X st t)(J:PSs X rest u):PSs X (st::rest) (cn8 t u):=by refineλz s W H D I h=>lJ<|thn (Y z s W H {D with nx:=u D} I h) λf a q=>?_;cases f with|next=>exact AE q λW' H' b q=>J z a W' H' D b q|ret v=>exact q|brk=>exact q|cont=>exact q
def bF8(J:PS X st t):PSs X [st] t:=by refineλz s W H D I h=>lJ<|thn (J z s W H D I h) λf a q=>?_;cases f with|next=>exact dR q|ret v=>exact q|brk=>exact q|cont=>exact q
def Inv.quiet{W:St}(I:Inv X h W H s):interactive X.env=false:=by simp[interactive,I.ok.kind]
def bU5(a:TE):TS:=λD W H=>a W H λ_ a=>D.nx W a
def aH8(Y:PE X e te)(a:autoParam (fR e aT pos.line X.env=pure ce) Zq4._auto_1):PS X (.Expr e pos) (bU5 te):=λz s W H D I h=>wpAny_Expr_any (thn (Y z s W H _ I h) λv b⟨x,J,Z,r1,b⟩=>⟨W,J,Z,b⟩) I.quiet a
def cw0(a:TE):TS:=λD W H=>a W H D.rt
def aF2(Y:PE X e te):PS X (.Return (al e) pos) (cw0 te):=λz s W H D I h=>wpAny_Return_some<|thn (Y z s W H _ I h) λv a⟨x,J,Z,a,b⟩=>⟨x,W,J,Z,a,b⟩
def cb3:TS:=λD _ H=>D.rt .N H
def bL9:PS X (.Return aT pos) cb3:=λ_ _ W H _ I h=>wpAny_Return_none ⟨.N,W,H,I,rfl,h⟩
def cv4(c:TT)(t u:TS):TS:=λD W H=>c W H λb a=>if b=bY then t D W a else u D W a
def ci9(d:PT X c Y)(e:PSs X a t)(f:PSs X b u):PS X (.If c a b pos) (cv4 Y t u):=by refineλz s W H D I h=>wpAny_If<|thn (d z s W H _ I h) λd a⟨J,Z,b⟩=>?_;cases d with|true=>exact e z a W J D Z b|false=>exact f z a W J D Z b
def bA9:TS:=λ_ _ _=>False
def bt3:PS X st bA9:=λ_ _ _ _ _ _ h=>h.elim
def qp:PSs X z bA9:=λ_ _ _ _ _ _ h=>h.elim
end
abbrev TG:=V->St->Hp->(St->Hp->Prop)->Prop
abbrev TGs:=List V->St->Hp->(St->Hp->Prop)->Prop
def PG(X:Cx)(a:Expr)(t:TG):Prop:=∀b s(W:St)H v u Q,Inv X b W H s->RelV v u->t v W H Q->wpAny (model X.prog X.w) X.A (iC a X.env u) (λ_ c=>∃a H',Inv X b a H' c/\Q a H') X.xe s
def PGs(X:Cx)(ts:yL)(t:TGs):Prop:=∀a s(W:St)H b(c:yH)Q,Inv X a W H s->Vals b c->t b W H Q->wpAny (model X.prog X.w) X.A (assignInOrder ((c6 ts X.env).map (·.2)) c) (λ_ c=>∃b H',Inv X a b H' c/\Q b H') X.xe s
abbrev ck9:=V->V->V->Hp->(Hp->Prop)->Prop
def cp3(X:Cx)(t:ck9):Prop:=∀a s(W:St)H o i v b c u Q,Inv X a W H s->RelV o b->RelV i c->RelV v u->t o i v H Q->wpAny (model X.prog X.w) X.A (setItem b c u) (λ_ b=>∃H',Inv X a W H' b/\Q H') X.xe s
abbrev TIp:=V->V->Hp->VK->Prop
def PIp(X:Cx)(b:mM)(t:TIp):Prop:=∀a s(W:St)H x y v u Q,Inv X a W H s->RelV x v->RelV y u->t x y H Q->wpAny (model X.prog X.w) X.A (inplaceOp b v u) (EP X a W Q) X.xe s
section
variable{X:Cx}{pos:Pos}
def aB8(i:Nat):TG:=λv W H Q=>Q (W.set i<|al v) H
def bl4(a:X.N.Nodup)(hi:X.N[i]?=al x)(b:Loc X.env.scope x)(J:autoParam (X.fn x=bY\/X.env.scope.names.lookup x=al .local) Zq0._auto_1):PG X (.Name x pos) (aB8 i):=λz s W H v u Q I r h=>lh<|jo I a hi b r (λa a=>⟨_,H,a,h⟩) J
def cv8:TGs:=λa W H Q=>a=[]/\Q W H
def cb4(t:TG)(u:TGs):TGs:=λa W H Q=>∃v r,a=v::r/\t v W H λa H'=>u r a H' Q
def bR3:PGs X [] cv8:=by intro z s W H a a Q I r h;obtain⟨e,h⟩:=h;subst e;cases r;exact assignInOrder_nil ⟨W,H,I,h⟩
def bs7(Z:PG X e t)(J:PGs X es u)(a:autoParam ((c6 (e::es) X.env).map (·.2)=iC e X.env::(c6 es X.env).map (·.2)) Zq4._auto_1):PGs X (e::es) (cb4 t u):=by intro z s W H b b Q I r h;obtain⟨v,b,b,h⟩:=h;subst b;cases r with|cons r b=>rw[a];exact assignInOrder_cons<|thn (Z z s W H _ _ _ I r h) λ_ a⟨c,d,Y,e⟩=>J z a c d _ _ Q Y b e
def co2(K:ac)(n:Nat)(t:TGs):TG:=λv W H Q=>∃a b,v=.ref a/\SqT K H a b/\b.length=n/\t b W H Q
def bY7{k}(hc:X.calm=bY)(h:PGs X es t)(hn:autoParam ((c6 es X.env).length=n) Zq4._auto_1)(J:autoParam ((c6 es X.env).findIdx? (·.1)=aT) Zq4._auto_1):PG X (.Tuple es k pos) (co2 X.K n t):=by intro z s W H v u Q I r hw;obtain⟨a,Y,e1,hq,Z,hw⟩:=hw;subst e1;cases r;exact AH (I.tuple hq) λits Uu ht hz=>assign_Tuple_tuple (I.ok.hd hc) ht (by simp[hn,<-Z,Uu.length]) J λh' hx=>have I1:=I.kept (t':=s.toks) λb o e=>hx b o (aI<|aM e) e;h z _ W H Y _ Q I1 (by simp_all) hw
def cu6(a b:TE)(t:ck9):TG:=λv W H Q=>a W H λo a=>b W a λi a=>t o i v a λa=>Q W a
def bX8(a:PE X o Uu)(hi:PE X i Y)(b:cp3 X t)(c:autoParam (∀v,iC (.Subscript o i pos) X.env v=(do
   let ov<-gX [v]<|eval o X.env let J<-gX [v,ov]<|eval i X.env
   lc pos
   gX [v,ov,J]<|setItem ov J v
   release [v,ov,J] [])) Zq3._auto_1):PG X (.Subscript o i pos) (cu6 Uu Y t):=by intro z s W H v u Q I r h;rw[c];exact ai<|cQ<|thn (a z s W H _ I h) λov a⟨x,Z,c,d,e⟩=>ai<|cQ<|thn (hi z a W Z _ c e) λJ a⟨y,c,e,f,g⟩=>ai<|kF<|ai<|cQ<|thn (b z a W c x y v ov J u _ e d f r g) λ_ a⟨a,b,c⟩=>wpAny_release ⟨W,a,b,c⟩
def bw9(a:TE)(g:TG):TS:=λD W H=>a W H λx a=>g x W a D.nx
def bD7(Y:PE X e J)(a:PG X tg g)(b:autoParam (swapsWithSole [tg] e pos.line X.env=pure ce) Zq4._auto_1)(c:autoParam (kG [tg] e X.env=pure aT) Zq4._auto_1)(d:autoParam ((c6 [tg] X.env).map (·.2)=[iC tg X.env]) Zq4._auto_1):PS X (.Assign [tg] e pos) (bw9 J g):=by refineλz s W H D I h=>wpAny_Assign_stores (thn (Y z s W H _ I h) λv e⟨x,f,g,h,Z⟩=>?_) b c;exact d▸thn (a z e W f x v _ g h Z) λ_ a q=>q
def bz0(a:X.N.Nodup)(hi:X.N[i]?=al x)(b:Loc X.env.scope x)(c:PE X e Uu)(d:autoParam (fR e (al<|.Name x z) pos.line X.env=pure ce) Zq4._auto_1)(Y:autoParam (X.fn x=bY\/X.env.scope.names.lookup x=al .local) Zq0._auto_1):PS X (.Assign [.Name x z] e pos) (bw9 Uu<|aB8 i):=by refineλJ s W H D I h=>wpAny_Assign_Name (thn (c J s W H _ I h) λv c⟨y,Z,c,e,f⟩=>?_) d;exact jo c a hi b e (λa a=>⟨_,Z,a,f⟩) Y
def cw1(i:Nat)(a:TE)(b:TIp):TS:=λD W H=>∃x,W[i]?=al (al x)/\a W H λy a=>b x y a λz a=>D.nx (W.set i<|al z) a
def ce0(a:X.N.Nodup)(hi:X.N[i]?=al x)(d:Loc X.env.scope x)(b:PE X e Y)(c:PIp X op Z)(g:autoParam (X.fn x=bY\/X.env.scope.names.lookup x=al .local) Zq0._auto_1):PS X (.AugAssign (.Name x Uu) op e pos) (cw1 i Y Z):=by
 refineλJ s W H D I h=>AD h λv f h=>AD I.loc λm j l=>?_;have vis:Vis X.env.scope x:=by rcases d with k|k;exact .inl k;exact .inr<|.inl k
 refine AD (l i x v hi f vis) λu r l=>wpAny_AugAssign_Name ?_;have f:wpAny (model X.prog X.w) X.A (eval e X.env) (λw e=>wpAny (model X.prog X.w) X.A (inplaceOp op u w) (λr i=>wpAny (model X.prog X.w) X.A (fQ X.env x r) (λ_=>SP X J D .next) X.xe i) X.xe e) X.xe s:=thn (b J s W H _ I h) λw b⟨y,e,h,i,k⟩=>thn (c J b W e v y u w _ h r i k) λz b⟨zv,b,c,e,h⟩=>jo c a hi d e (λa a=>⟨_,b,a,h⟩) g;rcases l with⟨a,e⟩|⟨a,c,c,b⟩;.exact jU I.ok.kind a j e f
 .rcases a with a|a;.exact ku I.ok.kind a c b f
  .rcases d with k|k;.have:X.env.scope.names.lookup x=al .free:=a;simp_all
   .have:X.env.scope.names.lookup x=al .free:=a;simp_all
def ipI(f:Int->Int->Int):TIp:=λx y H Q=>∃i j,x=.int i/\y=.int j/\Q (.int<|f i j) H
def bU0:PIp X .Add<|ipI λi j=>i+j:=by refineλz s W H x y v u Q I a J h=>AL h λi j b c q=>?_;subst b;subst c;obtain⟨t,rfl⟩:=a;obtain⟨a,rfl⟩:=J;exact iadd_int ⟨.int _,H,I.tok _,⟨_,rfl⟩,q⟩
end
section
variable{X:Cx}{pos:Pos}
def be9(c:TT)(tb:TS):TS:=λD W H=>∃a:Nat->St->Hp->Prop,(∃m,a m W H)/\∀m W H,a m W H->c W H λb c=>if b=bY then∃N,(∀b H',N b H'->∃c,c<m/\a c b H')/\tb {D with nx:=N,ct:=N,bk:=D.nx} W c else D.nx W c
set_option tactic.hygienic true in def aO5(d:ka (model X.prog X.w) X.A X.env X.xe)(e:PT X c tc)(f:PSs X body tb):PS X (.While c body [] pos) (be9 tc tb):=by intro z s W H D I h;obtain⟨b,⟨c,g⟩,turn⟩:=h;refine wpAny_While<|codeAny_whileLoop (λn h=>∃a H',Inv X z a H' h/\b n a H') ?_ c ⟨W,H,I,g⟩;rintro n c⟨a,b,g,h⟩;refine dg d<|thn (e z c a b _ g<|turn n a b h) λb e⟨g,h,c⟩=>?_;cases b with
 |true=>refine AD c λN i c=>?_;rw[dO rfl];refine dg d<|thn (f z e a g _ h c) λf b b=>?_;cases f with|next=>exact AE b λW3 J Z Y=>AD (i W3 J Y) λm' d e=>⟨m',d,W3,J,Z,e⟩|cont=>exact AE b λW3 J Z Y=>AD (i W3 J Y) λm' d e=>⟨m',d,W3,J,Z,e⟩|brk=>exact b|ret v=>exact b
 |false=>exact ef bB▸dR ⟨a,g,h,c⟩
end
structure It where
 go:Nat->Hp->Prop
 yld:Nat->Hp->V->Hp->Prop
 stop:Nat->Hp->Prop
def FpOk(X:Cx)(a:yA)(H:Hp)(b:Addr):Prop:=H b=aT/\b≠X.env.locals/\b∉X.fs/\(b∈X.ex\/X.s₀.heap.objs.size<=b)/\(∀x c,X.env.cells.lookup x=al c->c≠b)/\∀p∈X.pn++a,p.1≠b
def Inv.fpOk{W:St}{b:Addr}(I:Inv X h W H s)(a:s.heap.objs.size<=b)(c:H' b=aT):FpOk X h H' b:=by
 refine⟨c,eI<|aA I.lt a,I.nofs a,.inr<|au I.sz a,λx c e z=>?_,λp b z=>?_⟩;.exact AF (I.cell x c e) λv q=>ij (aA q.lt<|z▸a) (bO _)
 .exact ij (aA (aM (I.pin p b).1) (z▸a)) (bO _)
structure Turn(P:aH)(w:World)(K:ac)(tg:Expr)(J:It)(fp:List Addr)(it:Addr)(tn:Nat->Heap->Prop):Prop where
 mem:it∈fp
 obj:∀i h,tn i h->∀b∈fp,∃o,h.get? b=al o/\∀v,o.data≠.cell v
 keep:∀i h h',tn i h->(∀b∈fp,∀o,h.get? b=al o->h'.get? b=al o)->tn i h'
 item:∀(X:Cx),X.prog=P->X.w=w->X.K=K->X.calm=bY->∀(i:Nat)(pins:yA)(s:af)(W:St)(H:Hp)(E:yB),Inv X pins W H s->(∀b∈fp,FpOk X pins H b)->tn i s.heap->J.go i H->wpAny (model P w) X.A (lK<|.ref it) (λr s1=>∃u,r=al u/\wpAny (model P w) X.A (gj tg (.ref it) u) (λ_ s2=>∃x H',Inv X pins W H' s2/\RelV x u/\J.yld i H x H'/\tn (i+1) s2.heap/\∀b∈fp,H' b=aT) E s1) E s
 done:∀(X:Cx),X.prog=P->X.w=w->X.K=K->X.calm=bY->∀(i:Nat)(pins:yA)(s:af)(W:St)(H:Hp)(E:yB),Inv X pins W H s->(∀b∈fp,FpOk X pins H b)->tn i s.heap->J.stop i H->wpAny (model P w) X.A (lK<|.ref it) (λr s1=>r=aT/\Inv X pins W H s1) E s
 self:∀(A:aU)(i:Nat)(s:af)(Q:yB)(E:yB),tn i s.heap->Q (.ref it) s->wpAny (model P w) A (nG<|.ref it) Q E s
abbrev TI:=St->Hp->(It->Hp->Prop)->Prop
def PIE(X:Cx)(a:yA)(W:St)(tg:Expr)(R:It->Hp->Prop)(b:Value)(c:af):Prop:=∃(it:Addr)(d:List Addr)(e:Nat->Heap->Prop)(J:It)(H':Hp),b=.ref it/\Inv X a W H' c/\Turn X.prog X.w X.K tg J d it e/\e 0 c.heap/\(∀b∈d,FpOk X a H' b)/\R J H'
def PI(X:Cx)(tg iter:Expr)(b:TI):Prop:=∀a s(W:St)H R,Inv X a W H s->b W H R->wpAny (model X.prog X.w) X.A (eval iter X.env) (λv b=>wpAny (model X.prog X.w) X.A (nG v) (PIE X a W tg R) X.xe b) X.xe s
def be7(b:s.heap.get? it=al o)(c:o.cls=.type n)(d:o.data=.fields vs)(a:["enumerate","zip","dict_itemiterator","dict_reverseitemiterator","odict_iterator","itertools.zip_longest","itertools.pairwise"].contains n=ce)(a:Q () s):wpAny M A (gj tg (.ref it) u) Q E s:=by cases tg<;>first|exact aE a|(cases u<;>first|exact aE a| (refine ai<|wpAny_load b ?_;rw[c,d];show wpAny M A (if(["enumerate","zip","dict_itemiterator","dict_reverseitemiterator","odict_iterator","itertools.zip_longest","itertools.pairwise"].contains n&&vs[0]?==al (dD _))=bY then _ else _) Q E s;rw[ef<|by lia];exact aE a))
noncomputable def Itl(K:ac)(a:Addr):It:=⟨λi H=>∃b x,SqL K H a b/\b[i]?=al x,λi H x H'=>H'=H/\∀b,SqL K H a b->b[i]?=al x,λi H=>∃b,SqL K H a b/\b.length<=i⟩
noncomputable def Itt(K:ac)(a:Addr):It:=⟨λi H=>∃b x,SqT K H a b/\b[i]?=al x,λi H x H'=>H'=H/\∀b,SqT K H a b->b[i]?=al x,λi H=>∃b,SqT K H a b/\b.length<=i⟩
noncomputable def Itr(a:Int)(n:Nat):It:=⟨λi _=>i<n,λi H x H'=>H'=H/\x=.int (a+i),λi _=>n<=i⟩
def bc1{K}a it:Turn P w K tg (Itl K a) [it] it<|λi h=>h.IsListIter it a i where
 mem:=by simp
 obj:=λi h a b f=>by
  have e:=by simpa using f
  subst e;exact AH a λo e c d=>⟨o,e,λv z=>by cases d▸z⟩
 keep:=λi h h' a k=>a.at<|k it<|by simp
 item:=by intro X h j k v i J s W H E I Y a l;subst h j k;exact AE l λxs x g m=>AH (I.list g) λits n p w=>AD (n.get m) λu b h=>AV (Y it<|by simp) λf0 q y r Z t=>wpAny_pyNext_list_item a p.isList (by simpa using b) λh' a c=>have i:=I.turned (t':=s.toks) (λb o f e=>(c.2 b f).trans e) f0 q r Z t;AH (id a) λo e c d=>⟨u,rfl,be7 e c d (by decide) ⟨x,H,i,h,⟨rfl,λb b=>I.list_inj b g▸m⟩,a,λb f=>(Y b f).1⟩⟩
 done:=by intro X h j k v i J s W H E I Y a l;subst h j k;exact AD l λxs g m=>AH (I.list g) λits n p w=>AV (Y it<|by simp) λf0 q y r Z t=>have b:=n.length;wpAny_pyNext_list_end (I.ok.hd v) a p.isList (by simp;lia) λh' a=>⟨rfl,I.turned (a) f0 q r Z t⟩
 self:=λ_ _ _ _ _ a h=>wpAny_pyIter_listiter a h
def aR9{K}a it:Turn P w K tg (Itt K a) [it] it<|λi h=>h.IsTupleIter it a i where
 mem:=by simp
 obj:=λi h a b f=>by
  have e:=by simpa using f
  subst e;exact AH a λo e c d=>⟨o,e,λv z=>by cases d▸z⟩
 keep:=λi h h' a k=>a.at<|k it<|by simp
 item:=by intro X h j k v i J s W H E I Y a l;subst h j k;exact AE l λxs x g m=>AH (I.tuple g) λits n p w=>AD (n.get m) λu b h=>AV (Y it<|by simp) λf0 q y r Z t=>wpAny_pyNext_tuple_item a (p) (by simpa using b) λh' a c=>have i:=I.turned (t':=s.toks) (λb o f e=>(c.2 b f).trans e) f0 q r Z t;AH (id a) λo e c d=>⟨u,rfl,be7 e c d (by decide) ⟨x,H,i,h,⟨rfl,λb b=>I.tuple_inj b g▸m⟩,a,λb f=>(Y b f).1⟩⟩
 done:=by intro X h j k v i J s W H E I Y a l;subst h j k;exact AD l λxs g m=>AH (I.tuple g) λits n p w=>AV (Y it<|by simp) λf0 q y r Z t=>have b:=n.length;wpAny_pyNext_tuple_end (I.ok.hd v) a (p) (by simp;omega) λh' a=>⟨rfl,I.turned (a) f0 q r Z t⟩
 self:=λ_ _ _ _ _ a h=>wpAny_pyIter_tupleiter a h
def aV9{K}it Z n:Turn P w K tg (Itr Z n) [it] it<|λi h=>jV h it (Z+(i)*1) ((n)-(i)) 1 where
 mem:=by simp
 obj:=λi h a b c=>by simp_all
 keep:=λi h h' a k=>k it (by simp) _ a;item:=by intro X d f g h i J s W H E I Y a j;subst d f g;refine AV (Y it<|by simp) λf0 k q l m p=>have b:=nR (prog:=X.prog) (w:=X.w) (I.ok.hd h) it Z 1 n;b.item i s _ _ j a λv h' tk b a kk=>?_;obtain⟨t,rfl⟩:=b;have d:Inv X J W H {s with heap:=h',toks:=tk}:=I.turned (λb o c e=>kk b o (by simp_all) e) f0 k l m p;refine⟨_,rfl,be7 a rfl rfl (by decide) ⟨.int<|Z+i,H,d,⟨t,?_⟩,⟨rfl,rfl⟩,a,λb c=>(Y b c).1⟩⟩;lia
 done:=by intro X d f g h i J s W H E I Y a j;subst d f g;exact AV (Y it<|by simp) λf0 k q l m p=>iD (I.ok.hd h) a (by have:n<=i:=j;lia) λh' a=>⟨rfl,I.turned (a) f0 k l m p⟩
 self:=λ_ _ _ _ _ a h=>iE a h
section
variable{X:Cx}{tg:Expr}
def bM3(K:ac)(tl:TE):TI:=λW H R=>tl W H λx b=>∃a,x=.ref a/\(∃c,SqL K b a c)/\R (Itl K a) b
def cn1(K:ac)(tl:TE):TI:=λW H R=>tl W H λx b=>∃a,x=.ref a/\(∃c,SqT K b a c)/\R (Itt K a) b
def bN5(Y:PE X l tl):PI X tg l<|bM3 X.K tl:=by
 refineλz s W H R I h=>thn (Y z s W H _ I h) λv b⟨x,c,J,d,Z⟩=>?_;obtain⟨a,e,⟨f,f⟩,q⟩:=Z;subst e;cases d;refine AH (J.list f) λits d p d=>d6 p.isList ⟨b.heap.objs.size,[b.heap.objs.size],_,_,c,rfl,J.kept λb o e=>ak _ e,bc1 a _,⟨_,aW _ rfl,rfl,rfl⟩,λb a=>?_,q⟩;have e:=by simpa using a
 exact e▸J.fpOk (aj _) (J.hok.fresh<|aj _)
def ch8(Y:PE X l tl):PI X tg l<|cn1 X.K tl:=by
 refineλz s W H R I h=>thn (Y z s W H _ I h) λv b⟨x,c,J,d,Z⟩=>?_;obtain⟨a,e,⟨f,f⟩,q⟩:=Z;subst e;cases d;refine AH (J.tuple f) λits d p d=>kM (p) ⟨b.heap.objs.size,[b.heap.objs.size],_,_,c,rfl,J.kept λb o e=>ak _ e,aR9 a _,⟨_,aW _ rfl,rfl,rfl⟩,λb a=>?_,q⟩;have e:=by simpa using a
 exact e▸J.fpOk (aj _) (J.hok.fresh<|aj _)
def bx0{W:St}{E:yB}(I:Inv X z W H s)(Z:-(2^62)<=h)(Uu:h<2^62)(h3:-(2^62)<=hi)(Y:hi<2^62)(q:R (Itr h (hi-h).toNat) H):wpAny (model X.prog X.w) X.A (nG<|.ref s.heap.objs.size) (PIE X z W tg R) E {s with heap:=s.heap.push {cls:=.type "range",data:=.fields #[.int h t,.int hi u,.int 1 v]},toks:=tk}:=by
 refine kN (nT ..) (small_one Z Uu h3 Y) ?_;have J:Inv X z W H {s with heap:=s.heap.push {cls:=.type "range",data:=.fields #[.int h t,.int hi u,.int 1 v]},toks:=tk}:=I.kept λb o e=>ak _ e;refine⟨(s.heap.push {cls:=.type "range",data:=.fields #[.int h t,.int hi u,.int 1 v]}).objs.size,[(s.heap.push {cls:=.type "range",data:=.fields #[.int h t,.int hi u,.int 1 v]}).objs.size],_,_,H,rfl,J.kept (t':=tk) λb o e=>ak _ e,aV9 _ h (hi-h).toNat,?_,λb hb=>?_,q⟩
 .have e1:h+((0:Nat):Int)*1=h:=by simp
  have e2:(((hi-h).toNat:Nat):Int)-((0:Nat):Int)=ci h hi 1:=by rw[rangeSize_one];lia
  show jV _ _ (h+((0:Nat):Int)*1) ((((hi-h).toNat:Nat):Int)-((0:Nat):Int)) 1;rw[e1,e2];exact aW _ rfl
 .have e:b=(s.heap.push {cls:=.type "range",data:=.fields #[.int h t,.int hi u,.int 1 v]}).objs.size:=by simp_all
  exact e▸J.fpOk (aj _) (J.hok.fresh<|aj _)
def cj4(a:TA):TI:=λW H R=>a W H λa b=>∃j,a=[.int j]/\-(2^62)<=j/\j<2^62/\R (Itr 0 j.toNat) b
def aX7(Y:Gl X "range")(b:X.mg "range"=aT)(c:PA X [a] Uu)(d:autoParam (a9 [a] X.env=[(ce,eval a X.env)]) Zq4._auto_1):PI X tg (.Call (.Name "range" p) [a] [] pos) (cj4 Uu):=by refineλz s W H R I h=>Call_<|au4 I Y b boot_range<|d7 (thn (c pos z s W H _ I h) λa a⟨vs,H1,Z,a,J⟩=>?_) d rfl;obtain⟨j,e,J,b,q⟩:=J;subst e;cases a with|cons r a=>cases a;obtain⟨t,rfl⟩:=r;exact call_range_1<|bx0 Z (by lia) (by lia) J b<|by simp_all
def cs4(a:TI)(g:TG)(tb:TS):TS:=λD W H=>a W H λJ b=>∃a:Nat->Nat->St->Hp->Prop,(∃m,a 0 m W b)/\∀i m W H,a i m W H->(J.stop i H/\D.nx W H)\/(J.go i H/\∃N,(∀b H',N b H'->∃c,c<m/\a (i+1) c b H')/\∀x H',J.yld i H x H'->g x W H' λa b=>tb {D with nx:=N,ct:=N,bk:=D.nx} a b)
noncomputable def aE1(a:List Addr)(h:Heap):List<|Addr×Obj:=a.filterMap λb=>(h.get? b).map λo=>(b,o)
def js(a:b∈z)(e:h.get? b=al o):(b,o)∈aE1 z h:=cO.mpr ⟨b,a,by rw[e];rfl⟩
def aZ7(hp:p∈aE1 z h):p.1∈z/\h.get? p.1=al p.2:=by obtain⟨b,hb,e⟩:=cO.mp hp;cases q:h.get? b with|none=>rw[q]at e;cases e|some o=>rw[q]at e;have e':=ay e;subst e';exact⟨hb,q⟩
def Inv.pinned{W:St}(I:Inv X h W H s)(a:∀b∈J,FpOk X h H b)(b:∀b∈J,∃o,s.heap.get? b=al o/\∀v,o.data≠.cell v):Inv X (h++aE1 J s.heap) W H s:=I.pins_of λp b=>(aZ.mp b).elim (λz=>I.pin p<|aN _ z) λz=>AB (aZ7 z) λhb e=>AU (a p.1 hb) λf0 Z Y _=>by grind
def Inv.unpinned{W:St}(I:Inv X (h++pl) W H s):Inv X h W H s:=I.pins_of λp a=>I.pin p<|aN _<|bn _ a
def bC8(c:ka (model X.prog X.w) X.A X.env X.xe)(j:X.calm=bY)(hi:PI X tg iter wi)(q:PG X tg g)(a:PSs X body tb)(hs:autoParam (∀x,d8 iter X.env x=pure x) Zq3._auto_1):PS X (.For tg iter body [] pos) (cs4 wi g tb):=by
 refineλz s W H D I h=>wpAny_For (thn (hi z s W H _ I h) λv b b=>thn b λb b h2=>?_) hs;obtain⟨it,d,h,J,l,e,m,T,o,f,k,⟨p,r⟩,turn⟩:=h2;subst e;have g:∀{H'},(∀b∈d,H' b=aT)->∀b∈d,FpOk X z H' b:=λd b a=>⟨d b a,(f b a).2⟩;refine codeAny_forLoop_any (λn a=>∃i e H',Inv X z e H' a/\h i a.heap/\(∀b∈d,H' b=aT)/\k i n e H') ?_ p ⟨0,W,l,m,o,λb a=>(f b a).1,r⟩;rintro n l⟨i,b,f,m,o,p,e⟩;rcases turn i n b f e with⟨e,s⟩|⟨t,N,v,step⟩;.exact dg c<|thn (T.done X rfl rfl rfl j i z l b f X.xe m (g p) o e) λr u⟨e,r⟩=>e▸dR ⟨b,f,r,s⟩
 .refine dg c<|thn (T.item X rfl rfl rfl j i z l b f X.xe m (g p) o t) λr u⟨u,e,f⟩=>?_;subst e;refine dg c<|thn f λ_ e⟨x,f,I5,l,m,j,o⟩=>have p:=I5.pinned (g o) (T.obj _ _ j);dg c<|thn (q _ e b f x u _ p l<|step x f m) λ_ b⟨f,g,I6,l⟩=>dg c<|thn (a _ b f g _ I6 l) λf a c=>?_;have again:∀{W7}{Y},Inv X (z++aE1 d e.heap) W7 Y a->N W7 Y->∃m,m<n/\∃i e H',Inv X z e H' a/\h i a.heap/\(∀b∈d,H' b=aT)/\k i m e H':=λ{W7 Y}Z h=>by refine AD (v W7 Y h) λm' a d=>⟨m',a,i+1,W7,Y,Z.unpinned,T.keep _ _ _ j λb a o e=>(Z.pin (b,o)<|aN _<|aN _<|js a e).1,λb a=>?_,d⟩;exact AD (T.obj _ _ j b a) λo e d=>(Z.pin (b,o)<|aN _<|aN _<|js a e).2.1
  cases f with|next=>exact AE c λW7 Y Z h=>again Z h|cont=>exact AE c λW7 Y Z h=>again Z h|brk=>exact AE c λW7 Y Z c=>⟨W7,Y,Z.unpinned,c⟩|ret v=>exact AS c λx7 W7 Y Z a c=>⟨x7,W7,Y,Z.unpinned,a,c⟩
end
abbrev R2:=V->V->Hp->VK->Prop
def OpR(X:Cx)(f:Value->Value->Sem Value)(r:R2):Prop:=∀a s(W:St)H x y v u Q,Inv X a W H s->RelV x v->RelV y u->r x y H Q->wpAny (model X.prog X.w) X.A (f v u) (EP X a W Q) X.xe s
def ae4(X:Cx)(f:Value)(r:List V->Hp->VK->Prop):Prop:=∀a s(W:St)H b(c:yH)Q,Inv X a W H s->Vals b c->r b H Q->wpAny (model X.prog X.w) X.A (call f c) (EP X a W Q) X.xe s
def tOp(r:R2)(a tb:TE):TE:=λW H Q=>a W H λx a=>tb W a λy a=>r x y a Q
def rI(Cc:Int->Int->Prop)(g:Int->Int->V):R2:=λx y H Q=>∃i j,x=.int i/\y=.int j/\Cc i j/\Q (g i j) H
def rI0(g:Int->Int->V):R2:=λx y H Q=>∃i j,x=.int i/\y=.int j/\Q (g i j) H
section
variable{X:Cx}{a b c:Expr}{ta tb tc:TE}{pos:Pos}
def cr7(e:PE X a ta)(g:PE X b tb){W:St}{R:V->V->Hp->Prop}(I:Inv X z W H s)(h:ta W H λx J=>tb W J λy c=>R x y c){Q:yB}{f:Value->Value->Sem Value}(i:∀v u d x y c,Inv X z W c d->RelV x v->RelV y u->R x y c->wpAny (model X.prog X.w) X.A (f v u) Q X.xe d):wpAny (model X.prog X.w) X.A (eval a X.env) (λv a=>wpAny (model X.prog X.w) X.A (eval b X.env) (λu Z=>wpAny (model X.prog X.w) X.A (f v u) Q X.xe Z) X.xe a) X.xe s:=thn (e z s W H _ I h) λv a⟨x,J,b,e,c⟩=>thn (g z a W J _ b c) λu d⟨y,c,a,Y,b⟩=>i v u d x y c a e Y b
def cm8(c:OpR X (eW op) r)(d:PE X a ta)(e:PE X b tb):PE X (.BinOp a op b pos) (tOp r ta tb):=λz s W H Q I h=>wpAny_BinOp<|cr7 d e I h λv u a x y b d J e q=>c z a W b x y v u Q d J e q
def opI{g:Int->Int->Int}(a:∀(i j:Int)(t u:Tok)(s:af)(Q:yB)(E:yB),Cc i j->Q (.int (g i j) s.toks) {s with toks:=s.toks+1}->wpAny (model X.prog X.w) X.A (f (.int i t) (.int j u)) Q E s):OpR X f<|rI Cc λi j=>.int<|g i j:=by intro z s W H x y v u Q I J b h;obtain⟨i,j,rfl,rfl,c,q⟩:=h;obtain⟨t,rfl⟩:=J;obtain⟨d,rfl⟩:=b;exact a i j t d s _ _ c ⟨.int<|g i j,H,I.tok _,⟨_,rfl⟩,q⟩
def cm0{g:Int->Int->Int}(a:∀(i j:Int)(t u:Tok)(s:af)(Q:yB)(E:yB),Q (.int (g i j) s.toks) {s with toks:=s.toks+1}->wpAny (model X.prog X.w) X.A (f (.int i t) (.int j u)) Q E s):OpR X f<|rI0 λi j=>.int<|g i j:=by intro z s W H x y v u Q I J b h;obtain⟨i,j,rfl,rfl,q⟩:=h;obtain⟨t,rfl⟩:=J;obtain⟨c,rfl⟩:=b;exact a i j t c s _ _ ⟨.int<|g i j,H,I.tok _,⟨_,rfl⟩,q⟩
def cl2{g:Int->Int->Bool}(a:∀(i j:Int)(t u:Tok)(s:af)(Q:yB)(E:yB),Q (.bool<|g i j) s->wpAny (model X.prog X.w) X.A (f (.int i t) (.int j u)) Q E s):OpR X f<|rI0 λi j=>.T<|g i j:=by intro z s W H x y v u Q I J b h;obtain⟨i,j,rfl,rfl,q⟩:=h;obtain⟨t,rfl⟩:=J;obtain⟨c,rfl⟩:=b;exact a i j t c s _ _ ⟨.T<|g i j,H,I,rfl,q⟩
def cx0(i j:Int):Prop:=0<=j/\j<=1000000/\i.natAbs<2^64
def cl0(i j:Int):Prop:=(-(2^64)<i/\i<2^64)\/(-(2^64)<j/\j<2^64)
def cl0.ok(h:cl0 i j):IntMulOk i j:=by
 rcases h with⟨J,z⟩|⟨J,z⟩;.exact .of_left<|intBits_le_64 J z
 .exact .of_right<|intBits_le_64 J z
def bY6:OpR X (eW .Add) (rI0 λi j=>.int<|i+j):=cm0 λ_ _ _ _ _ _ _ q=>add_int q
def bV0:OpR X (eW .Sub) (rI0 λi j=>.int<|i-j):=cm0 λ_ _ _ _ _ _ _ q=>sub_int q
def cd2:OpR X (eW .Mod) (rI (λ_ j=>0<j) λi j=>.int<|i%j):=opI λi j _ _ _ _ _ a q=>mod_int' (by lia) (by rw[Int.fmod_eq_emod_of_nonneg i<|by lia];exact q)
def bZ7:OpR X (eW .Pow) (rI cx0 λi j=>.int<|i^j.toNat):=opI λ_ _ _ _ _ _ _ a q=>pow_int_small a.1 a.2.1 a.2.2 q
def cm2:OpR X (eW .BitOr) (rI0 λi j=>.int<|ig i j):=cm0 λ_ _ _ _ _ _ _ q=>or_int q
end
section
variable{X:Cx}{a b c:Expr}{ta tb tc:TE}{pos:Pos}
def cq8:OpR X (dZ .Lt) (rI0 λi j=>.T<|decide<|i<j):=cl2 λ_ _ _ _ _ _ _ q=>lt_int q
def cs3:OpR X (dZ .LtE) (rI0 λi j=>.T<|decide<|i<=j):=cl2 λ_ _ _ _ _ _ _ q=>le_int q
def cn3:OpR X (dZ .Gt) (rI0 λi j=>.T<|decide<|j<i):=cl2 λ_ _ _ _ _ _ _ q=>gt_int q
def cm5:OpR X (dZ .GtE) (rI0 λi j=>.T<|decide<|j<=i):=cl2 λ_ _ _ _ _ _ _ q=>ge_int q
def bM4(c:OpR X (dZ op) r)(d:PE X a ta)(e:PE X b tb)(Y:d3 op b=ce):PE X (.Compare a [op] [b] pos) (tOp r ta tb):=λz s W H Q I h=>wpAny_Compare1 (cr7 d e I h λv u a x y b d J e q=>c z a W b x y v u Q d J e q) Y
def ch7(t:TE):TT:=λW H Q=>t W H λx H'=>∃k,x=.T k/\Q k H'
def bP8(c:OpR X (dZ op) r)(d:PE X a ta)(e:PE X b tb)(f:d3 op b=ce):PT X (.Compare a [op] [b] pos) (ch7<|tOp r ta tb):=by refineλJ s W H Q I h=>i3 (thn (d J s W H _ I h) λv a⟨x,b,d,g,h⟩=>thn (e J a W b _ d h) λu a⟨y,b,d,Y,e⟩=>thn (c J a W b x y v u _ d g Y e) λc a⟨z,a,b,Z,k,e,c⟩=>?_) f;subst e;exact Z▸cL ⟨a,b,c⟩
def au0:(a7)<2^63:=by rw[f8];decide
def aU2:OpR X (eW .Add) (λx y H Q=>∃i j,x=.str i/\y=.str j/\i.length+j.length<=a7/\Q (.str<|i++j) H):=by intro z s W H x y v u Q I J a h;obtain⟨i,j,rfl,rfl,b,q⟩:=h;obtain⟨t,rfl⟩:=J;obtain⟨c,rfl⟩:=a;exact add_str (λc tk=>⟨.str<|i++j,H,I.tok _,⟨_,rfl⟩,q⟩) b
def jM{a:yH}(r:Vals [x] a):∃u,a=[u]/\RelV x u:=by cases r with|cons a b=>cases b;exact⟨_,rfl,a⟩
def bm1{a:yH}(r:Vals [x,y] a):∃u h,a=[u,h]/\RelV x u/\RelV y h:=by cases r with|cons a b=>cases b with|cons b c=>cases c;exact⟨_,_,rfl,a,b⟩
def bv7:ae4 X (.builtin "abs") (λJ H Q=>∃i,J=[.int i]/\Q (.int<|if i<0 then-i else i) H):=by intro z s W H J a Q I r h;obtain⟨i,rfl,q⟩:=h;obtain⟨u,rfl,t,rfl⟩:=jM r;exact call_abs_int λu tk=>⟨.int<|if i<0 then-i else i,H,I.tok _,⟨_,rfl⟩,q⟩
def bi9(a:X.calm=bY):ae4 X (.builtin "max") (λJ H Q=>∃i j,J=[.int i,.int j]/\Q (.int<|if j>i then j else i) H):=by
 intro z s W H J b Q I r h;obtain⟨i,j,rfl,q⟩:=h;obtain⟨u,b,rfl,⟨t,rfl⟩,⟨b,rfl⟩⟩:=bm1 r;refine max_two_ints (I.ok.hd a) λh' tk k=>⟨_,H,I.kept k,?_,q⟩;by_cases a:j>i;.rw[dO a,dO a];exact⟨_,rfl⟩
 .rw[ef a,ef a];exact⟨_,rfl⟩
def bk9(a:X.calm=bY):ae4 X (.builtin "min") (λJ H Q=>∃i j,J=[.int i,.int j]/\Q (.int<|if j<i then j else i) H):=by
 intro z s W H J b Q I r h;obtain⟨i,j,rfl,q⟩:=h;obtain⟨u,b,rfl,⟨t,rfl⟩,⟨b,rfl⟩⟩:=bm1 r;refine min_two_ints (I.ok.hd a) λh' tk k=>⟨_,H,I.kept k,?_,q⟩;by_cases a:j<i;.rw[dO a,dO a];exact⟨_,rfl⟩
 .rw[ef a,ef a];exact⟨_,rfl⟩
def bg2:ae4 X (.type "int") (λz H Q=>(∃i,z=[.int i]/\Q (.int i) H)\/∃k,z=[.T k]/\Q (.int<|if k then 1 else 0) H):=by
 intro J s W H z a Q I r h;rcases h with⟨i,rfl,q⟩|⟨k,rfl,q⟩;.obtain⟨u,rfl,t,rfl⟩:=jM r;exact call_int_int ⟨.int i,H,I,⟨_,rfl⟩,q⟩
 .obtain⟨u,rfl,r1⟩:=jM r;exact r1▸call_int_bool ⟨.int<|if k then 1 else 0,H,I.tok _,⟨_,rfl⟩,q⟩
end
structure ObjM(h:Heap)(x dx Cc:Addr)(mA:yD):Prop where
 obj:h.get? x=al (cR Cc dx)ns:h.Ns1 dx mA
 ne:dx≠x
set_option tactic.hygienic true in def bc0{h:Heap}{b:yD}(n:h.Ns1 Y b):∃c,h.get? Y=al c/\∀a,gJ a c=al (b a):=by
 refine AK n λo b a a c d AA=>AB AA λ_ f=>⟨o,a,λa=>?_⟩;have e:=f a;unfold nsFind findBy at e;rw[<-Array.find?_toList]at e;unfold gJ;rw[c];dsimp only;split;.simp_all
 .rename_i q;rw[q]at e;have a:b.toList.any (·.refKey)=false:=by rw[List.any_eq_false];refineλy a=>Aa (d y<|Array.mem_toList_iff.mp a) λz t J=>?_;simp[DictEntry.refKey,J]
  simp_all
def ObjM.look(I:ObjM h x J Cc z):∃b,PySem.W.InstAt h x (cR Cc J) Cc (al b)/\∀a,gJ a b=al (z a):=let⟨b,ho,hl⟩:=bc0 I.ns;⟨b,⟨I.obj,rfl,rfl,ho⟩,hl⟩
section
variable{prog:aH}{w:World}{A:aU}{E:yB}{s:af}{K:ac}{x dx Cc f:Addr}{mA:yD}{name:Str}{v:Value}
def bE7{Q:yB}(X:K.In s.heap)(I:ObjM s.heap x dx Cc mA)(Z:eJ K Cc name=bY)(a:fx K Cc=bY)(b:bu K (.ref Cc) name=al aT)(c:mA name=al v)(d:lL v=bY)(h:Q v {s with toks:=s.toks+1}):wpAny (model prog w) A (getAttr (.ref x) name z) Q E s:=AD I.look λod J Y=>PySem.W.get_value X J (gz Z).1 (PySem.W.findObj_own a b rfl<|by rw[Y,c]) d h
def br9(X:K.In s.heap)(I:ObjM s.heap x dx Cc mA)(z:eJ K Cc name=bY)(a:bu K (.ref Cc) name=al (al<|.ref f))(b:iG K (.ref f)=bY)(c:mA name=aT)(h:Q (.ref f,[.ref x]) s):wpAny (model prog w) A (ke (.ref x) name pl) Q E s:=AD I.look λod J Y=>PySem.W.method_fn X J (gz z).1 (gz z).2 a (beq_iff_eq.mp b) (by show(gJ name od).map (·.isSome)=al ce;simp_all) h
def bE6{a:yI}(X:K.In s.heap)(I:ObjM s.heap x dx Cc mA)(b:bu K (.ref Cc) "__setattr__"=al (al<|.builtin "object.__setattr__"))(c:gY K Cc=bY)(d:iT K Cc name=al aT)(e:fx K Cc=bY)(f:k9 mA a)(g:a.length<=a7)(h:∀h',ObjM h' x dx Cc (λy=>if y=name then al v else mA y)->eG dx s.heap h'->Q () {s with heap:=h',toks:=s.toks+2}):wpAny (model prog w) A (setAttr (.ref x) name v) Q E s:=by refine AD I.look λod J a=>PySem.W.set_plain X J b<|PySem.W.osa_open X J c d λb=>AD (PySem.W.any_some e) λcd a Y=>have b:=I.obj;ai<|aE<|ai<|ai<|wpAny_loadPart b<|ai<|nX (PySem.W.looks_clsIn X a) ?_;rw[Y];refine aE<|ai<|aE<|ai ?_;refine wpAny_nsSet1 I.ns λh' z a=>AS (z.count<|PySem.Within.cons name v f) λoD b b Z b c=>ai<|wpAny_lookBehind Z (b▸pastItsLine_dict (au c<|by simp_all)) ?_;exact aE<|h _ ⟨(a.2 _<|bH I.ne).trans I.obj,z,I.ne⟩ a
def bq9{vs:yH}(X:K.In s.heap)(a:dS K Cc=bY)(hi:bu K (.ref Cc) "__init__"=al (al<|.ref f))(J:PySem.W.typeIn K (.ref f)=al (.type "function"))(h:fy (model prog w) (A.under<|.builtin "type.__call__" ⟨.ref Cc::vs,z⟩) (.call (.ref f) ⟨.ref (s.heap.objs.size+1)::vs,z⟩) (PySem.W.InitBack (s.heap.objs.size+1) R)
   {s with heap:=(s.heap.push cF).push<|cR Cc s.heap.objs.size}):fy (model prog w) A (.call (.ref Cc) ⟨vs,z⟩) R s:=by obtain⟨b,g,d,t,b⟩:=s;exact PySem.W.make_core (PySem.W.makes_of X a) (eB X hi) (λa=>PySem.W.bind_fn X a J) (.inl rfl) h
end
noncomputable def an6(f:Str)(v:V):List (Str×V)->List (Str×V)|[]=>[(f,v)]|(g,x)::r=>if g=f then(g,v)::r else(g,x)::an6 f v r
theorem aq5 f g v:∀fs:List<|Str×V,(an6 f v fs).lookup g=if g=f then al v else fs.lookup g
 |[]=>by
  show dJ g [(f,v)]=_;by_cases h:g=f;.have hb:=beq_iff_eq.mpr h;simp only[dJ,hb,dO h]
  .have hb:=beq_eq_false_iff_ne.mpr h;simp only[dJ,hb,ef h]|(k,x)::r=>by
  have z:=aq5 f g v r;rw[show an6 f v ((k,x)::r)=(if k=f then(k,v)::r else(k,x)::an6 f v r)from rfl];by_cases hk:k=f
  .rw[dO hk];by_cases h:g=k;.have hb:=beq_iff_eq.mpr h;simp only[dJ,hb,dO<|h.trans hk]
   .have hb:=beq_eq_false_iff_ne.mpr h;simp only[dJ,hb,ef<|λe:g=f=>h<|e.trans hk.symm]
  .rw[ef hk];by_cases h:g=k;.have hb:=beq_iff_eq.mpr h;simp only[dJ,hb,ef<|λe:g=f=>hk<|h.symm.trans e]
   .have hb:=beq_eq_false_iff_ne.mpr h;simp only[dJ,hb];exact z
theorem an8 f v:∀fs:List<|Str×V,f∈(an6 f v fs).map (·.1)/\∀g,g∈fs.map (·.1)->g∈(an6 f v fs).map (·.1)
 |[]=>⟨by simp[an6],λg h=>by simp at h⟩|(k,x)::r=>by
  obtain⟨J,z⟩:=an8 f v r;rw[show an6 f v ((k,x)::r)=(if k=f then(k,v)::r else(k,x)::an6 f v r)from rfl];by_cases hk:k=f;.rw[dO hk];subst hk;exact⟨by simp,λg h=>by simpa using h⟩
  .rw[ef hk];refine⟨?_,λg h=>?_⟩;.rw[aQ];exact ah _ J
   .rw[aQ]at h⊢;rcases aD.mp h with e|e;.exact aD.mpr<|.inl e
    .exact ah _<|z g e
theorem ao4 f v:∀fs:List<|Str×V,(an6 f v fs).length<=fs.length+1|[]=>by simp[an6]|(k,x)::r=>by have h:=ao4 f v r;rw[show an6 f v ((k,x)::r)=(if k=f then(k,v)::r else(k,x)::an6 f v r)from rfl];grind
def aA7.some_of(r:aA7 (al v) o):∃u,o=al u/\RelV v u:=by cases o with|none=>exact(r).elim|some u=>exact⟨u,rfl,r⟩
def aA7.none_of(r:aA7 aT o):o=none:=by cases o with|none=>rfl|some u=>exact(r).elim
def aX3(r:RelV v u):lL u=true:=by cases v with|N=>cases(r);rfl|T b=>cases(r);rfl|int i=>obtain⟨t,e⟩:=(r);cases e;rfl|str x=>obtain⟨t,e⟩:=(r);cases e;rfl|byt b=>obtain⟨t,e⟩:=(r);cases e;rfl|flt b=>obtain⟨t,e⟩:=(r);cases e;rfl|ref a=>cases(r);rfl|ty n=>cases(r);rfl
section
variable{P:aH}{w:World}{H H':Hp}{h h':Heap}{a Cc dx:Addr}{fs fs':List<|Str×V}
def az3(b:HOk P w H h)(e:H a=al (.ins Cc dx fs)):∃J,ObjM h a dx Cc J/\(∀f,aA7 (fs.lookup f) (J f))/\k9 J (fs.map (·.1))/\fs.length<=1000/\H dx=al (.own a):=AW (b a _ e) λd z ne a AA=>AH AA λJ n r q=>⟨J,⟨a,n,ne⟩,r,q,z,d⟩
end
structure Cls(K:ac)(Cc:Addr):Prop where
 pg:eJ K Cc Str.empty=bY
 hd:fx K Cc=bY
 po:gY K Cc=bY
 sa:bu K (.ref Cc) "__setattr__"=al (al<|.builtin "object.__setattr__")
def Cls.get{K}(c:Cls K Cc)f:eJ K Cc f=true:=c.pg
def NoAttr(K:ac)(Cc:Addr)(f:Str):Prop:=bu K (.ref Cc) f=al aT
def NoAttr.taker{K}(n:NoAttr K Cc f):iT K Cc f=al none:=by unfold iT;rw[n];rfl
structure Meth(K:ac)(Cc:Addr)(m:Str)(f:Addr):Prop where
 at_:bu K (.ref Cc) m=al (al<|.ref f)fn:iG K (.ref f)=bY
 kp:bR K (.ref f)=bY
section
variable{X:Cx}{pins:yA}{W:St}{H:Hp}{s:af}{a Cc dx:Addr}{fs:List<|Str×V}{f:Str}{v:V}{A:aU}{E:yB}
def aV8{Q:yB}(I:Inv X pins W H s)(e:H a=al (.ins Cc dx fs))(c:Cls X.K Cc)(n:NoAttr X.K Cc f)(l:fs.lookup f=al v)(h:∀u d,Inv X pins W H d->RelV v u->Q u d):wpAny (model X.prog X.w) A (getAttr (.ref a) f b) Q E s:=AQ (az3 I.hok e) λJ O r _ _ _=>AD (aA7.some_of (v:=v) (o:=J f)<|l▸r f) λu a z=>bE7 I.kIn O (c.get f) c.hd n a (aX3 z) (h u _ (I.tok _) z)
def av5(I:Inv X pins W H s)(e:H a=al (.ins Cc dx fs))(c:Cls X.K Cc)(k:Meth X.K Cc m g)(l:fs.lookup m=aT)(h:Q (.ref g,[.ref a]) s):wpAny (model X.prog X.w) A (ke (.ref a) m pl) Q E s:=AQ (az3 I.hok e) λz O r _ _ _=>have a:=aA7.none_of<|l▸r m;br9 I.kIn O (c.get m) k.at_ k.fn a h
def aR4(I:Inv X pins W H s)(e:H a=al (.ins Cc dx fs))(c:Cls X.K Cc)(n:NoAttr X.K Cc f)(b:fs.length<1000)(d:RelV y u)(h:∀b,Inv X pins W (upd H a<|.ins Cc dx<|an6 f y fs) b->Q () b):wpAny (model X.prog X.w) A (setAttr (.ref a) f u) Q E s:=by
 refine AQ (az3 I.hok e) λUu O r Y _ a=>?_;have b:(fs.map (·.1)).length<=a7:=by rw[av,f8];lia
 refine bE6 I.kIn O c.sa c.po n.taker c.hd Y b λh' J c=>h _ ?_;have g:∃o,h'.get? dx=al o:=let⟨o,_,_,e',_⟩:=J.ns;⟨o,e'⟩;refine I.write (e▸True.intro) (.inr a) (λb q a z=>(c.2 b a).trans z) g ⟨by rw[zb O.ne];lia,?_,O.ne,J.obj,_,J.ns,λg=>?_,λg Z=>?_⟩;.have:=ao4 f y fs;lia
 .rw[aq5];by_cases q:g=f;.exact dO q▸dO q▸d
  simp_all
 .by_cases q:g=f;.exact q▸(an8 f y fs).1
  .refine(an8 f y fs).2 g<|Y g λz=>Z ?_;lia
def Inv.made(I:Inv X pins W H s):Inv X pins W (upd (upd H s.heap.objs.size<|.own<|s.heap.objs.size+1) (s.heap.objs.size+1) (.ins Cc s.heap.objs.size []))
  {s with heap:=(s.heap.push cF).push<|cR Cc s.heap.objs.size}:=by
 have a:(s.heap.push cF).get? s.heap.objs.size=al cF:=aW s.heap rfl;have c:=by have:=aW (s.heap.push cF) (o:=cR Cc s.heap.objs.size) rfl;rwa[cx]at this
 have h:(s.heap.push cF).Ns s.heap.objs.size<|λ_=>aT:=⟨cF,#[],_,a,rfl,(λe z=>ij z<|by simp),λ_=>rfl⟩;have J:=I.laid (o:=.own<|s.heap.objs.size+1) (t':=s.toks) (λb u q=>ak _ q) (aj _) ⟨_,a⟩;refine J.laid (λb u q=>ak _ q) (nI<|cx _ _) ?_;have ne:s.heap.objs.size≠s.heap.objs.size+1:=aI<|dE _;refine⟨by rw[zb ne,zh],cy _,ne,c,λ_=>aT,(Heap.Ns1.of_empty h).at λo q=>ak _ q,λ_=>True.intro,λy a=>ij rfl a⟩
def bN4{Q:yB}(a:eX e f env (eval e env)=eval e env)(h:wpAny (model prog w) A (eval e env) (λo z=>wpAny (model prog w) A (getAttr o f bY) Q E z) E s):wpAny (model prog w) A (eval (.Attribute e f pos) env) Q E s:=Attribute_any_ h<|by rw[arm_eval_Attribute,a]
end
def cx4(K:ac)(a:TE)(f:Str):TE:=λW H Q=>a W H λx c=>∃a b d fs v,x=.ref a/\c a=al (.ins b d fs)/\Cls K b/\NoAttr K b f/\fs.lookup f=al v/\Q v c
def cx3(K:ac)(a b:TE)(f:Str):TS:=λD W H=>b W H λy b=>a W b λx c=>∃a b d fs,x=.ref a/\c a=al (.ins b d fs)/\Cls K b/\NoAttr K b f/\fs.length<1000/\D.nx W (upd c a<|.ins b d<|an6 f y fs)
section
variable{X:Cx}{o e value:Expr}{f:Str}{pos pos' tpos:Pos}{ta tv:TE}
def ci6(Z:PE X e ta)(a:eX e f X.env (eval e X.env)=eval e X.env):PE X (.Attribute e f pos) (cx4 X.K ta f):=by refineλz s W H Q I h=>bN4 a<|thn (Z z s W H _ I h) λu a⟨x,J,b,d,a,Cc,dx,fs,v,ex,Y,c,n,l,q⟩=>?_;subst ex;obtain rfl:u=Value.ref a:=d;exact aV8 b Y c n l λa a a b=>⟨v,J,a,b,q⟩
def cc4(a:PE X o ta)(b:PE X value tv)(d:fR value (al<|.Attribute o f pos') pos.line X.env=pure ce):PS X (.Assign [.Attribute o f pos'] value pos) (cx3 X.K ta tv f):=by refineλz s W H D I h=>plainObj_wpAny_Assign_Attribute (thn (b z s W H _ I h) λu b⟨y,J,Z,e,q⟩=>thn (a z b W J _ Z q) λb a⟨x,H2,f,g,a,Cc,dx,fs,ex,Y,c,n,l,h⟩=>?_) d;subst ex;obtain rfl:b=Value.ref a:=g;exact aR4 f Y c n l e λa a=>⟨W,_,a,h⟩
end
section
variable{X:Cx}{pins:yA}{W:St}{H:Hp}{s:af}{A:aU}{E:yB}{Q:yB}{c:Value}{b:Bool}
inductive TyOf(K:ac)(H:Hp):V->Value->Prop where|N:TyOf K H .N<|.type "NoneType"|T(x:Bool):TyOf K H (.T x) (.type "bool")|int(i:Int):TyOf K H (.int i) (.type "int")|str(x:Str):TyOf K H (.str x) (.type "str")|flt(x:UInt64):TyOf K H (.flt x) (.type "float")|J{a:Addr}{xs:List V}(e:H a=al (.J xs)):TyOf K H (.ref a) (.type "list")|frz{a:Addr}{o:Obj}{xs:List V}(e:H a=al (.frz o<|.J xs)):TyOf K H (.ref a) (.type "list")|tp{a:Addr}{xs:List V}(e:H a=al (.tp xs)):TyOf K H (.ref a) (.type "tuple")|dK{a:Addr}{kvs:List<|Key×V}(e:H a=al (.dK kvs)):TyOf K H (.ref a) (.type "dict")|dT{a:Addr}{kvs:List<|List NI×V}(e:H a=al (.dT kvs)):TyOf K H (.ref a) (.type "dict")|ins{a Cc dx:Addr}{fs:List<|Str×V}(e:H a=al (.ins Cc dx fs))(cl:Cls K Cc)(ha:bu K (.ref Cc) "__class__"=al (al<|.builtin "object.__class__"))(hn:fA K (.builtin "object.__class__") "__get__"=al (al<|.builtin "getset_descriptor.__get__"))(htk:gk K (.builtin "object.__class__")=al bY)(hm:ii K Cc (.type "object")=al bY):TyOf K H (.ref a) (.ref Cc)
def jn(I:Inv X pins W H s)(d:RelV x u)(f:TyOf X.K H x t)(e:bz X.K t c=al b)(h:∀tk,Q (.bool b) {s with toks:=tk}):wpAny (model X.prog X.w) A (call (.builtin "isinstance") [u,c]) Q E s:=by cases f with|N=>cases(show u=Value.none from d);exact bW PySem.W.kitx_none I.kIn True.intro e (λz=>nomatch z) h|T y=>cases(show u=Value.bool y from d);exact bW PySem.W.kitx_bool I.kIn True.intro e (λz=>nomatch z) h|int i=>exact AF (show∃t,u=Value.int i t from d) λt q=>q▸bW PySem.W.kitx_int I.kIn True.intro e (λz=>nomatch z) h|str y=>exact AF (show∃t,u=Value.str y t from d) λt q=>q▸bW PySem.W.kitx_str I.kIn True.intro e (λz=>nomatch z) h|flt y=>exact AF (show∃t,u=Value.float y t from d) λt q=>q▸bW PySem.W.kitx_float I.kIn True.intro e (λz=>nomatch z) h|@J a Z b=>cases(show u=Value.ref a from d);exact AY ((show ad9 X.prog X.w H s.heap a (.J Z)from I.hok a _ b)) λ_ _ n _ Y=>bW ln I.kIn ⟨_,Y,rfl⟩ e (λz=>nomatch z) h|@frz a c Z b=>cases(show u=Value.ref a from d);exact AI ((show ad9 X.prog X.w H s.heap a<|.frz c (.J Z)from I.hok a _ b)) λ_ _ AA=>AE AA λ_ n _ Y=>bW ln I.kIn ⟨_,Y,rfl⟩ e (λz=>nomatch z) h|@tp a Z b=>cases(show u=Value.ref a from d);exact AO ((show ad9 X.prog X.w H s.heap a (.tp Z)from I.hok a _ b)) λ_ _ _ p=>AH p λo Y h2 _=>bW kP I.kIn ⟨o,Y,h2⟩ e (λz=>nomatch z) h|@dK a c b=>cases(show u=Value.ref a from d);exact AM ((show ad9 X.prog X.w H s.heap a (.dK c)from I.hok a _ b)) λ_ _ a _ p=>AS p λo f g Y h2 _=>bW lp I.kIn ⟨o,Y,h2.1⟩ e (λz=>nomatch z) h|@dT a c b=>cases(show u=Value.ref a from d);exact AM ((show ad9 X.prog X.w H s.heap a (.dT c)from I.hok a _ b)) λ_ _ Z _ AA=>AS AA λo f g Y h2 _=>bW lp I.kIn ⟨o,Y,h2.1⟩ e (λz=>nomatch z) h|@ins a b b fs b cl f g c i=>cases(show u=Value.ref a from d);exact AD (az3 I.hok b) λmA O _=>AD O.look λod J _=>bW (PySem.W.kitx_own (cl.get _) cl.hd f g c i) I.kIn J e (λz=>nomatch z) h
end
structure Room(k:Nat)(A:aU):Prop where
 hd:A.handled=aT
 dp:A.depth+3*k+5<recursionLimit
 un:A.units+16*k+200<cLine
def Room.mono(r:Room k A)(h:j<=k):Room j A:=⟨r.hd,by have:=r.dp;lia,by have:=r.un;lia⟩
theorem Room.deeper(r:Room (k+1) A)env:Room k<|A.deeper env:=⟨r.hd,by have:=r.dp;show A.depth+1+3*k+5<_;lia,by have:=r.un;show A.units+3+16*k+200<_;lia⟩
theorem Room.in1(r:Room (k+1) A):Room k A.in1:=⟨r.hd,by have:=r.dp;lia,by have:=r.un;lia⟩
def aV7{A:aU}{a:yH}:(A.under<|.builtin "type.__call__" ⟨.ref Cc::a,h⟩).depth=A.depth+1:=by first|rfl|simp[guardIds]
def aS4{A:aU}{a:yH}:(A.under<|.builtin "type.__call__" ⟨.ref Cc::a,h⟩).units=A.units+1:=by first|rfl|simp[lr]
def Room.make(r:Room (k+1) A)Cc(us:yH)h:Room k<|A.under<|.builtin "type.__call__" ⟨.ref Cc::us,h⟩:=⟨r.hd,by have:=r.dp;rw[aV7];lia,by have:=r.un;rw[aS4];lia⟩
theorem Room.depth(r:Room k A):A.depth<recursionLimit:=by have:=r.dp;lia
theorem Room.units(r:Room k A):A.units+64<cLine:=by have:=r.un;lia
def Room.units0(r:Room k A):A.units<cLine:=by have:=r.un;lia
def aH9:TA:=λ_ H Q=>Q [] H
def ak6(a:TE)(tr:TA):TA:=λW H Q=>a W H λx a=>tr W a λa b=>Q (x::a) b
section
variable{X:Cx}{e:Expr}{es:yL}{te:TE}{t:TA}{pos:Pos}
def af0:PA X [] aH9:=λ_ _ _ _ H Q I h=>Calls.spliced_nil ⟨[],H,I,.nil,h⟩
def zy(b:PE X e te)(c:PA X es t)(d:autoParam (a9 (e::es) X.env=(ce,eval e X.env)::a9 es X.env) Zq4._auto_1):PA X (e::es) (ak6 te t):=by intro a z s W H Q I h;rw[d];exact Calls.spliced_cons<|thn (b z s W H _ I h) λu b⟨x,J,Z,d,Y⟩=>thn (c a z b W J _ Z Y) λa a⟨a,b,c,e,f⟩=>⟨x::a,b,c,.cons d e,f⟩
def cv9(t:TA):TE:=λW H Q=>t W H λa b=>a.length<=a7/\∀p,b p=aT->Q (.ref p) (upd b p<|.tp a)
def cx9(t:TA):TE:=λW H Q=>t W H λa b=>a.length<=a7/\∀p,b p=aT->Q (.ref p) (upd b p<|.J a)
def bz2(h:PA X es t):PE X (.Tuple es x1 pos) (cv9 t):=by refineλJ s W H Q I a=>wpAny_Tuple_spliced<|thn (h pos J s W H _ I a) λc a⟨b,d,Y,r,z,q⟩=>⟨r.length▸z,have Z:=Y.hok.fresh<|aj _;⟨.ref a.heap.objs.size,upd d a.heap.objs.size<|.tp b,Y.laid (λb u e=>ak _ e) (aj _) ?_,rfl,q _ Z⟩⟩;exact⟨z,c,r,⟨_,aW _ rfl,rfl,_,rfl⟩⟩
def by7(h:PA X es t):PE X (.List es pos) (cx9 t):=by refineλJ s W H Q I a=>wpAny_List_spliced<|thn (h pos J s W H _ I a) λc a⟨b,d,Y,r,z,q⟩=>⟨r.length▸z,have Z:=Y.hok.fresh<|aj _;⟨.ref a.heap.objs.size,upd d a.heap.objs.size<|.J b,Y.laid (λb u e=>ak _ e) (aj _) ?_,rfl,q _ Z⟩⟩;exact⟨z,c,0,r,aW _ rfl⟩
end
abbrev Sp:=List V->Hp->VK->XK->Prop
abbrev CXT:=List Env->Hp->af->XK->Value->af->Prop
structure Env0(P:aH)(w:World)(K:ac)(mg:yD)(base:Heap)(A:aU)(outer:List Env)(s:af)(H:Hp):Prop where
 frames:A.frames=al outer
 mod:Mod K mg base
 bs:∀b o,base.get? b=al o->s.heap.get? b=al o/\H b=aT
 bsz:base.objs.size<=s.heap.objs.size
 funs:s.heap.FunFrames base outer
 frf:∀b∈frs outer,H b=aT
 hok:HOk P w H s.heap
 bare:gB s.gens
def CE(a:List Env)(P:aH)(w:World)(H:Hp)(s:af)(Q:VK)(u:Value)(b:af):Prop:=∃v H',b.os=s.os/\gB b.gens/\Un (frs a) [] H H' s.heap b.heap/\HOk P w H' b.heap/\RelV v u/\Q v H'
def CR(c:CXT)(a:List Env)(P:aH)(w:World)(H:Hp)(s:af)(Q:VK)(E:XK)(r:kO)(b:af):Prop:=match r with|.ok<|.ret u=>CE a P w H s Q u b|.ok _=>False|.error e=>c a H s E e b
structure FnOk(P:aH)(w:World)(K:ac)(mg:yD)(base:Heap)(CX:CXT)(k:Nat)(f:Addr)(fd:bS)(ps:yI)(sp:Sp):Prop where
 len:∀vs H Q E,sp vs H Q E->vs.length=ps.length
 run:∀(A:aU)(outer:List Env)(s:af)(H:Hp)(args:Args)(us:yH)(vs:List V)(Q:VK)(E:XK),Room k A->Env0 P w K mg base A outer s H->mD s fd args (ps.zip us)->Vals vs us->sp vs H Q E->fy (model P w) A (.call (.ref f) args) (CR CX outer P w H s Q E) s
def FnOk.imp{K}(F:FnOk P w K mg base Uu k f Y ps sp)(h:∀a H Q E,J a H Q E->sp a H Q E):FnOk P w K mg base Uu k f Y ps J:=⟨λa H Q E q=>F.len a H Q E<|h _ _ _ _ q,λA z s H b c a Q E d Z e f g=>F.run A z s H b c a Q E d Z e f<|h _ _ _ _ g⟩
def Env0.make{K:ac}(e:Env0 P w K mg base A h s H)Cc(us:yH)z:Env0 P w K mg base (A.under<|.builtin "type.__call__" ⟨.ref Cc::us,z⟩) h s H:=⟨by first|exact e.frames|(simpa[lq,Code.envs,lr,pushEnvs]using e.frames),e.mod,e.bs,e.bsz,e.funs,e.frf,e.hok,e.bare⟩
section
variable{X:Cx}{pins:yA}{W:St}{H:Hp}{s s':af}
def Inv.env0(I:Inv X pins W H s):Env0 X.prog X.w X.K X.mg X.base X.A X.stack s H:=⟨I.ok.frames,I.ok.mod,I.bs,au I.ok.bsz I.sz,I.stack,I.stkFree,I.hok,I.bare⟩
def Inv.after(I:Inv X pins W H s)(h:CE X.stack X.prog X.w H s Q u s'):EP X pins W Q u s':=by refine AR h λv H' b a un AA=>AI AA λhok r q=>?_;obtain⟨c,g,d,t,J⟩:=s';obtain rfl:J=s.os:=b;exact⟨v,H',I.call un hok a<|λb z=>ij z<|by simp,r,q⟩
end
def aR1(sp:Sp)(a:List V)(E:XK)(t:TA):TE:=λW H Q=>t W H λb c=>sp (b++a) c Q E
def bn6(Cc:Addr)(m:Str)(sp:Sp)(b:List V)(E:XK)(a:TE)(t:TA):TE:=λW H Q=>a W H λx c=>∃a d fs,x=.ref a/\c a=al (.ins Cc d fs)/\fs.lookup m=aT/\t W c λa c=>sp (x::(a++b)) c Q E
def bl5(Cc:Addr)(sp:Sp)(b:List V)(E:XK)(t:TA):TE:=λW H Q=>t W H λd c=>∀x a,c x=aT->c a=aT->a≠x->sp (.ref x::(d++b)) (upd (upd c a<|.own x) x<|.ins Cc a []) (λv a=>v=.N/\Q (.ref x) a) E
def Binds(K:ac)(c:bS)(ps:yI)(b:yH):Prop:=∀s a,K.In s.heap->(a++b).length=ps.length->mD s c ⟨a,[]⟩ (ps.zip<|a++b)
def Binds.all{K}(h:∀a:List Value,a.length=ps.length->eY z ⟨a,[]⟩=pure (ps.zip a)):Binds K z ps []:=λs a _ J=>by rw[aY]at J⊢;exact .of_eq<|h a J
def qj(c:CXT)(X:Cx)(E:XK):Prop:=∀a(W:St)H s e b,Inv X a W H s->c X.stack H s E e b->X.xe e b
section
variable{X:Cx}{CX:CXT}{k:Nat}{f Cc:Addr}{fd:bS}{ps:yI}{sp:Sp}{dvs:List V}{ds:yH}{E:XK}{x m:Str}{p pos apos:Pos}{e o:Expr}{es:yL}{ta:TE}{t:TA}
def aN9{W:St}{a:yH}(F:FnOk X.prog X.w X.K X.mg X.base CX k f fd ps sp)(b:Room k X.A)(c:Binds X.K fd ps ds)(d:Vals dvs ds)(g:qj CX X E)(I:Inv X z W H s)(r:Vals vs a)(h:sp (vs++dvs) H Q E):wpAny (model X.prog X.w) X.A (call (.ref f) a) (EP X z W Q) X.xe s:=by have J:Vals (vs++dvs) (a++ds):=r.append d;have d:(a++ds).length=ps.length:=J.length▸F.len _ _ _ _ h;refine gM<|fB (F.run X.A X.stack s H ⟨a,[]⟩ (a++ds) (vs++dvs) Q E b I.env0 (c s a I.kIn d) J h) λr b a=>?_;cases r with|error e=>exact g z W H s e b I a|ok b=>cases b with|ret u=>exact I.after a|next=>exact bo a|brk=>exact bo a|cont=>exact bo a
def aX6(F:FnOk X.prog X.w X.K X.mg X.base CX k f fd ps sp)(a:Room k X.A)(b:Gl X x)(c:X.mg x=al (.ref f))(d:bR X.K (.ref f)=bY)(f:Binds X.K fd ps ds)(g:Vals dvs ds)(i:qj CX X E)(j:PA X (e::es) t)(J:autoParam ((x==("__debug__":Str))=ce) Zq1._auto_1)(Z:autoParam (a9 (e::es) X.env=(ce,eval e X.env)::a9 es X.env) Zq4._auto_1)(k:autoParam ((cT pos<|a9 es X.env).any (·.1)=ce) Zq4._auto_1):PE X (.Call (.Name x p) (e::es) [] pos) (aR1 sp dvs E t):=by refineλz s W H Q I h=>cz<|ak0 I b c ?_ J;refine fm I.ok.mod.kin d (thn (j pos z s W H _ I h) λb b⟨b,H1,Y,r,q⟩=>⟨Y.kIn,?_⟩) Z k;exact aN9 F a f g i Y r q
def bo2(F:FnOk X.prog X.w X.K X.mg X.base CX k f fd ps sp)(a:Room k X.A)(b:Gl X x)(Y:X.mg x=al (.ref f))(c:bR X.K (.ref f)=bY)(d:Binds X.K fd ps ds)(e:Vals dvs ds)(f:qj CX X E)(z:autoParam ((x==("__debug__":Str))=ce) Zq1._auto_1):PE X (.Call (.Name x p) [] [] pos) (aR1 sp dvs E aH9):=by refineλJ s W H Q I h=>cz<|ak0 I b Y ?_ z;exact gA I.kIn c<|aN9 F a d e f I .nil h
def bb8{pl}(a:PE X o ta)(c:Cls X.K Cc)(Z:Meth X.K Cc m f)(F:FnOk X.prog X.w X.K X.mg X.base CX k f fd ps sp)(d:Room k X.A)(g:Binds X.K fd ps ds)(i:Vals dvs ds)(j:qj CX X E)(b:PA X (e::es) t)(k:autoParam (a9 (e::es) X.env=(ce,eval e X.env)::a9 es X.env) Zq4._auto_1)(J:autoParam ((cT pos<|a9 es X.env).any (·.1)=ce) Zq4._auto_1)(n:autoParam (eval (.Call (.Attribute o m apos) (e::es) [] pos) X.env=(do
   let ov<-eval o X.env
   lc apos.atName let(f,first)<-gX [ov]<|ke ov m pl
   callWith pos f first (cT pos<|a9 (e::es) X.env) (fC pos<|di [] X.env))) Zq4._auto_1):PE X (.Call (.Attribute o m apos) (e::es) [] pos) (bn6 Cc m sp dvs E ta t):=by refineλz s W H Q I h=>i4 (thn (a z s W H _ I h) λu e⟨x,f,Y,h,a,dx,fs,ex,m,l,q⟩=>?_) n;subst ex;obtain rfl:u=Value.ref a:=h;refine av5 Y m c Z l ?_;refine fm I.ok.mod.kin Z.kp (thn (b pos z e W f _ Y q) λb b⟨vs,H2,b,r,c⟩=>⟨b.kIn,?_⟩) k J;exact aN9 (vs:=.ref a::vs) F d g i j b (.cons rfl r) c
def br6(a:PE X o ta)(c:Cls X.K Cc)(b:Meth X.K Cc m f)(F:FnOk X.prog X.w X.K X.mg X.base CX k f fd ps sp)(d:Room k X.A)(e:Binds X.K fd ps ds)(g:Vals dvs ds)(i:qj CX X E)(j:autoParam (eval (.Call (.Attribute o m apos) [] [] pos) X.env=(do
   let ov<-eval o X.env
   lc apos.atName let(f,first)<-gX [ov]<|ke ov m pl
   callWith pos f first (cT pos<|a9 [] X.env) (fC pos<|di [] X.env))) Zq4._auto_1):PE X (.Call (.Attribute o m apos) [] [] pos) (bn6 Cc m sp dvs E ta aH9):=by refineλz s W H Q I h=>i4 (thn (a z s W H _ I h) λu a⟨x,H1,J,Y,a,dx,fs,ex,Z,l,q⟩=>?_) j;subst ex;obtain rfl:u=Value.ref a:=Y;refine av5 J Z c b l ?_;exact gA J.kIn b.kp<|aN9 (vs:=[.ref a]) F d e g i J (.cons rfl .nil) q
structure Mk(K:ac)(Cc f:Addr):Prop where
 makes:dS K Cc=bY
 init:bu K (.ref Cc) "__init__"=al (al<|.ref f)fn:iG K (.ref f)=bY
 kp:bR K (.ref Cc)=bY
def aL9{W:St}{a:yH}(M:Mk X.K Cc f)(F:FnOk X.prog X.w X.K X.mg X.base CX k f fd ps sp)(d:Room (k+1) X.A)(g:Binds X.K fd ps ds)(e:Vals dvs ds)(i:qj CX X E)(I:Inv X z W H s)(r:Vals vs a)(h:∀x b,H x=aT->H b=aT->b≠x->sp (.ref x::(vs++dvs)) (upd (upd H b<|.own x) x<|.ins Cc b []) (λv b=>v=.N/\Q (.ref x) b) E):
  wpAny (model X.prog X.w) X.A (call (.ref Cc) a) (EP X z W Q) X.xe s:=by have c:=h (s.heap.objs.size+1) s.heap.objs.size (I.hok.fresh<|dL _) (I.hok.fresh<|aj _) (aI<|dE _);have b:=Inv.made (Cc:=Cc) I;have Y:Vals (V.ref (s.heap.objs.size+1)::(vs++dvs)) (Value.ref (s.heap.objs.size+1)::(a++ds)):=.cons rfl<|r.append e;have Z:(Value.ref (s.heap.objs.size+1)::a++ds).length=ps.length:=have e:=Y.length;(F.len _ _ _ _ c▸e).symm;refine gM<|bq9 (f:=f) I.kIn M.makes M.init (beq_iff_eq.mp M.fn) (fB (F.run _ X.stack _ _ ⟨Value.ref (s.heap.objs.size+1)::a,[]⟩ (Value.ref (s.heap.objs.size+1)::(a++ds)) _ _ E (d.make Cc a [])
  (b.env0.make Cc a []) (g _ (Value.ref (s.heap.objs.size+1)::a) b.kIn Z) Y c) λr a J=>?_);cases r with|error e=>exact i z W _ _ e a b J|ok a=>cases a with|ret u=>refine AR (b.after J) λv H' a b ev c=>?_;subst ev;exact⟨b,⟨V.ref<|s.heap.objs.size+1,H',a,rfl,c⟩⟩|next=>exact bo J|brk=>exact bo J|cont=>exact bo J
def bO5(M:Mk X.K Cc f)(F:FnOk X.prog X.w X.K X.mg X.base CX k f fd ps sp)(a:Room (k+1) X.A)(b:Gl X x)(c:X.mg x=al (.ref Cc))(d:Binds X.K fd ps ds)(f:Vals dvs ds)(g:qj CX X E)(i:PA X (e::es) t)(J:autoParam ((x==("__debug__":Str))=ce) Zq1._auto_1)(Z:autoParam (a9 (e::es) X.env=(ce,eval e X.env)::a9 es X.env) Zq4._auto_1)(j:autoParam ((cT pos<|a9 es X.env).any (·.1)=ce) Zq4._auto_1):PE X (.Call (.Name x p) (e::es) [] pos) (bl5 Cc sp dvs E t):=by refineλz s W H Q I h=>cz<|ak0 I b c ?_ J;refine fm I.ok.mod.kin M.kp (thn (i pos z s W H _ I h) λb b⟨b,H1,Y,r,q⟩=>⟨Y.kIn,?_⟩) Z j;exact aL9 M F a d f g Y r q
def bp4(M:Mk X.K Cc f)(F:FnOk X.prog X.w X.K X.mg X.base CX k f fd ps sp)(a:Room (k+1) X.A)(b:Gl X x)(Y:X.mg x=al (.ref Cc))(c:Binds X.K fd ps ds)(d:Vals dvs ds)(e:qj CX X E)(z:autoParam ((x==("__debug__":Str))=ce) Zq1._auto_1):PE X (.Call (.Name x p) [] [] pos) (bl5 Cc sp dvs E aH9):=by refineλJ s W H Q I h=>cz<|ak0 I b Y ?_ z;exact gA I.kIn M.kp<|aL9 M F a c d e I .nil h
end
section
variable{X:Cx}{CX:CXT}{k:Nat}{f Cc:Addr}{fd:bS}{ps ks:yI}{sp:Sp}{E:XK}{x m:Str}{p pos apos kpos:Pos}{e o:Expr}{es:yL}{kws:List fD}{te ta:TE}{t tk:TA}{nm:Option Str}
variable{g:List Value->List Value->List Value}{gV:List V->List V->List V}
end
structure FnScope(N P:yI)(sc:Scope):Prop where
 kind:sc.kind=.function
 co:sc.isCoroutine=ce
 gen:sc.isGenerator=ce
 nd:N.Nodup
 pre:N.take P.length=P
 par:∀x∈P,sc.names.lookup x=al .local\/sc.names.lookup x=al .cell
 nofree:∀y∈sc.names,y.2≠.free
def Zsc{N P:yI}{h:Scope}(a:autoParam (h.kind=.function) Zq4._auto_1)(b:autoParam (h.isCoroutine=ce) Zq4._auto_1)(c:autoParam (h.isGenerator=ce) Zq4._auto_1)(d:autoParam (N.Nodup) Zq8._auto_1)(e:autoParam (N.take P.length=P) Zq4._auto_1)(f:autoParam (∀x∈P,h.names.lookup x=al .local\/h.names.lookup x=al .cell) Zq8._auto_1)(g:autoParam (∀y∈h.names,y.2≠.free) Zq8._auto_1):FnScope N P h:=⟨a,b,c,d,e,f,g⟩
theorem aC2{eR}:∀{binds}{m:yD},(∀v,(x,v)∉binds)->bindL eR binds m x=m x
 |[],_,_=>rfl|(n,v)::r,m,h=>by
  unfold bindL;rw[aC2 λw a=>h w<|ah _ a];split
  .have:x≠n:=by rintro rfl;exact h v am
   simp[this]
  .rfl
theorem aG0{eR}:∀{binds}{m:yD},(∀v,(x,v)∉binds)->bindC eR binds m x=m x
 |[],_,_=>rfl|(n,v)::r,m,h=>by
  unfold bindC;rw[aG0 λw a=>h w<|ah _ a];split;.rfl
  .have:x≠n:=by rintro rfl;exact h v am
   simp[this]
theorem ao7{eR}:∀{P:yI}{a:yH}{i:Nat}{m:yD},P.Nodup->P[i]?=al x->a[i]?=al v->eR x=al .local->bindL eR (P.zip a) m x=al v|[],_,_,_,_,h,_,_=>by simp at h|_::_,[],_,_,_,_,h,_=>by simp at h|p::P,w::a,0,m,c,b,h2,d=>by simp at b h2;subst b;subst h2;show bindL eR ((p,w)::P.zip a) m p=_;unfold bindL;rw[aC2 λv a=>(cS.mp c).1 (fh a).1,dO d];simp|p::P,w::a,i+1,m,c,b,h2,d=>by unfold bindL;exact ao7 (cS.mp c).2 (by simpa using b) (by simpa using h2) d
theorem an7{eR}:∀{P:yI}{a:yH}{i:Nat}{m:yD},P.Nodup->P[i]?=al x->a[i]?=al v->eR x≠al .local->bindC eR (P.zip a) m x=al v|[],_,_,_,_,h,_,_=>by simp at h|_::_,[],_,_,_,_,h,_=>by simp at h|p::P,w::a,0,m,c,b,h2,d=>by simp at b h2;subst b;subst h2;show bindC eR ((p,w)::P.zip a) m p=_;unfold bindC;rw[aG0 λv a=>(cS.mp c).1 (fh a).1,ef d];simp|p::P,w::a,i+1,m,c,b,h2,d=>by unfold bindC;exact an7 (cS.mp c).2 (by simpa using b) (by simpa using h2) d
noncomputable def ah5(N:yI)(vs:List V):St:=vs.map al++az (N.length-vs.length) aT
noncomputable def as7(d:CXT)(P:aH)(w:World)(K:ac)(mg:yD)(base:Heap)(N:yI)(b:Str)(scope:Scope)(f:Addr)(c:Value)(A:aU)(outer:List Env)(s:af)(H:Hp)(E:XK):Cx where prog:=P;w:=w;K:=K;mg:=mg;base:=base;A:=A.deeper<|gm b scope s.heap.objs.size f c;N:=N;s₀:=s;H₀:=H;env:=gm b scope s.heap.objs.size f c;outer:=outer;stack:=gm b scope s.heap.objs.size f c::outer;ex:=[];calm:=bY;fn:=λ_=>bY;pn:=[];xe:=λe g=>wpAny (model P w) (A.deeper<|gm b scope s.heap.objs.size f c) (leaving (gm b scope s.heap.objs.size f c) e) (λ_ b=>d outer H s E e b) (λc b=>d outer H s E c b) g
def z5{a:Scope}(h:a.names.lookup x=al .cell):∃c,(aX n a.names []).lookup x=al c:=have q:=iH a.names n []<|.inl h;cw.mp q
def bi6{K:ac}{us:yH}{vs:List V}(S:FnScope N ps scope)(hd:A.handled=aT)(Y:Env0 P w K mg base A J s H)(hl:vs.length=ps.length)(r:Vals vs us)(x:gZ s s.heap.objs.size (bindL (gm qual scope s.heap.objs.size f cd).kindOf (ps.zip us) λ_=>aT) (aX (s.heap.objs.size+1) scope.names []) (bindC (gm qual scope s.heap.objs.size f cd).kindOf (ps.zip us) λ_=>aT) s1):Inv (as7 CX P w K mg base N qual scope f cd A J s H E) [] (ah5 N vs) H s1:=by
 have a1:ps.length<=N.length:=by have:=congrArg jW S.pre;rw[bQ]at this;lia
 obtain⟨h1,tk,rfl,hk⟩:=x.done;have Z:∀b:Addr,b∉(as7 CX P w K mg base N qual scope f cd A J s H E).ex:=λb z=>ij (show b∈([]:List Addr)from z) (by simp);refine⟨⟨Y.mod,S.kind,rfl,rfl,aj _,λy z c h1 Uu=>?_,λy hy=>?_,λy c _ h=>?_,λ_=>hd,jX Y.frames,.inr ⟨rfl,rfl⟩,λb z=>ij z<|Z b,Y.bs,Y.bsz,λb _ _=>Z b,λb z=>ij z<|Z b,Y.funs,Y.frf⟩,rfl,Y.bare,Un.kept hk,⟨_,x.toInCall.ns,λi y v h1 Uu h3=>?_⟩,λy c h=>⟨_,x.cell y c h⟩,Y.hok.fresh<|aj _,λy c h=>?_,λp hp=>ij (show p∈([]:yA)from hp) (by simp),Y.hok.kept hk,?_⟩;.exact iI x.apart (aL h1) (aL Uu)
 .have hy:scope.names.lookup y=al .cell\/scope.names.lookup y=al .free:=hy;rcases hy with hy|hy;.exact z5 hy
  .exact ij rfl<|S.nofree _<|aL hy
 .exact eF<|x.above y c<|aL h
 .have hi:i<vs.length:=by
   unfold ah5 at Uu;by_cases hi:i<vs.length;.exact hi
   .rw[aw<|by simpa using hi]at Uu;rw[ir]at Uu;split at Uu<;>cases Uu
  have ha:vs[i]?=al v:=by unfold ah5 at Uu;rw[aB<|by simpa using hi,aK]at Uu;cases e:vs[i]? with|none=>rw[e]at Uu;cases Uu|some a=>rw[e]at Uu;cases Uu;rfl
  obtain⟨u,hu,rv⟩:=r.get ha;have hp:ps[i]?=al y:=by rw[<-S.pre,dm<|by lia];exact h1
  have a0:ps.Nodup:=by rw[<-S.pre];exact S.nd.sublist<|List.take_sublist _ _
  refine⟨u,rv,?_⟩;rcases S.par y (aF hp)with k|k;.exact .inl ⟨k,ao7 a0 hp hu k⟩
  .obtain⟨c,e⟩:=z5 (n:=s.heap.objs.size+1) k;refine .inr ⟨.inl k,c,e,?_⟩;have q:=x.cell y c e;rw[an7 a0 hp hu<|by show scope.names.lookup y≠_;rw[k];decide]at q;exact q
 .exact Y.hok.fresh<|eF<|x.above y c<|aL h
 .unfold ah5;show _=N.length;rw[aO,av,List.length_replicate];lia
set_option tactic.hygienic true in def bM7{K:ac}{body:yM}{kV a:Value}{b c:yJ}{d:yF}(lk:K.lookup f=al ⟨a,c,.func<|cU name qual params body scope dV kV Z pm b z ct,d⟩)(j:fF K z qual=bY)(S:FnScope N ps scope)(len:∀a H Q E,sp a H Q E->a.length=ps.length)(l:∀(A:aU)(h:List Env)(s:af)(H:Hp)(a:List V)(Q:VK)(E:XK),Room k (A.deeper<|gm qual scope s.heap.objs.size f z)->sp a H Q E->∃t,PSs (as7 CX P w K mg base N qual scope f z A h s H E) body t/\t {nx:=λ_ H'=>Q .N H',rt:=Q} (ah5 N a) H):FnOk P w K mg base CX (k+1) f (cU name qual params body scope dV kV Z pm b z ct) ps sp:=by refine⟨len,λA h s H a k a Q E d c m r g=>?_⟩;have p:=len _ _ _ _ g;have i:K.In s.heap:=c.mod.kin.keeps λb o e=>(c.bs b o e).1;have t:s.heap.NoLimit:=c.mod.nolimit.keeps λb o e=>(c.bs b o e).1;have Y:∀y∈ps.zip k,scope.names.lookup y.1=al .local\/(scope.names.lookup y.1=al .cell/\((aX (s.heap.objs.size+1) scope.names []).lookup y.1).isSome=bY):=λ⟨n,v⟩b=>(S.par n (fh b).1).elim (λq=>.inl q) λq=>.inr ⟨q,iH _ _ _<|.inl q⟩;refine i5 d.depth (i _ _ lk) rfl S.co S.gen rfl (PySem.W.codeRec_of i j) (m _ _ _ _ ?_);refine wpAny_newFunctionEnv_cells S.kind Y λb e b x=>?_;subst e;refine⟨t.keeps x.toInCall.keep,codeAny_func ?_⟩;refine AD (l A h s H a Q E (d.deeper _) g) λt e g=>have I:Inv (as7 CX P w K mg base N qual scope f z A h s H E) [] (ah5 N a) H b:=bi6 S d.hd c p r x;bD (e [] b (ah5 N a) H _ I g) (λd b a=>?_) λe b a=>a;have fin:∀{c:St}{H':Hp}{v:V}{u:Value},Inv (as7 CX P w K mg base N qual scope f z A h s H E) [] c H' b->RelV v u->Q v H'->CE h P w H s Q u b:=λ{c H' v u}J b q=>⟨v,H',J.os,J.bare,J.base,J.hok,b,q⟩;cases d with|ret u=>exact AS a λv c H' J b q=>fin J b q|next=>exact AE a λW' H' J q=>fin (v:=V.N) (u:=Value.none) J rfl q|brk=>refine AE a λ_ _ _ q=>?_;simp_all|cont=>refine AE a λ_ _ _ q=>?_;simp_all
section
variable{X:Cx}{x:Str}{p pos:Pos}{e:Expr}{es:yL}{t:TA}{id T:String}{r:List V->Hp->VK->Prop}
def tCB(r:List V->Hp->VK->Prop)(t:TA):TE:=λW H Q=>t W H λa b=>r a b Q
def jr(a:ae4 X (.builtin id) r)(Y:Gl X x)(b:X.mg x=aT)(c:bM x=al (.builtin id))(d:PA X (e::es) t)(f:autoParam (x≠"__name__") Zq1._auto_1)(J:autoParam ((x==("__debug__":Str))=ce) Zq1._auto_1)(g:autoParam (a9 (e::es) X.env=(ce,eval e X.env)::a9 es X.env) Zq4._auto_1)(i:autoParam ((cT pos<|a9 es X.env).any (·.1)=ce) Zq4._auto_1):PE X (.Call (.Name x p) (e::es) [] pos) (tCB r t):=by refineλz s W H Q I h=>cz<|au4 I Y b c ?_ f J;exact PyProof.Rows.callWith_builtin1 (thn (d pos z s W H _ I h) λb c⟨d,Z,e,f,h⟩=>a z c W Z d b Q e f h) g i
def ao8(a:ae4 X (.type T) r)(Y:Gl X x)(b:X.mg x=aT)(c:bM x=al (.type T))(d:PA X (e::es) t)(f:autoParam (x≠"__name__") Zq1._auto_1)(J:autoParam ((x==("__debug__":Str))=ce) Zq1._auto_1)(g:autoParam (a9 (e::es) X.env=(ce,eval e X.env)::a9 es X.env) Zq4._auto_1)(i:autoParam ((cT pos<|a9 es X.env).any (·.1)=ce) Zq4._auto_1):PE X (.Call (.Name x p) (e::es) [] pos) (tCB r t):=by refineλz s W H Q I h=>cz<|au4 I Y b c ?_ f J;exact d7 (thn (d pos z s W H _ I h) λb c⟨d,Z,e,f,h⟩=>a z c W Z d b Q e f h) g i
end
end L2
end
noncomputable section
namespace HT
open PySem PyProof.Rows
section
open PySem.SeqAt
open PySem.AutoSeq1(wpAny_loadPart')
open PySem.MeetsSeq PySem.MeetsSeq2 PySem.MeetsSeq3
end
section
variable{prog:aH}{w:World}{A:aU}{E:yB}{s:af}
noncomputable def sIx(n d:Nat):Option Int->Nat|none=>d|some v=>if v<0 then(v+(n)).toNat else min v.toNat n
def sIx_le n d(hd:d<=n)o:sIx n d o<=n:=by cases o with|none=>exact hd|some v=>
  show(if v<0 then(v+(n)).toNat else min v.toNat n)<=n;by_cases hv:v<0;.rw[dO hv];lia
  .rw[ef hv];exact Nat.min_le_right _ _
def clip_eq v(n d:Nat):(if v<0 then max (v+(n:Int)) 0 else min v<|n)=((sIx n d<|al v)):=by show(if v<0 then max (v+(n)) 0 else min v<|n)=(((if v<0 then(v+(n)).toNat else min v.toNat n)));lia
def adjust_gen h hi(n:Nat):eQ h hi 1 (n)=(((sIx n 0 h):Int),((sIx n n hi):Int)):=by
 unfold eQ;simp only[if_false];refine ip ?_ ?_;.cases h with|none=>rfl|some v=>exact clip_eq v n 0
 .cases hi with|none=>rfl|some v=>exact clip_eq v n n
def places_gen(i j:Nat):db (i) (j) 1=j-i:=by unfold db;lia
def slicePart_(p:ik v o)(h:Q o s):wpAny (model prog w) A (mn v) Q E s:=by cases p with|none=>exact slicePart_none h|int i t=>exact slicePart_int h
def sliceApplied_gen{Q:Int×Int×Nat->af->Prop}(a:s.heap.IsSliceOf sl vl vu .none)(pl:ik vl z)(Z:ik vu hi)(h:Q (((sIx n 0 z:Nat):Int),1,sIx n n hi-sIx n 0 z) s):wpAny (model prog w) A (gN (.ref sl) (pure<|n)) Q E s:=by refine AH (id a) λos a Y J=>ai<|ai<|fq a J rfl<|ai<|fq a J rfl<|ai<|fq a J rfl<|aE ?_;refine ai<|slicePart_none ?_;rw[ef<|by decide];refine ai<|slicePart_ pl<|ai<|slicePart_ Z<|ai<|aE ?_;show wpAny _ _ (match eQ z hi 1 (n)with|(z,hi)=>pure (z,(1:Int),db z hi 1)) _ _ s;rw[adjust_gen z hi n];show wpAny _ _ (pure (((sIx n 0 z):Int),(1),db ((sIx n 0 z)) ((sIx n n hi)) 1)) _ _ s;rw[places_gen];exact aE h
def pick_gen(h:yK)(i k:Nat):((aq k).filterMap λ(m:Nat)=>h[((i)+(m:Int)*1).toNat]?).toArray=((h.toList.drop i).take k).toArray:=by
 have e:(λ(m:Nat)=>h[((i)+(m:Int)*1).toNat]?)=λm=>h[i+m]?:=by grind
 rw[e];have:=pick_run h i k;rw[gO]at this;have a:((λx=>h[x]?)∘λx=>i+x)=λm=>h[i+m]?:=rfl;lia
def getItem_tuple_cut{z:yK}{Q:yB}(a:IsTup s.heap t z)(b:s.heap.IsSliceOf sl vl vu .none)(pl:ik vl Uu)(d:ik vu hi)(c:¬(sIx z.size 0 Uu=0/\sIx z.size z.size hi=z.size))(h:Q (.ref s.heap.objs.size) {s with heap:=s.heap.push {cls:=.type "tuple",data:=.seq ((z.toList.drop<|sIx z.size 0 Uu).take<|sIx z.size z.size hi-sIx z.size 0 Uu).toArray}})(c:z.size<=a7):wpAny (model prog w) A (iJ (.ref t) (.ref sl)) Q E s:=by
 have J:=by show((z.toList.drop<|sIx z.size 0 Uu).take<|sIx z.size z.size hi-sIx z.size 0 Uu).toArray.size<=a7;rw[aJ,bQ,fS,dv];omega
 refine AH (id b) λos c Y e=>?_;have Z:s.TypeIs (.ref sl) "slice":=⟨os,c,Y⟩;unfold iJ;try with_reducible refine cQ ?_
 first|refine ai<|aE ?_|skip
 refine ai<|lu a.typeIs (by decide) ?_;refine ai<|dF a.typeIs bT<|dz bT a.typeIs kz ?_<|kQ _ _;show wpAny _ _ (eA (.ref t)>>=_) _ _ s;refine ai<|tupleItemsOf_ a ?_;refine ai<|lv Z ?_;rw[dO<|by decide];refine ai<|sliceApplied_gen b pl d ?_;have a:¬((((sIx z.size 0 Uu:Nat):Int)==0&&(1:Int)==1&&(sIx z.size z.size hi-sIx z.size 0 Uu)==z.size)=bY):=by lia
 show wpAny _ _ (if(((sIx z.size 0 Uu:Nat):Int)==0&&(1:Int)==1&&(sIx z.size z.size hi-sIx z.size 0 Uu)==z.size)=bY then _ else _) _ _ s;rw[ef a,pick_gen];first|exact ai (m:=dq _)<|cG (aE ⟨_,rfl,aE h⟩) J|exact ai (m:=dq _)<|cG (ai<|aE<|aE ⟨_,rfl,aE h⟩) J|exact ai<|ai (m:=dq _)<|cG (aE<|aE ⟨_,rfl,aE h⟩) J|exact ai<|ai (m:=dq _)<|cG (aE ⟨_,rfl,aE h⟩) J
end
end HT
noncomputable section
namespace L2
open PySem PySem.Spec PyProof.Rows
abbrev TO:=St->Hp->(Option Int->Hp->Prop)->Prop
def PO(X:Cx)(e:Option Expr)(t:TO):Prop:=∀a s(W:St)H Q,Inv X a W H s->t W H Q->wpAny (model X.prog X.w) X.A (evalPart e X.env) (λu b=>∃o H',Inv X a W H' b/\ik u o/\Q o H') X.xe s
noncomputable def aI9:TO:=λ_ H Q=>Q aT H
noncomputable def bf7(t:TE):TO:=λW H Q=>t W H λx a=>∃i,x=.int i/\Q (al i) a
section
variable{X:Cx}{e:Expr}{te:TE}{lo hi:Option Expr}{tl th:TO}{pos p2:Pos}
def bQ0:PO X aT aI9:=by intro z s W H Q I h;rw[evalPart_none];exact aE ⟨aT,H,I,.none,h⟩
def bS7(h:PE X e te):PO X (al e) (bf7 te):=by intro z s W H Q I a;rw[evalPart_some];refine thn (h z s W H _ I a) λu a⟨x,J,Y,a,b⟩=>?_;obtain⟨i,rfl,q⟩:=b;obtain⟨t,rfl⟩:=a;exact⟨al i,J,Y,.int i t,q⟩
def SlR(X:Cx)(r:V->Option Int->Option Int->Hp->VK->Prop):Prop:=∀a s(W:St)H x v vl b c d e Q,Inv X a W H s->RelV x v->s.heap.IsSliceOf e vl b .none->ik vl c->ik b d->r x c d H Q->∃T id,typeLookup (.type T) "__getitem__"=pure (al<|.builtin id)/\s.TypeIs v T/\wpAny (model X.prog X.w) X.A (iJ v<|.ref e) (EP X a W Q) X.xe s
def tSl(r:V->Option Int->Option Int->Hp->VK->Prop)(a:TE)(tl b:TO):TE:=λW H Q=>a W H λx a=>tl W a λl a=>b W a λu a=>r x l u a Q
def br5(d:SlR X r)(a:PE X e te)(Y:PO X lo tl)(b:PO X hi th):PE X (.Subscript e (.Slice lo hi aT p2) pos) (tSl r te tl th):=by refineλz s W H Q I h=>Subscript_<|thn (a z s W H _ I h) λv a⟨x,c,e,f,g⟩=>wpAny_Slice<|thn (Y z a W c _ e g) λvl a⟨l,c,e,g,h⟩=>thn (b z a W c _ e h) λc a⟨u,J,b,e,h⟩=>?_;rw[evalPart_none];refine aE ?_;have Z:Inv X z W J {a with heap:=a.heap.push {cls:=.type "slice",data:=.fields #[vl,c,.none]}}:=b.kept λb b q=>ak _ q;exact AL (d z {a with heap:=a.heap.push {cls:=.type "slice",data:=.fields #[vl,c,.none]}} W J x v vl c l u a.heap.objs.size Q Z f (nY ..) g e h) λT id a b c=>mO b a c<|by with_unfolding_all rfl
noncomputable def aR7(a:List V)(b hi:Option Int):List V:=(a.drop<|HT.sIx a.length 0 b).take<|HT.sIx a.length a.length hi-HT.sIx a.length 0 b
def an9 h z hi:(aR7 h z hi).length<=h.length:=by unfold aR7;rw[bQ,fS];lia
def cy6(K:ac):V->Option Int->Option Int->Hp->VK->Prop:=λx c d H Q=>∃a b,x=.ref a/\SqT K H a b/\¬(HT.sIx b.length 0 c=0/\HT.sIx b.length b.length d=b.length)/\∀p,H p=aT->Q (.ref p) (upd H p<|.tp<|aR7 b c d)
def cj7:SlR X<|cy6 X.K:=by intro Y s W H x v vl a c d a Q I Z b f g h;obtain⟨a,J,rfl,a,i,q⟩:=h;cases Z;refine AH (I.tuple a) λits r a e=>?_;have z:its.toArray.size=J.length:=aJ▸r.length.symm;refine⟨"tuple",_,bT.lookup,a.typeIs,HT.getItem_tuple_cut a b f g (z▸i) ?_<|z▸e⟩;rw[z];refine⟨.ref s.heap.objs.size,_,I.laid (λb a q=>ak _ q) (aj _) ?_,rfl,q _<|I.hok.fresh<|aj _⟩;exact⟨au (an9 J c d) e,_,(r.drop<|HT.sIx J.length 0 c).take<|HT.sIx J.length J.length d-HT.sIx J.length 0 c,nD _ _⟩
end
noncomputable def ixN(n:Nat)(i:Int):Option Nat:=if 0<=i then(if i<n then al i.toNat else aT)else if-(n)<=i then al (i+n).toNat else aT
def atI{α:Type}(a:List α)(i:Int):Option α:=(ixN a.length i).bind λj=>a[j]?
def bg5(h:ixN n i=al j):seqIndex? i n=al j/\j<n/\-(n)<=i/\i<n:=by
 unfold ixN at h;by_cases b:0<=i
 .rw[dO b]at h;by_cases a:i<n;.rw[dO a]at h;have e:=ay h;exact⟨by rw[lZ b a,e],by lia,by lia,a⟩
  .rw[ef a]at h;cases h
 .rw[ef b]at h;by_cases a:-(n)<=i;.rw[dO a]at h;have e:=ay h;exact⟨by rw[lw (by lia) a,e],by lia,a,by lia⟩
  .rw[ef a]at h;cases h
def aH4(h:atI z i=al v):∃j,seqIndex? i z.length=al j/\z[j]?=al v/\j<z.length/\-(z.length)<=i/\i<z.length:=by unfold atI at h;cases e:ixN z.length i with|none=>simp_all|some j=>rw[e]at h;exact AU (bg5 e) λY J a b=>⟨j,Y,h,J,a,b⟩
def bb5(b:Expr):Prop:=∀o i,subscripted b ce o i=operate [o,i] (iJ o i)
def IxR(X:Cx)(r:R2):Prop:=∀c a b s(W:St)H x y v u Q,Inv X b W H s->RelV x v->RelV y u->r x y H Q->subscripted a ce v u=operate [v,u] (iJ v u)->wpAny (model X.prog X.w) X.A (subscriptTail c a v u) (EP X b W Q) X.xe s
def MtR(X:Cx)(id:String)(r:V->List V->Hp->VK->Prop):Prop:=∀a s(W:St)H x b v(c:yH)Q,Inv X a W H s->RelV x v->Vals b c->r x b H Q->wpAny (model X.prog X.w) X.A (call (.builtin id) (v::c)) (EP X a W Q) X.xe s
section
variable{X:Cx}{a b:Expr}{ta tb:TE}{pos:Pos}
def cl6(c:IxR X r)(d:PE X a ta)(e:PE X b tb)(f:bb5 b):PE X (.Subscript a b pos) (tOp r ta tb):=λz s W H Q I h=>Subscript_<|cr7 d e I h λv u d x y e g J h q=>c a b z d W e x y v u Q g J h q<|f _ _
def cu0(K:ac):R2:=λx y H Q=>∃p a i v,x=.ref p/\y=.int i/\SqL K H p a/\atI a i=al v/\Q v H
def cw6(K:ac):R2:=λx y H Q=>∃p a i v,x=.ref p/\y=.int i/\SqT K H p a/\atI a i=al v/\Q v H
def cy2:R2:=λx y H Q=>∃z i c,x=.str z/\y=.int i/\z.length<=a7/\atI z.cps.toList i=al c/\Q (.str ⟨#[c]⟩) H
def bP7:IxR X<|cu0 X.K:=by
 intro Z Y J s W H x y v u Q I a b h c;obtain⟨p,d,i,z,rfl,rfl,d,e,q⟩:=h;cases a;obtain⟨t,rfl⟩:=b;refine AH (I.list d) λits r a b=>AQ (aH4 e) λj b h2 d f g=>AD (r.get h2) λw d e=>?_;have h:=r.length;have k:=au0;have fin:EP X J W Q w s:=⟨z,H,I,e,q⟩;by_cases e:0<=i;.have hj:=ay<|lZ e g▸b;exact item_listR a.isList e (by lia) (by rw[hj];simpa using d) fin c
 .have hj:(i+(its.toArray.size)).toNat=j:=by rw[lw (by lia) f]at b;exact aJ▸h▸ay b
  exact iK a.isList.typeIs lx.lookup
   (wpAny_getItem_list_neg a.isList (by omega) (by rw[aJ]<;>lia) (by lia) (by rw[hj];simpa using d) ⟨rfl,fin⟩) c
def ix_tup:IxR X<|cw6 X.K:=by
 intro Y a J s W H x y v u Q I a b h c;obtain⟨p,d,i,z,rfl,rfl,d,e,q⟩:=h;cases a;obtain⟨t,rfl⟩:=b;exact AH (I.tuple d) λits r a b=>AQ (aH4 e) λj b h2 d d d=>AD (r.get h2) λw d Z=>have e:=r.length;have f:=au0;have fin:EP X J W Q w s:=⟨z,H,I,Z,q⟩;iK a.typeIs bT.lookup
  (getItem_tuple a (by lia) (by lia) (aJ▸e▸b) (by simpa using d) ⟨rfl,fin⟩) c
def ix_str:IxR X cy2:=by
 intro a J Z s W H x y v u Q I a b h d;obtain⟨z,i,c,rfl,rfl,e,e,q⟩:=h;obtain⟨t,rfl⟩:=a;obtain⟨a,rfl⟩:=b;refine AQ (aH4 e) λj Y h2 a a b=>?_;have e:z.cps.toList.length=z.length:=by simp[Str.length]
 rw[e]at Y a b;have a:=au0;exact mO (mP s z t) slot_str_getitem.lookup (getItem_str (by lia) (by simp_all) ⟨.str ⟨#[c]⟩,H,I.tok _,⟨_,rfl⟩,q⟩) d
def aS8(a:yH)n j u:iL (·.setIfInBounds j u) {cls:=.type "list",data:=.seq a.toArray n}={cls:=.type "list",data:=.seq (a.set j u).toArray n}:=by simp[iL]
def Inv.lst{W:St}(I:Inv X J W H s)(h:H p=al (.J Uu)):∃(a:yH)(n:Nat),Vals Uu a/\s.heap.get? p=al {cls:=.type "list",data:=.seq a.toArray n}/\Uu.length<=a7:=AY (I.hok p _ h) λz a n r e=>⟨a,n,r,e,z⟩
def Inv.lstUpd{W:St}{b a:yH}(I:Inv X z W H s)(h:H p=al (.J Y))(d:s.heap.get? p=al {cls:=.type "list",data:=.seq b.toArray n})(c:f {cls:=.type "list",data:=.seq b.toArray n}={cls:=.type "list",data:=.seq a.toArray J})(r:Vals ys a)(g:ys.length<=a7)t:Inv X z W (upd H p<|.J ys) {s with heap:=s.heap.update p f,toks:=t}:=by
 have e:(s.heap.update p f).get? p=al {cls:=.type "list",data:=.seq a.toArray J}:=by rw[d5 f d<|by rw[c]<;>rfl,c]
 exact I.write (by rw[h];trivial) (.inl rfl) (λb u b q=>(cC _ _<|bH b).trans q) ⟨_,e⟩ ⟨g,a,J,r,e⟩
def cq9:V->V->V->Hp->(Hp->Prop)->Prop:=λo i v H Q=>∃p a k j,o=.ref p/\i=.int k/\H p=al (.J a)/\ixN a.length k=al j/\Q (upd H p<|.J<|a.set j v)
def bx3:cp3 X cq9:=by
 intro z s W H o i v a a u Q I a b e h;obtain⟨p,c,k,j,rfl,rfl,c,d,q⟩:=h;cases a;obtain⟨t,rfl⟩:=b;refine AL (I.lst c) λits n r a f=>AU (bg5 d) λJ h2 d Y=>?_;have b:=r.length;have g:=au0;have Z:=I.lstUpd c a (aS8 its n j u) (r.set e j) (by rw[bA];exact f) s.toks;by_cases c:0<=k;.have hk:=ay<|lZ c Y▸J;exact PySem.W.ki_setAt a c (by lia) (aJ▸b▸Y) (hk▸⟨_,Z,q⟩)
 .have hk:(k+(its.toArray.size)).toNat=j:=by rw[lw (by lia) d]at J;exact aJ▸b▸ay J
  exact PySem.W.ki_setBack a (by omega) (aJ▸b▸d) (by lia) (hk▸⟨_,Z,q⟩)
def aE9 z hi n:(ft z hi aT n).1=((HT.sIx n 0 z))/\(ft z hi aT n).2.1=((HT.sIx n n hi))/\(ft z hi aT n).2.2=1:=by
 refine⟨?_,?_,rfl⟩;.cases z with|none=>simp[ft,HT.sIx]|some i=>
   simp only[ft,HT.sIx,lM,if_true];by_cases h:i<0;.simp only[h,if_true]<;>lia
   .simp only[h,if_false]<;>lia
 .cases hi with|none=>simp[ft,HT.sIx]|some i=>
   simp only[ft,HT.sIx,lM,if_true];by_cases h:i<0;.simp only[h,if_true]<;>omega
   .simp only[h,if_false]<;>omega
def aA1(a:yH)h hi:slicePick a.toArray h hi aT=((a.drop<|HT.sIx a.length 0 h).take<|HT.sIx a.length a.length hi-HT.sIx a.length 0 h).toArray:=by refine AI (aE9 h hi a.toArray.size) λz J a=>?_;unfold slicePick;rw[z,J,a];simp only[sliceRange_one,pick_run]<;>rfl
def ct4(K:ac):V->Option Int->Option Int->Hp->VK->Prop:=λx c d H Q=>∃a b,x=.ref a/\SqL K H a b/\∀p,H p=aT->Q (.ref p) (upd H p<|.J<|aR7 b c d)
def bE4:SlR X<|ct4 X.K:=by intro Y s W H x v vl a c d a Q I Z b e f h;obtain⟨a,z,rfl,a,q⟩:=h;cases Z;refine AH (I.list a) λits r a g=>have J:=r.length;⟨"list",_,lx.lookup,a.isList.typeIs,wpAny_getItem_list_slice a.isList b e f .none (by simp) ?_<|by simp_all⟩;rw[aA1,<-J];refine⟨.ref s.heap.objs.size,_,I.laid (λb a q=>ak _ q) (aj _) ?_,rfl,q _<|I.hok.fresh<|aj _⟩;exact⟨au (an9 z c d) g,_,0,(r.drop<|HT.sIx z.length 0 c).take<|HT.sIx z.length z.length d-HT.sIx z.length 0 c,aW _ rfl⟩
def ak8:ae4 X (.builtin "len") (λY H Q=>∃p a,Y=[.ref p]/\(SqL X.K H p a\/SqT X.K H p a)/\Q (.int a.length) H):=by
 intro a s W H Y a Q I r h;obtain⟨p,a,rfl,b,q⟩:=h;obtain⟨u,rfl,Z⟩:=jM r;cases Z;have c:=au0;rcases b with b|b;.exact AH (I.list b) λits J c d=>have z:=J.length;Calls.call_len_list c.isList (by grind) ⟨.int a.length,H,I.tok _,⟨s.toks+1,by grind⟩,q⟩
 .exact AH (I.tuple b) λits J c d=>have z:=J.length;len_tuple c (by grind) ⟨.int a.length,H,I.tok _,⟨s.toks+1,by grind⟩,q⟩
def aD0:ae4 X (.builtin "len") (λa H Q=>∃z,a=[.str z]/\z.length<=a7/\Q (.int z.length) H):=by intro J s W H a a Q I r h;obtain⟨z,rfl,a,q⟩:=h;obtain⟨u,rfl,t,rfl⟩:=jM r;have a:=au0;exact len_str (by lia) ⟨.int z.length,H,I.tok _,⟨_,rfl⟩,q⟩
def ae4.or(h:ae4 X f r)(h':ae4 X f Y):ae4 X f<|λJ H Q=>r J H Q\/Y J H Q:=λz s W H J a Q I b q=>q.elim (λq=>h z s W H J a Q I b q) λq=>h' z s W H J a Q I b q
def aE7:ae4 X (.type "list") (λZ H Q=>∃p c,Z=[.ref p]/\(SqL X.K H p c\/SqT X.K H p c)/\∀l,H l=aT->Q (.ref l) (upd H l<|.J c)):=by
 intro Y s W H Z a Q I r h;obtain⟨p,c,rfl,d,q⟩:=h;obtain⟨u,rfl,a⟩:=jM r;cases a;have fin:∀its,Vals c its->c.length<=a7->∀h' J,(∀b e,s.heap.get? b=al e->h'.get? b=al e)->h'.get? s.heap.objs.size=al {cls:=.type "list",dict:=aT,data:=.seq its.toArray J,slots:=#[]}->EP X Y W Q (.ref s.heap.objs.size) {s with heap:=h'}:=λits z b h' J kp e=>⟨.ref s.heap.objs.size,_,I.laid kp (aj _) (show ad9 X.prog X.w _ h' _ (.J c)from⟨b,its,J,z,e⟩),rfl,q _<|I.hok.fresh<|aj _⟩;rcases d with d|d;.exact AH (I.list d) λits z c b=>have h:=z.length;AH c.isList λo e f AA=>AF AA λn g=>call_list_seq p (.inl rfl) e f g ((fin its z b)) (by simp_all)
 .exact AH (I.tuple d) λits z c b=>have h:=z.length;AH c λo e f AA=>AF AA λn g=>call_list_seq p (.inr rfl) e f g ((fin its z b)) (by simp_all)
def aA5:ae4 X (.type "tuple") (λUu H Q=>∃p ys,Uu=[.ref p]/\((SqL X.K H p ys/\∀l,H l=aT->Q (.ref l) (upd H l<|.tp ys))\/(SqT X.K H p ys/\Q (.ref p) H))):=by
 intro z s W H Uu us Q I r h;obtain⟨p,ys,rfl,h⟩:=h;obtain⟨u,rfl,rx⟩:=jM r;cases rx;rcases h with⟨hq,q⟩|⟨hq,q⟩;.refine AH (I.list hq) λits J pl hz=>have Y:=J.length;call_tuple_list pl.isList (λh' kp=>?_) (by simp_all);have Z:=I.kept (t':=s.toks) kp;have I2:=Z.laid (t':=s.toks) (λb o e=>ak _ e) (aj _) (show ad9 X.prog X.w _ _ _ (.tp ys)from⟨hz,its,J,nD _ _⟩);exact⟨.ref h'.objs.size,_,I2,rfl,q _<|Z.hok.fresh<|aj _⟩
 .exact AH (I.tuple hq) λits J pl hz=>call_tuple_same pl ⟨.ref p,H,I,rfl,q⟩
def tyV(K:ac)(T:String)(x:V)(H:Hp):Prop:=match x with|.str _=>T="str"|.int _=>T="int"|.ref p=>(T="list"/\∃a,SqL K H p a)\/(T="tuple"/\∃o,K.lookup p=al o/\o.cls=.type "tuple"/\o.dict=aT)\/(T="dict"/\((∃a,H p=al (.dK a))\/∃a,H p=al (.dT a)))\/(T="set"/\∃S n,H p=al (.set S n))|_=>False
def bD8{W:St}(I:Inv X h W H s)(r:RelV x v)(J:tyV X.K T x H):
  s.TypeIs v T/\∀a,v=.ref a->∃b,s.heap.get? a=al b/\b.dict=none:=by cases x with|str z=>obtain⟨t,rfl⟩:=r;cases(J);exact⟨mP s z t,λ_ e=>nomatch e⟩|int i=>obtain⟨t,rfl⟩:=r;cases(J);exact⟨typeIs_int s i t,λ_ e=>nomatch e⟩|ref p=>
  cases r;rcases J with⟨rfl,a,a⟩|⟨rfl,o,b,f,d⟩|⟨rfl,b⟩|⟨rfl,S,n,b⟩;.refine AH (I.list a) λits _ c _=>⟨c.isList.typeIs,λa e=>?_⟩;cases e;exact AR c λo n e c d _=>⟨o,e,d⟩
  .refine⟨⟨o,I.kIn p o b,f⟩,λa e=>?_⟩;cases e;exact⟨o,I.kIn _ o b,d⟩
  .have z:∃o,s.heap.get? p=al o/\o.ExactDict:=by
    rcases b with⟨a,b⟩|⟨a,b⟩;.exact AM (I.hok p _ b) λ_ _ _ _ AA=>AS AA λo _ _ e ex _=>⟨o,e,ex⟩
    .exact AM (I.hok p _ b) λ_ _ _ _ AA=>AS AA λo _ _ e ex _=>⟨o,e,ex⟩
   refine AD z λo e ex=>⟨⟨o,e,ex.1⟩,λa c=>?_⟩;cases c;exact⟨o,e,ex.2.1⟩
  .refine AN (I.hok p _ b) λo _ _ _ e AA=>AB AA λex _=>⟨⟨o,e,ex.1⟩,λa c=>?_⟩;cases c;exact⟨o,e,ex.2.1⟩|_=>exact bo J
def ct7(K:ac)(T:String)(r:V->List V->Hp->VK->Prop)(a:TE):TE:=λW H Q=>a W H λx a=>tyV K T x a/\r x [] a Q
def tBM(K:ac)(T:String)(r:V->List V->Hp->VK->Prop)(a:TE)(t:TA):TE:=λW H Q=>a W H λx a=>tyV K T x a/\t W a λa b=>r x a b Q
variable{o e:Expr}{es:yL}{to:TE}{t:TA}{name:Str}{apos cpos:Pos}{T id:String}{r:V->List V->Hp->VK->Prop}
def ce7(c:mQ T)(a:Slot T name id)(Y:kR (.builtin id)=pure (.type "method_descriptor"))(d:MtR X id r)(b:PE X o to)(e:autoParam (eX o name X.env (eval o X.env)=eval o X.env) Zq4._auto_1)(J:autoParam ((apos.endLine==cpos.line)=bY) Zq4._auto_1):PE X (.Call (.Attribute o name apos) [] [] cpos) (ct7 X.K T r to):=λz s W H Q I h=>wpAny_Call_method0_late e J<|thn (b z s W H _ I h) λv e⟨x,f,Z,b,g,h⟩=>AB (bD8 Z b g) λh1 h2=>⟨T,id,c,a,Y,h1,h2,iM rfl<|PySem.evalArgs_none<|d z e W f x [] v [] Q Z b .nil h⟩
def cn4(d:mQ T)(a:Slot T name id)(f:kR (.builtin id)=pure (.type "method_descriptor"))(g:MtR X id r)(b:PE X o to)(i:PA X (e::es) t)(Y:autoParam (eX o name X.env (eval o X.env)=eval o X.env) Zq4._auto_1)(Z:autoParam (((cT cpos<|a9 (e::es) X.env).all (λx=>!x.1)&&(fC cpos<|di [] X.env).all (λx=>x.1.isSome)&&decide ((e::es).length+([]:List fD).length+(if([]:List fD).isEmpty then 0 else 1)<30))=bY) Zq4._auto_1)(c:autoParam ((apos.endLine==cpos.line)=bY) Zq4._auto_1)(j:autoParam (a9 (e::es) X.env=(ce,eval e X.env)::a9 es X.env) Zq4._auto_1)(J:autoParam ((cT cpos<|a9 es X.env).any (·.1)=ce) Zq4._auto_1):PE X (.Call (.Attribute o name apos) (e::es) [] cpos) (tBM X.K T r to t):=by refineλz s W H Q I h=>wpAny_Call_method_late Y Z c rfl<|thn (b z s W H _ I h) λv e⟨x,h,b,c,k,l⟩=>AB (bD8 b c k) λh1 h2=>⟨T,id,d,a,f,h1,h2,?_⟩;have a:=i cpos z e W h _ b l;rw[j]at a⊢;refine iM (by show(ce||(cT cpos<|a9 es X.env).any (·.1))=ce;rw[J]<;>rfl)<|jY ?_;exact thn a λa b⟨d,e,f,h,i⟩=>g z b W e x d v a Q f c h i
end
def MtM(X:Cx)(id:String)(r:V->List V->Hp->VK->Prop):Prop:=∀a s(W:St)H x b v(c:yH)Q,Inv X a W H s->RelV x v->Vals b c->r x b H Q->wpAny (model X.prog X.w) X.A (call (.builtin id) (v::c)) (EP X a W Q) X.xe s
def Vals.one:∀{x}{a:yH},Vals [x] a->∃u,a=[u]/\RelV x u|_,_,.cons r .nil=>⟨_,rfl,r⟩
def Vals.zero:∀{a:yH},Vals [] a->a=[]|_,.nil=>rfl
theorem Vals.rep{a:yH}(h:Vals z a):∀k:Nat,Vals (az k z).flatten (az k a).flatten|0=>.nil|k+1=>kA▸kA▸g6▸g6▸Vals.append h (Vals.rep h k)
section
variable{X:Cx}{pins:yA}{W:St}{H:Hp}{s:af}{l b:Addr}{xs ys zs:List V}
def Inv.lset{b a:yH}(I:Inv X pins W H s)(z:H l=al (.J xs))(e:s.heap.get? l=al {cls:=.type "list",data:=.seq b.toArray n})(h:f b.toArray=a.toArray)(c:Vals ys a)(d:ys.length<=a7):Inv X pins W (upd H l<|.J ys) {s with heap:=s.heap.update l<|iL f,toks:=t'}:=by have q:=PySem.IsL.update e f;rw[h]at q;exact I.write (z▸trivial) (.inl rfl) (λJ u b e=>(cC s.heap (iL f) (bH b)).trans e) ⟨_,q⟩ ⟨d,a,_,c,q⟩
def Inv.lnew{a:yH}(I:Inv X pins W H s)(c:Vals ys a)(d:ys.length<=a7):Inv X pins W (upd H s.heap.objs.size<|.J ys) {s with heap:=s.heap.push {cls:=.type "list",data:=.seq a.toArray},toks:=t'}:=I.laid (λ_ _ q=>ak _ q) (aj _) ⟨d,a,0,c,aW _ rfl⟩
theorem Inv.fresh(I:Inv X pins W H s):H s.heap.objs.size=none:=I.hok.fresh<|aj _
def Inv.lstM(I:Inv X pins W H s)(h:H l=al (.J xs)):xs.length<=a7/\∃(a:yH)(n:Nat),Vals xs a/\xs.length=a.length/\s.heap.get? l=al {cls:=.type "list",data:=.seq a.toArray n}:=AY (I.hok l _ h) λz a n r e=>⟨z,a,n,r,r.length,e⟩
end
section
variable{X:Cx}
def bM0:V->List V->Hp->VK->Prop:=λx b H Q=>∃l a y,x=.ref l/\b=[y]/\H l=al (.J a)/\a.length<a7/\Q .N (upd H l<|.J<|a++[y])
def aD5:MtM X "list.append" bM0:=by intro a s W H x a v a Q I Y a h;obtain⟨l,b,y,rfl,rfl,J,b,q⟩:=h;cases Y;obtain⟨u,rfl,Z⟩:=a.one;refine AY (I.lstM J) λz a n r AA=>AB AA λhl e=>call_meets i6 ⟨_,e,rfl⟩ F.entry_list_append (F.args_list_append_2 _ _) (PySem.list_append l a.toArray n u<|by simp_all) ⟨e,⟨.N,_,I.lset J e (by simp) (r.append<|.cons Z .nil) ?_,rfl,q⟩⟩;grind
def cy1:R2:=λx y H Q=>∃l b a c,x=.ref l/\y=.ref b/\H l=al (.J a)/\H b=al (.J c)/\a.length+c.length<=a7/\∀p,H p=aT->Q (.ref p) (upd H p<|.J<|a++c)
def bV6:OpR X (eW .Add) cy1:=by
 intro a s W H x y v u Q I Z a h;obtain⟨l,b,b,b,rfl,rfl,b,c,d,q⟩:=h;cases Z;cases a;refine AY (I.lstM b) λz a n r AA=>AB AA λhl e=>AY (I.lstM c) λz2 J b b AA=>AB AA λY c=>PySem.P.add_list e c ?_ (by simp_all);have c:a.toArray++J.toArray=(a++J).toArray:=by simp
 exact c▸⟨.ref _,_,I.lnew (r.append b) (by simp_all),rfl,q _ I.fresh⟩
end
section
variable{prog:aH}{w:World}{A:aU}{E:yB}{s:af}
end
section
variable{X:Cx}
end
end L2
end
noncomputable section
namespace Att
open PySem PySem.W PySem.Calls PyProof.Rows
def ints_of_wellAll:∀a(b:yH),WellAll P h b (a.map WData.int)->mF b a:=by intro a;induction a with|nil=>intro b w;cases eK▸w;exact .nil|cons n a c=>intro b w;rw[aQ]at w;cases w with|cons a b=>cases a;exact .cons _ _<|c _ b
def script_of{l:OpenLaw}(e:l.most=al n){J:yH}(z:l.row.toRowW.claim.pre args=bY)(f:WellAll P h J args):∃a c b,J=[Value.ref a]/\args=[WData.list<|b.map WData.int]/\h.get? a=al {cls:=.type "list",data:=.seq c.toArray}/\mF c b/\b.length<=n:=by
 have a:=(pre_splitW z).1;have c:l.pre.holds [] {args:=args}=true:=(pre_splitW z).2;obtain⟨d,r,rfl,h1,h2⟩:=hasAllW_cons a;obtain rfl:=hasAllW_nil h2;obtain⟨a,rfl,h3⟩:=hasW_list h1;obtain⟨b,rfl⟩:=items_int h3;have d:b.length<=n:=by
  have Z:=have Z:=(holds_andW c).1;e▸Z;have Y:=condW_of Z<|w_not<|w_lt w_lit<|w_len_list<|w_arg rfl;rw[av]at Y;refine lN λq=>?_;have a:=by omega
  first|(exact ij (gc a▸Y) (by decide))|(simp at Y;omega)
 cases f with|cons a c=>cases c;cases a with|list c a=>exact⟨_,_,b,rfl,rfl,c,ints_of_wellAll b _ a,d⟩
def post_true(l:OpenLaw)args:l.row.toRowW.claim.post args (.bool bY) args=true:=postW_of (show WShape.has [] (.bool bY) .bool=bY by first|rfl|decide|simp[WShape.armsAll])
  (w_eq_bool (w_res rfl) w_lit) rfl
def attach_call{l:OpenLaw}{b:yI}(s:l.most=al n)(t:d.params.defaults=[])(call:∀(w:World)(m h:af)(g mb:yD)(e:Addr)(o:Obj)(p i J:Value)(a:Addr)(c:yH)(j:List Int),Ground q b [] XP w m g mb h.heap->YP w h.heap->h.heap.get? e=al o->o.data=.func (docDef d.name d.params d.body d.scope p i J)->h.heap.CodeRec i d.name->g d.name=al (.ref e)->h.heap.get? a=al {cls:=.type "list",data:=.seq c.toArray}->mF c j->j.length<=n->h.gens=#[]->fy (model l.prog w) kg (.call (.ref e) ⟨[.ref a],[]⟩) (λr k=>r=.ok (.ret<|.bool bY)/\OldK h.heap k.heap/\k.os=h.os/\gB k.gens) h):WalkO q b XP YP l.row.toRowW d []<|λf c=>mH f c:=by intro w m h g mb G Y e o p i J c kV d f k a n q b b b b a6 b0 r a8;obtain rfl:c=.none:=Dflts.none a t;obtain rfl:kV=.none:=Dflts.noKw a;obtain⟨a,c,j,rfl,rfl,t,z,Z⟩:=script_of s b r;refine enter_call<|fB (call w m h g mb e o p i J a c j G Y d (fd_plain f) k n t z Z q) λr k a=>?_;obtain⟨rfl,h2,b,c⟩:=a;exact⟨.inl ⟨.bool bY,.bool bY,[],rfl,λ_=>rfl,.bool bY,post_true l _,λ_=>⟨List.Pairwise.nil,λ_ a=>(nomatch a)⟩⟩,h2,b,c⟩
section
variable{prog:aH}{w:World}{A:aU}{E:yB}{s:af}{K:Frag}
end
end Att
noncomputable section
namespace L2
open PySem PySem.Spec PyProof.Rows
theorem aB7:∀{a:yH}{b},mF a b->Vals (b.map V.int) a|_,_,.nil=>.nil|_,_,.cons n t h=>.cons ⟨t,rfl⟩<|aB7 h
noncomputable def defArgs(s:Stmt):bK:=match s with|.FunctionDef _ a _ _ _ _ _ _ _ _=>a|_=>{posonlyargs:=[],args:=[],vararg:=aT,kwonlyargs:=[],kw_defaults:=[],kwarg:=aT,defaults:=[]}
noncomputable def defBody(s:Stmt):List Stmt:=match s with|.FunctionDef _ _ b _ _ _ _ _ _ _=>b|_=>[]
noncomputable def defScope(s:Stmt):Scope:=match s with|.FunctionDef _ _ _ _ _ _ a _ _ _=>a|_=>{kind:=.function,names:=[],isGenerator:=ce,isCoroutine:=ce}
noncomputable abbrev CX0:CXT:=λ_ _ _ _ _ _=>False
abbrev E0:XK:=λ_ _ _=>False
def aU5:qj CX0 X E0:=λ_ _ _ _ _ _ _ h=>h.elim
structure Fun(K:ac)(x qual:Str)(st:Stmt)(f:Addr)(fd:bS):Prop where
 ex:∃(oc:Value)(od:yJ)(kV doc pm:Value)(an:yJ)(cdv ct:Value)(osl:yF),fd=cU x qual (defArgs st) (defBody st) (defScope st) .none kV doc pm an cdv ct/\K.lookup f=al ⟨oc,od,.func fd,osl⟩/\fF K cdv qual=bY
 kp:bR K (.ref f)=bY
section
variable{P:aH}{w:World}{K:ac}{mg:yD}{base:Heap}
def Fun.ok{st}(F:Fun K x qual st f fd)(S:FnScope N ps<|defScope st)(len:∀a H Q E,sp a H Q E->a.length=ps.length)(b:∀(J:Value)(A:aU)(z:List Env)(s:af)(H:Hp)(a:List V)(Q:VK)(E:XK),Room k (A.deeper<|gm qual (defScope st) s.heap.objs.size f J)->sp a H Q E->∃t,PSs (as7 CX0 P w K mg base N qual (defScope st) f J A z s H E).nox (defBody st) t/\t {nx:=λ_ H'=>Q .N H',rt:=Q} (ah5 N a) H):FnOk P w K mg base CX0 (k+1) f fd ps sp:=by obtain⟨a,a,kV,a,a,a,J,a,a,rfl,lk,Y⟩:=F.ex;exact bM7 lk Y S len λA z s H a Q E c Z=>AD (b J A z s H a Q E c Z) λt h q=>⟨t,h.nox,q⟩
def Fun.binds{st}(F:Fun K x qual st f Z)(h:∀(kV z Y:Value)(a:yJ)(J b:Value)(c:yH),c.length=ps.length->eY (cU x qual (defArgs st) (defBody st) (defScope st) .none kV z Y a J b) ⟨c,[]⟩=pure (ps.zip c)):Binds K Z ps []:=by obtain⟨a,a,kV,z,Y,a,J,b,c,rfl,lk,c⟩:=F.ex;exact .all<|h kV z Y a J b
def aO2{st}{b a:yJ}{J:yF}{kV}(l:K.lookup f=al ⟨oc,b,.func<|cU x qual (defArgs st) (defBody st) (defScope st) .none kV z Y a h ct,J⟩)(c:fF K h qual=bY)(k:bR K (.ref f)=bY):Fun K x qual st f<|cU x qual (defArgs st) (defBody st) (defScope st) .none kV z Y a h ct:=⟨⟨oc,b,kV,z,Y,a,h,ct,J,rfl,l,c⟩,k⟩
end
section
variable{X:Cx}
def pv i{pos}(hN:autoParam (X.N[i]?=al x) Zq4._auto_1)(hv:autoParam (Vis X.env.scope x) Zq5._auto_1)(hd:autoParam ((x==("__debug__":Str))=ce) Zq1._auto_1)(h:autoParam ((x==("__classdict__":Str))=ce) Zq1._auto_1):PE X (.Name x pos) (bm8 i):=aB9 hN hv hd h
end
def cx1{B:Prop}(h:B):if ce=bY then A else B:=by simp_all
def iteT{B:Prop}(h:A):if bY=bY then A else B:=by simp_all
def af9(H H':Hp):Prop:=∀b o,H b=al o->H' b=al o
def af9.refl H:af9 H H:=λ_ _ h=>h
def af9.trans(a:af9 H z)(b:af9 z H2):af9 H H2:=λc o h=>b c o<|a c o h
def ba5{Y:yL}(I:Nat->af->Prop)(turn:∀n s,I n s->wpAny (model prog w) A (lK it) (λr b=>match r with|none=>R (.ok .next) b|some v=>wpAny (model prog w) A (gj z it v) (λ_ Z=>wpAny (model prog w) A (iC z env v) (λ_ d=>wpAny (model prog w) A (forIn Y bY λc r=>if r=bY then do let ok<-ie c env<|eval c env;pure (ForInStep.yield ok)else pure<|ForInStep.yield r) (λok c=>if ok=bY then wpAny (model prog w) A (eval J env) (λx f=>wpAny (model prog w) A (call (.builtin "list.append") [Uu,x]) (λ_ g=>∃m,m<n/\I m g) (gC (model prog w) A env λe a=>R (.error e) a) f) (gC (model prog w) A env λe a=>R (.error e) a) c else∃m,m<n/\I m c) (gC (model prog w) A env λe a=>R (.error e) a) d) (gC (model prog w) A env λe a=>R (.error e) a) Z) (gC (model prog w) A env λe a=>R (.error e) a) b) (gC (model prog w) A env λe a=>R (.error e) a) s)n(h:I n s):fy (model prog w) A (.compLoop (.ListComp J [⟨z,iter,Y,0⟩] scope pos) 0 it Uu env) R s:=by refine codeAny_loop rfl I (λn s a=>?_) n h;refine wpAny_noted ?_;rw[compTurn_list];refine ai<|kF<|ai<|bD (turn n s a) (λr b a=>?_) λ_ _ h'=>h';cases r with|none=>exact aE a|some v=>refine ai<|bD a (λ_ Z a=>?_) λ_ _ h'=>h';refine ai<|bD a (λ_ d a=>ai<|bD a (λok c a=>?_) λ_ _ h'=>h') λ_ _ h'=>h';cases ok with|false=>exact aE ⟨rfl,a⟩|true=>exact ai<|ai<|bD a (λx f a=>ai<|bD a (λ_ g a=>aE<|aE ⟨rfl,a⟩) λ_ _ h'=>h') λ_ _ h'=>h'
noncomputable def af8(a:yC):List (Str×cA)->List (Str×Addr)->List (Str×Addr)|[],b=>b|(n,k)::r,b=>af8 a r<|if k==.free then(match a.lookup n with|some c=>(n,c)::b|none=>b)else b
theorem ai3:∀a z,(∀y∈a,y.2=.free->∃c,env.cells.lookup y.1=al c)->(forIn a z λ(x)(b:yC)=>(if x.2==.free then do let c<-cellOf env x.1;pure<|ForInStep.yield ((x.1,c)::b)else pure<|ForInStep.yield b:Sem<|ForInStep<|List<|Str×Addr))=pure (af8 env.cells a z)|[],z,_=>by rw[jZ];rfl|(n,k)::r,z,h=>by have J:=λa=>ai3 r a λy a=>h y<|ah _ a;rw[mq];unfold af8;cases e:(k==NameKind.free)with|false=>simp only[if_false];exact J z|true=>
   have a:=by simpa using e
   refine AF (h (n,k) am a) λc a=>?_;have b:cellOf env n=pure c:=by unfold cellOf;rw[a]
   simp only[b,a];exact J _
def qh(h:∀y∈scope.names,y.2=.free->∃c,env.cells.lookup y.1=al c):closureFor scope env=pure (af8 env.cells scope.names []):=by have:=ai3 scope.names [] h;show(forIn scope.names [] (λ(x)(cs)=>(if x.2==.free then do let c<-cellOf env x.1;pure<|ForInStep.yield ((x.1,c)::cs)else pure<|ForInStep.yield cs:Sem<|ForInStep<|List<|Str×Addr))>>=pure)=_;rw[this];rfl
theorem clOf_mem:∀{names}{J:yC},(n,c)∈af8 cells names J->cells.lookup n=al c\/(n,c)∈J
 |[],_,h=>.inr h|(m,k)::r,J,h=>by
  unfold af8 at h;rcases clOf_mem h with z|z;.exact .inl z
  .cases e:(k==NameKind.free)with|false=>simp only[e,if_false]at z;exact .inr z|true=>simp only[e]at z;cases q:cells.lookup m with|none=>rw[q]at z;exact .inr z|some d=>
     rw[q]at z;rcases aD.mp z with y|y;.cases y;exact .inl q
     .exact .inr y
theorem aP8(hc:cells.lookup n=al c):∀{names}{z:yC},((n,NameKind.free)∈names\/(n,c)∈z)->(n,c)∈af8 cells names z
 |[],_,h=>by rcases h with h|h;(exact ij h<|by simp);exact h|(m,k)::r,z,h=>by
  unfold af8;refine aP8 hc ?_;rcases h with h|h
  .rcases aD.mp h with e|h;.cases e;right;simp[hc]
   .exact .inl h
  .right;cases e:(k==NameKind.free)with|false=>simpa using h|true=>simp only[];cases q:cells.lookup m with|none=>exact h|some d=>exact ah _ h
theorem ah4{α:Type}{c}:∀{l:List<|Str×α},(n,c)∈l->(∀d,(n,d)∈l->d=c)->l.lookup n=al c|(m,d)::r,h,u=>by rw[bj];cases e:n==m with|true=>simp_all|false=>
   rcases aD.mp h with z|z;.lia
   .exact ah4 z λa h'=>u a<|ah _ h'
def ql(a:cells.lookup n=al c)(h:(n,NameKind.free)∈names):(af8 cells names []).lookup n=al c:=by refine ah4 (aP8 a<|.inl h) λd a=>?_;rcases clOf_mem a with z|z;all_goals simp_all
theorem zn:∀a n(h:yC),aX n a h=aX n a []++h
 |[],_,h=>by simp[aX]|(x,k)::r,n,h=>by
  unfold aX;split;.rw[zn r (n+1) ((x,n)::h),zn r (n+1) [(x,n)]];simp
  .exact zn r n h
set_option tactic.hygienic true in theorem zE:∀{names}{n}{J:yC}{x}{c},(x,c)∈aX n names J->(x,NameKind.cell)∈names\/(x,c)∈J
 |[],_,_,_,_,h=>.inr h|(y,k)::r,n,J,x,c,h=>by
  unfold aX at h;split at h
  .rename_i hk;rcases zE h with z|z;.exact .inl<|ah _ z
   .rcases aD.mp z with e|z
    .cases e;have:=by simpa using hk
     subst this;exact .inl am
    .exact .inr z
  .rcases zE h with z|z;.exact .inl<|ah _ z
   .exact .inr z
def zK{α:Type}x:∀(l r:List<|Str×α),(l++r).lookup x=(l.lookup x).or (r.lookup x)|[],r=>by simp|(y,v)::l,r=>by grind
noncomputable def qd(b:yI)(a:yE)(scope:Scope)(d:yI)(c:Scope):Bool:=(scope.kind==.function)&&(scope.names.all λy=>!(y.2==.free)||(c.names.lookup y.1==al .cell||c.names.lookup y.1==al .free))&&(scope.names.all λy=>!(y.2==.local)||scope.names.lookup y.1==al .local)&&(scope.names.all λy=>!(y.2==.cell)||(scope.names.all λz=>!(z.1==y.1)||z.2==.cell))&&(a.length==b.length)&&((b.zip a).all λy=>match y.2 with|none=>bY|some j=>d[j]?==al y.1&&scope.names.lookup y.1==al .free)
structure CompCk(N':yI)(src:yE)(scope:Scope)(XN:yI)(xs:Scope):Prop where
 kind:scope.kind=.function
 fr:∀y∈scope.names,y.2=.free->xs.names.lookup y.1=al .cell\/xs.names.lookup y.1=al .free
 loc:∀y∈scope.names,y.2=.local->scope.names.lookup y.1=al .local
 cel:∀y∈scope.names,y.2=.cell->∀z∈scope.names,z.1=y.1->z.2=.cell
 len:src.length=N'.length
 sr:∀(i j:Nat)(x:Str),src[i]?=al (al j)->N'[i]?=al x->XN[j]?=al x/\scope.names.lookup x=al .free
def bC3(h:qd J src scope Uu Y=bY):CompCk J src scope Uu Y:=by
 unfold qd at h;simp only[ae]at h;obtain⟨⟨⟨⟨⟨h1,h2⟩,h3⟩,h4⟩,h5⟩,Z⟩:=h;refine⟨by simpa using h1,λy hy e=>?_,λy hy e=>?_,λy hy e z hz ez=>?_,by simpa using h5,λi j x e1 e2=>?_⟩;.have:=aG.mp h2 y hy;simpa[e]using this
 .have:=aG.mp h3 y hy;simpa[e]using this
 .have:=aG.mp h4 y hy;simp only[e,kH]at this;have:=aG.mp this z hz;simpa[ez]using this
 .have hm:(x,al j)∈J.zip src:=by refine aF (i:=i) ?_;rw[List.getElem?_zip_eq_some];exact⟨e2,e1⟩
  have:=aG.mp Z _ hm;simpa using this
noncomputable abbrev zQ(X:Cx)(b:yI)(scope:Scope)(Cc:Addr)(cells:yC)(s:af)(H:Hp)(ex:List Addr):Cx where prog:=X.prog;w:=X.w;K:=X.K;mg:=X.mg;base:=X.base;A:=X.A;N:=b;s₀:=s;H₀:=H;env:={scope:=fX scope X.env,locals:=Cc,globals:=X.env.globals,cells:=cells,qual:=X.env.qual,func:=aT,code:=X.env.code,frame:=X.env.frame,builtins:=X.env.builtins};outer:=X.stack;stack:=X.stack;ex:=ex;fn:=λx=>scope.names.lookup x==al .cell;calm:=X.calm;pn:=[];xe:=λ_ _=>False
def PIf(X:Cx)(b:yL)(t:TT):Prop:=∀a s(W:St)H Q,Inv X a W H s->t W H Q->wpAny (model X.prog X.w) X.A (forIn b bY λc r=>if r=bY then do let ok<-ie c X.env<|eval c X.env;pure (ForInStep.yield ok)else pure<|ForInStep.yield r) (TP X a W Q) X.xe s
def cy0:TT:=λ_ H Q=>Q bY H
def bQ2:PIf X [] cy0:=λ_ _ _ H _ I h=>wpAny_tests_nil ⟨H,I,h⟩
def bG0(h:PT X c t):PIf X [c] t:=λz s W H Q I a=>wpAny_tests_one<|h z s W H Q I a
noncomputable def aB4(a:yE)(W:St):St:=a.map λo=>match o with|none=>aT|some j=>(W[j]?).join
def tComp(a:yE)(b:TI)(g:TG)(f:TT)(h:TE):TE:=λW H Q=>b W H λJ c=>∀D,c D=aT->∃b:Nat->Nat->St->Hp->Prop,(∃m,b 0 m (aB4 a W) (upd c D<|.J []))/\∀i m c H',b i m c H'->(J.stop i H'/\Q (.ref D) H')\/(J.go i H'/\∃N:St->Hp->Prop,(∀d a,N d a->∃e,e<m/\b (i+1) e d a)/\∀x a,J.yld i H' x a->g x c a λa b=>f a b λb c=>if b=bY then h a c λv d=>∃b,d D=al (.J b)/\b.length<a7/\N a (upd d D<|.J<|b++[v])else N a c)
theorem qz{env:Env}:∀{a:List<|Str×cA}{x}{k},a.lookup x=al k->(a.map λ(n,k)=>if(k==NameKind.free&&env.scope.kind==.function&&env.kindOf n==al .cell)then(n,NameKind.cell)else(n,k)).lookup x=al (if(k==NameKind.free&&env.scope.kind==.function&&env.kindOf x==al .cell)then NameKind.cell else k)|[],_,_,h=>by simp at h|(n,k)::r,x,a,h=>by have z:=@qz env r x a;show dJ x ((if(k==NameKind.free&&env.scope.kind==.function&&env.kindOf n==al .cell)=bY then(n,NameKind.cell)else(n,k))::_)=_;cases a:x==n with
  |true=>
   have e:=beq_iff_eq.mp a;subst e;simp only[bj,a]at h;cases h;by_cases b:(k==NameKind.free&&env.scope.kind==.function&&env.kindOf x==al .cell)=bY;.rw[dO b,dO b];simp only[bj,a]
   .rw[ef b,ef b];simp only[bj,a]|false=>
   simp only[bj,a]at h;by_cases b:(k==NameKind.free&&env.scope.kind==.function&&env.kindOf n==al .cell)=bY;.rw[dO b];simp only[bj,a];exact z h
   .rw[ef b];simp only[bj,a];exact z h
theorem qk{env:Env}:∀{a:List<|Str×cA}{x},a.lookup x=aT->(a.map λ(n,k)=>if(k==NameKind.free&&env.scope.kind==.function&&env.kindOf n==al .cell)then(n,NameKind.cell)else(n,k)).lookup x=aT|[],_,_=>rfl|(n,k)::r,x,h=>by have z:=@qk env r x;show dJ x ((if(k==NameKind.free&&env.scope.kind==.function&&env.kindOf n==al .cell)=bY then(n,NameKind.cell)else(n,k))::_)=_;cases a:x==n with|true=>simp only[bj,a]at h;cases h|false=>
   simp only[bj,a]at h;by_cases b:(k==NameKind.free&&env.scope.kind==.function&&env.kindOf n==al .cell)=bY;.rw[dO b];simp only[bj,a];exact z h
   .rw[ef b];simp only[bj,a];exact z h
def au1{W:St}{f:List Addr}(Y:CompCk N' src scope X.N X.env.scope)(I:Inv X a6 W H s)(j:∀b∈f,FpOk X a6 H b)(w:∀b∈f,b<s.heap.objs.size)(c:∃tk,s4={s with heap:=fT (s.heap.push {cls:=.type "dict",data:=.dict #[]}) scope.names,toks:=tk}):Inv (zQ X N' scope s.heap.objs.size (aX (s.heap.objs.size+1) scope.names<|af8 X.env.cells scope.names []) s H f) [] (aB4 src W) H s4:=by
 obtain⟨tk,rfl⟩:=c;have m:∀b o,s.heap.get? b=al o->(fT (s.heap.push {cls:=.type "dict",data:=.dict #[]}) scope.names).get? b=al o:=λb o e=>dU _ _ b o<|ak _ e;have ok:=cellsFrom_ok scope.names (s.heap.push {cls:=.type "dict",data:=.dict #[]}) (s.heap.objs.size+1) [] ⟨λ_ _ g=>(nomatch g),List.Pairwise.nil⟩ (by simp_all);rw[cx]at ok;have r:=zn scope.names (s.heap.objs.size+1) (af8 X.env.cells scope.names []);have lk:∀x c,(aX (s.heap.objs.size+1) scope.names<|af8 X.env.cells scope.names []).lookup x=al c->((x,c)∈aX (s.heap.objs.size+1) scope.names []/\(x,NameKind.cell)∈scope.names)\/(X.env.cells.lookup x=al c/\(aX (s.heap.objs.size+1) scope.names []).lookup x=aT):=λx c e=>by rw[r,zK]at e;cases q:(aX (s.heap.objs.size+1) scope.names []).lookup x with|some d=>rw[q]at e;have b:d=c:=ay e;subst b;have g:=aL q;refine .inl ⟨g,?_⟩;rcases zE g with z|z;all_goals simp_all|none=>rw[q]at e;have b:(af8 X.env.cells scope.names []).lookup x=al c:=e;rcases clOf_mem (aL b)with z|z;all_goals simp_all
 have l:∀x c,(x,c)∈aX (s.heap.objs.size+1) scope.names []->s.heap.objs.size+1<=c:=λx c h=>(ok.empty x c h).2;have A:∀x c,X.env.cells.lookup x=al c->c<s.heap.objs.size:=λx c h=>AF (I.cell x c h) λv q=>q.lt;have i:∀b,b<s.heap.objs.size->b≠s.heap.objs.size:=λb h=>aI h;have B:∀b∈f,H b=aT/\b≠X.env.locals/\b∉X.fs:=λb f=>⟨(j b f).1,(j b f).2.1,(j b f).2.2.1⟩;have p:(fT (s.heap.push {cls:=.type "dict",data:=.dict #[]}) scope.names).Ns s.heap.objs.size<|λ_=>aT:=(nV s.heap<|.type "dict").keeps<|dU _ _;have C:∀x k,scope.names.lookup x=al k->(fX scope X.env).names.lookup x=al (if(k==NameKind.free&&X.env.scope.kind==.function&&X.env.kindOf x==al .cell)then NameKind.cell else k):=λx k e=>qz (env:=X.env) e;have k:∀x,scope.names.lookup x=aT->(fX scope X.env).names.lookup x=none:=λx e=>qk (env:=X.env) e;have D:∀x c,(x,NameKind.free)∈scope.names->X.env.cells.lookup x=al c->(aX (s.heap.objs.size+1) scope.names<|af8 X.env.cells scope.names []).lookup x=al c:=λx c a h=>by rw[r,zK];cases q:(aX (s.heap.objs.size+1) scope.names []).lookup x with
  |some d=>
   rcases zE (aL q)with z|z;.cases Y.cel _ z rfl _ a rfl
   simp_all|none=>exact ql h a
 have h:∀x,(x,NameKind.free)∈scope.names->∃c,X.env.cells.lookup x=al c:=λx a=>I.ok.has x<|Y.fr _ a rfl;refine⟨⟨I.ok.mod,Y.kind,I.ok.glob,I.ok.blt,aj _,λx y c g t=>?_,λx a=>?_,λx c a e=>?_,I.ok.hd,I.ok.frames,.inl rfl,λb f=>⟨i b<|w b f,λx c e z=>?_⟩,I.bs,au I.ok.bsz I.sz,λb o e f=>?_,λb f z=>?_,I.stack,I.stkFree⟩,rfl,I.bare,Un.kept m,⟨_,p,λi x v g t b=>?_⟩,λx c e=>?_,I.hok.fresh<|aj _,λx c e=>?_,λp b=>ij (show p∈([]:yA)from b) (by simp),I.hok.kept m,by unfold aB4;rw[av];exact Y.len⟩
 .rcases lk x c g with⟨b,_⟩|⟨b,_⟩<;>rcases lk y c t with⟨d,_⟩|⟨d,_⟩;.exact iI ok.apart b d
  .exact ij (aA (A _ _ d) (g7<|l _ _ b)) (bO _)
  .exact ij (aA (A _ _ b) (g7<|l _ _ d)) (bO _)
  .exact I.ok.inj x y c b d
 .cases q:scope.names.lookup x with|none=>have b:(fX scope X.env).names.lookup x=al .cell\/(fX scope X.env).names.lookup x=al .free:=a;rw[k x q]at b;rcases b with z|z<;>cases z|some k=>have b:(fX scope X.env).names.lookup x=al .cell\/(fX scope X.env).names.lookup x=al .free:=a;rw[C x k q]at b;cases k with|free=>exact AF (h x<|aL q) λc h=>⟨c,D x c (aL q) h⟩|cell=>exact AF (z5 (n:=s.heap.objs.size+1) q) λc h=>⟨c,by show(aX _ _ _).lookup x=_;rw[r,zK,h];rfl⟩|_=>simp_all
 .have b:(scope.names.lookup x==al .cell)=true:=a;have q:scope.names.lookup x=al .cell:=by simpa using b
  rcases lk x c e with⟨a,_⟩|⟨a,b⟩;.have:=l _ _ a;show s.heap.objs.size<=c;lia
  .refine AF (z5 (n:=s.heap.objs.size+1) q) λd a=>?_;cases a▸b
 .subst z;rcases lk x c e with⟨a,_⟩|⟨a,_⟩;.exact ij (aA (w c f) (g7<|l _ _ a)) (bO _)
  .exact(j c f).2.2.2.2.1 x c a rfl
 .exact((j b f).2.2.2.1).elim (λz=>I.ok.noex b o e z) λz=>ij (aA (aM e) (au I.ok.bsz z)) (bO _)
 .rcases aD.mp (I.stkSub b z)with y|y;.exact(B b f).2.1 y
  .exact(B b f).2.2 y
 .have J:(aB4 src W)[i]?=al (al v):=t;unfold aB4 at J;rw[aK]at J;cases q:src[i]? with|none=>simp_all|some o=>rw[q]at J;cases o with|none=>cases J|some j=>
    have Z:(W[j]?).join=al v:=ay J;have b:W[j]?=al (al v):=by cases a:W[j]? with|none=>cases a▸Z|some c=>rw[a]at Z;exact congrArg al Z
    refine AB (Y.sr i j x q g) λh1 h2=>have g:=aL h2;AD I.loc λmX a a=>?_;have c:Vis X.env.scope x:=(Y.fr _ g rfl).elim (λz=>.inr<|.inl z) λz=>.inr<|.inr z;refine AD (a j x v h1 b c) λu a look=>⟨u,a,.inr ?_⟩;have a:∃c,X.env.cells.lookup x=al c/\s.heap.IsCell c (al u):=by
     rcases look with⟨z,_⟩|⟨_,c,b,d⟩;.have z':X.env.scope.names.lookup x=al .local:=z;rcases Y.fr _ g rfl with y|y<;>(simp_all)
     .exact⟨c,b,d⟩
    refine AD a λc a b=>⟨?_,c,D x c g a,b.keeps m⟩;show(fX scope X.env).names.lookup x=al .cell\/(fX scope X.env).names.lookup x=al .free;rw[C x _ h2];by_cases h:(NameKind.free==NameKind.free&&X.env.scope.kind==.function&&X.env.kindOf x==al .cell)=bY;.exact dO h▸.inl rfl
    .exact ef h▸.inr rfl
 .rcases lk x c e with⟨a,_⟩|⟨a,_⟩;.exact⟨_,(ok.empty x c a).1⟩
  .exact AF (I.cell x c a) λv q=>⟨v,q.keeps m⟩
 .rcases lk x c e with⟨a,_⟩|⟨a,_⟩;.exact I.hok.fresh<|by have:=l _ _ a;lia
  .exact I.freeC x c a
def aQ8{W a:St}(I:Inv X h W H s)(Y:∀b∈c,FpOk X h H b)(J:Inv (zQ X N' scope s.heap.objs.size cells s H c) [] a Z s5)(d:eG s.heap.objs.size s5.heap h'):Inv X h W Z {s5 with heap:=h'}:=by
 have f:∀b o,s.heap.get? b=al o->b≠s.heap.objs.size:=λb o e=>aI<|aM e;have u:=J.base;refine I.call' J.os ⟨λb o e n a c=>?_,λb o e n a c=>?_,u.free,λb o e c=>?_,u.tups,u.frzs,u.tbls⟩ (λb o e=>?_) J.bare λb a=>⟨(Y b a).2.2.2.1,(Y b a).2.1,(Y b a).2.2.2.2.1,(Y b a).2.2.2.2.2⟩;.exact(d.2 b<|f b o e).trans<|u.keep b o e n a c
 .exact AF (u.slot b o e n a c) λsl q=>⟨sl,(d.2 b<|f b o e).trans q⟩
 .exact AF (u.there b o e c) λo' q=>⟨o',(d.2 b<|f b o e).trans q⟩
 .have fr:=J.free;refine(J.hok b o e).stay (λc a a q=>(d.2 c ?_).trans q) (λ_ q=>q) λ_ _ q=>q;lia
def aj3{E:yB}{J:yC}(h:Q {scope:=scope,locals:=s.heap.objs.size,globals:=globals,cells:=aX (s.heap.objs.size+1) scope.names J,qual:=qual,func:=aT,code:=z.code,frame:=z.frame,builtins:=z.builtins}
   {s with heap:=fT (s.heap.push {cls:=.type "dict",data:=.dict #[]}) scope.names}):wpAny M A (gP scope globals J [] qual aT .none<|al z) Q E s:=by simp only[gP,if_true];refine ai<|wpAny_alloc ?_;refine ai<|wpAny_layCells _ (λname kind cells=>by cases hkc:kind==NameKind.cell<;>simp[]) _ _ _ _ ?_;rw[cx ..];refine ai ?_;rw[jZ];exact aE<|aE h
def aC8{Ww:Nat->Nat->St->Hp->Prop}{QD:Hp->Prop}{f:St}(a:X'.xe=λ_ _=>False)(Y:X'.calm=bY)(k:Inv X' [] f H0 s4)(T:Turn X'.prog X'.w X'.K tg J fp it tn)(p:tn 0 s4.heap)(l:∀H':Hp,(∀b∈fp,H' b=aT)->∀b∈fp,FpOk X' [] H' b)(q:∀b∈fp,H0 b=aT)(r:Ww 0 m0 f H0)(turn:∀i m c H',Ww i m c H'->(J.stop i H'/\QD H')\/(J.go i H'/\∃N:St->Hp->Prop,(∀b a,N b a->∃m',m'<m/\Ww (i+1) m' b a)/\∀x a,J.yld i H' x a->g x c a λd Z=>tc d Z λb a=>if b=bY then te d a λv e=>∃j,e D=al (.J j)/\j.length<a7/\N d (upd e D<|.J<|j++[v])else N d a))(j:PG X' tg g)(v:PIf X' a4 tc)(w:PE X' a2 te)(g:∀c H' b,Inv X' [] c H' b->QD H'->R (.ok .next) b):fy (model X'.prog X'.w) X'.A (.compLoop (.ListComp a2 [⟨tg,iter,a4,0⟩] scope pos) 0 (.ref it) (.ref D) X'.env) R s4:=by
 have nox:∀{α:Type}{t:Sem α}{Q b:α->af->Prop}{E:yB}{s:af},wpAny (model X'.prog X'.w) X'.A t Q X'.xe s->(∀a s,Q a s->b a s)->wpAny (model X'.prog X'.w) X'.A t b E s:=λh a=>bD h a λ_ _ z=>by simp_all
 refine ba5 (λn b=>∃i c H',Inv X' [] c H' b/\tn i b.heap/\(∀b∈fp,H' b=aT)/\Ww i n c H') ?_ m0 ⟨0,f,H0,k,p,q,r⟩;rintro n b⟨i,d,Z,c,e,f,a⟩;rcases turn i n d Z a with⟨a,h⟩|⟨m,N,p,step⟩;.exact nox (T.done X' rfl rfl rfl Y i [] b d Z X'.xe c (l Z f) e a) λr s4⟨a,k⟩=>a▸g d Z s4 k h
 .refine nox (T.item X' rfl rfl rfl Y i [] b d Z X'.xe c (l Z f) e m) λr s4⟨u,a,b⟩=>?_;subst a;refine nox b λ_ b⟨x,e,a,c,f,h,g⟩=>have a8:=a.pinned (l e g) (T.obj _ _ h);nox (j _ b d e x u _ a8 c<|step x e f) λ_ j⟨g,k,l,q⟩=>?_;have again:∀{d:St}{a:Hp}{f:af},Inv X' ([]++aE1 fp b.heap) d a f->N d a->∃m,m<n/\∃i c H',Inv X' [] c H' f/\tn i f.heap/\(∀b∈fp,H' b=aT)/\Ww i m c H':=λ{d a f}c b=>by refine AD (p d a b) λm' b f=>⟨m',b,i+1,d,a,c.unpinned,T.keep _ _ _ h λb a o e=>(c.pin (b,o)<|aN _<|aN _<|js a e).1,λb a=>?_,f⟩;exact AD (T.obj _ _ h b a) λo e d=>(c.pin (b,o)<|aN _<|aN _<|js a e).2.1
  refine nox (v _ j g k _ l q) λb f⟨a,c,d⟩=>?_;cases b with|false=>rw[ef bB]at d⊢;exact again c d|true=>rw[dO rfl]at d⊢;exact nox (w _ f g a _ c d) λv a⟨y,b,c,d,j,e,f,h⟩=>nox (aD5 _ a g b (.ref D) [y] (.ref D) [v] (λ_ a=>N g a) c rfl (.cons d .nil) ⟨D,j,y,rfl,rfl,e,f,h⟩) λa a⟨_,a,I9,_,b⟩=>again I9 b
def bf8 N' src (b3:qd N' src scope X.N X.env.scope=bY)(hi:PI X tg iter wi)(Z:X.calm=bY)(b0:∀(b:Addr)(a:yC)(s:af)(H:Hp)(ex:List Addr),PG (zQ X N' scope b a s H ex) tg g/\PIf (zQ X N' scope b a s H ex) a5 tc/\PE (zQ X N' scope b a s H ex) a2 te)(hs:autoParam (∀x,d8 iter X.env x=pure x) Zq3._auto_1):PE X (.ListComp a2 [⟨tg,iter,a5,0⟩] scope pos) (tComp src wi g tc te):=by
 intro z s W H Q I h;have g:=bC3 b3;rw[eval_ListComp];have a:=qh λy b e=>I.ok.has y.1<|g.fr y b e;refine il rfl hs a g.kind g.loc<|thn (hi z s W H _ I h) λv a a=>thn a λa d h2=>AG h2 λit f l J h e a T AA=>AI AA λa0 c b=>?_;subst e;have e:=a.fresh;obtain⟨b,⟨m0,m⟩,turn⟩:=b _ e;have j:=a.lnew (t':=d.toks) .nil<|cy _;have a1:∀b∈f,b<d.heap.objs.size:=λb a=>AD (T.obj _ _ a0 b a) λo q _=>aM q;have k:∀b∈f,FpOk X z (upd h d.heap.objs.size<|.J []) b:=λb a=>⟨zb (aI<|a1 b a)▸(c b a).1,(c b a).2⟩;refine cG<|aj3 ?_;generalize Y:({d with heap:=d.heap.push {cls:=.type "list",data:=.seq ([]).toArray},toks:=d.toks})=c at j;have n:∀b∈f,b<c.heap.objs.size:=λb a=>by rw[<-Y];rw[cx];exact g9<|a1 b a
 have i:=au1 (s4:={c with heap:=fT (c.heap.push {cls:=.type "dict",data:=.dict #[]}) scope.names}) g j k n ⟨_,rfl⟩;have g:l 0<|fT (c.heap.push {cls:=.type "dict",data:=.dict #[]}) scope.names:=T.keep _ _ _ a0 λb a o e=>dU _ _ b o<|ak _<|Y▸ak _ e;refine AI (b0 c.heap.objs.size (aX (c.heap.objs.size+1) scope.names<|af8 X.env.cells scope.names []) c (upd h d.heap.objs.size<|.J []) f) λhg l n=>?_;have o:∀H':Hp,(∀b∈f,H' b=aT)->∀b∈f,FpOk (zQ X N' scope c.heap.objs.size (aX (c.heap.objs.size+1) scope.names<|af8 X.env.cells scope.names []) c (upd h d.heap.objs.size<|.J []) f) [] H' b:=λH' e b a=>⟨e b a,(i.ok.exf b a).1,i.ok.exfs b a,.inl a,(i.ok.exf b a).2,λp a=>ij (a) (by simp)⟩;have e:=T;have p:=λb a=>(k b a).1;have L:=aC8 (X':=zQ X N' scope c.heap.objs.size (aX (c.heap.objs.size+1) scope.names<|af8 X.env.cells scope.names []) c (upd h d.heap.objs.size<|.J []) f) (R:=compPost (model X.prog X.w) X.A X.xe aT (EP X z W Q) (Value.ref d.heap.objs.size) c.heap.objs.size) (iter:=iter) (scope:=scope) (pos:=pos) rfl Z i e g o p m turn hg l n<|λa H' a a q=>AD a.loc λmm e _=>⟨mm,e,λh' b=>⟨.ref d.heap.objs.size,H',aQ8 j k a b,rfl,q⟩⟩;exact iO L<|T.self _ _ _ _ _ g L
section
variable{X:Cx}
def cm6:bM "abs"=al (.builtin "abs"):=by decide+kernel
def cq4:bM "len"=al (.builtin "len"):=by decide+kernel
def bM2:bM "min"=al (.builtin "min"):=by decide+kernel
def bU9:bM "max"=al (.builtin "max"):=by decide+kernel
def co1:bM "all"=al (.builtin "all"):=by decide+kernel
def jg:bM "isinstance"=al (.builtin "isinstance"):=by decide+kernel
def ce4:bM "int"=al (.type "int"):=by decide+kernel
def bZ3:bM "bool"=al (.type "bool"):=by decide+kernel
def bV1:bM "str"=al (.type "str"):=by decide+kernel
def be3:bM "tuple"=al (.type "tuple"):=by decide+kernel
def bA0:bM "list"=al (.type "list"):=by decide+kernel
def cn2(i j:Int):Prop:=0<j/\j<2^4096
def aS1{y:Int}(h0:0<y)(h:y<2^4096):y.natAbs.log2<9000:=by
 have hn:=by
  have:(y.natAbs)=y:=by lia
  have z:(y.natAbs)<((2^4096):Int):=by rw[this];simpa using h
  exact Int.ofNat_lt.mp z
 have:=(Nat.log2_lt<|by lia).mpr hn;lia
def bs5:OpR X (eW .FloorDiv) (rI cn2 λi j=>.int<|i/j):=opI λi j _ _ _ _ _ a q=>by refine floordiv_int (by have:=a.1;omega) ?_<|.inl<|PyProof.noPylong_of_log2<|aS1 a.1 a.2;rw[Int.fdiv_eq_ediv_of_nonneg i<|by have:=a.1;lia];exact q
def aM3{K}(a:X.K=K):IxR X<|cu0 K:=a▸bP7
def bI8{K}(a:X.K=K):IxR X<|cw6 K:=a▸ix_tup
def ar2{K}(b:X.K=K):ae4 X (.builtin "len") (λh H Q=>∃p a,h=[.ref p]/\(SqL K H p a\/SqT K H p a)/\Q (.int a.length) H):=b▸ak8
def aJ4{K}(b:X.K=K):ae4 X (.type "tuple") (λh H Q=>∃p a,h=[.ref p]/\((SqL K H p a/\∀l,H l=aT->Q (.ref l) (upd H l<|.tp a))\/(SqT K H p a/\Q (.ref p) H))):=b▸aA5
def aT2{K}(b:X.K=K):ae4 X (.type "list") (λh H Q=>∃p a,h=[.ref p]/\(SqL K H p a\/SqT K H p a)/\∀l,H l=aT->Q (.ref l) (upd H l<|.J a)):=b▸aE7
def bt1{K}(a:X.K=K)(h:PE X l tl):PI X tg l<|bM3 K tl:=a▸bN5 h
def bF6{K}(a:X.K=K)(h:PE X l tl):PI X tg l<|cn1 K tl:=a▸ch8 h
def bF0{K}{pos}{k}(a:X.K=K)(b:X.calm=bY)(h:PGs X es t)(c:autoParam ((c6 es X.env).length=n) Zq4._auto_1)(z:autoParam ((c6 es X.env).findIdx? (·.1)=aT) Zq4._auto_1):PG X (.Tuple es k pos) (co2 K n t):=a▸bY7 b h c z
end
structure DefAt(K:ac)(mg:yD)(x:Str)(st:Stmt)(ps:yI)(f:Addr)(fd:bS):Prop where
 fn:Fun K x x st f fd
 mg:mg x=al (.ref f)bi:Binds K fd ps []
@[irreducible]noncomputable def cy7(p:Prop):Prop:=p
def af9.new(h:af9 H z)(b:z p=aT):af9 H<|L2.upd z p o:=λx o e=>have a:=h x o e;zb (zu a b)▸a
section
variable{prog:aH}{w:World}{A:aU}{R:kO->af->Prop}{I:Addr}{fp wr:List Addr}{n:Nat}{P:Nat->Value->Prop}{St:Nat->Heap->Prop}{kw:List<|Str×Value}
def aZ4(Ww:Walks prog w A.in1 I fp wr n P St)bt(b0:CmpOf prog w A.in1 .Lt P bt)S(b2:S∉fp):∀k j s vb c,n-(j+1)=k->j+1<=n->St (j+1) s.heap->P (eM bt j) vb->s.heap.get? S=al {cls:=.type "list",dict:=aT,data:=.seq #[vb,vb] c,slots:=#[]}->(∀v h' tk,P (eM bt<|n-1) v->(∀b o,b∉wr->b≠S->s.heap.get? b=al o->h'.get? b=al o)->R (.ok<|.ret v) {s with heap:=h',toks:=tk})->fy (model prog w) A (.builtin "min.loop" ⟨[.ref I,.none,.ref S],kw⟩) R s:=by
 have a8:=λh=>b2<|Ww.sub _ h;have a0:(toString "min"++toString ".loop":String)="min.loop":=by decide
 intro k;induction k with|zero=>
  intro j s vb c hk hj a5 a2 hS hR;have b1:j+1=n:=by lia
  refine gq iu ?_;rw[f9 cZ _];refine ai<|dC hS rfl ?_;refine ai<|fG<|Ww.done s _ _ (b1▸a5) λh' tk J=>?_;have a1:=J S _ a8 hS;refine ai ?_;refine iU a1 rfl<|ai<|j0<|aE ?_;refine hR vb _ tk (by rw[<-b1];exact a2) λb o z Uu e=>(cC _ _<|bH Uu).trans<|J b o z e|succ k ih=>
  intro j s vb c hk hj a5 a2 hS hR;have hlt:j+1<n:=by omega
  refine gq iu ?_;rw[f9 cZ _];refine ai<|dC hS rfl ?_;refine ai<|fG<|Ww.item (j+1) s _ _ hlt a5 λv h' tk hP a3 J=>?_;have a1:=J S _ a8 hS;show wpAny _ A.in1 (tryCatch (gX [v,v]<|richCompare .Lt v vb>>=_) _>>=_) _ _ _;refine ai<|fG<|cQ<|ai<|b0 (j+1) (eM bt j) v vb _ _ _ hP a2 ?_;refine ai<|cQ<|cL ?_;refine ai<|j0<|aE ?_;cases hb:bt (j+1) (eM bt j)with
  |true=>
   simp only[if_true];refine ai ?_;refine iU a1 rfl<|ai<|j0 ?_;rw[a0];refine aE ⟨im cZ _,ih (j+1) _ v _ (by omega) hlt (Ww.frame _ _ _ a3 λb b3 o e=>?_) (by simp only[eM,hb,if_true];exact hP) (d5 _ a1 rfl)
    λv' a6 Y a4 Z=>?_⟩;.exact(cC _ _<|λh:S=b=>b2<|by rw[h];exact b3).trans e
   .exact hR v' a6 Y a4 λb o z Uu e=>Z b o z Uu<|(cC _ _<|bH Uu).trans<|J b o z e|false=>simp only[bG,if_false];refine ai<|j0 ?_;rw[a0];refine aE ⟨im cZ _,ih (j+1) _ vb c (by omega) hlt a3 (by simp only[eM,hb,bG,if_false];exact a2) a1 λv' a6 Y a4 Z=>?_⟩;exact hR v' a6 Y a4 λb o z Uu e=>Z b o z Uu<|J b o z e
def aT8(Ww:Walks prog w A.in1 I fp wr n P St)bt(a0:CmpOf prog w A.in1 .Lt P bt)S(Uu:S∉fp)(a4:St 0 s.heap)(hS:s.heap.get? S=al {cls:=.type "list",dict:=aT,data:=.seq #[] c,slots:=#[]})(h0:n=0->∀h' tk,(∀b o,b∉wr->b≠S->s.heap.get? b=al o->h'.get? b=al o)->R (.ok<|.ret d) {s with heap:=h',toks:=tk})(hR:0<n->∀v h' tk,P (eM bt<|n-1) v->(∀b o,b∉wr->b≠S->s.heap.get? b=al o->h'.get? b=al o)->R (.ok<|.ret v) {s with heap:=h',toks:=tk}):fy (model prog w) A (.builtin "min.loop" ⟨[.ref I,.none,.ref S],[(bv "default",d)]⟩) R s:=by
 have a6:=λh=>Uu<|Ww.sub _ h;have Y:(toString "min"++toString ".loop":String)="min.loop":=by decide
 refine gq iu ?_;rw[f9 cZ _];refine ai<|dC hS rfl ?_;show wpAny _ A.in1 (tryCatch (lK<|.ref I) _>>=_) _ _ s;rcases Nat.eq_zero_or_pos n with hn|hn;.refine ai<|fG<|Ww.done s _ _ (hn▸a4) λh' tk z=>?_;show wpAny _ A.in1 (rule _>>=_) _ _ _;refine ai<|kL<|aE ?_;exact h0 hn h' tk λb o J _ e=>z b o J e
 .refine ai<|fG<|Ww.item 0 s _ _ hn a4 λv h' tk hP Z z=>?_;have a5:=z S _ a6 hS;show wpAny _ A.in1 (updateSeq S (λ_=>#[v,v])>>=_) _ _ _;refine ai ?_;refine iU a5 rfl ?_;rw[Y];refine aE ⟨im cZ _,aZ4 Ww bt a0 S Uu _ 0 _ v _ rfl hn (Ww.frame _ _ _ Z λb b0 o e=>?_) hP (d5 _ a5 rfl) λv' b1 a1 a8 a2=>?_⟩;.exact(cC _ _<|λh:S=b=>Uu<|by rw[h];exact b0).trans e
  .exact hR hn v' b1 a1 a8 λb o J a3 e=>a2 b o J a3<|(cC _ _<|bH a3).trans<|z b o J e
end
def bh2 a d:argsOk "min" ⟨[a],[(bv "default",d)]⟩:=by kernel_rfl
theorem jJ(val:Nat->Int):∀k j,j<=k->val (eM (λi j=>decide<|val i<val j) k)<=val j
  | 0, j, h => by have:j=0:=by lia
                  subst this;exact cJ _|k+1,j,h=>by
    have ih:=jJ val k;unfold eM;by_cases hb:val (k+1)<val (eM (λi j=>decide<|val i<val j) k)
    . rw[dO<|by simpa using hb];by_cases hj:j=k+1;.subst hj;exact cJ _
      .have:=ih j (by lia);lia
    . rw[ef<|by simpa using hb];by_cases hj:j=k+1;.subst hj;omega
      .exact ih j<|by omega
def bF2(K:ac):V->V->Hp->VK->Prop:=λx d H Q=>∃a b,x=.ref a/\SqL K H a (b.map V.int)/\(b=[]->Q d H)/\∀m∈b,(∀y∈b,m<=y)->Q (.int m) H
def ax2{b:List Int}{a:yH}(r:Vals (b.map V.int) a){i:Nat}(h:a[i]?=al v):∃z t,b[i]?=al z/\v=Value.int z t:=by have J:=r.length;rw[av]at J;have a:=(ag.mp h).1;refine AD (r.get (i:=i)<|by rw[aK,ar<|by omega];rfl) λu a q=>?_;rw[h]at a;cases a;obtain⟨t,rfl⟩:=q;exact⟨_,t,ar<|by omega,rfl⟩
def bo4{W:St}(hc:X.calm=bY)(I:Inv X J W H s)(rx:RelV x u)(rd:RelV d w')(h:bF2 X.K x d H Q):wpAny (model X.prog X.w) X.A (call (.builtin "min") [u] [(bv "default",w')]) (EP X J W Q) X.xe s:=by
 obtain⟨a,ns,rfl,hS,q0,qm⟩:=h;cases rx;obtain⟨its,rv,pl,hz⟩:=I.list hS;have hl:=rv.length;rw[av]at hl;have Y:(toString "min"++toString ".loop":String)="min.loop":=by decide
 refine kmb_tree F.kind_min F.plain_min F.entry_min (bh2 _ _) ?_;refine ai<|l6 (rfl) ?_;refine ai<|aE ?_;refine ai<|d6 pl.isList ?_;have a1:a<s.heap.objs.size:=by obtain⟨o,_,e,_⟩:=pl;exact aM e
 have Ww:=mR (prog:=X.prog) (w:=X.w) (A:=X.A.in1) (I.ok.hd hc) s.heap.objs.size a (aI a1) its.toArray;refine ai<|cG ?_;generalize Z:s.heap.push _=h2;have Uu:h2.objs.size=s.heap.objs.size+1:=by rw[<-Z,cx]
 have a2:∀b o,s.heap.get? b=al o->h2.get? b=al o:=λb o e=>by rw[<-Z];exact ak _ e
 have a4:h2.objs.size∉[s.heap.objs.size,a]:=by
  rw[Uu];intro z;rcases aD.mp z with z|z;.exact ij z<|Nat.succ_ne_self _
  .have z':=by simpa using z
   exact ij (aA a1<|by rw[<-z'];exact dL _) (bO _)
 have a3:(h2.push {cls:=.type "list",data:=.seq ([]:yH).toArray}).IsListIter s.heap.objs.size a 0/\(h2.push {cls:=.type "list",data:=.seq ([]:yH).toArray}).IsList a its.toArray:=by refine⟨⟨_,ak _<|by rw[<-Z];exact aW _ rfl,rfl,rfl⟩,?_⟩;obtain⟨o,e,r⟩:=pl.isList;exact⟨o,ak _<|a2 _ _ e,r⟩
 let val:=λi=>ns.getD i 0;have a0:∀i v,its.toArray[i]?=al v->∃t,v=Value.int (val i) t:=λi v e=>by obtain⟨z,t,e1,e2⟩:=ax2 rv (i:=i) (v:=v) (by rw[c8]at e;exact e);refine⟨t,?_⟩;rw[e2];show Value.int z t=Value.int (ns.getD i 0) t;rw[bE,e1];rfl
 rw[Y];have nx:∀(h':Heap)(tk:Nat),(∀b o,b∉[s.heap.objs.size]->b≠h2.objs.size->(h2.push {cls:=.type "list",data:=.seq ([]:yH).toArray}).get? b=al o->h'.get? b=al o)->Inv X J W H {s with heap:=h',toks:=tk}:=λh' tk k=>I.kept λb o e=>by
  refine k b o ?_ ?_<|ak _<|a2 b o e
  .intro z;have z':b=s.heap.objs.size:=by simpa using z
   exact ij (aM e) (by rw[z'];exact bO _)
  .intro z;exact ij (aM e) (by rw[z,Uu];exact mU.mpr<|dL _)
 refine aE ⟨im cZ _,aT8 (d:=w') Ww _ (ny val a0) h2.objs.size a4 a3 (aW _ rfl) (λhn h' tk k=>?_) λhn v h' tk hP k=>?_⟩
 .have e:ns=[]:=by
   have:its.toArray.size=0:=hn;have:its.length=0:=by simpa using this
   exact fu.mp<|by lia
  exact⟨d,H,nx h' tk k,rd,q0 e⟩
 .obtain⟨z,t,e1,e2⟩:=ax2 rv (i:=eM (λi j=>decide<|val i<val j) (its.toArray.size-1)) (v:=v) (by rw[c8]at hP;exact hP);subst e2;have hv:val (eM (λi j=>decide<|val i<val j) (its.toArray.size-1))=z:=by show ns.getD _ 0=z;rw[bE,e1];rfl
  refine⟨.int z,H,nx h' tk k,⟨t,rfl⟩,qm z (aF e1) λy hy=>?_⟩;obtain⟨j,hj,e3⟩:=dj.mp hy;have:=jJ val (its.toArray.size-1) j (by simp only[aJ];lia);rw[hv]at this;have e4:val j=y:=by show ns.getD j 0=y;rw[bE,ar hj];exact e3
  lia
def co6(K:ac)(a b:TE):TE:=λW H Q=>a W H λx a=>b W a λd a=>bF2 K x d a Q
def bO1{K}(b:X.K=K)(f:X.calm=bY)(c:Gl X "min")(d:X.mg "min"=aT)(g:PE X e Z)(i:PE X de J)(a:autoParam (a9 [e] X.env=[(ce,eval e X.env)]) Zq4._auto_1):PE X (.Call (.Name "min" p) [e] [⟨al "default",de,kp⟩] pos) (co6 K Z J):=by subst b;refineλz s W H Q I h=>cz<|au4 I c d bM2 ?_;have h':ak6 Z aH9 W H<|λb c=>match b with|[x]=>J W c λd e=>bF2 X.K x d e Q|_=>False:=h;refine callWith_kw (thn ((zy g af0 a) pos z s W H _ I h') λb e⟨b,c,g,d,Y⟩=>?_) (by rw[a];rfl) (by rw[a];rfl);match b,Y,d with|[x],Y,d=>obtain⟨u,rfl,a⟩:=jM d;refine kws_cons<|thn (i z e W c _ g Y) λv b⟨d,e,b,c,q2⟩=>kws_nil ?_;exact bo4 f b a c q2
inductive D where|N|T(b:Bool)|int(i:Int)|str(x:Str)|tp(l:List D)|J(l:List D)
noncomputable abbrev D.ctorIdx(x:D):Nat:=D.casesOn x 0 (λ_=>1) (λ_=>2) (λ_=>3) (λ_=>4) (λ_=>5)
mutual noncomputable def D.deep:D->Nat|.tp l=>D.deepL l+1|.J l=>D.deepL l+1|_=>0 noncomputable def D.deepL:List D->Nat|[]=>0|d::l=>max (D.deep d) (D.deepL l)end
section
variable{X:Cx}
end
section
variable{X:Cx}
def cx2(K:ac):V->Option Int->Option Int->Hp->VK->Prop:=λx c d H Q=>∃a b,x=.ref a/\SqT K H a b/\∀p H',af9 H H'->SqT K H' p (aR7 b c d)->(H' p=al (.tp<|aR7 b c d)\/(p=a/\aR7 b c d=b))->Q (.ref p) H'
def ay1{E:yB}{z:yK}{Q:yB}(a:IsTup s.heap t z)(b:s.heap.IsSliceOf sl vl vu .none)(pl:ik vl J)(c:ik vu hi)(d:HT.sIx z.size 0 J=0/\HT.sIx z.size z.size hi=z.size)(h:Q (.ref t) s):wpAny (model prog w) A (iJ (.ref t) (.ref sl)) Q E s:=by
 refine AH (id b) λos d Y e=>?_;have Z:s.TypeIs (.ref sl) "slice":=⟨os,d,Y⟩;unfold iJ;try with_reducible refine cQ ?_
 first|refine ai<|aE ?_|skip
 refine ai<|lu a.typeIs (by decide) ?_;refine ai<|dF a.typeIs bT<|dz bT a.typeIs kz ?_<|kQ _ _;show wpAny _ _ (eA (.ref t)>>=_) _ _ s;refine ai<|tupleItemsOf_ a ?_;refine ai<|lv Z ?_;rw[dO<|by decide];refine ai<|HT.sliceApplied_gen b pl c ?_;have b:((((HT.sIx z.size 0 J):Int)==0&&(1:Int)==1&&(HT.sIx z.size z.size hi-HT.sIx z.size 0 J)==z.size)=bY):=by simp_all
 show wpAny _ _ (if(((HT.sIx z.size 0 J):Int)==0&&(1:Int)==1&&(HT.sIx z.size z.size hi-HT.sIx z.size 0 J)==z.size)=bY then _ else _) _ _ s;rw[dO b];refine ai<|ai<|lv a.typeIs<|aE ?_;rw[dO<|by decide];exact ai<|kL<|aE ⟨_,rfl,aE h⟩
def at7(h:HT.sIx z.length 0 J=0/\HT.sIx z.length z.length hi=z.length):aR7 z J hi=z:=by unfold aR7;simp_all
def bG7{K}(b:X.K=K):SlR X<|cx2 K:=by
 subst b;refineλUu s W H x v vl j d e k Q I Y f g Z h=>AL h λa z h c q=>?_;by_cases b:HT.sIx z.length 0 d=0/\HT.sIx z.length z.length e=z.length
 .subst h;cases Y;refine AH (I.tuple c) λits r i l=>?_;have J:its.toArray.size=z.length:=by rw[aJ];exact r.length.symm
  exact⟨"tuple",_,bT.lookup,i.typeIs,ay1 i f g Z (J▸b) ⟨.ref a,H,I,rfl,q a H (af9.refl H) (by rw[at7 b];exact c) (.inr ⟨rfl,at7 b⟩)⟩⟩
 .exact cj7 Uu s W H x v vl j d e k Q I Y f g Z ⟨a,z,h,c,b,λp a=>q p _ ((af9.refl H).new a) (SqT.of zh) (.inl zh)⟩
def bq1{K}(a:X.K=K):SlR X<|ct4 K:=a▸bE4
end
noncomputable def Its(x:Str):It:=⟨λi _=>i<x.cps.size,λi H v H'=>H'=H/\∃c,x.cps[i]?=al c/\v=.str ⟨#[c]⟩,λi _=>x.cps.size<=i⟩
def aL5{K}it(hn:["enumerate","zip","dict_itemiterator","dict_reverseitemiterator","odict_iterator","itertools.zip_longest","itertools.pairwise"].contains Y=ce)(Ww:∀A:aU,A.handled=aT->Walks P w A it [it] [it] x.cps.size (SignAt x) (λi h=>h.IsStrIter it Y x t i))(a0:∀(A:aU)(s:af)(i:Nat)(Q:Option Value->af->Prop)(E:yB),A.handled=aT->s.heap.IsStrIter it Y x t i->x.cps[i]?=aT->(∀h',l7 it s.heap h'->Q aT {s with heap:=h'})->wpAny (model P w) A (lK<|.ref it) Q E s)(Uu:∀(A:aU)(i:Nat)(s:af)(Q:yB)(E:yB),s.heap.IsStrIter it Y x t i->Q (.ref it) s->wpAny (model P w) A (nG<|.ref it) Q E s):Turn P w K tg (Its x) [it] it<|λi h=>h.IsStrIter it Y x t i where
 mem:=by simp
 obj:=λi h a b j=>by
  have e:b=it:=by simp_all
  subst e;refine AH a λo d f t=>?_;simp_all
 keep:=λi h h' a k=>AD a λo d r=>⟨o,k it (by simp) _ d,r⟩;item:=by intro X h k l f i J s W H E I g a m;subst h k l;refine AV (g it<|by simp) λf0 n w p q r=>(Ww X.A<|I.ok.hd f).item i s _ _ m a λv h' tk a Z kk=>?_;obtain⟨c,u,f,rfl⟩:=a;have h:Inv X J W H {s with heap:=h',toks:=tk}:=I.turned (λb o j e=>kk b o (by simp_all) e) f0 n p q r;exact AH (id Z) λo d a t=>⟨_,rfl,be7 d a t hn ⟨.str ⟨#[c]⟩,H,h,⟨u,rfl⟩,⟨rfl,c,f,rfl⟩,Z,λb j=>(g b j).1⟩⟩
 done:=by intro X h k l f i J s W H E I g a m;subst h k l;exact AV (g it<|by simp) λf0 n w p q r=>have b:x.cps.size<=i:=m;a0 X.A s i _ E (I.ok.hd f) a (by simp_all) λh' a=>⟨rfl,I.turned (a) f0 n p q r⟩
 self:=Uu
def ct6(tl:TE):TI:=λW H R=>tl W H λv a=>∃x,v=.str x/\R (Its x) a
def bX3(hl:PE X l tl):PI X tg l<|ct6 tl:=by
 intro z s W H R I h;refine thn (hl z s W H _ I h) λv s1⟨v0,H1,Y,r1,q1⟩=>?_;obtain⟨x,e,q⟩:=q1;subst e;obtain⟨t,rfl⟩:=r1;have fin:∀Uu o,o={cls:=.type Uu,data:=.fields #[.str x t,.int 0 0]}->Turn X.prog X.w X.K tg (Its x) [s1.heap.objs.size] s1.heap.objs.size (λi h=>h.IsStrIter s1.heap.objs.size Uu x t i)->PIE X z W tg R (.ref s1.heap.objs.size) {s1 with heap:=s1.heap.push o}:=λUu o eo T=>by
  subst eo;refine⟨s1.heap.objs.size,[s1.heap.objs.size],_,_,H1,rfl,Y.kept λb o e=>ak _ e,T,⟨_,aW _ rfl,rfl,rfl⟩,λb hb=>?_,q⟩;have e:=by simpa using hb
  subst e;exact Y.fpOk (aj _) (Y.hok.fresh<|aj _)
 cases ha:x.cps.all (·<128);.exact wpAny_pyIter_wide ha<|fin "str_iterator" _ rfl<|aL5 _ (by decide) (λA J=>Walks.strWide J _ x t) (λA s i Q E J st hx Z=>wpAny_pyNext_wide_end J st hx Z) λA i s Q E st h=>wpAny_pyIter_striter_wide st h
 .exact wpAny_pyIter_ascii ha<|fin "str_ascii_iterator" _ rfl<|aL5 _ (by decide) (λA J=>Walks.strAscii J _ x t) (λA s i Q E J st hx Z=>wpAny_pyNext_ascii_end J st hx Z) λA i s Q E st h=>wpAny_pyIter_striter_ascii st h
section
variable{X:Cx}{K:ac}{T id:String}{name:Str}{o e:Expr}{es:yL}{to:TE}{t:TA}{r:V->List V->Hp->VK->Prop}{apos cpos:Pos}
def bW0(b:X.K=K)(c:mQ T)(a:Slot T name id)(Y:kR (.builtin id)=pure (.type "method_descriptor"))(Z:MtR X id r)(d:PE X o to)(f:PA X (e::es) t)(J:autoParam (eX o name X.env (eval o X.env)=eval o X.env) Zq4._auto_1)(g:autoParam (((cT cpos<|a9 (e::es) X.env).all (λx=>!x.1)&&(fC cpos<|di [] X.env).all (λx=>x.1.isSome)&&decide ((e::es).length+([]:List fD).length+(if([]:List fD).isEmpty then 0 else 1)<30))=bY) Zq4._auto_1)(z:autoParam ((apos.endLine==cpos.line)=bY) Zq4._auto_1)(i:autoParam (a9 (e::es) X.env=(ce,eval e X.env)::a9 es X.env) Zq4._auto_1)(h:autoParam ((cT cpos<|a9 es X.env).any (·.1)=ce) Zq4._auto_1):PE X (.Call (.Attribute o name apos) (e::es) [] cpos) (tBM K T r to t):=b▸cn4 c a Y Z d f J g z i h
end
structure Mach where
 letters:Int
 rooms:Int
 begins:List Int
 ends:List Int
 doors:List<|Int×Str×Int×Int
noncomputable def cm9(q:Int×Str×Int×Int):D:=.tp [.int q.1,.str q.2.1,.int q.2.2.1,.int q.2.2.2]
def Mach.D(M:Mach):D:=.tp [.int M.letters,.int M.rooms,.tp<|M.begins.map .int,.tp<|M.ends.map .int,.tp<|M.doors.map cm9]
noncomputable def ltr(i:Nat):Str:=⟨#[97+i]⟩
structure DoorOk(letters rooms:Int)(q:Int×Str×Int×Int):Prop where
 s0:0<=q.1
 s1:q.1<rooms
 l:∃i:Nat,(i:Int)<letters/\q.2.1=ltr i
 g0:0<=q.2.2.1
 g1:q.2.2.1<rooms
 t0:0<=q.2.2.2
 t1:q.2.2.2<=3
structure RoomsOk(rooms:Int)(l:List Int):Prop where
 mem:∀r∈l,0<=r/\r<rooms
 up:l.Pairwise (·<·)
structure Mach.Ok(most:Nat)(M:Mach):Prop where
 l0:1<=M.letters
 l1:M.letters<=3
 r0:1<=M.rooms
 r1:M.rooms<=5
 b:RoomsOk M.rooms M.begins
 e:RoomsOk M.rooms M.ends
 d:∀q∈M.doors,DoorOk M.letters M.rooms q
 m:M.doors.length<=most
def abc_at(a:0<=i)(h:i<3):atI (bv "abc").cps.toList i=al (97+i.toNat):=by
 obtain rfl|rfl|rfl:i=0\/i=1\/i=2:=by lia
 all_goals rfl
mutual noncomputable def D.tups:D->Bool|.J _=>ce|.tp l=>D.tupsL l|_=>bY noncomputable def D.tupsL:List D->Bool|[]=>bY|d::l=>D.tups d&&D.tupsL l end
end L2
end
noncomputable section
namespace L2
end L2
end
noncomputable section
namespace L2
open PySem PySem.Spec PyProof.Rows
noncomputable def cw9:Option Int->D|none=>.N|some i=>.int i
noncomputable def addO:Option Int->Option Int->Option Int|some a,al b=>al<|a+b|_,_=>aT
noncomputable def minO:List Int->Option Int|[]=>aT|a::l=>al<|match minO l with|none=>a|some b=>if b<a then b else a
def am1:∀{l},minO l=aT↔l=[]|[]=>by simp[minO]|a::l=>by simp[minO]
theorem aB6:∀{l}{m},minO l=al m->m∈l/\∀y∈l,m<=y|[],m,h=>by cases h|a::l,m,h=>by have h':=ay h;cases e:minO l with|none=>rw[e]at h';have:=am1.mp e;simp_all|some b=>rw[e]at h';obtain⟨Y,a⟩:=aB6 e;grind
def aS2{pos c j}N' src (hN:X.N.Nodup)(b6:X.N[i]?=al y)(a6:X.env.scope.names.lookup y=al .local)(b4:qd N' src scope X.N X.env.scope=bY)(hi:PI X tg iter wi)(a2:X.calm=bY)(b2:∀(b:Addr)(a:yC)(s:af)(H:Hp)(ex:List Addr),PG (zQ X N' scope b a s H ex) tg g/\PIf (zQ X N' scope b a s H ex) a0 tc/\PE (zQ X N' scope b a s H ex) Z te)(hs:autoParam (∀x,d8 iter X.env x=pure x) Zq3._auto_1)(b1:autoParam (fR (.ListComp Z [⟨tg,iter,a0,0⟩] scope pos) (al<|.Name y j) c.line X.env=pure bY) Zq4._auto_1):PS X (.Assign [.Name y j] (.ListComp Z [⟨tg,iter,a0,0⟩] scope pos) c) (bw9 (tComp src wi g tc te) (aB8 i)):=by
 intro m s W H t I h;have k:=bC3 b4;rw[exec_Assign_Name_used _ _ _ _ b1];refine ai<|kF<|ai ?_;have a:=qh λy b e=>I.ok.has y.1<|k.fr y b e;refine ai<|bD (il rfl hs a k.kind k.loc<|thn (hi m s W H _ I h) λv a a=>thn a λa f h2=>?_) (λ_ n a=>aE<|aE a) λ_ _ e=>e;refine AG h2 λit Y n J h e a T AA=>AI AA λa5 c b=>?_;subst e;have d:=a.fresh;obtain⟨b,⟨e,w⟩,turn⟩:=b _ d;have g:=a.lnew (ys:=[]) (t':=f.toks) .nil<|cy _;have e:∀b∈Y,b<f.heap.objs.size:=λb a=>AD (T.obj _ _ a5 b a) λo q _=>aM q;have r:∀b∈Y,FpOk X m (upd h f.heap.objs.size<|.J []) b:=λb a=>⟨zb (aI<|e b a)▸(c b a).1,(c b a).2⟩;refine cG<|aj3 ?_;generalize p:({f with heap:=f.heap.push {cls:=.type "list",data:=.seq ([]:yH).toArray},toks:=f.toks}:af)=d at g;have o:∀b∈Y,b<d.heap.objs.size:=λb a=>by rw[<-p];show b<(f.heap.push _).objs.size;rw[cx];exact g9<|e b a
 have l:=au1 (s4:={d with heap:=fT (d.heap.push {cls:=.type "dict",data:=.dict #[]}) scope.names}) k g r o ⟨_,rfl⟩;have u:n 0<|fT (d.heap.push {cls:=.type "dict",data:=.dict #[]}) scope.names:=T.keep _ _ _ a5 λb a o e=>dU _ _ b o<|ak _<|p▸ak _ e;refine AI (b2 d.heap.objs.size (aX (d.heap.objs.size+1) scope.names<|af8 X.env.cells scope.names []) d (upd h f.heap.objs.size<|.J []) Y) λhg c e=>?_;have o:∀H':Hp,(∀b∈Y,H' b=aT)->∀b∈Y,FpOk (zQ X N' scope d.heap.objs.size (aX (d.heap.objs.size+1) scope.names<|af8 X.env.cells scope.names []) d (upd h f.heap.objs.size<|.J []) Y) [] H' b:=λH' k b a=>⟨k b a,(l.ok.exf b a).1,l.ok.exfs b a,.inl a,(l.ok.exf b a).2,λp s=>ij (show p∈([]:yA)from s) (by simp)⟩;have k:Turn X.prog X.w X.K tg J Y it n:=T;have p:∀b∈Y,upd h f.heap.objs.size (.J []) b=none:=λb a=>(r b a).1;have L:=aC8 (X':=zQ X N' scope d.heap.objs.size (aX (d.heap.objs.size+1) scope.names<|af8 X.env.cells scope.names []) d (upd h f.heap.objs.size<|.J []) Y) (R:=compPost (model X.prog X.w) X.A X.xe (al<|iC (.Name y j) X.env) (λ_ n=>SP X m t .next n) (Value.ref f.heap.objs.size) d.heap.objs.size) (iter:=iter) (scope:=scope) (pos:=pos) (QD:=(t.nx<|W.set i<|al<|.ref f.heap.objs.size)) rfl a2 l k u o p w turn hg c e<|λa H' n h q=>by
   have a:=aQ8 g r h<|Heap.SameBut.refl _ _;refine AD h.loc λmm k _=>?_;have i:d.heap.objs.size≠X.env.locals:=eI g.lt;have l:∀x c,X.env.cells.lookup x=al c->c≠d.heap.objs.size:=λx c e=>AF (g.cell x c e) λv z=>aI z.lt;show wpAny _ X.A (iC (.Name y j) X.env<|.ref f.heap.objs.size) _ _ _;refine lh<|aE3 (v:=.ref f.heap.objs.size) a hN b6 (.inl a6) rfl (λb c a=>?_) (.inr a6);refine AD a λaa a e=>?_;have e:d.heap.objs.size≠aa:=by grind
   refine⟨mm,k.sameBut a e,λh' d=>⟨_,H',c.turned (t':=b.toks) (λb o a e=>(d.2 b a).trans e) h.free i (.inr g.sz) l λp s z=>?_,q⟩⟩;exact ij (aM (g.pin p s).1) (z▸bO _)
 exact iO L<|T.self _ _ _ _ _ u L
def cx7:V->Option Int->Option Int->Hp->VK->Prop:=λx a b H Q=>∃z,x=.str z/\z.length<=a7/\Q (.str<|gr z a b) H
def aD3(p:ik v o):∃q,v=partValue q/\q.map (·.1)=o:=by cases p with|none=>exact⟨aT,rfl,rfl⟩|int i t=>exact⟨al (i,t),rfl,rfl⟩
set_option tactic.hygienic true in def ca7:SlR X cx7:=by
 intro Z s W H x v vl a a b c Q I c d e f h;obtain⟨z,rfl,g,q⟩:=h;obtain⟨t,rfl⟩:=c;obtain⟨l,rfl,c⟩:=aD3 e;obtain⟨u,rfl,c⟩:=aD3 f;refine⟨"str",_,F.slot_str_getitem.lookup,mP s z t,wpAny_getItem_str_slice (st:=aT) d rfl ?_⟩;unfold sliceMade;have e:slicePicked z l u aT=b8 a b 1 z.length:=by unfold slicePicked;simp_all
 rw[e];unfold gr at q;split;.rename_i hc;have J:((1:Int)==1&&(b8 a b 1 z.length).length==z.length)=true:=hc;rw[dO J]at q;exact⟨.str z,H,I,⟨t,rfl⟩,q⟩
 .rename_i hc;have J:¬((1:Int)==1&&(b8 a b 1 z.length).length==z.length)=true:=hc;rw[ef J]at q;have Y:=by show(j1 (λx=>z.cps[x]?) (b8 a b 1 z.length)).toArray.size<=a7;exact aJ▸au (io _ _) (au (sliceIndices_le a b z.length) g)
  exact⟨Y,.str _,H,I.tok _,⟨_,rfl⟩,q⟩
section
variable{M:Model}{A:aU}{E:yB}{s₀ s:af}{m cm:yD}{env:Env}{cs:yC}
def bP5(z:gZ s₀ env.locals m cs cm s)(J:env.scope.kind=.function)(c:env.kindOf n=al .local)(e:∀b,gZ s₀ env.locals (λy=>if y=n then al v else m y) cs cm b->Q () b):wpAny M A (fQ env n v) Q E s:=by
 refine iZ c z.toInCall.ns (λg h d=>e _ ⟨⟨?a,h,λb o e=>?b,z.toInCall.fresh⟩,λk c e=>?c,z.apart,z.above⟩) (by rw[J];rfl);case a=>exact Aa z.toInCall.same λUu tk e=>e▸⟨g,_,rfl⟩
 case b=>exact d.extBut b o (aI<|aA (aM e) z.toInCall.fresh) (z.toInCall.keep b o e)
 case c=>exact(z.cell k c e).sameBut d<|eI<|z.above k c<|aL e
def bS3(z:gZ s₀ env.locals m cs cm s)(e:env.scope.kind=.function)(J:env.kindOf n=al .cell)(f:env.cells.lookup n=al c)(d:cs.lookup n=al c)(j:∀b,gZ s₀ env.locals m cs (λy=>if y=n then al v else cm y) b->Q () b):wpAny M A (fQ env n v) Q E s:=by
 have i:=z.above n c<|aL d;refine jT e J f (z.cell n c d) λg h f=>j _ ⟨⟨?a,z.toInCall.ns.sameBut f<|aI i,λb o e=>?b,z.toInCall.fresh⟩,λk Y e=>?c,z.apart,z.above⟩;case a=>refine Aa z.toInCall.same λZ tk e=>?_;simp_all
 case b=>exact f.extBut b o (aI<|fI (aA (aM e) z.toInCall.fresh) i) (z.toInCall.keep b o e)
 case c=>
  by_cases q:k=n;.simp_all
  .exact ef q▸(z.cell k Y e).sameBut f λy=>q<|iI z.apart (aL e) (y▸aL d)
theorem aJ9(f:Str×Value->PUnit->Sem (ForInStep PUnit))(Z:∀n v u,f (n,v) u=(do fQ env n v;pure<|.yield ⟨⟩))(Y:env.scope.kind=.function)(sub:∀n c,cs.lookup n=al c->env.cells.lookup n=al c):∀bs(m Uu:yD)s Q,gZ s₀ env.locals m cs Uu s->(∀y∈bs,env.kindOf y.1=al .local\/(env.kindOf y.1=al .cell/\∃c,cs.lookup y.1=al c))->(∀s',gZ s₀ env.locals (bindL env.kindOf bs m) cs (bindC env.kindOf bs Uu) s'->Q ⟨⟩ s')->wpAny M A (forIn bs ⟨⟩ f) Q E s
 |[],m,Uu,s,Q,z,_,go=>by rw[jZ];exact aE<|go s z|(n,v)::r,m,Uu,s,Q,z,hy,go=>by
  rw[mq,Z];have hr:=λy(q)=>hy y<|ah _ q;rcases hy (n,v) am with kl|⟨kc,c,e2⟩;.refine ai<|ai<|bP5 z Y kl λs' z'=>aE<|aJ9 f Z Y sub r _ _ s' Q z' hr λJ h=>go J ?_;unfold bindL bindC;rw[dO kl,dO kl];exact h
  .have nl:¬env.kindOf n=al .local:=by rw[kc];decide
   refine ai<|ai<|bS3 z Y kc (sub n c e2) e2 λs' z'=>aE<|aJ9 f Z Y sub r _ _ s' Q z' hr λJ h=>go J ?_;unfold bindL bindC;rw[ef nl,ef nl];exact h
end
def at8{E:yB}{h:yC}{a:yJ}{b}(J:scope.kind=.function)(f:∀y∈binds,scope.names.lookup y.1=al .local\/(scope.names.lookup y.1=al .cell/\∃c,(aX (s.heap.objs.size+1) scope.names []).lookup y.1=al c))(g:∀env,env=newEnv scope s.heap.objs.size globals (aX (s.heap.objs.size+1) scope.names h) qual a b aT builtins->∀d,gZ s env.locals (bindL env.kindOf binds λ_=>aT) (aX (s.heap.objs.size+1) scope.names []) (bindC env.kindOf binds λ_=>aT) d->Q env d):wpAny M A (gP scope globals h binds qual a b aT builtins) Q E s:=by
 simp only[gP,kS,bG,if_false];refine ai<|wpAny_alloc<|ai<|wpAny_layCells _ (λc kd Y=>by lia) _ _ _ _ ?_;have ok:=cellsFrom_ok scope.names (s.heap.push {cls:=.type "frame",data:=.dict #[]}) (s.heap.objs.size+1) [] ⟨λ_ _ c=>(nomatch c),List.Pairwise.nil⟩ (by simp_all);have z:({s with heap:=s.heap.push {cls:=.type "frame",data:=.dict #[]}}:af).heap.objs.size=s.heap.objs.size+1:=cx ..;rw[cx]at ok;rw[z];refine ai<|aJ9 (s₀:=s) (env:=newEnv scope s.heap.objs.size globals (aX (s.heap.objs.size+1) scope.names h) qual a b aT builtins)
  _ (λ_ _ _=>rfl) J (λn c e=>?sub) binds (λ_=>aT) (λ_=>aT) _ _ ⟨⟨⟨_,_,rfl⟩,?ns,λb o e=>?k,aj _⟩,λn c e=>(ok.empty n c<|aL e).1,ok.apart,λn c e=>(ok.empty n c e).2⟩ f λd x=>aE<|g _ rfl d x;case sub=>show(aX _ _ _).lookup n=al c;rw[zn,zK,e];rfl
 case ns=>exact(nV s.heap<|.type "frame").keeps<|dU _ _
 case k=>exact dU _ _ b o<|ak _ e
noncomputable def qo(c:Addr)(a:Str):HO:=.ext λh=>h.CodeRec (.ref c) a
noncomputable def ay8(f:Addr)(a:bS):HO:=.ext λh=>h.get? f=al {cls:=.type "function",data:=.func a}
def aL8(r:h.CodeRec (.ref c) q):ad9 P w H h c<|qo c q:=by
 refine⟨r,?_,λY a z k=>?_⟩;.refine AN r λJ o a t e AA=>AB AA λg _=>?_;simp_all
 .refine AN z λJ o a t e AA=>AB AA λg d=>?_;cases e;exact⟨c,o,a,t,rfl,k o g,d⟩
def aC7(x:HOk P w H h)(e:H c=al (qo c q)):h.CodeRec (.ref c) q:=(x c _ e).1
def aw5(r:h.get? f=al {cls:=.type "function",data:=.func J}):ad9 P w H h f<|ay8 f J:=⟨r,⟨_,r⟩,λ_ _ z k=>k _ z⟩
def az8(x:HOk P w H h)(e:H f=al (ay8 f z)):h.get? f=al {cls:=.type "function",data:=.func z}:=(x f _ e).1
noncomputable def isC(a:yC)(b:Addr):Bool:=a.any λp=>a.lookup p.1==al b
def ag3:isC cells b=bY↔∃x,cells.lookup x=al b:=by
 unfold isC;rw[lP];constructor;.rintro⟨p,_,e⟩;exact⟨p.1,by simpa using e⟩
 .rintro⟨x,e⟩;exact⟨(x,b),aL e,by simpa using e⟩
def ad0(a:yC)(H:Hp):Hp:=λb=>if isC a b=bY then aT else H b
def Put(a:yC)(H H':Hp):Hp:=λb=>if isC a b=bY then H b else H' b
def ad0.cell(h:isC cells b=bY):ad0 cells H b=none:=dO h
def ad0.ne(h:isC cells b≠bY):ad0 cells H b=H b:=ef h
set_option tactic.hygienic true in def ad0.some(h:ad0 cells H b=al o):isC cells b≠bY/\H b=al o:=by
 unfold ad0 at h;split at h;.cases h
 .rename_i z;exact⟨z,h⟩
def ad0.none(h:H b=aT):ad0 cells H b=none:=by
 unfold ad0;split;.rfl
 .exact h
def Put.cell(h:isC cells b=bY):Put cells H H' b=H b:=dO h
def Put.ne(h:isC cells b≠bY):Put cells H H' b=H' b:=ef h
def Cells(a:yC)(H:Hp):Prop:=∀x c,a.lookup x=al c->∃o v,H c=al (.frz o<|.own c)/\o.data=.cell v
def Cells.at(z:Cells J H)(h:isC J b=bY):∃o v,H b=al (.frz o<|.own b)/\o.data=.cell v:=AF (ag3.mp h) λx e=>z x b e
def Cap(a:yC)(H:Hp)(c:yI)(b:List V):Prop:=∀(i:Nat)x v,c[i]?=al x->b[i]?=al v->∃c o u,a.lookup x=al c/\H c=al (.frz o<|.own c)/\o.data=.cell (al u)/\RelV v u
structure LamScope(N ps fr:yI)(sc:Scope):Prop where
 kind:sc.kind=.function
 co:sc.isCoroutine=ce
 gen:sc.isGenerator=ce
 nd:N.Nodup
 app:N=ps++fr
 par:∀x∈ps,sc.names.lookup x=al .local\/sc.names.lookup x=al .cell
 frs:∀x∈fr,sc.names.lookup x=al .free
 cel:∀y∈sc.names,y.2=.cell->sc.names.lookup y.1=al .cell
def aG6(P:aH)(w:World)(K:ac)(mg:yD)(base:Heap)(N:yI)(c:Str)(scope:Scope)(f:Addr)(d:Value)(b:yC)(A:aU)(outer:List Env)(s:af)(H:Hp):Cx where prog:=P;w:=w;K:=K;mg:=mg;base:=base;A:=A.deeper<|dN c scope s.heap.objs.size f d<|aX (s.heap.objs.size+1) scope.names b;N:=N;s₀:=s;H₀:=ad0 b H;env:=dN c scope s.heap.objs.size f d<|aX (s.heap.objs.size+1) scope.names b;outer:=outer;stack:=dN c scope s.heap.objs.size f d (aX (s.heap.objs.size+1) scope.names b)::outer;ex:=[];fn:=λx=>scope.names.lookup x==al .cell;calm:=bY;pn:=[];xe:=λ_ _=>False
def HOk.drop(x:HOk P w H h)(z:Cells J H):HOk P w (ad0 J H) h:=λb o e=>by
 refine AB (ad0.some e) λ_ e=>?_;have a:∀c u,H c=al u->(∀o v,u≠.frz o v)->isC J c≠true:=λc u q d y=>AE (z.at y) λo v c _=>by grind
 exact(x b o e).stay (λ_ _ _ q=>q) (λc q=>(ad0.ne<|a c _ q λ_ _=>by nofun)▸q) λc Y q=>(ad0.ne<|a c _ q λ_ _=>by nofun)▸q
def bb2{K:ac}{a:yH}{vs j:List V}(S:LamScope N ps fr scope)(i:A.handled=aT)(g:Env0 P w K mg base A J s H)(C:vs.length=ps.length)(b:j.length=fr.length)(r:Vals vs a)(B:Cells h H)(inj:∀x y c,h.lookup x=al c->h.lookup y=al c->x=y)(D:∀x,scope.names.lookup x=al .free->∃c,h.lookup x=al c)(E:Cap h H fr j)(x:gZ s s.heap.objs.size (bindL (dN qual scope s.heap.objs.size f cd<|aX (s.heap.objs.size+1) scope.names h).kindOf (ps.zip a) λ_=>aT) (aX (s.heap.objs.size+1) scope.names [])
   (bindC (dN qual scope s.heap.objs.size f cd<|aX (s.heap.objs.size+1) scope.names h).kindOf (ps.zip a) λ_=>aT) s1):Inv (aG6 P w K mg base N qual scope f cd h A J s H) [] (vs.map al++j.map al) (ad0 h H) s1:=by
 obtain⟨a,tk,rfl,m⟩:=x.done;have Z:∀b:Addr,b∉(aG6 P w K mg base N qual scope f cd h A J s H).ex:=λb z=>ij (show b∈([]:List Addr)from z) (by simp);have lk:∀y c,(aX (s.heap.objs.size+1) scope.names h).lookup y=al c->(aX (s.heap.objs.size+1) scope.names []).lookup y=al c\/((aX (s.heap.objs.size+1) scope.names []).lookup y=aT/\h.lookup y=al c):=λy c e=>by rw[zn,zK]at e;simp_all
 have own:∀y c,(aX (s.heap.objs.size+1) scope.names []).lookup y=al c->s.heap.objs.size<c:=λy c e=>x.above y c<|aL e;have w:∀y c,h.lookup y=al c->c<s.heap.objs.size:=λy c e=>AE (B y c e) λo v q _=>g.hok.lt q;have A:∀y c,h.lookup y=al c->scope.names.lookup y=al .free->(aX (s.heap.objs.size+1) scope.names h).lookup y=al c:=λy c e k=>by rw[zn,zK];cases q:(aX (s.heap.objs.size+1) scope.names []).lookup y with|none=>exact e|some d=>
   rcases zE (aL q)with z|z;.cases S.cel _ z rfl▸k
   simp_all
 have t:∀b,H b=aT->ad0 h H b=none:=λb e=>ad0.none e;refine⟨⟨g.mod,S.kind,rfl,rfl,aj _,λy z c a b=>?inj,λy d=>?has,λy c d e=>?cab,λ_=>i,jX g.frames,.inr ⟨rfl,rfl⟩,λb z=>ij z<|Z b,λb o e=>⟨(g.bs b o e).1,t b (g.bs b o e).2⟩,g.bsz,λb _ _=>Z b,λb z=>ij z<|Z b,g.funs,λb c=>t b<|g.frf b c⟩,rfl,g.bare,Un.kept m,⟨_,x.toInCall.ns,λi y v o f c=>?loc⟩,λy c e=>?cell,t _<|g.hok.fresh<|aj _,λy c e=>?freeC,λp l=>ij (show p∈([]:yA)from l) (by simp),(g.hok.drop B).kept m,?len⟩;case inj=>
  rcases lk y c a with a|⟨_,a⟩<;>rcases lk z c b with b|⟨_,b⟩;.exact iI x.apart (aL a) (aL b)
  .exact ij (fI (own _ _ a) (w _ _ b)) (bO _)
  .exact ij (fI (own _ _ b) (w _ _ a)) (bO _)
  .exact inj y z c a b
 case has=>
  have d:scope.names.lookup y=al .cell\/scope.names.lookup y=al .free:=d;rcases d with d|d;.refine AF (z5 (n:=s.heap.objs.size+1) d) λc e=>⟨c,?_⟩;show(aX (s.heap.objs.size+1) scope.names h).lookup y=al c;rw[zn,zK,e];rfl
  .exact AF (D y d) λc e=>⟨c,A y c e d⟩
 case cab=>
  have d:(scope.names.lookup y==al .cell)=true:=d;have b:scope.names.lookup y=al .cell:=by simpa using d
  rcases lk y c e with a|⟨a,_⟩;.exact eF<|own y c a
  .refine AF (z5 (n:=s.heap.objs.size+1) b) λd q=>?_;cases q▸a
 case loc=>
  have b:ps.Nodup:=have:=S.nd;(ly.mp<|S.app▸this).1;by_cases d:i<vs.length
  .have ha:vs[i]?=al v:=by rw[aB<|by simpa using d,aK]at f;cases e:vs[i]? with|none=>cases e▸f|some a=>cases e▸f;rfl
   refine AD (r.get ha) λu a e=>?_;have l:ps[i]?=al y:=by have Y:N[i]?=al y:=o;rw[S.app,aB<|by lia]at Y;exact Y
   refine⟨u,e,?_⟩;rcases S.par y (aF l)with k|k;.exact .inl ⟨k,ao7 b l a k⟩
   .refine AF (z5 (n:=s.heap.objs.size+1) k) λc e=>.inr ⟨.inl k,c,?_,?_⟩;.show(aX (s.heap.objs.size+1) scope.names h).lookup y=al c;rw[zn,zK,e];rfl
    .have q:=x.cell y c e;rw[an7 b l a<|by show scope.names.lookup y≠_;rw[k];decide]at q;exact q
  .have hf:fr[i-vs.length]?=al y:=by have Y:N[i]?=al y:=o;rw[S.app,aw<|by lia]at Y;exact C▸Y
   have b:j[i-vs.length]?=al v:=by rw[aw<|by simpa using d,aK,av]at f;cases e:j[i-vs.length]? with|none=>cases e▸f|some a=>cases e▸f;rfl
   exact AK (E _ y v hf b) λc o u b d f h=>have a:=S.frs y<|aF hf;⟨u,h,.inr ⟨.inr a,c,A y c b a,⟨o,m c o (g.hok c _ d).1,f⟩⟩⟩
 case cell=>
  rcases lk y c e with a|⟨_,a⟩;.exact⟨_,x.cell y c a⟩
  .exact AE (B y c a) λo v q d=>⟨v,o,m c o (g.hok c _ q).1,d⟩
 case freeC=>
  rcases lk y c e with a|⟨_,a⟩;.exact t c<|g.hok.fresh<|eF<|own y c a
  .exact ad0.cell<|ag3.mpr ⟨y,a⟩
 case len=>show _=N.length;rw[S.app];simp_all
def ba7{s c:af}(a:HOk P w H s.heap)(f:Cells h H)(b:∀b∈frs J,H b=aT)(un:Un (frs J) [] (ad0 h H) H' s.heap c.heap)(Z:HOk P w H' c.heap):Un (frs J) [] H (Put h H H') s.heap c.heap/\HOk P w (Put h H H') c.heap:=by
 have g:∀b,H b=aT->isC h b≠true:=λb e y=>AE (f.at y) λo v q _=>by lia
 have Y:∀c u,H c=al u->(∀o v,u≠.frz o v)->isC h c≠true:=λc u q d y=>AE (f.at y) λo v b _=>by grind
 have b:∀b,isC h b=bY->H' b=none:=λb y=>AE (f.at y) λo v q _=>un.free b o (a b _ q).1 (ad0.cell y) (by simp);refine⟨⟨λb o e n d c=>un.keep b o e (ad0.none n) d c,λb o e n d c=>un.slot b o e (ad0.none n) d c,λb o e n c=>?_,un.there,λb i e=>?_,λb o u e=>?_,λb ps e=>?_⟩,λb o e=>?_⟩;.exact Put.ne (g b n)▸un.free b o e (ad0.none n) c
 .have z:=Y b _ e λ_ _=>by nofun
  exact Put.ne z▸un.tups b i (ad0.ne z▸e)
 .by_cases z:isC h b=bY;.exact Put.cell z▸e
  .exact Put.ne z▸un.frzs b o u (ad0.ne z▸e)
 .have z:=Y b _ e λ_ _=>by nofun
  exact Put.ne z▸un.tbls b ps (ad0.ne z▸e)
 .by_cases z:isC h b=bY;.rw[Put.cell z]at e;refine AE (f.at z) λob v q d=>?_;rw[q]at e;cases e;have g:=(a b _ q).1;have a:=un.keep b ob g (ad0.cell z) (λy=>by simp_all) (by simp);exact⟨a,ob,a⟩
  .rw[Put.ne z]at e;have a:∀c u,H' c=al u->Put h H H' c=al u:=λc u q=>by rw[Put.ne λy=>by simp_all];exact q
   exact(Z b o e).stay (λ_ _ _ q=>q) (λc q=>a c _ q) λc i q=>a c _ q
structure ClOk(P:aH)(w:World)(K:ac)(mg:yD)(base:Heap)(k:Nat)(R:Hp->Prop)(f:Addr)(sp:Sp):Prop where run:∀(A:aU)(outer:List Env)(s:af)(H:Hp)(us:yH)(vs:List V)(Q:VK),Room k A->Env0 P w K mg base A outer s H->R H->Vals vs us->sp vs H Q E0->fy (model P w) A (.call (.ref f) ⟨us,[]⟩) (CR CX0 outer P w H s Q E0) s
def ClOk.ofFn{K}(F:FnOk P w K mg base CX0 k f Uu ps sp)(b:Binds K Uu ps []):ClOk P w K mg base k (λ_=>True) f sp:=⟨λA z s H a c Q d J _ r h=>by have Y:=F.len _ _ _ _ h;have:=b s a (J.mod.kin.keeps λb o e=>(J.bs b o e).1) (by rw[aY,<-r.length];exact Y);rw[aY]at this;exact F.run A z s H ⟨a,[]⟩ a c Q E0 d J this r h⟩
def aF1(H:Hp)(f:Addr)(c:Str)(b:bK)(body:Expr)(scope:Scope)(h:yI)(d:List V)(a:yC):Prop:=∃i e g,H f=al (ay8 f<|cB "<lambda>" c b body scope a i (.ref e) g)/\H e=al (qo e c)/\Cells a H/\(∀x y c,a.lookup x=al c->a.lookup y=al c->x=y)/\(∀x,scope.names.lookup x=al .free->∃c,a.lookup x=al c)/\Cap a H h d
def BM(mg:yD)(base:Heap):Prop:=∃b a,mg "__builtins__"=al (.ref b)/\b≠iB/\base.get? b=al a/\a.cls=.type "module"/\a.dict=al iB/\a.data=.plain
def cv7(b:yC)(P:Addr)(c:Str)(a:bK)(body:Expr)(scope:Scope)(pos:Pos):TE:=λ_ H Q=>∃ps:Array Value,H P=al (.tbl ps)/\ki ps.toList/\(dG pos ps.toList=aT->∀d f g e,H d=aT->H f=aT->d≠f->Q (.ref f) (upd (upd (upd H P<|.tbl<|ps++#[dD pos.line,dD pos.col,.ref d]) d<|qo d c) f<|ay8 f<|cB "<lambda>" c a body scope (af8 b scope.names []) g (.ref d) e))/\(∀e,dG pos ps.toList=al e->∃d,e=.ref d/\∀f g e,H f=aT->Q (.ref f) (upd H f<|ay8 f<|cB "<lambda>" c a body scope (af8 b scope.names []) g (.ref d) e))
noncomputable def lamCheck(scope a:Scope):Bool:=scope.names.all λy=>!(y.2==.free)||(a.names.lookup y.1==al .cell||a.names.lookup y.1==al .free)
def bk7(Y:X.env.code=.ref c)(Cc:bL X.base c P)(b:BM X.mg X.base)(c:lamCheck scope X.env.scope=bY)(d:autoParam (mV params X.env=([],[])) Zq4._auto_1):PE X (.Lambda params body scope pos) (cv7 X.env.cells P (X.env.qual++"<lambda>") params body scope pos):=by
 intro a s W H Q I h;have g:∀y∈scope.names,y.2=.free->X.env.kindOf y.1=al .cell\/X.env.kindOf y.1=al .free:=λy a e=>by
  have z:=aG.mp c y a;have a:=by simpa[e]using z
  exact a
 refine AZ h λps f k t v=>PySem.W.kla_eval d ?_;have h:=qh λy a e=>I.ok.has y.1<|g y a e;have i:=I.hok P _ f;have j:=I.mod.glob.keeps I.bk;have l:=Cc.keeps I.bk;have c:aV≠P:=λq=>AS j λo g n e d _=>by rw[q,i]at e;cases e;cases d
 have m:s.heap.BuiltinsAt X.mg P:=by
  refine AR b λbm d e g a AA=>AI AA λb4 n b=>⟨bm,d,e,g,λq=>?_,λq=>?_,I.bk _ _ a,b4,n,b⟩;.refine AS I.mod.glob λo g n e d _=>?_;rw[q,e]at a;cases a;cases d▸b
  .have e:=I.bk _ _ a;rw[q,i]at e;cases e;cases b4
 cases q:dG pos ps.toList with
 |none=>
  refine PySem.W.kla_makeFunction h I.ok.glob j Y l i k q c m λJ g h' tk u a b w p=>?_;have c:=aM i;have x:=eI<|aA c a;have y:=eI<|fI (aA c a) b;have A:=aI b;have c:=au a<|eF b;have d:∀b,H b=aT->b≠P:=λb n z=>by rw[z,f]at n;cases n
  have lt:∀b o,H b=al o->b≠J/\b≠h'.objs.size:=λb o e=>⟨aI<|aA (I.hok.lt e) a,aI<|aA (I.hok.lt e) c⟩;have r:∀b o,s.heap.get? b=al o->b≠J/\b≠h'.objs.size:=λb o e=>⟨aI<|aA (aM e) a,aI<|aA (aM e) c⟩;have keep:∀b o,b≠P->s.heap.get? b=al o->(h'.push<|PySem.W.kla_obj "<lambda>" (X.env.qual++"<lambda>") params body scope (af8 X.env.cells scope.names []) ((X.mg "__name__").getD .none) J g).get? b=al o:=λb o n e=>ak _<|u b o n e;have Z:∀b,b≠P->b≠J->b≠h'.objs.size->∀e n o,upd (upd (upd H P e) J n) h'.objs.size o b=H b:=λb b s u e n o=>by rw[zb u,zb s,zb b]
  refine⟨.ref h'.objs.size,upd (upd (upd H P<|.tbl<|ps++#[dD pos.line,dD pos.col,.ref J]) J<|qo J<|X.env.qual++"<lambda>") h'.objs.size<|ay8 h'.objs.size<|cB "<lambda>" (X.env.qual++"<lambda>") params body scope (af8 X.env.cells scope.names []) ((X.mg "__name__").getD .none) (.ref J) g,I.un ⟨λb o e n _ _=>keep b o (d b n) e,λb o e n _ _=>⟨o.slots,keep b o (d b n) e⟩,λb o e n _=>?fr,λb o e _=>?th,λb s e=>?tu,λb o u e=>?fz,λb e e=>?tb⟩ ?ok,rfl,t q J h'.objs.size _ g (I.hok.fresh a) (I.hok.fresh c) A⟩;case fr=>rw[Z b (d b n) (r b o e).1 (r b o e).2];exact n
  case th=>
   by_cases z:b=P;.exact z▸⟨_,ak _ p⟩
   .exact⟨o,keep b o z e⟩
  case tu=>rw[Z b (λz=>by rw[z,f]at e;cases e) (lt b _ e).1 (lt b _ e).2];exact e
  case fz=>rw[Z b (λz=>by rw[z,f]at e;cases e) (lt b _ e).1 (lt b _ e).2];exact e
  case tb=>
   by_cases z:b=P;.subst z;cases f▸e;exact⟨#[dD pos.line,dD pos.col,.ref J],by rw[zb<|bH y,zb<|bH x,zh]⟩
   .exact⟨#[],by rw[Z b z (lt b _ e).1 (lt b _ e).2,e];simp⟩
  case ok=>
   intro b o e;by_cases a:b=h'.objs.size;.subst a;rw[zh]at e;cases e;exact aw5<|aW _ rfl
   .rw[zb a]at e;by_cases a:b=J;.subst a;rw[zh]at e;cases e;exact AN w λc2 c d t n AA=>AB AA λe2 q=>aL8 ⟨c2,c,d,t,n,ak _ e2,q⟩
    .rw[zb a]at e;by_cases c:b=P;.subst c;rw[zh]at e;cases e;exact ak _ p
     .rw[zb c]at e;have n:∀d u,H d=al u->(∀ps,u≠.tbl ps)->upd (upd (upd H P<|.tbl<|ps++#[dD pos.line,dD pos.col,.ref J]) J<|qo J<|X.env.qual++"<lambda>") h'.objs.size (ay8 h'.objs.size<|cB "<lambda>" (X.env.qual++"<lambda>") params body scope (af8 X.env.cells scope.names []) ((X.mg "__name__").getD .none) (.ref J) g) d=al u:=λd u e a=>by rw[Z d (λz=>by rw[z,f]at e;cases e;exact a _ rfl) (lt d _ e).1 (lt d _ e).2];exact e
      refine(I.hok b o e).stay (λd u a q=>keep d u ?_ q) (λd q=>n d _ q λ_=>by nofun) λd s q=>n d _ q λ_=>by nofun
      rintro rfl;rcases a with a|a;.exact c a.symm
      .cases f▸a|some a=>obtain⟨J,rfl,d⟩:=v a q;refine PySem.W.kla_makeFunctionHit (mg:=X.mg) h I.ok.glob j Y l i k q m λg h' tk a c=>⟨.ref h'.objs.size,_,I.laid (t':=tk) (λb o e=>ak _<|a b o e) c<|aw5<|aW _ rfl,rfl,d h'.objs.size _ g<|I.hok.fresh c⟩
structure Caught(cl:yC)(N:yI)(kd:Str->Option cA)(W:St)(H1 H2:Hp):Prop where
 ne:∀b,isC cl b≠bY->H2 b=H1 b
 free:∀b,isC cl b=bY->H1 b=aT
 cells:Cells cl H2
 cap:∀(i:Nat)(x:Str)(v:V)(c:Addr),N[i]?=al x->W[i]?=al (al v)->(kd x=al .cell\/kd x=al .free)->cl.lookup x=al c->∃o u,H2 c=al (.frz o<|.own c)/\o.data=.cell (al u)/\RelV v u
 inj:∀x y c,cl.lookup x=al c->cl.lookup y=al c->x=y
def ch2(cl:yC)(N:yI)(kd:Str->Option cA)(sp:Sp)(t:TA):TE:=λW H Q=>t W H λb c=>∀a,Caught cl N kd W c a->sp b a (λv a=>Q v<|ad0 cl a) E0
def bE9{W:St}{us:yH}(F:FnOk X.prog X.w X.K X.mg X.base CX0 k f fd ps sp)(hr:Room k X.A)(hb:Binds X.K fd ps [])(a6:∀x,X.fn x=bY)(I:Inv X Y W H s)(r:Vals vs us)(h:∀H2,Caught X.env.cells X.N X.env.kindOf W H H2->sp vs H2 (λv H3=>Q v<|ad0 X.env.cells H3) E0):wpAny (model X.prog X.w) X.A (call (.ref f) us) (EP X Y W Q) X.xe s:=by
 let H2:Hp:=λb=>if isC X.env.cells b=bY then(s.heap.get? b).map λo=>.frz o (.own b)else H b;have J:∀b,isC X.env.cells b≠bY->H2 b=H b:=λb z=>ef z;have Uu:∀b,isC X.env.cells b=bY->∃o v,s.heap.get? b=al o/\o.data=.cell v/\H2 b=al (.frz o<|.own b):=λb z=>by obtain⟨x,e⟩:=ag3.mp z;obtain⟨v,o,g,d⟩:=I.cell x b e;exact⟨o,v,g,d,by show(if _ then _ else _)=_;rw[dO z,g];rfl⟩
 have fr:∀b,isC X.env.cells b=bY->H b=none:=λb z=>by obtain⟨x,e⟩:=ag3.mp z;exact I.freeC x b e
 have up:∀b,isC X.env.cells b=bY->X.s₀.heap.objs.size<=b:=λb z=>by obtain⟨x,e⟩:=ag3.mp z;exact I.ok.cab x b (a6 x) e
 have a0:∀b o,X.s₀.heap.get? b=al o->isC X.env.cells b≠true:=λb o e z=>ij (aA (aM e) (up b z)) (bO _);have a4:∀b∈frs X.stack,isC X.env.cells b≠true:=λb hb z=>by
  rcases aD.mp (I.stkSub b hb)with e|hb;.obtain⟨x,e2⟩:=ag3.mp z;exact I.cne x b e2 e
  .obtain⟨_,o,ho,_⟩:=I.ok.funs.mem hb;exact a0 b o ho z
 have a8:HOk X.prog X.w H2 s.heap:=λb o e=>by
  by_cases z:isC X.env.cells b=bY;.obtain⟨ob,v,g,d,q⟩:=Uu b z;rw[q]at e;cases e;exact⟨g,ob,g⟩
  .rw[J b z]at e;have np:∀c u,H c=al u->H2 c=al u:=λc u q=>by rw[J c λy=>by rw[fr c y]at q;cases q];exact q
   exact(I.hok b o e).stay (λ_ _ _ q=>q) (λc q=>np c _ q) λc xs q=>np c _ q
 have nb:∀b o,X.base.get? b=al o->isC X.env.cells b≠true:=λb o e=>a0 b o (I.ok.bs b o e).1;have e0:Env0 X.prog X.w X.K X.mg X.base X.A X.stack s H2:=⟨I.ok.frames,I.ok.mod,λb o e=>⟨(I.bs b o e).1,by rw[J b<|nb b o e];exact(I.bs b o e).2⟩,au I.ok.bsz I.sz,I.stack,λb hb=>by rw[J b<|a4 b hb];exact I.stkFree b hb,a8,I.bare⟩;have ca:Caught X.env.cells X.N X.env.kindOf W H H2:=⟨J,fr,λx c e=>by obtain⟨o,v,g,d,q⟩:=Uu c<|ag3.mpr ⟨x,e⟩;exact⟨o,v,q,d⟩,λi x v c e1 e2 e3 e4=>by
   obtain⟨m,hn,hl⟩:=I.loc;have vis:Vis X.env.scope x:=e3.elim (λz=>.inr<|.inl z) λz=>.inr<|.inr z;obtain⟨u,ru,lk⟩:=hl i x v e1 e2 vis;rcases lk with⟨z,_⟩|⟨_,c2,z1,z2⟩;.rcases e3 with y|y<;>(rw[z]at y;cases y)
   .rw[e4]at z1;cases z1;obtain⟨o,w',g,d,q⟩:=Uu c<|ag3.mpr ⟨x,e4⟩;obtain⟨o2,g2,d2⟩:=z2;rw[g]at g2;cases g2;exact⟨o,u,q,d2,ru⟩,I.ok.inj⟩;have a5:=h H2 ca;have hl:=F.len _ _ _ _ a5;have a2:=hb s us I.kIn (by rw[aY,<-r.length];exact hl);rw[aY]at a2;refine gM<|fB (F.run X.A X.stack s H2 ⟨us,[]⟩ us vs _ E0 hr e0 a2 r a5) λr s' hq=>?_;cases r with|error e=>exact bo hq|ok fl=>cases fl with|next=>exact bo hq|brk=>exact bo hq|cont=>exact bo hq|ret u=>
   obtain⟨v,H3,os,bare,un,a3,rv,q⟩:=hq;have a1:∀b,isC X.env.cells b=bY->∃o,s.heap.get? b=al o/\s'.heap.get? b=al o/\H3 b=al (.frz o<|.own b):=λb z=>by obtain⟨o,v,g,d,q2⟩:=Uu b z;have q3:=un.frzs b o _ q2;exact⟨o,g,(a3 b _ q3).1,q3⟩
   have Z:∀b u,H b=al u->isC X.env.cells b≠true:=λb u e y=>by rw[fr b y]at e;cases e
   refine⟨v,_,I.call' (H':=ad0 X.env.cells H3) (ch:=[]) os ⟨λb o e n hb hx=>?k,λb o e n hb hx=>?sl,λb o e n hx=>?fr,λb o e hx=>un.there b o e hx,λb xs e=>?tu,λb o u e=>?fz,λb ps e=>?tb⟩ (λb o e=>?hok) bare<|λb z=>ij z<|by simp,rv,q⟩;case k=>
    by_cases z:isC X.env.cells b=bY;.obtain⟨o2,g,g',_⟩:=a1 b z;rw[e]at g;cases g;exact g'
    .exact un.keep b o e (by rw[J b z];exact n) hb hx
   case sl=>exact un.slot b o e (by rw[J b<|a4 b hb];exact n) hb hx
   case fr=>
    by_cases z:isC X.env.cells b=bY;.exact ad0.cell z
    .exact ad0.none<|un.free b o e (by rw[J b z];exact n) hx
   case tu=>rw[ad0.ne<|Z b _ e];exact un.tups b xs<|by rw[J b<|Z b _ e];exact e
   case fz=>rw[ad0.ne<|Z b _ e];exact un.frzs b o u<|by rw[J b<|Z b _ e];exact e
   case tb=>rw[ad0.ne<|Z b _ e];exact un.tbls b ps<|by rw[J b<|Z b _ e];exact e
   case hok=>
    obtain⟨z,e3⟩:=ad0.some e;have np:∀c u,H3 c=al u->(∀o w',u≠.frz o w')->ad0 X.env.cells H3 c=al u:=λc u q d=>by rw[ad0.ne λy=>by obtain⟨o,_,_,q3⟩:=a1 c y;rw[q]at q3;cases q3;exact d _ _ rfl];exact q
    exact(a3 b o e3).stay (λ_ _ _ q=>q) (λc q=>np c _ q λ_ _=>by nofun) λc xs q=>np c _ q λ_ _=>by nofun
def aP3{p pos}{es:yL}(F:FnOk X.prog X.w X.K X.mg X.base CX0 k f fd ps sp)(a:Room k X.A)(b:Gl X x)(c:X.mg x=al (.ref f))(d:bR X.K (.ref f)=bY)(f:Binds X.K fd ps [])(J:∀x,X.fn x=bY)(g:PA X (e::es) t)(Y:autoParam ((x==("__debug__":Str))=ce) Zq1._auto_1)(i:autoParam (a9 (e::es) X.env=(ce,eval e X.env)::a9 es X.env) Zq4._auto_1)(j:autoParam ((cT pos<|a9 es X.env).any (·.1)=ce) Zq4._auto_1):PE X (.Call (.Name x p) (e::es) [] pos) (ch2 X.env.cells X.N X.env.kindOf sp t):=by refineλz s W H Q I h=>cz<|ak0 I b c ?_ Y;refine fm I.ok.mod.kin d (thn (g pos z s W H _ I h) λb b⟨b,H1,Z,r,q⟩=>⟨Z.kIn,?_⟩) i j;exact bE9 F a f J Z r q
def bL2(K:ac)(H:Hp)(f:Addr):Prop:=(∃a,H f=al (ay8 f a))\/∃b c a d,K.lookup f=al ⟨b,c,.func a,d⟩
def bL2.at{W:St}(h:bL2 X.K H f)(I:Inv X z W H s):PySem.W.FnAt f s.heap:=by
 rcases h with⟨J,h⟩|⟨a,a,J,a,h⟩;.exact⟨_,_,_,_,az8 I.hok h⟩
 .exact⟨_,_,_,_,I.kIn _ _ h⟩
def bZ2(P:aH)(w:World)(K:ac)(mg:yD)(base:Heap)(k:Nat)(i:Nat)(t:TA):TE:=λW H Q=>∃f,W[i]?=al (al<|.ref f)/\bL2 K H f/\t W H λc a=>bL2 K a f/\∃R b,ClOk P w K mg base k R f b/\R a/\b c a Q E0
def ce9{W:St}{a:yH}(F:ClOk X.prog X.w X.K X.mg X.base k R f sp)(b:Room k X.A)(I:Inv X z W H s)(J:R H)(r:Vals vs a)(h:sp vs H Q E0):wpAny (model X.prog X.w) X.A (call (.ref f) a) (EP X z W Q) X.xe s:=by refine gM<|fB (F.run X.A X.stack s H a vs Q b I.env0 J r h) λr a a=>?_;cases r with|error e=>exact bo a|ok b=>cases b with|ret u=>exact I.after a|next=>exact bo a|brk=>exact bo a|cont=>exact bo a
def bq4{X:Cx}{K}{mg:yD}{pos}{es:yL}(a:X.prog=P)(b:X.w=w)(c:X.K=K)(d:X.mg=mg)(Y:X.base=base)(g:Room k X.A)(j:PE X (.Name x p) (bm8 i))(l:PA X (e::es) t)(m:autoParam (a9 (e::es) X.env=(ce,eval e X.env)::a9 es X.env) Zq4._auto_1)(J:autoParam ((cT pos<|a9 es X.env).any (·.1)=ce) Zq4._auto_1):PE X (.Call (.Name x p) (e::es) [] pos) (bZ2 P w K mg base k i t):=by subst a b c d Y;refineλz s W H Q I h=>AH h λf a b c=>cz<|thn (j z s W H (λv H'=>v=.ref f/\H'=H) I ⟨.ref f,a,rfl,rfl⟩) λu d⟨v,e,a,f,ev,h⟩=>?_;subst ev;subst h;exact f▸PySem.W.callWith_F (b.at a) (thn (l pos z d W e _ a c) λa a⟨vs,H1,Z,r,a,R,sp,F,b,q⟩=>⟨a.at Z,ce9 F g Z b r q⟩) m J
noncomputable def aD7(K:ac)(names:yI):List<|Str×Addr×Addr:=names.filterMap λx=>(bI K x).map λp=>(x,p)
def au8{K}:y∈aD7 K names↔y.1∈names/\bI K y.1=al y.2:=by
 unfold aD7;rw[cO];constructor;.rintro⟨x,hx,e⟩;obtain⟨p,a,rfl⟩:=bp.mp e;exact⟨hx,a⟩
 .rintro⟨hx,e⟩;exact⟨y.1,hx,by rw[e];rfl⟩
def bN1(K:ac)(names:yI)(base:Heap):Prop:=∀x∈names,∀c P,bI K x=al (c,P)->bL base c P
def bL1(K:ac)(names:yI)(H:Hp):Prop:=∀x∈names,∀c P,bI K x=al (c,P)->H P=al (.tbl #[])
noncomputable def ch9(K:ac)(names:yI)(ts:List Addr):Bool:=names.all λx=>match bI K x with|some (c,P)=>lQ K c P&&ts.contains P|none=>bY
def aw6{K}(h:(bI K x).isSome=bY):bI K x=al (((bI K x).getD (0,0)).1,((bI K x).getD (0,0)).2):=by obtain⟨p,e⟩:=cw.mp h;rw[e];rfl
def ch4(H:Hp)(P:Addr)(q:Str):Prop:=∃ps:Array Value,H P=al (.tbl ps)/\ki ps.toList/\∀a b,dG a ps.toList=al b->∃a,b=.ref a/\H a=al (qo a q)
def TabsH(T:List<|Addr×Str)(H:Hp):Prop:=∀y∈T,ch4 H y.1 y.2
def bm3(H H':Hp):Prop:=∀b o,(∀ps,o≠.tbl ps)->H b=al o->H' b=al o
def bm3.of(a:af9 H z):bm3 H z:=λc o _ h=>a c o h
def TabsH.keep(h:TabsH T H)(k:∀b o,(∀J,o≠.J J)->H b=al o->H' b=al o):TabsH T H':=λy a=>AH (h y a) λps e t c=>⟨ps,k _ _ (λ_=>by nofun) e,t,λa z q=>AD (c a z q) λUu a b=>⟨Uu,a,k _ _ (λ_=>by nofun) b⟩⟩
def TabsH.same(h:TabsH T H)(s:af9 H H'):TabsH T H':=h.keep λb o _ e=>s b o e
theorem TabsH.new(h:TabsH T H)(n:H a=aT):TabsH T<|upd H a o:=h.same<|(af9.refl H).new n
def TabsH.put(h:TabsH T H)(n:H a=al (.J J)):TabsH T<|upd H a o:=h.keep λb u d e=>by rw[zb λz=>by grind];exact e
def TabsH.init(h:∀p∈T.map (·.1),H p=al (.tbl #[])):TabsH T H:=λy a=>⟨#[],h _<|bF a,trivial,λa z e=>by simp[dG]at e⟩
set_option tactic.hygienic true in def codeAmong_add:∀(l:yH),ki l->dG pos (l++[dD a,dD b,c])=al J->dG pos l=al J\/J=c:=by intro l;fun_induction ki l with
 |case1=>
  intro _ e;simp only[gu,dG,dD]at e;split at e;.exact .inr (ay e).symm
  .cases e|case2 x t y u z rest a=>
  intro h e;simp only[dB,dG]at e⊢;split at e;.rename_i q;left;exact dO q▸e
  .rename_i q;exact ef q▸a h e|case3 l a h2=>simp_all
def bv9(J:Caught cells N kd W H1 H2)(a:∃pm d h,H1 f=al (ay8 f<|cB "<lambda>" q params body scope (af8 cells scope.names []) pm (.ref d) h)/\H1 d=al (qo d q))(Y:∀x,scope.names.lookup x=al .free->∃c,cells.lookup x=al c)(Z:∀(i:Nat)(x:Str)(v:V),fr[i]?=al x->cap[i]?=al v->scope.names.lookup x=al .free/\(kd x=al .cell\/kd x=al .free)/\∃j:Nat,N[j]?=al x/\W[j]?=al (al v)):aF1 H2 f q params body scope fr cap<|af8 cells scope.names []:=by
 refine AX a λpm d h i h2=>?_;have f:∀b o,H1 b=al o->H2 b=al o:=λb o e=>(J.ne b λz=>by rw[J.free b z]at e;cases e)▸e;have a:∀x c,(af8 cells scope.names []).lookup x=al c->cells.lookup x=al c:=λx c e=>by rcases clOf_mem (aL e)with z|z;all_goals simp_all
 refine⟨pm,d,h,f _ _ i,f _ _ h2,λx c e=>J.cells x c<|a x c e,λx y c b d=>J.inj x y c (a x c b) (a y c d),λx k=>?_,λi x v b d=>?_⟩;.exact AF (Y x k) λc e=>⟨c,ql e<|aL k⟩
 .exact AM (Z i x v b d) λk kk j a b=>AF (Y x k) λc e=>AL (J.cap j x v c a b kk e) λo u a b d=>⟨c,o,u,ql e<|aL k,a,b,d⟩
def Caught.same{a}(J:Caught a N kd W h H2):af9 h H2:=λb o e=>(J.ne b λz=>by rw[J.free b z]at e;cases e)▸e
def Fun.okC{K}{st}(F:Fun K x qual st f Z)(Y:Z.code=.ref c)(S:FnScope N ps<|defScope st)(len:∀a H Q E,sp a H Q E->a.length=ps.length)(J:∀(A:aU)(z:List Env)(s:af)(H:Hp)(a:List V)(Q:VK)(E:XK),Room k (A.deeper<|gm qual (defScope st) s.heap.objs.size f<|.ref c)->sp a H Q E->∃t,PSs (as7 CX0 P w K mg base N qual (defScope st) f (.ref c) A z s H E).nox (defBody st) t/\t {nx:=λ_ H'=>Q .N H',rt:=Q} (ah5 N a) H):FnOk P w K mg base CX0 (k+1) f Z ps sp:=by obtain⟨a,a,kV,a,a,a,a,a,a,rfl,lk,a⟩:=F.ex;have e:=Y;subst e;exact bM7 lk a S len λA z s H a Q E b c=>AD (J A z s H a Q E b c) λt h q=>⟨t,h.nox,q⟩
noncomputable def cm3(a:Int)(n:Nat):It:=⟨λi _=>i<n,λi H x H'=>H'=H/\x=.int (a+i*2),λi _=>n<=i⟩
def aH0{K}it Z n:Turn P w K tg (cm3 Z n) [it] it<|λi h=>jV h it (Z+(i)*2) ((n)-(i)) 2 where
 mem:=by simp
 obj:=λi h a b c=>by simp_all
 keep:=λi h h' a k=>k it (by simp) _ a;item:=by intro X d f g h i J s W H E I Y a j;subst d f g;refine AV (Y it<|by simp) λf0 k q l m p=>have b:=nR (prog:=X.prog) (w:=X.w) (I.ok.hd h) it Z 2 n;b.item i s _ _ j a λv h' tk b a kk=>?_;obtain⟨t,rfl⟩:=b;have d:Inv X J W H {s with heap:=h',toks:=tk}:=I.turned (λb o c e=>kk b o (by simp_all) e) f0 k l m p;exact⟨_,rfl,be7 a rfl rfl (by decide) ⟨.int<|Z+i*2,H,d,⟨t,rfl⟩,⟨rfl,rfl⟩,a,λb c=>(Y b c).1⟩⟩
 done:=by intro X d f g h i J s W H E I Y a j;subst d f g;exact AV (Y it<|by simp) λf0 k q l m p=>iD (I.ok.hd h) a (by have:n<=i:=j;omega) λh' a=>⟨rfl,I.turned (a) f0 k l m p⟩
 self:=λ_ _ _ _ _ a h=>iE a h
def az7:ci a b 2=if a<b then(b-a-1)/2+1 else 0:=by unfold ci;rw[dO<|by decide]
def bl6(c:0<=a)(z:a<2^20)(c:0<=b)(h:b<2^20):kB a b 2=true:=by unfold kB;rw[az7];simp only[mG,ae,cf,iF,show(2:Int)>0 by decide,if_true];split<;>omega
def rowO(r:List<|Option Int):D:=.tp<|r.map cw9
def bb3{K}(f:X.calm=bY)(d:X.K=K):ae4 X (.builtin "min") (λb H Q=>∃a c,b=[.ref a]/\SqL K H a (c.map V.int)/\c≠[]/\∀m∈c,(∀y∈c,m<=y)->Q (.int m) H):=by
 subst d;intro a s W H b a Q I r h;obtain⟨a,c,rfl,b,e,q⟩:=h;obtain⟨u,rfl,d⟩:=jM r;cases d;refine AH (I.list b) λits Z d b=>?_;have b:=Z.length;rw[av]at b;have b:=kC.mpr e;refine call_min_walk<|d6 d.isList ?_;have g:a<s.heap.objs.size:=AE d λo _ e _=>aM e;have b:=mR (prog:=X.prog) (w:=X.w) (A:=X.A.in1) (I.ok.hd f) s.heap.objs.size a (aI g) its.toArray;let val:=λi=>c.getD i 0;have J:∀i v,its.toArray[i]?=al v->∃t,v=Value.int (val i) t:=λi v e=>by refine AE (ax2 Z<|c8▸e) λz t a f=>⟨t,?_⟩;rw[f];show Value.int z t=Value.int (c.getD i 0) t;rw[bE,a];rfl
 refine⟨_,_,_,_,_,_,_,rfl,b,⟨⟨_,aW _ rfl,rfl,rfl⟩,?_⟩,λb a=>?_,by rw[aJ];lia,ny val J,λv h' tk b k=>?_⟩;.exact AD d.isList λo e r=>⟨o,ak _ e,r⟩
 .rw[cx];rcases aD.mp a with z|z;.exact z▸dE _
  .have Y:=by simpa using z
   exact Y▸g9 g
 .refine AE (ax2 Z<|c8▸b) λz t a f=>?_;subst f;have d:val (eM (λi j=>decide<|val i<val j) (its.toArray.size-1))=z:=by show c.getD _ 0=z;rw[bE,a];rfl
  refine⟨.int z,H,I.kept λb o q=>k b o ?_<|ak _ q,⟨t,rfl⟩,q z (aF a) λy a=>?_⟩
  .intro z;have Y:=by simpa using z
   exact ij (aM q) (Y▸bO _)
  .obtain⟨j,hj,e3⟩:=dj.mp a;have:=jJ val (its.toArray.size-1) j (by simp only[aJ];lia);rw[d]at this;have a:val j=y:=by show c.getD j 0=y;rw[bE,ar hj];exact e3
   lia
noncomputable def mx(a b:Int):Int:=if b>a then b else a
def bu8:mx a b<=x↔a<=x/\b<=x:=by unfold mx;lia
noncomputable def sgn(s:Nat->Nat->Int):Nat->Nat->Option Int:=λi j=>al<|s i j
def bi0(n:Nat)(s t:Nat->Nat->Int)(i j:Nat):Int:=(minO<|(aq n).map λk=>mx (s i k) (t k j)).getD 3
def bk6(h:minO l=al m):m<=x↔∃y∈l,y<=x:=AB (aB6 h) λUu J=>⟨λz=>⟨m,Uu,z⟩,λ⟨y,a,z⟩=>fK (J y a) z⟩
def aF5(h:l≠[]):∃m,minO l=al m:=by cases e:minO l with|none=>exact ij (am1.mp e) h|some m=>exact⟨m,rfl⟩
def ay7(a:1<=n):bi0 n s t i j<=x↔∃k,k<n/\s i k<=x/\t k j<=x:=by
 refine AF (aF5 (l:=(aq n).map λk=>mx (s i k) (t k j))<|λz=>by simp_all) λm h=>?_;unfold bi0;rw[h];show m<=x↔_;rw[bk6 h];constructor;.rintro⟨y,hy,hx⟩;obtain⟨k,a,rfl⟩:=ao.mp hy;exact⟨k,bC.mp a,bu8.mp hx⟩
 .rintro⟨k,a,hx⟩;exact⟨_,ao.mpr ⟨k,bC.mpr a,rfl⟩,bu8.mpr hx⟩
def aA4{b:Int}(h:∀x,a<=x↔b<=x):a=b:=by have J:=(h b).mpr<|cJ _;have z:=(h a).mp<|cJ _;lia
def bv5(a:1<=n)(h:∀i j,i<n->j<n->0<=s i j/\s i j<=3)(h':∀i j,i<n->j<n->0<=t i j/\t i j<=3)(hi:i<n)(b:j<n):0<=bi0 n s t i j/\bi0 n s t i j<=3:=by
 constructor;.refine AH ((ay7 a (s:=s) (t:=t) (i:=i) (j:=j)).mp<|cJ _) λk c J z=>?_;have:=h i k hi c;lia
 .exact(ay7 a).mpr ⟨0,by lia,(h i 0 hi<|by omega).2,(h' 0 j (by omega) b).2⟩
section
variable{X:Cx}
end
def mx3(a b c:Int):Int:=mx (mx a b) c
def bC0:mx3 a b c<=x↔a<=x/\b<=x/\c<=x:=by unfold mx3;rw[bu8,bu8,and_assoc]
def bf0(a:X.calm=bY):ae4 X (.builtin "max") (λJ H Q=>∃i j k,J=[.int i,.int j,.int k]/\Q (.int<|mx3 i j k) H):=by intro z s W H J b Q I r h;obtain⟨i,j,k,rfl,q⟩:=h;cases r with|cons b r=>cases r with|cons c r=>cases r with|cons d r=>
    cases r;obtain⟨e,rfl⟩:=b;obtain⟨Y,rfl⟩:=c;obtain⟨b,rfl⟩:=d;refine max_three_ints (I.ok.hd a) λh' tk kk=>⟨_,H,I.kept kk,?_,q⟩;unfold mx3 mx;by_cases a:j>i
    .rw[dO a,dO a];by_cases h2:k>j;.rw[dO h2,dO h2];exact⟨_,rfl⟩
     .rw[ef h2,ef h2];exact⟨_,rfl⟩
    .rw[ef a,ef a];by_cases h2:k>i;.rw[dO h2,dO h2];exact⟨_,rfl⟩
     .rw[ef h2,ef h2];exact⟨_,rfl⟩
def InT(n:Nat)(s:Nat->Nat->Int):Prop:=∀i j,i<n->j<n->0<=s i j/\s i j<=3
noncomputable def rnd(x:Int):Int:=if x=0\/x=3 then x else 2
def sharp(n:Nat)(s:Nat->Nat->Int)(i j:Nat):Int:=(minO<|(aq n).map λk=>mx3 (s i k) (rnd<|s k k) (s k j)).getD 3
def an3(a:1<=n):sharp n s i j<=x↔∃k,k<n/\s i k<=x/\rnd (s k k)<=x/\s k j<=x:=by
 refine AF (aF5 (l:=(aq n).map λk=>mx3 (s i k) (rnd<|s k k) (s k j))<|λz=>by simp_all) λm h=>?_;unfold sharp;rw[h];show m<=x↔_;rw[bk6 h];constructor;.rintro⟨y,hy,hx⟩;obtain⟨k,a,rfl⟩:=ao.mp hy;exact⟨k,bC.mp a,bC0.mp hx⟩
 .rintro⟨k,a,hx⟩;exact⟨_,ao.mpr ⟨k,bC.mpr a,rfl⟩,bC0.mpr hx⟩
def bz8(h:0<=y)(a:y<=3):0<=rnd y/\rnd y<=3:=by unfold rnd;lia
def bu5(a:1<=n)(h:InT n s):InT n<|sharp n s:=λi j b c=>by
 constructor;.refine AH ((an3 a (s:=s) (i:=i) (j:=j)).mp<|cJ _) λk d z _=>?_;have:=h i k b d;lia
 .exact(an3 a).mpr ⟨0,by omega,(h i 0 b<|by omega).2,(bz8 (h 0 0 (by omega) (by omega)).1 (h 0 0 (by omega) (by omega)).2).2,(h 0 j (by omega) c).2⟩
section
variable{n:Nat}{s:Nat->Nat->Int}
end
def ct9(b:yC)(P:Addr)(d q:Str)(a:bK)(body:yM)(scope:Scope)(pos:Pos)(i:Nat):TS:=λD W H=>∃ps:Array Value,H P=al (.tbl ps)/\ki ps.toList/\(dG pos ps.toList=aT->∀c f e h g,H c=aT->H f=aT->c≠f->D.nx (W.set i<|al<|.ref f) (upd (upd (upd H P<|.tbl<|ps++#[dD pos.line,dD pos.col,.ref c]) c<|qo c q) f<|ay8 f<|cX d q a body scope (af8 b scope.names []) .none .none e h aT (.ref c) g))/\(∀e,dG pos ps.toList=al e->∃c,e=.ref c/\∀f e h g,H f=aT->D.nx (W.set i<|al<|.ref f) (upd H f<|ay8 f<|cX d q a body scope (af8 b scope.names []) .none .none e h aT (.ref c) g))
def ca8{X}{params}{body:yM}{pos}(hN:X.N.Nodup)(hi:X.N[i]?=al name)(hx:Loc X.env.scope name)(Z:X.env.code=.ref c)(Cc:bL X.base c P)(hB:BM X.mg X.base)(e4:lamCheck scope X.env.scope=bY)(hq:autoParam (mW X.env name name=q) Zq4._auto_1)(d1:autoParam (params.defaults=[]) Zq4._auto_1)(e0:autoParam (params.kw_defaults=[]) Zq4._auto_1)(ha:autoParam (annTrees params aT X.env=[]) Zq4._auto_1)(hf:autoParam (X.fn name=bY\/X.env.scope.names.lookup name=al .local) Zq6._auto_1):PS X (.FunctionDef name params body [] aT [] scope aT name pos) (ct9 X.env.cells P name q params body scope pos i):=by
 intro a1 s W H D I h;have d2:∀y∈scope.names,y.2=.free->X.env.kindOf y.1=al .cell\/X.env.kindOf y.1=al .free:=λy hy e=>by
  have z:=aG.mp e4 y hy;have z':X.env.scope.names.lookup y.1=al .cell\/X.env.scope.names.lookup y.1=al .free:=by lia
  exact z'
 refine AZ h λps hP ht a8 a6=>PySem.W.nestDef_K d1 e0 ha ?_;rw[hq];have fin:∀{H2:Hp}{f:Addr}{s2:af},Inv X a1 W H2 s2->D.nx (W.set i<|al<|.ref f) H2->wpAny (model X.prog X.w) X.A (fQ X.env name<|.ref f) (λ_ s3=>SP X a1 D .next s3) X.xe s2:=λ{H2 f s2}I2 q2=>jo (v:=.ref f) I2 hN hi hx rfl (λs3 I3=>⟨_,H2,I3,q2⟩) hf;have hcl:=qh (scope:=scope) (env:=X.env) λy hy e=>I.ok.has y.1<|d2 y hy e;have oP:s.heap.get? P=al (fJ ps):=I.hok P _ hP;have a2:s.heap.Ns aV X.mg:=I.mod.glob.keeps I.bk;have hC:bL s.heap c P:=Cc.keeps I.bk;have d0:aV≠P:=λq=>AS a2 λo es ep e d _=>by lia
 have hb:s.heap.BuiltinsAt X.mg P:=by
  refine AR hB λbm ob b1 b2 b3 AA=>AI AA λb4 b5 b6=>⟨bm,ob,b1,b2,λq=>?_,λq=>?_,I.bk _ _ b3,b4,b5,b6⟩;.refine AS I.mod.glob λo es ep e d _=>?_;lia
  .have e:=I.bk _ _ b3;lia
 cases qq:dG pos ps.toList with
 |none=>
  refine PySem.W.makeFunction_K (mg:=X.mg) hcl I.ok.glob a2 Z hC oP ht qq d0 hb λJ Uu Y h' tk hx hge hlt c0 a3=>?_;have a4:P<s.heap.objs.size:=aM oP;have c4:J≠P:=eI<|aA a4 hge;have c5:h'.objs.size≠P:=eI<|fI (aA a4 hge) hlt;have c3:J≠h'.objs.size:=aI hlt;have hsz:s.heap.objs.size<=h'.objs.size:=au hge<|eF hlt;have nP:∀b,H b=aT->b≠P:=λb n z=>by lia
  have lt:∀b o,H b=al o->b≠J/\b≠h'.objs.size:=λb o e=>⟨aI<|aA (I.hok.lt e) hge,aI<|aA (I.hok.lt e) hsz⟩;have b0:∀b o,s.heap.get? b=al o->b≠J/\b≠h'.objs.size:=λb o e=>⟨aI<|aA (aM e) hge,aI<|aA (aM e) hsz⟩;have keep:∀b o,b≠P->s.heap.get? b=al o->(h'.push<|PySem.W.fnMade name q params body scope (af8 X.env.cells scope.names []) Y ((X.mg "__name__").getD .none) J Uu).get? b=al o:=λb o n e=>ak _<|hx b o n e;have a0:∀b,b≠P->b≠J->b≠h'.objs.size->∀o1 o2 o3,upd (upd (upd H P o1) J o2) h'.objs.size o3 b=H b:=λb n1 n2 n3 o1 o2 o3=>by rw[zb n3,zb n2,zb n1]
  refine fin (H2:=upd (upd (upd H P<|.tbl<|ps++#[dD pos.line,dD pos.col,.ref J]) J<|qo J q) h'.objs.size<|ay8 h'.objs.size<|cX name q params body scope (af8 X.env.cells scope.names []) .none .none Y ((X.mg "__name__").getD .none) aT (.ref J) Uu) (I.un (t':=tk) ⟨λb o e n _ _=>keep b o (nP b n) e,λb o e n _ _=>⟨o.slots,keep b o (nP b n) e⟩,λb o e n _=>?fr,λb o e _=>?th,λb xs e=>?tu,λb o u e=>?fz,λb qs e=>?tb⟩ ?ok) (a8 qq J h'.objs.size Y _ Uu (I.hok.fresh hge) (I.hok.fresh hsz) c3);case fr=>simp_all
  case th=>
   by_cases z:b=P;.exact z▸⟨_,ak _ a3⟩
   simp_all
  case tu=>grind
  case fz=>grind
  case tb=>
   by_cases z:b=P;.subst z;cases hP▸e;exact⟨#[dD pos.line,dD pos.col,.ref J],by rw[zb<|bH c5,zb<|bH c4,zh]⟩
   .exact⟨#[],by rw[a0 b z (lt b _ e).1 (lt b _ e).2,e];simp⟩
  case ok=>
   intro b o e;by_cases zf:b=h'.objs.size;.subst zf;rw[zh]at e;cases e;exact aw5<|aW _ rfl
   .rw[zb zf]at e;by_cases zc:b=J;.subst zc;rw[zh]at e;cases e;exact AN c0 λc2 oc vs t e1 AA=>AB AA λe2 e3=>aL8 ⟨c2,oc,vs,t,e1,ak _ e2,e3⟩
    .rw[zb zc]at e;by_cases zp:b=P;.subst zp;rw[zh]at e;cases e;exact ak _ a3
     .rw[zb zp]at e;have a5:∀d u,H d=al u->(∀ps,u≠.tbl ps)->upd (upd (upd H P<|.tbl<|ps++#[dD pos.line,dD pos.col,.ref J]) J<|qo J q) h'.objs.size (ay8 h'.objs.size<|cX name q params body scope (af8 X.env.cells scope.names []) .none .none Y ((X.mg "__name__").getD .none) aT (.ref J) Uu) d=al u:=λd u e nt=>by grind
      refine(I.hok b o e).stay (λd u hd q=>keep d u ?_ q) (λd q=>a5 d _ q λ_=>by nofun) λd xs q=>a5 d _ q λ_=>by nofun
      lia|some cv=>obtain⟨J,rfl,c1⟩:=a6 cv qq;exact PySem.W.makeFunction_hit (mg:=X.mg) hcl I.ok.glob a2 Z hC oP ht qq hb λUu Y h' tk hk hsz=>fin (I.laid (t':=tk) (λb o e=>ak _<|hk b o e) hsz<|aw5<|aW _ rfl) (c1 h'.objs.size Y _ Uu<|I.hok.fresh hsz)
def as0(H:Hp)(f:Addr)(d c:Str)(b:bK)(body:yM)(scope:Scope)(j:yI)(e:List V)(a:yC):Prop:=∃g k h i,H f=al (ay8 f<|cX d c b body scope a .none .none g k aT (.ref h) i)/\H h=al (qo h c)/\Cells a H/\(∀x y c,a.lookup x=al c->a.lookup y=al c->x=y)/\(∀x,scope.names.lookup x=al .free->∃c,a.lookup x=al c)/\Cap a H j e
def bx1{body:yM}(d:Caught cells N kd W H1 H2)(a:∃J g Y h,H1 f=al (ay8 f<|cX name q params body scope (af8 cells scope.names []) .none .none J g aT (.ref Y) h)/\H1 Y=al (qo Y q))(Z:∀x,scope.names.lookup x=al .free->∃c,cells.lookup x=al c)(l:∀(i:Nat)(x:Str)(v:V),fr[i]?=al x->cap[i]?=al v->scope.names.lookup x=al .free/\(kd x=al .cell\/kd x=al .free)/\∃j:Nat,N[j]?=al x/\W[j]?=al (al v)):as0 H2 f name q params body scope fr cap<|af8 cells scope.names []:=by
 refine AN a λJ g Y h i h2=>?_;have f:∀b o,H1 b=al o->H2 b=al o:=λb o e=>(d.ne b λz=>by rw[d.free b z]at e;cases e)▸e;have a:∀x c,(af8 cells scope.names []).lookup x=al c->cells.lookup x=al c:=λx c e=>by rcases clOf_mem (aL e)with z|z;all_goals simp_all
 refine⟨J,g,Y,h,f _ _ i,f _ _ h2,λx c e=>d.cells x c<|a x c e,λx y c b f=>d.inj x y c (a x c b) (a y c f),λx k=>?_,λi x v b f=>?_⟩;.exact AF (Z x k) λc e=>⟨c,ql e<|aL k⟩
 .exact AM (l i x v b f) λk kk j a b=>AF (Z x k) λc e=>AL (d.cap j x v c a b kk e) λo u a b d=>⟨c,o,u,ql e<|aL k,a,b,d⟩
def as0.fn{K}(h:as0 H f name qual params body scope fr cap z):bL2 K H f:=AN h λUu Z a J Y _=>.inl ⟨_,Y⟩
end L2
end
noncomputable section
namespace L2
open PySem PySem.Spec PyProof.Rows Builtin
section
variable{P:aH}{w:World}{A:aU}{E:yB}{s:af}
def aK6{l:yK}{Q:yB}(J:s.heap.IsTupleIter it t i)(Y:s.heap.IsTuple t l)(b:l[i]?=al v)(k:∀h',h'.IsTupleIter it t (i+1)->eG it s.heap h'->Q v {s with heap:=h'}):wpAny (model P w) A (cE<|.ref it) Q E s:=by refine AH (id J) λo a c h=>AH Y λp d _ AA=>AF AA λn e=>ai<|dF J.typeIs c7<|dz c7 J.typeIs gE ?_<|gy _;show wpAny _ _ (field (.ref it) 0>>=_) _ _ _;refine ai<|fq a h rfl ?_;rw[ef<|λz=>nomatch z];refine ai<|fq a h rfl ?_;refine ai<|dC d e ?_;simp only[d9,b];refine ai<|wpAny_setField a h (by simp) (aE ⟨v,rfl,aE<|k _ ⟨_,d5 _ a<|Obj.isFreed_of_fields<|kT h _,(Obj.cls_mapFields ..).trans c,by rw[kT h];simp[dD]⟩<|kD ..⟩)
def aW1{l:yK}{Q:yB}(b:A.handled=aT)(J:s.heap.IsTupleIter it t i)(Y:s.heap.IsTuple t l)(c:l[i]?=aT)(k:∀h' e,l7 it s.heap h'->(∃o,h'.get? e=al o/\o.cls=.type "StopIteration")->E (.ref e) {s with heap:=h'}):wpAny (model P w) A (cE<|.ref it) Q E s:=by
 refine AH (id J) λo a d h=>AH Y λp d _ AA=>AF AA λn e=>ai<|dF J.typeIs c7<|dz c7 J.typeIs gE ?_<|gy _;show wpAny _ _ (field (.ref it) 0>>=_) _ _ _;refine ai<|fq a h rfl ?_;rw[ef<|λz=>nomatch z];refine ai<|fq a h rfl ?_;refine ai<|dC d e ?_;simp only[d9,c];refine ai<|kL<|ai<|wpAny_setField a h (by simp) ?_;refine ai ?_;simp only[newExc];refine ai<|cG ?_ (by size_fits);refine ai<|l6 (by first|rfl|(simp only[];rfl)) (cG ?_<|by size_fits);simp only[];refine ai<|wpAny_handled ?_;first|rw[b]|rw[b]
 exact ai<|aE<|wpAny_throw<|k _ _ (((kD ..).extBut.push _).push _) ⟨_,aW _ rfl,rfl⟩
end
structure Dw(P:aH)(w:World)(K:ac)(J:It)(it:Addr)(tn:Nat->Heap->Prop):Prop where
 obj:∀i h,tn i h->∃o,h.get? it=al o/\∀v,o.data≠.cell v
 keep:∀i h h',tn i h->(∀o,h.get? it=al o->h'.get? it=al o)->tn i h'
 item:∀(X:Cx),X.prog=P->X.w=w->X.K=K->∀(A:aU)(i:Nat)(pins:yA)(s:af)(W:St)(H:Hp)(Q:yB)(E:yB),Inv X pins W H s->tn i s.heap->J.go i H->(∀x u h' tk,RelV x u->J.yld i H x H->tn (i+1) h'->eG it s.heap h'->Q u {s with heap:=h',toks:=tk})->wpAny (model P w) A (cE<|.ref it) Q E s
 done:∀(X:Cx),X.prog=P->X.w=w->X.K=K->∀(A:aU)(i:Nat)(pins:yA)(s:af)(W:St)(H:Hp)(Q:yB)(E:yB),A.handled=aT->Inv X pins W H s->tn i s.heap->J.stop i H->(∀h' e,l7 it s.heap h'->(∃o,h'.get? e=al o/\o.cls=.type "StopIteration")->E (.ref e) {s with heap:=h'})->wpAny (model P w) A (cE<|.ref it) Q E s
def bJ5{K}a it:Dw P w K (Itl K a) it<|λi h=>h.IsListIter it a i where
 obj:=λi h a=>AH a λo e c d=>by simp_all
 keep:=λi h h' a k=>a.at k;item:=by intro X Y c d A i J s W H Q E I a Z k;subst Y c d;exact AE Z λxs x b f=>AH (I.list b) λits e p g=>AD (e.get f) λu c c=>wpAny_nextOf_list_item a p.isList (by simp_all) λh' a d=>k x u h' s.toks c ⟨rfl,λc c=>by rw[I.list_inj c b];lia⟩ a d
 done:=by intro X Y c d A i J s W H Q E h I a Z k;subst Y c d;exact AD Z λxs b f=>AH (I.list b) λits e p g=>have b:=e.length;wpAny_nextOf_list_end h a p.isList (by simp_all) k
def cd5{K}a it:Dw P w K (Itt K a) it<|λi h=>h.IsTupleIter it a i where
 obj:=λi h a=>AH a λo e c d=>by simp_all
 keep:=λi h h' a k=>a.at k;item:=by intro X Y c d A i J s W H Q E I a Z k;subst Y c d;exact AE Z λxs x b f=>AH (I.tuple b) λits e p g=>AD (e.get f) λu c c=>aK6 a (p) (by simp_all) λh' a d=>k x u h' s.toks c ⟨rfl,λc c=>by rw[I.tuple_inj c b];lia⟩ a d
 done:=by intro X Y c d A i J s W H Q E h I a Z k;subst Y c d;exact AD Z λxs b f=>AH (I.tuple b) λits e p g=>have b:=e.length;aW1 h a (p) (by simp_all) k
def ci1{K}x t it:Dw P w K (Its x) it<|λi h=>h.IsStrIter it (j2 x) x t i where
 obj:=λi h a=>AH a λo e c d=>by simp_all
 keep:=λi h h' a k=>AD a λo a r=>⟨o,k _ a,r⟩;item:=by
  intro X d e f A i Y s W H Q E I a Z k;subst d e f;have g:i<x.cps.size:=Z;have b:x.cps[i]?=al x.cps[i]:=by simp[]
  unfold j2 at a k;cases c:x.cps.all (·<128);.rw[c]at a k;exact wpAny_nextOf_wide_item a b λh' J d=>k (.str ⟨#[x.cps[i]]⟩) _ h' (s.toks+1) ⟨_,rfl⟩ ⟨rfl,_,b,rfl⟩ J d
  .rw[c]at a k;exact wpAny_nextOf_ascii_item a b λh' J d=>k (.str ⟨#[x.cps[i]]⟩) _ h' (s.toks+1) ⟨_,rfl⟩ ⟨rfl,_,b,rfl⟩ J d
 done:=by
  intro X d e f A i Y s W H Q E h I a Z k;subst d e f;have g:x.cps.size<=i:=Z;have b:x.cps[i]?=none:=by simp[g]
  unfold j2 at a;cases c:x.cps.all (·<128);.exact wpAny_nextOf_wide_end h (c▸a) b k
  .exact wpAny_nextOf_ascii_end h (c▸a) b k
section
variable{X:Cx}{pins:yA}{W:St}{H:Hp}{s:af}{A:aU}{E:yB}{J1 J2:It}{t1 t2:Nat->Heap->Prop}{z ti to i1 i2:Addr}{n:Nat}{a b:Value}
end
def Mkr(v:Value)(o:Obj)(h:Heap):Prop:=∀P w A(E:yB)s(Q:yB),(∀b u,h.get? b=al u->s.heap.get? b=al u)->Q (.ref s.heap.objs.size) {s with heap:=s.heap.push o}->wpAny (model P w) A (nG v) Q E s
def Sr(K:ac)(H:Hp)(x:V)(J:It):Prop:=(∃a,x=.ref a/\(∃b,SqL K H a b)/\J=Itl K a)\/(∃a,x=.ref a/\(∃b,SqT K H a b)/\J=Itt K a)\/∃y,x=.str y/\J=Its y
def Sr.mk{W:St}(I:Inv X z W H s)(h:Sr X.K H x J)(r:RelV x u):∃(o:Obj)(a:Addr->Nat->Heap->Prop),o.isFreed=ce/\Mkr u o s.heap/\(∀it,Dw X.prog X.w X.K J it<|a it)/\∀it h',h'.get? it=al o->a it 0 h':=by
 rcases h with⟨a,e,⟨c,d⟩,b⟩|⟨a,e,⟨c,d⟩,b⟩|⟨y,e,b⟩;.subst e b;cases r;exact AH (I.list d) λits Y p g=>⟨_,λit i h=>h.IsListIter it a i,rfl,λP w A E f Q c q=>d6 (p.isList.at λo e=>c _ _ e) q,(bJ5 a),λit h' e=>⟨_,e,rfl,rfl⟩⟩
 .subst e b;cases r;exact AH (I.tuple d) λits Y p g=>⟨_,λit i h=>h.IsTupleIter it a i,rfl,λP w A E f Q c q=>kM (Heap.IsTuple.at (p) λo e=>c _ _ e) q,(cd5 a),λit h' e=>⟨_,e,rfl,rfl⟩⟩
 .subst e b;obtain⟨t,rfl⟩:=r;exact⟨_,λit i h=>h.IsStrIter it (j2 y) y t i,rfl,λP w A E f Q c q=>wpAny_pyIter_strU q,(ci1 y t),λit h' e=>⟨_,e,rfl,rfl⟩⟩
end L2
end
noncomputable section
namespace L2
open PySem PySem.Spec PyProof.Rows Builtin
open AutoSeq1(wpAny_loadPart')
section
variable{X:Cx}{pins:yA}{W:St}{H:Hp}{s:af}{A:aU}{E:yB}{J1:It}{t1:Nat->Heap->Prop}{z it:Addr}{n:Nat}{old:Value}
end
end L2
end
noncomputable section
namespace L2
open PySem PySem.Spec PyProof.Rows Builtin
open AutoSeq1(wpAny_loadPart')
end L2
end
noncomputable section
namespace L2
open PySem PySem.Spec PyProof.Rows
def bA2(a:TA):TI:=λW H R=>a W H λa b=>∃i j,a=[.int i,.int j,.int 2]/\(0<=i/\i<2^20/\0<=j/\j<2^20)/\R (cm3 i ((j-i+1)/2).toNat) b
def aW6{tg}{p pos}(d:Gl X "range")(e:X.mg "range"=aT)(f:PA X [a,b,c] ta)(i:autoParam (a9 [a,b,c] X.env=(ce,eval a X.env)::a9 [b,c] X.env) Zq4._auto_1)(Y:autoParam (a9 [b,c] X.env=[(ce,eval b X.env),(ce,eval c X.env)]) Zq4._auto_1):PI X tg (.Call (.Name "range" p) [a,b,c] [] pos) (bA2 ta):=by refineλUu s W H R I h=>Call_<|au4 I d e boot_range<|d7 (thn (f pos Uu s W H _ I h) λa c⟨a,g,h,b,Z⟩=>?_) i (by rw[Y];rfl);obtain⟨z,a,e,⟨Z,f,i,j⟩,q⟩:=Z;subst e;cases b with|cons r b=>cases b with|cons k b=>cases b with|cons e b=>
    cases b;obtain⟨t,rfl⟩:=r;obtain⟨d,rfl⟩:=k;obtain⟨J,rfl⟩:=e;refine call_range_3 (by decide) ?_;refine kN (nT ..) (bl6 Z f i j) ?_;have f:Inv X Uu W g {c with heap:=c.heap.push {cls:=.type "range",data:=.fields #[.int z t,.int a d,.int 2 J]},toks:=c.toks}:=h.kept λb o e=>ak _ e;have nn:0<=ci z a 2:=by rw[az7];lia
    refine⟨(c.heap.push {cls:=.type "range",data:=.fields #[.int z t,.int a d,.int 2 J]}).objs.size,[(c.heap.push {cls:=.type "range",data:=.fields #[.int z t,.int a d,.int 2 J]}).objs.size],_,_,g,rfl,f.kept λb o e=>ak _ e,aH0 _ z (ci z a 2).toNat,?_,λb g=>?_,?_⟩
    .have e1:z+((0:Nat))*2=z:=by simp
     have g:(((ci z a 2).toNat))-((0:Nat))=ci z a 2:=by lia
     rw[e1,g];exact aW _ rfl
    .have e:b=(c.heap.push {cls:=.type "range",data:=.fields #[.int z t,.int a d,.int 2 J]}).objs.size:=by simp_all
     exact e▸f.fpOk (aj _) (f.hok.fresh<|aj _)
    .rw[az7];grind
def au9(a:Room k A):A.units+2<cLine:=Nat.lt_of_le_of_lt (Nat.add_le_add_left (by decide) _) a.units
section
variable{κ:Type}[DecidableEq κ]
noncomputable def aG5(kvs:List<|κ×V)(k:κ):Option V:=(kvs.find? λa=>decide<|a.1=k).map (·.2)
noncomputable def as4(kvs:List<|κ×V)(k:κ)(v:V):List<|κ×V:=if(kvs.any λa=>decide<|a.1=k)=bY then kvs.map (λa=>if a.1=k then(a.1,v)else a)else kvs++[(k,v)]
def am9{k:κ}(e:p.1=k):aG5 (p::r) k=al p.2:=by simp[aG5,e]
def am7{k:κ}(e:¬p.1=k):aG5 (p::r) k=aG5 r k:=by simp[aG5,e]
theorem ax4 k:∀a:List<|κ×V,(a.any λh=>decide<|h.1=k)=(aG5 a k).isSome
 |[]=>rfl|p::r=>by
  rw[fY];by_cases e:p.1=k;.simp only[am9 e,gc e,Bool.true_or,gQ]
  .rw[am7 e,gn e,kH];exact ax4 k r
def jG kvs(k:κ)v:(as4 kvs k v).length<=kvs.length+1:=by
 unfold as4;split;.rw[av];lia
 .rw[aO,aR,fi];lia
def aA7.isSome_eq(r:aA7 o u):o.isSome=u.isSome:=by cases o with
 |none=>cases u with|none=>rfl|some _=>exact(r).elim
 |some _=>cases u with|none=>exact(r).elim|some _=>rfl
theorem aA7.getD(r:aA7 o u)(h:RelV d d'):RelV (o.getD d) (u.getD d'):=by cases o with
 |none=>cases u with|none=>exact h|some _=>exact(r).elim
 |some _=>cases u with|none=>exact(r).elim|some _=>exact r
def KV.val(r:KV kvs vs)(k:κ):aA7 (aG5 kvs k) (kj vs k):=by induction r with|nil=>exact True.intro|@cons p q ps a h t c=>
  obtain⟨J,d⟩:=h;by_cases e:p.1=k
  .have e':=J.symm.trans e;have b:kj (q::a) k=al q.2:=by simp[kj,e']
   rw[am9 e,b];exact d
  .have e':¬q.1=k:=λz=>e<|J.trans z;have b:kj (q::a) k=kj a k:=by simp[kj,e']
   rw[am7 e,b];exact c
theorem KV.any(r:KV kvs vs)(k:κ):(kvs.any λz=>decide<|z.1=k)=vs.any λz=>decide<|z.1=k:=by induction r with|nil=>rfl|cons h t a=>simp_all
def KV.repl(r:KV kvs vs)(k:κ)(Y:RelV y u):KV (kvs.map λJ=>if J.1=k then(J.1,y)else J) (vs.map λJ=>if J.1=k then(J.1,u)else J):=by unfold KV at r⊢;induction r with|nil=>exact .nil|@cons p q ps qs h t ih=>
  rw[aQ,aQ];refine .cons ?_ ih;obtain⟨Uu,Z⟩:=h;by_cases e:p.1=k;.rw[dO e,dO<|Uu.symm.trans e];exact⟨Uu,Y⟩
  .rw[ef e,ef<|λz=>e<|Uu.trans z];exact⟨Uu,Z⟩
def KV.put(r:KV kvs vs)(k:κ)(h:RelV y u):KV (as4 kvs k y) (stored vs k u):=by
 unfold as4 stored;rw[r.any k];by_cases e:(vs.any λz=>decide<|z.1=k)=bY;.rw[dO e,dO e];exact r.repl k h
 .rw[ef e,ef e];exact nW r ⟨rfl,h⟩
theorem KV.length{vs:List<|κ×Value}(r:KV kvs vs):kvs.length=vs.length:=fW r
end
def aR2(r:RelV (kV k) u):(zT P w).is k u=true:=by cases k with|inl i=>exact AF (r) λt e=>e▸aK2 P w i t|inr x=>exact AF (r) λt e=>e▸aJ7 P w x t
def cc0{P:aH}{w:World}(h:RelV (fV f) u):fIs f u=true:=by cases f with|none=>cases(h);rfl|some k=>exact aR2 (P:=P) (w:=w) h
theorem aF9:∀{a}{b:yH},Vals (a.map fV) b->ItemsAre (jf P w) a b|[],_,r=>by cases eK▸r;exact .nil|k::a,_,r=>by rw[aQ]at r;cases r with|cons h t=>exact .cons (cc0 (P:=P) (w:=w) h) (aF9 t)
theorem ce5(ok:HOk P w H h):∀{b}{J}{c:yH},dA (NAt H) b J->Vals J c->dA (NIs P w h) b c|_,_,_,.nil,r=>by cases r;exact .nil|_,_,_,.cons (a:=k) q t,r=>by cases r with|cons z a=>refine .cons ?_<|ce5 ok t a;cases k with|inl f=>cases q;exact cc0 (P:=P) (w:=w) z|inr l=>obtain⟨c,rfl,e⟩:=q;cases z;exact AO (ok c _ e) λ_ a r AA=>AH AA λo z b AA=>AF AA λn d=>⟨c,rfl,o,a.toArray,n,z,b,d,by simpa using aF9 r⟩
abbrev KT(H:Hp):List (List NI×V)->List (List NI×Addr×Value)->Prop:=dA λp q=>p.1=q.1/\NK H p.1 q.2.1/\RelV p.2 q.2.2
def KT.val(r:KT H kvs J)k:aA7 (aG5 kvs k) ((atKey J k).map (·.2)):=by induction r with|nil=>exact True.intro|@cons p q ps a h t c=>
  refine AI h λUu _ Y=>?_;by_cases e:p.1=k
  .have e':=Uu.symm.trans e;have b:atKey (q::a) k=al q.2:=by simp[atKey,e']
   rw[am9 e,b];exact Y
  .have e':¬q.1=k:=λz=>e<|Uu.trans z;have b:atKey (q::a) k=atKey a k:=by simp[atKey,e']
   rw[am7 e,b];exact c
def KT.repl(r:KT H kvs Z)k(ry:RelV y u):KT H (kvs.map λa=>if a.1=k then(a.1,y)else a) (Z.map<|putAt k u):=by induction r with|nil=>exact .nil|@cons p q ps a h t a=>
  rw[aQ,aQ];refine .cons ?_ a;refine AI h λJ Y a=>?_;unfold putAt;by_cases e:p.1=k;.exact dO e▸dO (J.symm.trans e)▸⟨J,Y,ry⟩
  .exact ef e▸(ef<|λz=>e<|J.trans z)▸⟨J,Y,a⟩
def KT.put(r:KT H kvs h)k(hb:NK H k b)(z:RelV y u):KT H (as4 kvs k y) (storedH h k b u):=by
 have e:(kvs.any λJ=>decide<|J.1=k)=(atKey h k).isSome:=by rw[ax4,(r.val k).isSome_eq,hV]
 unfold as4 storedH;rw[e];by_cases q:(atKey h k).isSome=bY;.rw[dO q,dO q];exact r.repl k z
 .rw[ef q,ef q];exact nW r ⟨rfl,hb,z⟩
def KT.keeps(r:KT H kvs h)(c:∀b a,H b=al (.tp a)->H' b=al (.tp a)):KT H' kvs h:=dA.mapP r λ_ _ z=>⟨z.1,z.2.1.mono c,z.2.2⟩
section
variable{P:aH}{w:World}{H:Hp}{h:Heap}{a:Addr}
def bW7(ok:HOk P w H h)(e:Rd H a u):ad9 P w H h a u:=e.ok ok
def bh0(ok:HOk P w H h)(e:Rd H a<|.dK kvs):kvs.length<=a7/\(a==dM)=ce/\∃b,KV kvs b/\h.DictOf (zT P w) a b:=bW7 ok e
def cb8(ok:HOk P w H h)(e:H a=al (.dK kvs)):kvs.length<=a7/\(a==dM)=ce/\∃b,KV kvs b/\h.DictOf (zT P w) a b:=bh0 ok<|.inl e
def aC1(ok:HOk P w H h)(e:NK H ks a):(aD9 P w).is h ks a:=AD e λJ e p=>AO (ok a _ e) λ_ a r AA=>AH AA λo b z AA=>AF AA λn c=>⟨o,a.toArray,n,b,z,c,by simpa using ce5 ok p r⟩
def aX9(ok:HOk P w H h)(e:Rd H a<|.dT kvs):kvs.length<=a7/\(a==dM)=ce/\∃J,KT H kvs J/\h.DictOfH (aD9 P w) a J:=by
 refine AM (bW7 ok e) λz y J r AA=>AK AA λo a b c d e AA=>AB AA λY Z=>⟨z,y,J,r,o,a,b,c,d,e,Y,λx a=>?_,Z⟩;have all:∀{l}{m},KT H l m->∀x∈m,(aD9 P w).is h x.1 x.2.1:=by intro l m q;induction q with|nil=>simp_all|@cons p q ps a b t c=>
   intro x a;rcases aD.mp a with e|a;.exact e▸aC1 ok (b.1▸b.2.1)
   .exact c x a
 exact all r x a
def cr0(ok:HOk P w H h)(e:H a=al (.dT kvs)):kvs.length<=a7/\(a==dM)=ce/\∃z,KT H kvs z/\h.DictOfH (aD9 P w) a z:=aX9 ok<|.inl e
end
def aG4(H:Hp)(a:Addr)(y:V)(r:Option V):Prop:=(∃c k,Rd H a (.dK c)/\y=kV k/\r=aG5 c k)\/∃c k b,Rd H a (.dT c)/\y=.ref b/\NK H k b/\r=aG5 c k
def bI4(H:Hp)(a:Addr)(y v:V)(H':Hp):Prop:=(∃c k,H a=al (.dK c)/\y=kV k/\c.length<a7/\H'=upd H a (.dK<|as4 c k v))\/∃c k b,H a=al (.dT c)/\y=.ref b/\NK H k b/\c.length<a7/\H'=upd H a (.dT<|as4 c k v)
def aG4.k{k}(e:H a=al (.dK kvs)):aG4 H a (kV k) (aG5 kvs k):=.inl ⟨kvs,k,.inl e,rfl,rfl⟩
def aG4.t{k}(e:H a=al (.dT kvs))(c:NK H k b):aG4 H a (.ref b) (aG5 kvs k):=.inr ⟨kvs,k,b,.inl e,rfl,c,rfl⟩
def bI4.k{k}(e:H a=al (.dK kvs))(h:kvs.length<a7):bI4 H a (kV k) v<|upd H a<|.dK<|as4 kvs k v:=.inl ⟨kvs,k,e,rfl,h,rfl⟩
def bI4.t{k}(e:H a=al (.dT kvs))(c:NK H k b)(h:kvs.length<a7):bI4 H a (.ref b) v<|upd H a<|.dT<|as4 kvs k v:=.inr ⟨kvs,k,b,e,rfl,c,h,rfl⟩
section
variable{X:Cx}{pins:yA}{W:St}{H:Hp}{s:af}{a:Addr}{y v:V}{u r:Value}{o:Option V}{A:aU}{E:yB}
def Inv.big(I:Inv X pins W H s):dM<s.heap.objs.size:=have h:=(I.mod.glob.keeps I.bk).lt;fI (by decide) h
def aF6{Q:yB}(f:A.units+2<cLine)(I:Inv X pins W H s)(g:aG4 H a y<|al v)(d:RelV y u)(h:∀Y b,Inv X pins W H b->RelV v Y->Q Y b):wpAny (model X.prog X.w) A (iJ (.ref a) u) Q E s:=by
 rcases g with⟨a,k,e,Z,l⟩|⟨a,k,b,e,Z,g,l⟩;.subst Z;exact AM (bh0 I.hok e) λz i a J a=>AD (aA7.some_of<|l▸J.val k) λY b c=>wpAny_getItem_of (aR2 d) a.mapOf b<|h Y _ (I.tok _) c
 .subst Z;cases(d);refine AM (aX9 I.hok e) λz i a J a=>AD (aA7.some_of<|l▸J.val k) λY b c=>AD (bp.mp b) λp b d=>wpAny_getItem_heap (f) (aC1 I.hok g) a b ?_;exact d▸h Y _ (I.tok _) c
def cu9{Q:yB}(d:A.units+2<cLine)(I:Inv X pins W H s)(g:aG4 H a y o)(Y:RelV y u)(h:∀b,Inv X pins W H b->Q (.bool o.isSome) b):wpAny (model X.prog X.w) A (dZ .In u<|.ref a) Q E s:=by
 rcases g with⟨a,k,e,c,l⟩|⟨a,k,b,e,c,f,l⟩;.subst c;refine AM (bh0 I.hok e) λz a b J b=>wpAny_in_of (aR2 Y) a b.mapOf ?_;exact(J.val k).isSome_eq▸l▸h _ (I.tok _)
 .subst c;cases(Y);refine AM (aX9 I.hok e) λz a Z J b=>wpAny_in_heap (d) (aC1 I.hok f) a b ?_;have q:=(J.val k).isSome_eq;rw[hV]at q;exact q▸l▸h _ (I.tok _)
def bd8{Q:yB}(d:A.units+2<cLine)(I:Inv X pins W H s)(g:aG4 H a y o)(Y:RelV y u)(h:∀b,Inv X pins W H b->Q (.bool<|!o.isSome) b):wpAny (model X.prog X.w) A (dZ .NotIn u<|.ref a) Q E s:=by
 rcases g with⟨a,k,e,c,l⟩|⟨a,k,b,e,c,f,l⟩;.subst c;refine AM (bh0 I.hok e) λz a b J b=>wpAny_notIn_of (aR2 Y) a b.mapOf ?_;exact(J.val k).isSome_eq▸l▸h _ (I.tok _)
 .subst c;cases(Y);refine AM (aX9 I.hok e) λz a Z J b=>wpAny_notIn_heap (d) (aC1 I.hok f) a b ?_;have q:=(J.val k).isSome_eq;rw[hV]at q;exact q▸l▸h _ (I.tok _)
def aJ1(I:Inv X pins W H s)(mu:Mut<|H a)(c:eG a s.heap h')(h:∃q,h'.get? a=al q)(new:ad9 X.prog X.w (upd H a ob) h' a ob):Inv X pins W (upd H a ob) {s with heap:=h',toks:=t'}:=I.write mu (.inl rfl) (λb q a z=>(c.2 b a).trans z) h new
def bA3(z:kvs.length<=a7)(b:(a==dM)=ce)(h:KV kvs vs)(dd:h'.DictOf (zT P w) a vs):ad9 P w H' h' a<|.dK kvs:=⟨z,b,vs,h,dd⟩
def aD1(o:A.units+2<cLine)(I:Inv X pins W H s)(g:bI4 H a y v H')(j:RelV y u)(m:RelV v r)(h:∀b,Inv X pins W H' b->Q () b):wpAny (model X.prog X.w) A (setItem (.ref a) u r) Q E s:=by
 rcases g with⟨c,k,e,Z,l,Y⟩|⟨c,k,b,e,Z,n,l,Y⟩
 .subst Z Y;refine AM (cb8 I.hok e) λz d b J f=>?_;have l:b.length<=a7:=J.length▸z;have g:(as4 c k v).length<=a7:=by have:=jG c k v;lia
  refine wpAny_setItem_pairs (aR2 j) f λh' b i=>h _ ?_;have f:∃q,h'.get? a=al q:=let⟨q,_,_,hq,_⟩:=b;⟨q,hq⟩;exact aJ1 I (e▸True.intro) i f<|bA3 g d (J.put k m) b
 .subst Z Y;cases(j);refine AM (cr0 I.hok e) λz d a J f=>?_;have l:a.length<=a7:=fW J▸z;have g:(as4 c k v).length<=a7:=by have:=jG c k v;lia
  refine wpAny_setItem_heap (o) (aC1 I.hok n) f λh' b i=>h _ ?_;refine AK b λq b f hq h2 h AA=>AI AA λh4 _ j=>aJ1 I (e▸True.intro) i ⟨q,hq⟩ ⟨g,d,_,(J.put k n m).keeps λc a a=>?_,q,b,f,hq,h2,h,h4,j⟩;exact(zb<|cq0 a e<|λz=>nomatch z)▸a
end
section
variable{X:Cx}{pins:yA}{W:St}{H:Hp}{s:af}{a:Addr}{kvs:List<|Key×V}{k:Key}{u:Value}{A:aU}{E:yB}
end
def as3{W:St}(I:Inv X h W H s)(g:aG4 H a y o):s.TypeIs (.ref a) "dict":=by
 rcases g with⟨a,k,e,_,_⟩|⟨a,k,b,e,_,_,_⟩;.exact AM (bh0 I.hok e) λ_ _ a _ a=>a.typeIs
 .exact AM (aX9 I.hok e) λ_ _ z _ a=>a.typeIs
section
variable{X:Cx}{o i e value:Expr}{pos pos' tpos:Pos}{td ty tv:TE}
end
def aM5(h:Heap)(a:dM<h.objs.size):ad9 P w H (h.push {cls:=.type "dict",data:=.dict #[]}) h.objs.size<|.dK []:=⟨cy _,beq_eq_false_iff_ne.mpr<|bH<|aI a,[],.nil,Heap.DictOf.new h⟩
def bt8(h:Heap)(a:dM<h.objs.size):ad9 P w H (h.push {cls:=.type "dict",data:=.dict #[]}) h.objs.size<|.dT []:=⟨cy _,beq_eq_false_iff_ne.mpr<|bH<|aI a,[],.nil,_,#[],0,aW _ rfl,⟨rfl,rfl,rfl⟩,rfl,rfl,gR⟩
def by6:TE:=λ_ H Q=>∀p,H p=aT->Q (.ref p) (upd H p<|.dK [])
def bC4:TE:=λ_ H Q=>∀p,H p=aT->Q (.ref p) (upd H p<|.dT [])
section
variable{X:Cx}{pos:Pos}
def bv4:PE X (.Dict [] [] pos) by6:=λz s W H Q I h=>lR ⟨.ref s.heap.objs.size,_,I.laid (λ_ _ q=>ak _ q) (aj _) (aM5 s.heap I.big),rfl,h _<|I.hok.fresh<|aj _⟩
def bs2:PE X (.Dict [] [] pos) bC4:=λz s W H Q I h=>lR ⟨.ref s.heap.objs.size,_,I.laid (λ_ _ q=>ak _ q) (aj _) (bt8 s.heap I.big),rfl,h _<|I.hok.fresh<|aj _⟩
end
noncomputable def bj7:List (TE×TE)->St->Hp->(List (V×V)->Hp->Prop)->Prop|[],_,H,Q=>Q [] H|(tk,a)::r,W,H,Q=>tk W H λx b=>a W b λy a=>bj7 r W a λps a=>Q ((x,y)::ps) a
abbrev VV:List (V×V)->List (Value×Value)->Prop:=dA λp q=>RelV p.1 q.1/\RelV p.2 q.2
def PPs(X:Cx)(pos:Pos)(keys:List<|Option Expr)(a:yL)(c:List<|TE×TE):Prop:=∀b s(W:St)H Q,Inv X b W H s->bj7 c W H Q->wpAny (model X.prog X.w) X.A (evalPairs<|pairTrees keys a X.env pos) (λa c=>∃ps H',Inv X b W H' c/\VV ps a/\Q ps H') X.xe s
def bL8:PPs X pos [] [] []:=λz s W H Q I h=>pairTrees_nil_walk ⟨[],H,I,.nil,h⟩
def bq7(a:PE X k tk)(b:PE X v Y)(c:PPs X pos ks vs J):PPs X pos (al k::ks) (v::vs) ((tk,Y)::J):=λz s W H Q I h=>pairTrees_cons_walk<|thn (a z s W H _ I h) λu a⟨x,Z,d,e,f⟩=>thn (b z a W Z _ d f) λa a⟨y,b,d,f,g⟩=>thn (c z a W b _ d g) λws a⟨ps,a,b,c,d⟩=>⟨(x,y)::ps,a,b,.cons ⟨e,f⟩ c,d⟩
def ao5(kvs more:List<|Key×V):List<|Key×V:=more.foldl (λa b=>as4 a b.1 b.2) kvs
def KV.merge:∀{more}{z}{kvs}{vs},KV more z->KV kvs vs->KV (ao5 kvs more) (merged vs z):=by intro more z kvs vs r;unfold KV at r;induction r generalizing kvs vs with|nil=>intro q;exact q|@cons p q ps qs h t ih=>
  intro r0;have e:KV (as4 kvs p.1 p.2) (stored vs q.1 q.2):=by have:=r0.put p.1 h.2;rw[<-h.1];exact this
  exact ih e
theorem aj0:∀more a,(ao5 a more).length<=a.length+more.length|[],a=>by show a.length<=a.length+0;lia|p::r,a=>by have h:=aj0 r<|as4 a p.1 p.2;have z:=jG a p.1 p.2;show(ao5 (as4 a p.1 p.2) r).length<=_;grind
theorem av1:∀{a}{ws},VV (a.map λJ=>(kV J.1,J.2)) ws->∃z,Carries (zT P w) ws z/\KV a z|[],_,r=>by cases eK▸r;exact⟨[],True.intro,.nil⟩|p::a,_,r=>by rw[aQ]at r;cases r with|@cons a b a bs h t=>obtain⟨z,c,q⟩:=av1 t;obtain⟨a,a⟩:=b;exact⟨(p.1,a)::z,⟨aR2 h.1,rfl,c⟩,.cons ⟨rfl,h.2⟩ q⟩
def cb0(a:List<|TE×TE):TE:=λW H Q=>∀p,H p=aT->bj7 a W (upd H p<|.dK []) λps b=>b p=al (.dK [])/\∃a,ps=a.map (λc=>(kV c.1,c.2))/\a.length<=15/\Q (.ref p) (upd b p<|.dK<|ao5 [] a)
def bT1(h:PPs X pos keys J Uu)(Y:keys.all (·.isSome)=bY)(a:keys.length=J.length)(b:keys≠[])(c:keys.length<=15):PE X (.Dict keys J pos) (cb0 Uu):=by
 refineλa0 s W H Q I q=>have d:=I.hok.fresh<|aj s.heap.objs.size;have e:=I.laid (t':=s.toks) (λ_ _ q=>ak _ q) (aj _) (aM5 s.heap I.big);wpAny_Dict_walk (knd:=zT X.prog X.w) Y a b c<|thn (h a0 _ W _ _ e<|q _ d) λws a⟨ps,H2,b,d,e,a,c,lk,f⟩=>?_;subst c;obtain⟨g,c,h⟩:=av1 d;refine AM (cb8 b.hok e) λz d i i j=>?_;cases i;refine⟨g,c,j,λh' Z c=>⟨.ref s.heap.objs.size,_,?_,rfl,f⟩⟩;have f:(ao5 [] a).length<=a7:=by have g:=aj0 a [];rw[fi]at g;rw[f8];lia
 have a:∃q,h'.get? s.heap.objs.size=al q:=let⟨q,_,_,hq,_⟩:=Z;⟨q,hq⟩;exact aJ1 b (e▸True.intro) c a<|bA3 f d (h.merge .nil) Z
section
variable{X:Cx}{pins:yA}{W:St}{H:Hp}{s:af}{a:Addr}{y d:V}{u r:Value}{o:Option V}{A:aU}{E:yB}
end
section
variable{X:Cx}{o e f:Expr}{apos cpos:Pos}{td ty tx:TE}
end
section
variable{P:aH}{w:World}{A:aU}{E:yB}{s:af}
end
section
variable{X:Cx}{pins:yA}{W:St}{H:Hp}{s:af}
end
section
variable{prog:aH}{w:World}{A:aU}{R:kO->af->Prop}{I:Addr}{fp wr:List Addr}{n:Nat}{P:Nat->Value->Prop}{St:Nat->Heap->Prop}{kw:List<|Str×Value}
end
def aW5{K}(X:K.In s.heap)(J:eZ (model prog w) s.heap (kR<|Value.ref x) (Value.ref Cc))(a:ii K Cc (Value.type "object")=al bY)(h:R (Except.ok<|Flow.ret<|Value.ref Cc) s):fy (model prog w) A
    (Code.call (Value.builtin "getset_descriptor.__get__")
     {pos:=[Value.builtin "object.__class__",Value.ref x,z]}) R s:=by
 obtain⟨b,g,Y,t,b⟩:=s;have b:=PySem.W.looks_mroIn (M:=model prog w) X a;refine j3 kU.plain PySem.W.KF.entry_gs<|kU.check (model prog w) A.in1 _ _ _ _ _ _ PySem.W.KF.type_class (PySem.W.KF.args_gs _ _ _) ?_;show wpAny (model prog w) A.in1 (do let __x<-j4 {pos:=[Value.builtin "object.__class__",Value.ref x,z]}match __x with|(d,a,c)=>eN d a) _ _ _;rw[PySem.W.dga_obj];refine ai<|aE ?_;simp only[];refine ai ?_;unfold dH;have a:iA (Value.builtin "object.__class__")=pure (bv "__class__",Value.type "object"):=by show pure (bv (dI "object.__class__").2,Value.type (dI "object.__class__").1)=_;rw[PySem.W.KF.owner_class]
 rw[a];refine ai<|aE ?_;refine ai<|ai<|PySem.W.Looks.at J<|PySem.W.Looks.at b<|aE ?_;refine aE ⟨Code.quiet_builtin _<|by decide+kernel,gq PySem.W.KF.entry_class ?_⟩;refine ai ?_;exact ai<|PySem.W.Looks.at J<|aE<|aE h
def cr6{K}{D}(X:K.In h)(J:bu K (Value.ref D) name=al (al a))(z:fA K a (bv "__get__")=al (al g))(b:gk K a=al bY):eZ M h (fv (Value.ref x) (Value.ref D) name) (Builtin.ObjectAttr.Found.bind g a):=by have a:=eB (M:=M) X J;have c:=PySem.W.looks_specialIn (M:=M) X z;have d:=PySem.W.looks_takesIn (M:=M) X b;refine c9 a<|c9 c ?_;refine c9 (c9 d hZ) (n6 hZ)
def XAt(h:Heap)(x Cc:Addr):Prop:=∃a,h.get? x=al a/\a.cls=Value.ref Cc
def XAt.type(I:XAt h x Cc):eZ M h (kR<|Value.ref x) (Value.ref Cc):=AD I λUu J z=>z▸c9 (lS J) hZ
def cj2{E:yB}{K:ac}{x D:Addr} (X:K.In s.heap)(Z:eZ (model prog w) s.heap (kR<|Value.ref x) (Value.ref D))(c:eZ (model prog w) s.heap (fv (Value.ref x) (Value.ref D) name) (Builtin.ObjectAttr.Found.bind g a))(Y:bu K (Value.ref D) (bv "__getattribute__")=al (al<|Value.builtin "BaseException.__getattribute__"))(e:bu K (Value.ref D) (bv "__getattr__")=al aT){bs b:yH}{sn:yI}{sub:yH}{dd:yJ} (f:s.heap.get? D=al (excClassObj nm q D N bs b hdct sn sub ab col dd k0 k1 k2 k3 k5 J))(T:OwnTailQ s.heap [.type "ValueError",.type "Exception",.type "BaseException",.type "object"] b)(i:s.heap.get? x=al o)(j:o.cls=.ref D)(h:wpAny (model prog w) A.in1 (call g [a,Value.ref x,Value.ref D]) (λv a=>wpAny (model prog w) A (handedOut v) (λv b=>Q (al v) b) (λ_ _=>False) a) (λ_ _=>False) {heap:=s.heap,gens:=s.gens,drawn:=s.drawn,toks:=s.toks+1,os:=s.os}):wpAny (model prog w) A (getAttr? (Value.ref x) name) Q E s:=by obtain⟨a,a,d,t,os⟩:=s;have a:=eB (M:=model prog w) X Y;have b:=eB (M:=model prog w) X e;have d:=fO.ga.bind<|Value.ref x;refine ai<|wpAny_mkText ?_;refine ai<|wpAny_attempt<|cQ<|ai<|PySem.W.Looks.at Z<|ai<|PySem.W.Looks.at a ?_;refine wpAny_ite_false rfl ?_;refine ai<|wpAny_ite_true rfl<|PySem.W.Looks.at b ?_;refine ai<|wpAny_attempt<|cQ ?_;refine wpAny_ite_false rfl ?_;refine ai<|l6 d<|gM ?_;refine j3 fO.ga.plain F.entry_bexc_ga ?_;refine wpAny_check_ga_own fO f T i j ?_;refine ai<|aE ?_;refine ai<|aE<|ai<|PySem.W.Looks.at Z<|ai<|PySem.W.Looks.at c ?_;refine ai<|cQ<|bD h (λv a z=>aE ?_) λ_ _ z=>z.elim;exact bD z (λv b a=>aE a) λ_ _ z=>z.elim
noncomputable def zF(h:Heap)(l:List Addr):Heap:={h with objs:=h.objs.mapIdx λi o=>if i∈l then{o with data:=.freed}else o}
def zA(a:b∈l):(zF h l).get? b=none:=by unfold Heap.get? zF;simp only[i7];cases e:h.objs[b]? with|none=>rfl|some o=>simp only[bX,dO a]
def qK(a:b∉l):(zF h l).get? b=h.get? b:=by unfold Heap.get? zF;simp_all
def qg:(zF h l).StaysIn h:=λb o e=>by
 by_cases a:b∈l;.rw[zA a]at e;cases e
 .rwa[qK a]at e
def without_none(e:(zF h l).get? b=aT):b∈l\/h.get? b=none:=by
 by_cases a:b∈l;.exact .inl a
 .exact .inr<|qK a▸e
theorem ap0{h:Heap}:∀{l},h.FunFrames base l->(∀b∈frs l,J.get? b=aT)->h.FunFrames J l
 |[],_,_=>True.intro|a::l,⟨k,⟨L,o,b,_,d,e⟩,r⟩,c=>by
  have f:frs (a::l)=L::frs l:=by unfold frs;rw[bw,b]
  rw[f]at c;exact⟨k,⟨L,o,b,c L<|am ..,d,e⟩,ap0 r λb z=>c b<|ah _ z⟩
def HOk.part(x:HOk P w H h)(k:∀b u o,H b=al u->h.get? b=al o->h'.get? b=al o):HOk P w H h':=λa o e=>(x a o e).stay (λb u hb q=>by
  rcases hb with rfl|hb;.exact k _ _ _ e q
  .exact k _ _ _ hb q) (λ_ q=>q) λ_ _ q=>q
def ad9.at_(x:ad9 P w H h a o):∃u,h.get? a=al u:=by cases o with|J a=>exact AY x λ_ _ _ _ e=>⟨_,e⟩|tp a=>exact AO x λ_ _ _ AA=>AD AA λob e _=>⟨_,e⟩|dK a=>exact AM x λ_ _ _ _ AA=>AX AA λo _ _ e _=>⟨_,e⟩|dT a=>exact AM x λ_ _ _ _ AA=>AX AA λo _ _ e _=>⟨_,e⟩|set S n=>exact AN x λo _ _ _ e _=>⟨_,e⟩|ins a a fs=>exact AW x λ_ _ _ e _=>⟨_,e⟩|own y=>exact x|xd fs=>obtain⟨_,⟨_,_,_,e,_⟩,_⟩:=x;exact⟨_,e⟩|rng a a=>exact AJ x λ_ _ _ e=>⟨_,e⟩|frz a u=>exact AB x λe _=>⟨_,e⟩|tbl ps=>exact⟨_,(x)⟩|met f y=>exact⟨_,(x)⟩|ext C=>exact AI x λ_ e _=>e
structure Fly(h0:Heap)(H:Hp)(h:Heap)(a Cc:Addr):Prop where
 new:h0.get? a=aT
 free:H a=aT
 at_:∃a0 oe vs T oT ts,h.get? a=al oe/\(oe.cls=.ref Cc/\vs[0]?=al a0)/\oe.data=.fields vs/\vs[1]?=al (.ref T)/\h0.get? T=aT/\H T=aT/\T≠a/\h.get? T=al oT/\oT.data=.fields ts/\ts[3]?=al .none
section
variable{X:Cx}{pins:yA}{W:St}{H:Hp}{s:af}{a Cc:Addr}{a0:Value}
def be8(I:Inv X pins W H s)(Y:X.ex=[])(b:∀b∈frs X.stack,b∈bs)(f:∀b∈bs,b∈frs X.stack\/(X.s₀.heap.get? b=aT/\H b=aT))(g:X.s₀.heap.get? a=aT)(i:H a=aT)(h:∀b∈X.fs,b∈frs X.stack)(L:Heap.LeftW (zF s.heap bs) X.stack a (.ref Cc) a0 s.heap h'):Un X.fs [] X.H₀ H X.s₀.heap h'/\HOk X.prog X.w H h'/\Fly X.s₀.heap H h' a Cc:=by
 refine AU L λst ff tr c=>?_;have un:=I.base;rw[Y]at un;have keep:=λb o n e=>st b o (by rw[qK n];exact e);have a:∀b o,b∈frs X.stack->s.heap.get? b=al o->∃c,h'.get? b=al {o with slots:=c}:=λb o n e=>AO (I.stack.mem n) λ_ j c d=>by simp_all
 have out:∀b o,X.s₀.heap.get? b=al o->b∉frs X.stack->b∉bs:=λb o e n z=>by grind
 have Z:∀b o,X.s₀.heap.get? b=al o->b∉X.fs->b∉frs X.stack:=λb o e n z=>by
  rcases aD.mp (I.stkSub b z)with q|q;.subst q;exact ij (aM e) (mU.mpr I.ok.above)
  .exact n q
 refine⟨⟨λb o e n J c=>?_,λb o e n J c=>?_,un.free,λb o e c=>?_,un.tups,un.frzs,un.tbls⟩,I.hok.part λb u o e q=>?_,⟨g,i,?_⟩⟩;.exact keep b o (out b o e<|Z b o e J) (un.keep b o e n J c)
 .exact AF (un.slot b o e n J c) λa1 d=>AF (a b _ (h b J) d) λUu a=>⟨Uu,a⟩
 .refine AF (un.there b o e c) λo1 d=>?_;grind
 .refine keep b o (λz=>?_) q;rcases f b z with y|⟨_,y⟩;.cases I.stkFree b y▸e
  lia
 .refine AG tr λoe a T b g h h2 i AA=>AV AA λh4 c k l m n=>?_;have key:X.s₀.heap.get? T=aT/\H T=none:=by
   rcases without_none c with z|z
   .rcases f T z with y|y;.refine AO (ff.mem y) λ_ j c d=>?_;simp_all
    .exact y
   .refine⟨?_,?_⟩;.cases e:X.s₀.heap.get? T with|none=>rfl|some o=>refine AF (un.there T o e<|by simp) λo' c=>?_;cases z▸c
    .cases e:H T with|none=>rfl|some o=>refine AF ((I.hok T o e).at_) λu c=>?_;cases z▸c
  exact⟨a0,oe,a,T,b,g,h,h2,i,h4,key.1,key.2,k,l,m,n⟩
def aY5{vs:yK}(I:Inv X pins W H s)(Y:X.ex=[])(h:X.stack=X.env::X.outer)(Uu:X.env.frame=al X.env.locals)(n0:X.s₀.heap.get? a=aT)(nH:H a=aT)(h1:s.heap.get? a=al oe)(h2:oe.cls=.ref Cc)(h3:oe.data=.fields vs)(h4:vs[1]?=al .none)(h5:vs[0]?=al a0){E:yB}(k:∀h',Un X.fs [] X.H₀ H X.s₀.heap h'->HOk X.prog X.w H h'->Fly X.s₀.heap H h' a Cc->Q () {s with heap:=h'}):wpAny (model X.prog X.w) X.A (leaving X.env<|.ref a) Q E s:=by
 have Z:s.heap.FunFrames (zF s.heap<|a::frs X.stack) X.stack:=ap0 I.stack λb hb=>zA<|ah _ hb;have z:∀b∈X.fs,b∈frs X.stack:=λb hb=>by rw[h];unfold frs;rw[bw,Uu];exact ah _ hb
 have J:=I.ok.frames;rw[h]at J;refine wpAny_leaving_firstW (base:=zF s.heap<|a::frs X.stack) J (by rw[<-h];exact Z) Uu h1 qg (zA<|am ..) h3 h4 h5 λh' L=>?_;rw[h2,<-h]at L;obtain⟨u,o,f⟩:=be8 I Y (λb hb=>ah _ hb) (λb hb=>by
  rcases aD.mp hb with q|q;.subst q;exact .inr ⟨n0,nH⟩
  .exact .inl q) n0 nH z L;exact k h' u o f
def aV2(I:Inv X pins W H s)(Z:X.ex=[])(h:X.stack=X.env::X.outer)(c:X.env.frame=al X.env.locals)(F:Fly X.s₀.heap H s.heap a Cc){E:yB}(k:∀h',Un X.fs [] X.H₀ H X.s₀.heap h'->HOk X.prog X.w H h'->Fly X.s₀.heap H h' a Cc->Q () {s with heap:=h'}):wpAny (model X.prog X.w) X.A (leaving X.env<|.ref a) Q E s:=by
 obtain⟨d,e,b,f,g,T,i,j,l,h2,m,n,o,p,q,r,t,Y⟩:=F;have v:s.heap.FunFrames (zF s.heap<|a::T::frs X.stack) X.stack:=ap0 I.stack λb a=>zA<|ah _<|ah _ a;have z:∀b∈X.fs,b∈frs X.stack:=λb a=>by rw[h];unfold frs;rw[bw,c];exact ah _ a
 have J:=I.ok.frames;rw[h]at J;refine wpAny_leaving_nextW J (h▸v) c ⟨f,g,T,i,j,l,h2,m,n,zA<|by simp,q,r,t,Y⟩ qg (zA<|am ..) λh' L=>?_;rw[<-h]at L;exact AI (be8 I Z (λb a=>ah _<|ah _ a) (λb a=>by
  rcases aD.mp a with q|q;.exact q▸.inr ⟨d,e⟩
  .rcases aD.mp q with q|q;.exact q▸.inr ⟨o,p⟩
   .exact .inl q) d e z L) λu o f=>k h' u o f
end
def CX1(P:aH)(w:World):CXT:=λb H s E e c=>∃a d H',e=.ref a/\c.os=s.os/\gB c.gens/\Un (frs b) [] H H' s.heap c.heap/\HOk P w H' c.heap/\Fly s.heap H' c.heap a d/\E e (al d) H'
def CX1.inv{W:St}(I:Inv X J W H s)(Y:X.ex=[])(h:CX1 X.prog X.w X.stack H s E e s'):∃a d H',e=.ref a/\Inv X J W H' s'/\Fly X.s₀.heap H' s'.heap a d/\E e (al d) H':=by
 obtain⟨a,d,H',rfl,i,c,un,f,F,q⟩:=h;have g:∀b,s.heap.get? b=aT->X.s₀.heap.get? b=none:=λb z=>by cases e:X.s₀.heap.get? b with|none=>rfl|some o=>obtain⟨h,h⟩:=I.base.there b o e (by simp_all);lia
 obtain⟨e,h,j,k,l,T,m,n,o,Z,p,r,s,t,u⟩:=F;exact⟨a,d,H',rfl,I.call' i un f c<|λb z=>ij z<|by simp,⟨g _ e,h,j,k,l,T,m,n,o,Z,p,r,g _ s,t,u⟩,q⟩
section
variable{P:aH}{w:World}{K:ac}{mg:yD}{base:Heap}{N:yI}{qual:Str}{scope:Scope}{f:Addr}{cd:Value}{A:aU}{outer:List Env}{s0:af}{H0:Hp}{E:XK}
def cn9:qj (CX1 P w) (as7 (CX1 P w) P w K mg base N qual scope f cd A outer s0 H0 E) E:=by intro z W H s e a I h;obtain⟨a,b,H',rfl,J,F,q⟩:=CX1.inv I rfl h;exact aV2 J rfl rfl rfl F λh' u o c=>⟨a,b,H',rfl,J.os,J.bare,u,o,c,q⟩
def aT0(X:Cx)(E:XK):Prop:=∀b(W:St)H s h' a d(c:yH),Inv X b W H s->Heap.MadeExcOf s.heap h' a (.ref d) c->E (.ref a) (al d) H->X.xe (.ref a) {s with heap:=h'}
def co4:aT0 (as7 (CX1 P w) P w K mg base N qual scope f cd A outer s0 H0 E) E:=by
 refineλh W H s h' a c b I M q=>have J:=I.kept (t':=s.toks) M.keeps;AD M.there λt z _=>aY5 J rfl rfl rfl ?_ ?_ z rfl rfl rfl rfl λb u o F=>⟨a,c,H,rfl,J.os,J.bare,u,o,F,q⟩;.show s0.heap.get? a=aT;cases e:s0.heap.get? a with|none=>rfl|some o=>refine AF (I.base.there a o e<|by show a∉([]);simp) λY b=>?_;cases M.new▸b
 .cases e:H a with|none=>rfl|some o=>refine AF ((I.hok a o e).at_) λu b=>?_;cases M.new▸b
end
def ffx{p:Prop}(h:ce=bY):p:=lT h
noncomputable def excTail:List Value:=[.type "ValueError",.type "Exception",.type "BaseException",.type "object"]
noncomputable def nsQ(K:ac)(N:Addr):Bool:=match K.lookup N with|some ⟨_,_,.dict a _,_⟩=>(a.all λe=>match e.key with|.str _ _=>bY|_=>ce)&&mY.all λn=>(nsFind a n).isNone|_=>ce
def bJ1(K:ac):List Value->Bool|.ref A::tl=>(match K.lookup A with|some ⟨_,_,.cls a,_⟩=>nsQ K a.ns|_=>ce)&&bJ1 K tl|l=>l==excTail
def cm1(K:ac)(Cc:Addr):Bool:=match K.lookup Cc with|some ⟨c,_,.cls cd,⟨[_,_,_,_,b,_]⟩⟩=>c==.type "type"&&(!cd.hasDel&&(nsQ K cd.ns&&((match cd.mro with|m::tl=>m==.ref Cc&&bJ1 K tl|[]=>ce)&&b==al (.builtin "ValueError.__new__"))))|_=>ce
def by9{K}(h:nsQ K N=bY):∃z,(∀n∈mY,z n=aT)/\∀h:Heap,K.In h->h.Ns N z:=by unfold nsQ at h;cases e:K.lookup N with|none=>rw[e]at h;exact ffx h|some o=>rw[e]at h;obtain⟨c,d,J,sl⟩:=o;cases J with
  |dict es ep=>
   have h:=(ae _ _).mp h;refine⟨nsFind es,λn hn=>?_,λhp hK=>⟨_,es,ep,hK _ _ e,rfl,λx hx=>?_,λ_=>rfl⟩⟩;.have:=aG.mp h.2 n hn;exact Option.isNone_iff_eq_none.mp this
   .have:=Array.all_eq_true'.mp h.1 x hx;cases q:x.key with|str _ _=>exact⟨_,_,rfl⟩|_=>rw[q]at this;exact ffx this
  |_=>exact ffx h
theorem aQ0{K}:∀{l:yH},bJ1 K l=bY->∀h:Heap,K.In h->OwnTailQ h excTail l|[],h,b,a=>by cases gv h|v::tl,h,b,a=>by cases v with
  |ref A=>obtain⟨z,J⟩:=(ae _ _).mp h;cases e:K.lookup A with|none=>simp_all|some o=>rw[e]at z;obtain⟨c,d,c,d⟩:=o;cases c with|cls c=>exact AD (by9 z) λY q n=>.own (a _ _ e) (n b a) q<|aQ0 J b a|_=>exact ffx z
  |type n=>cases gv h;exact .base|_=>cases gv h
structure ExcCls(K:ac)(Cc:Addr):Prop where obj:∃bm N nm q bs hdct sn sub ab col dd k0 k1 k2 k3 k5 mN,K.lookup Cc=al (excClassObj nm q Cc N bs bm hdct sn sub ab col dd k0 k1 k2 k3 k5 "ValueError.__new__")/\(∀n∈mY,mN n=aT)/\∀h:Heap,K.In h->h.Ns N mN/\OwnTailQ h excTail bm
def bM1{K}(h:cm1 K Cc=bY):ExcCls K Cc:=by unfold cm1 at h;cases e:K.lookup Cc with|none=>simp_all|some o=>rw[e]at h;obtain⟨c,d,Z,⟨a⟩⟩:=o;cases Z with
  |cls f=>
   rcases a with _|⟨g,_|⟨i,_|⟨j,_|⟨k,_|⟨a,_|⟨l,_|⟨a,a⟩⟩⟩⟩⟩⟩⟩;case cons.cons.cons.cons.cons.cons.nil=>obtain⟨o,bs,m,N,q,a,p,b,r,c,Y⟩:=f;refine AB ((ae _ _).mp h) λh1 h=>AB ((ae _ _).mp h) λJ h=>AB ((ae _ _).mp h) λh3 h=>AB ((ae _ _).mp h) λz f=>?_;cases m with|nil=>exact ffx z|cons m tl=>obtain⟨z,m⟩:=(ae _ _).mp z;have n:=gv h1;have s:=gv f;have e4:=gv z;subst n s e4;have J:=(fL _).mp J;subst J;exact AD (by9 h3) λmN f n=>⟨tl,N,o,q,bs,a,p,b,r,c,d,g,i,j,k,l,mN,e,f,λa b=>⟨n a b,aQ0 m a b⟩⟩
   all_goals exact ffx h|_=>exact ffx h
def bt5{K}{D}(a:ExcCls K D)(d:bu K (.ref D) (bv "__getattribute__")=al (al<|.builtin "BaseException.__getattribute__"))(f:bu K (.ref D) (bv "__getattr__")=al aT)(Y:bu K (.ref D) (bv "__class__")=al (al<|.builtin "object.__class__"))(g:fA K (.builtin "object.__class__") (bv "__get__")=al (al<|.builtin "getset_descriptor.__get__"))(i:gk K (.builtin "object.__class__")=al bY)(j:ii K D (.type "object")=al bY):eO K (.ref x) (.ref D) (λh=>XAt h x D):=by
 refine AJ a.obj λbm N a AA=>AJ AA λq bs a AA=>AJ AA λsn a a AA=>AJ AA λcol a a AA=>AJ AA λk1 a a AA=>AL AA λk5 a J a l=>⟨λM h _ I=>I.type,λM h X I=>?_,λh Z a a n a X z=>?_,λ{a w A E Q s}X I h=>?_⟩;.exactλA' b b b k q=>ai<|wpAny_loadPart (k _ _<|X _ _ J) (aE q)
 .cases e:(Value.ref D==Value.ref Z)with|false=>rfl|true=>cases gv e;rw[X _ _ J]at z;lia
 .exact AD I λo c b=>have L:=XAt.type (M:=model a w) ⟨o,c,b⟩;cj2 X L (cr6 X Y g i) d f (X _ _ J) (l _ X).2 c b<|gM<|aW5 X L j<|PySem.W.handed_on rfl h
noncomputable def excI(K:ac)(Cc:Addr):Bool:=bu K (.ref Cc) (bv "__getattribute__")==al (al<|.builtin "BaseException.__getattribute__")&&(bu K (.ref Cc) (bv "__getattr__")==al aT&&(bu K (.ref Cc) (bv "__class__")==al (al<|.builtin "object.__class__")&&(fA K (.builtin "object.__class__") (bv "__get__")==al (al<|.builtin "getset_descriptor.__get__")&&(gk K (.builtin "object.__class__")==al bY&&ii K Cc (.type "object")==al bY))))
def bO0{K}(a:ExcCls K Cc)(h:excI K Cc=bY):eO K (.ref x) (.ref Cc) (λh=>XAt h x Cc):=by unfold excI at h;simp only[ae]at h;exact AV h λh0 Y z b J c=>bt5 a (gv h0) (gv Y) (gv z) (gv b) (gv J) (gv c)
section
variable{X:Cx}{E:XK}{Cc:Addr}{x:Str}
def bq5(T:aT0 X E)(b:ExcCls X.K Cc)(c:Gl X x)(d:X.mg x=al (.ref Cc))(f:X.A.handled=aT)(g:(x==("__debug__":Str))=ce):PS X (.Raise (al<|.Call (.Name x np) [.Constant (.str y) j p] [] z) aT pos) (λD W H=>∀a,E (.ref a) (al Cc) H):=by refineλh s W H D I q=>AJ b.obj λbm N nm AA=>AJ AA λY bs hdct AA=>AJ AA λsn sub ab AA=>AJ AA λcol dd k0 AA=>AJ AA λk1 k2 k3 AA=>AL AA λk5 a e b a=>have i:=a _ I.kIn;wpAny_Raise_call_subT (nm:=nm) (q:=Y) (C:=Cc) (N:=N) (bs:=bs) (hdct:=hdct) (sn:=sn) (sub:=sub) (ab:=ab) (col:=col) (dd:=dd) (k0:=k0) (k1:=k1) (k2:=k2) (k3:=k3) (k5:=k5) j5 (OwnTail.hasType i.2.tail j5.hasBase) f rfl (b _<|am ..) ?_;refine thn (ao2 (v:=.ref Cc) c d rfl g h s W H (λv J=>v=.ref Cc/\J=H) I ⟨rfl,rfl⟩) λu b⟨v,J,I1,r,c,f⟩=>?_;subst c f;refine⟨r,jY ?_⟩;have c:PA X [.Constant (.str y) j p]<|ak6 (tC<|.str y) aH9:=zy by8 af0;refine thn (c z h b W J (λvs c=>vs.length=1/\c=J) I1 ⟨rfl,rfl⟩) λd f⟨vs,c,b,g,i,j⟩=>?_;subst j;have Z:d.length=1:=g.length▸i;exact⟨rfl,by show d.length<=_;rw[Z];decide,b.kIn _ _ e,(a _ b.kIn).1,(a _ b.kIn).2.tail,λh' a M=>T h W c f h' a Cc d b M<|q a⟩
end
structure Tr(X:Cx)(pins:yA)(W:St)(H:Hp)(s:af)(a Cc:Addr)(fl:Value):Prop where
 inv:Inv X pins W H s
 n0:X.s₀.heap.get? a=aT
 nH:H a=aT
 np:∀p∈X.pn++pins,p.1≠a
 tr:∃a0 oe vs T oT ts,s.heap.get? a=al oe/\(oe.cls=.ref Cc/\vs[0]?=al a0)/\oe.data=.fields vs/\vs[1]?=al (.ref T)/\X.s₀.heap.get? T=aT/\H T=aT/\(∀p∈X.pn++pins,p.1≠T)/\T≠a/\s.heap.get? T=al oT/\oT.data=.fields ts/\ts[3]?=al fl
section
variable{X:Cx}{pins:yA}{W:St}{H:Hp}{s:af}{a Cc T:Addr}{fl fl' a0:Value}{h':Heap}
def Tr.stk(z:X.stack=X.env::X.outer)(h:X.env.frame=al X.env.locals):∀b∈X.fs,b∈frs X.stack:=λb a=>by rw[z];unfold frs;rw[bw,h];exact ah _ a
def Tr.moved(t:Tr X pins W H s a Cc fl)(i:X.ex=[])(b:X.stack=X.env::X.outer)(b:X.env.frame=al X.env.locals){ts:yK}(b:X.s₀.heap.get? T=aT)(Z:H T=aT)(l:∀p∈X.pn++pins,p.1≠T)(b:s.heap.get? T=al oT)(b:oT.data=.fields ts)(st:(zF s.heap<|a::T::frs X.stack).StaysIn h')(ff:h'.FunFrames (zF s.heap<|a::T::frs X.stack) X.stack)(tr:h'.TracedAtW (zF s.heap<|a::T::frs X.stack) a (.ref Cc) a0 fl')(f:∀b o,s.heap.get? b=al o->(∀g,o.data≠.fields g)->∃f,h'.get? b=al {o with slots:=f}):Tr X pins W H {s with heap:=h'} a Cc fl':=by
 have I:=t.inv;have un:=I.base;rw[i]at un;refine AJ t.tr λb0 b g AA=>AK AA λ_ _ _ b _ b _=>?_;have k:∀b,b∈a::T::frs X.stack->b=a\/b=T\/b∈frs X.stack:=λb b=>by simp_all
 have keep:=λb o d f g e=>st b o<|by rw[qK λz=>(k b z).elim d λz=>z.elim f g];exact e
 have b:∀b o,b∈frs X.stack->s.heap.get? b=al o->∃f,h'.get? b=al {o with slots:=f}:=λb o n e=>AO (I.stack.mem n) λ_ w j d=>by simp_all
 have g:∀b o,X.s₀.heap.get? b=al o->b∉X.fs->b∉frs X.stack:=λb o e n z=>by
  rcases aD.mp (I.stkSub b z)with q|q;.subst q;exact ij (aM e) (mU.mpr I.ok.above)
  lia
 have h:∀b o,X.s₀.heap.get? b=al o->b≠a/\b≠T:=λb o e=>⟨λz=>(by rw[z,t.n0]at e;cases e),λz=>(by lia)⟩;have j:=f;have w:Inv X pins W H {s with heap:=h'}:=by
  refine⟨I.ok,I.os,I.bare,?_,?_,λx c e=>?_,I.free,I.freeC,λp a=>?_,I.hok.part λb u o e q=>?_,I.len⟩
  .rw[i];refine⟨λb o e n d c=>?_,λb o e n d c=>?_,un.free,λb o e c=>?_,un.tups,un.frzs,un.tbls⟩;.exact keep b o (h b o e).1 (h b o e).2 (g b o e d) (un.keep b o e n d c)
   .refine AF (un.slot b o e n d c) λb4 d=>?_;grind
   .refine AF (un.there b o e c) λo1 d=>?_;grind
  .obtain⟨m,⟨o,es,ep,ho,hd,hr⟩,hl⟩:=I.loc;refine AF (j _ o ho<|λg z=>by lia) λb4 d=>⟨m,⟨_,es,ep,d,hd,hr⟩,λi x v f h2 h=>AD (hl i x v f h2 h) λu r lk=>⟨u,r,?_⟩⟩;rcases lk with z|⟨m,c,n,d,f,h⟩;.exact .inl z
   .exact AF (j c d f<|λg z=>by lia) λUu i=>.inr ⟨m,c,n,_,i,h⟩
  .exact AE (I.cell x c e) λv d f h=>AF (j c d f<|λg z=>by lia) λUu i=>⟨v,_,i,h⟩
  .refine AW (I.pin p a) λq1 c d f g=>⟨keep _ _ (t.np p a) (l p a) (λz=>?_) q1,c,d,f,g⟩;rcases aD.mp (I.stkSub _ z)with q|q;all_goals lia
  .refine keep b o (λz=>?_) (λz=>?_) (λz=>?_) q;.rw[z,t.nH]at e;cases e
   .lia
   .rw[I.stkFree b z]at e;cases e
 refine⟨w,t.n0,t.nH,t.np,AG tr λa8 b J c g f h2 h AA=>AV AA λh4 a i l m n=>?_⟩;have key:X.s₀.heap.get? J=aT/\H J=aT/\∀p∈X.pn++pins,p.1≠J:=by
  rcases without_none a with z|z
  .rcases k J z with y|y|y;.lia
   .grind
   .refine AO (ff.mem y) λ_ w j d=>?_;simp_all
  .refine⟨?_,?_,λp a y=>?_⟩;.cases e:X.s₀.heap.get? J with|none=>rfl|some o=>refine AF (un.there J o e<|by simp) λo' j=>?_;lia
   .cases e:H J with|none=>rfl|some o=>refine AF ((I.hok J o e).at_) λu j=>?_;lia
   .have:=(I.pin p a).1;lia
 exact⟨a0,a8,b,J,c,g,f,h2,h,h4,key.1,key.2.1,key.2.2,i,l,m,n⟩
def Tr.noted(t:Tr X pins W H s a Cc .none)(Y:X.ex=[])(h:X.stack=X.env::X.outer)(J:X.env.frame=al X.env.locals){E:yB}(k:∀h' b,Tr X pins W H {s with heap:=h'} a Cc b->Q () {s with heap:=h'}):wpAny (model X.prog X.w) X.A (lO (.ref a) X.env) Q E s:=by have I:=t.inv;refine AJ t.tr λa0 d e AA=>AK AA λT f g i h2 j AA=>AV AA λh4 l m Z n AA=>AI AA λh8 c o=>?_;have p:s.heap.FunFrames (zF s.heap<|a::T::frs X.stack) X.stack:=ap0 I.stack λb a=>zA<|ah _<|ah _ a;have z:=I.ok.frames;rw[h]at z;refine wpAny_noteFrame_onW z (by rw[<-h];exact p) J ⟨d,e,T,f,g,i,h2,j,h4,zA<|by simp,n,h8,c,o⟩ qg (zA<|am ..) λh' L=>?_;rw[<-h]at L;exact AU L λst ff tr a=>k h' _<|t.moved Y h J l m Z h8 c st ff tr a
def Tr.down(t:Tr X pins W H s a Cc fl)(J:X.ex=[])(z:X.stack=X.env::X.outer)(Y:X.env.frame=al X.env.locals){E:yB}(k:∀h',Tr X pins W H {s with heap:=h'} a Cc .none->Q () {s with heap:=h'}):wpAny (model X.prog X.w) A (lU (.ref a) aT) Q E s:=have I:=t.inv;AJ t.tr λa0 d e AA=>AK AA λT f g i h2 j AA=>AV AA λh4 l m n o AA=>AI AA λh8 c h=>have Z:s.heap.FunFrames (zF s.heap<|a::T::frs X.stack) X.stack:=ap0 I.stack λb a=>zA<|ah _<|ah _ a;wpAny_setFlight_noneW qg Z ⟨d,e,T,f,g,i,h2,j,h4,zA<|by simp,o,h8,c,h⟩ λh' a ff tr f=>k h'<|t.moved J z Y l m n h8 c a ff tr.at λb o e d=>⟨o.slots,f b o e d⟩
def CX1.tr(I:Inv X pins W H s)(Y:X.ex=[])(h:CX1 X.prog X.w X.stack H s E e s'):∃a d H',e=.ref a/\Tr X pins W H' s' a d .none/\E e (al d) H':=by
 have b:=h;obtain⟨a,d,H',rfl,i,c,un,f,F,q⟩:=h;refine AK (CX1.inv I Y b) λa' b b e J G b=>?_;have g:∀b,s.heap.get? b=aT->X.s₀.heap.get? b=none:=λb z=>by cases e:X.s₀.heap.get? b with|none=>rfl|some o=>obtain⟨h,h⟩:=I.base.there b o e (by simp_all);lia
 have e:∀b,s.heap.get? b=aT->∀p∈X.pn++pins,p.1≠b:=λb z p b y=>by have:=(I.pin p b).1;lia
 obtain⟨h,j,k,l,m,T,n,o,p,h2,r,s,Z,t,u⟩:=F;exact⟨a,d,H',rfl,⟨I.call' i un f c<|λb z=>ij z<|by simp,g _ h,j,e _ h,k,l,m,T,n,o,p,h2,r,s,g _ Z,t,e _ Z,u⟩,q⟩
end
noncomputable abbrev Cx.hnd(X:Cx)(a:Addr)(oe:Obj):Cx:={X with A:=X.A.mark<|al<|.ref a,calm:=ce,pn:=(a,oe)::X.pn,xe:=λ_ _=>False}
section
variable{X:Cx}{pins:yA}{W:St}{H:Hp}{s:af}{a Cc:Addr}{oe:Obj}{fl:Value}
theorem Cx.Ok.hnd(ok:X.Ok)a oe:(X.hnd a oe).Ok:=⟨ok.mod,ok.kind,ok.glob,ok.blt,ok.above,ok.inj,ok.has,ok.cab,(λz=>by cases z),ok.frames,ok.stk,ok.exf,ok.bs,ok.bsz,ok.noex,ok.exfs,ok.funs,ok.frf⟩
def Inv.apart(I:Inv X pins W H s){vs:yK}(e:s.heap.get? b=al o)(d:o.data=.fields vs):b≠X.env.locals/\b∉X.fs/\∀v,o.data≠.cell v:=by
 refine⟨λz=>?_,λz=>?_,λv z=>by lia⟩;.obtain⟨m,⟨h,es,ep,ho,hd,_⟩,_⟩:=I.loc;lia
 .refine AO (I.funs.mem z) λ_ h a a=>?_;simp_all
theorem Inv.hnd{vs:yK}(I:Inv X pins W H s)(e:s.heap.get? a=al oe)(n:H a=aT)(d:oe.data=.fields vs):Inv (X.hnd a oe) pins W H s:=⟨I.ok.hnd a oe,I.os,I.bare,I.base,I.loc,I.cell,I.free,I.freeC,λp a=>by
  rcases aD.mp a with z|z;.exact z▸⟨e,n,I.apart e d⟩
  .exact I.pin p z,I.hok,I.len⟩
def Inv.unhnd(ok:X.Ok)(I:Inv (X.hnd a oe) pins W H s):Inv X pins W H s:=⟨ok,I.os,I.bare,I.base,I.loc,I.cell,I.free,I.freeC,λp a=>I.pin p<|ah _ a,I.hok,I.len⟩
def bj0{E:yB}(I:Inv X pins W H s)(l:X.N.Nodup)(hi:X.N[i]?=al x)(a:X.env.scope.names.lookup x=al .local)(k:W[i]?=al (al v))(h:∀b,Inv X pins (W.set i aT) H b->Q () b):wpAny M A (unbindName X.env x) Q E s:=by
 refine AD (id I.loc) λm b Z=>?_;have J:(X.env.scope.kind==.class||(X.env.scope.kind==.module&&X.env.locals !=X.env.globals))=false:=by rw[I.ok.kind];rfl
 refine AD (Z i x v hi k<|.inl a) λu r lk=>?_;have c:m x=al u:=by
  rcases lk with⟨_,e⟩|⟨e,_⟩;.exact e
  .have Y:X.env.kindOf x=al .local:=a;lia
 have cne:=I.cne;refine wpAny_unbindName_local a b c J λh' a c f=>AX (id b) λoL _ _ a _=>have low:∀b o,X.s₀.heap.get? b=al o->b≠X.env.locals:=λb o e=>aI<|aA (aM e) I.ok.above;h _ ⟨I.ok,I.os,I.bare,⟨λb o e n g a=>?_,λb o e n g a=>?_,I.base.free,λb o e a=>?_,I.base.tups,I.base.frzs,I.base.tbls⟩,⟨_,c,λj y m d h r=>?_⟩,λy c e=>?_,I.free,I.freeC,λp s=>?_,I.hok.part λb w o e q=>?_,by rw[bA];exact I.len⟩;.exact(f.2 b<|low b o e).trans<|I.base.keep b o e n g a
 .exact AF (I.base.slot b o e n g a) λsl d=>⟨sl,(f.2 b<|low b o e).trans d⟩
 .exact AF (I.base.there b o e a) λo' d=>⟨o',(f.2 b<|low b o e).trans d⟩
 .have hj:j≠i:=λz=>by subst z;cases bq (ag.mp k).1▸h
  rw[aC<|bH hj]at h;refine AD (Z j y m d h r) λw a q=>⟨w,a,?_⟩;rcases q with⟨k,e⟩|⟨k,c,e,z⟩;.refine .inl ⟨k,?_⟩;have:y≠x:=λe=>hj<|aw9 l d<|e▸hi;simp[this,e]
  .exact .inr ⟨k,c,e,z.sameBut f<|cne y c e⟩
 .exact AF (I.cell y c e) λw' z=>⟨w',z.sameBut f<|cne y c e⟩
 .exact AW (I.pin p s) λe n ne a d=>⟨(f.2 p.1 ne).trans e,n,ne,a,d⟩
 .refine(f.2 b λz=>?_).trans q;rw[z,I.free]at e;cases e
def Tr.own(t:Tr X pins W H s a Cc fl):∃b c,s.heap.get? a=al b/\b.cls=.ref Cc/\b.data=.fields c:=AJ t.tr λa0 b c AA=>AK AA λT J a z h a _=>⟨b,c,z,h.1,a⟩
def Tr.again(t:Tr X pins W H s a Cc fl){Q:V->Hp->Prop}(he:∀b,PE (X.hnd a b) e<|tC v){E:yB}{R:yB}(k:∀u b,RelV v u->Tr X pins W H b a Cc fl->R u b):wpAny (model X.prog X.w) (X.A.mark<|al<|.ref a) (eval e X.env) R E s:=by
 refine AJ t.tr λa0 b i AA=>AK AA λT c j d h2 e AA=>AV AA λh4 l f Z m AA=>AI AA λh8 g Y=>?_;have I:=t.inv;have J:Inv (X.hnd a b) ((T,c)::pins) W H s:=(I.hnd d t.nH e).pins_of λp d=>by
  rcases aD.mp d with z|z;.exact z▸⟨h8,f,I.apart h8 g⟩
  .exact I.pin p<|aN _ z
 refine bD (he b ((T,c)::pins) s W H (λw d=>w=v/\d=H) J ⟨rfl,rfl⟩) (λu n⟨w,d,h,r,e1,o⟩=>?_) (λ_ _ z=>bo z);subst e1 o;refine k u n r ⟨(h.pins_of λp d=>h.pin p<|aN _<|ah _ d).unhnd I.ok,t.n0,t.nH,t.np,a0,b,i,T,c,j,(h.pin (a,b)<|am ..).1,h2,e,h4,l,f,Z,m,(h.pin (T,c)<|aN _<|am ..).1,g,Y⟩
end
section
variable{prog:aH}{w:World}{A:aU}{R:kO->af->Prop}{I:Addr}{fp wr:List Addr}{n:Nat}{P:Nat->Value->Prop}{St:Nat->Heap->Prop}{h₀:Heap}
end
section
variable{X:Cx}{pins:yA}{W:St}{H:Hp}{s:af}{a Cc:Addr}{oe:Obj}{fl:Value}
end
theorem PG.nox(h:PG X.nox e t):PG X e t:=λJ s W H v u Q I r a=>bD (h J s W H v u Q (I.wish _) r a) (λ_ _⟨a,H',b,q⟩=>⟨a,H',b.unwish,q⟩) λ_ _ z=>bo z
theorem PI.nox(h:PI X.nox tg e t):PI X tg e t:=λa s W H R I b=>bD (h a s W H R (I.wish _) b) (λ_ _ z=>bD z (λ_ _ z=>AG z λit Z a J b e c T AA=>AI AA λY d q=>⟨it,Z,a,J,b,e,c.unwish,T,Y,d,q⟩) λ_ _ z=>bo z) λ_ _ z=>bo z
def bY0{E:yB}{K}{D}{z:yM}{rest}(d:cu K (.ref Cc) (.ref D)=al bY)(h:wpAny (model P w) (A.mark<|al<|.ref e) (eval t env) (λc a=>c=.ref D/\K.In a.heap/\(∃b,a.heap.get? e=al b/\b.cls=.ref Cc)/\wpAny (model P w) (A.mark<|al<|.ref e) (lU (.ref e) aT) (λ_ b=>wpAny (model P w) (A.mark<|al<|.ref e) (fQ env n<|.ref e) (λ_ Z=>wpAny (model P w) (A.mark<|al<|.ref e) (execs (Y::z) env)
    (λf c=>wpAny (model P w) A (do bindName env n .none;unbindBehindTheSuite env n pos) (λ_ g=>Q f g) E c)
    (AsSuiteRaised (model P w) (A.mark<|al<|.ref e) env n pos<|gC (model P w) (A.mark<|al<|.ref e) env<|kW (model P w) A env E) Z) (gC (model P w) (A.mark<|al<|.ref e) env<|kW (model P w) A env E) b) (gC (model P w) (A.mark<|al<|.ref e) env<|kW (model P w) A env E) a) (gC (model P w) (A.mark<|al<|.ref e) env<|kW (model P w) A env E) s):wpAny (model P w) A (handleBy (.ref e) env<|.ExceptHandler (al t) (al n) (Y::z) pos::rest) Q E s:=by refine wpAny_handleBy_cons (codeAny_handlers_test<|bD h (λc a c=>?_) λ_ _ y=>y) (λq=>by cases q);obtain⟨rfl,X,⟨b,b,J⟩,f⟩:=c;have c:eZ (model P w) a.heap (kR<|.ref e) (.ref Cc):=J▸(lS b).andThen .now;exact(PySem.W.exm_one X c d).here<|codeAny_handlers_suite_as f
section
variable{X:Cx}{pins:yA}{W:St}{H:Hp}{s:af}{a Cc D':Addr}{oe:Obj}{fl:Value}
def aS0{h:yM}{rest}{D}(t:Tr X pins W H s a Cc .none)(Y:X.ex=[])(d:X.stack=X.env::X.outer)(Z:X.env.frame=al X.env.locals)(f:cu X.K (.ref Cc) (.ref D')=al bY)(g:Gl X x)(j:X.mg x=al (.ref D'))(k:(x==("__debug__":Str))=ce)(e:X.N.Nodup)(hi:X.N[i]?=al n)(c:X.env.scope.names.lookup n=al .local)(l:∀b,b.cls=.ref Cc->PSs (X.hnd a b) (b₀::h) th)(m:th {nx:=λ_ _=>False,rt:=D.rt} (W.set i<|al<|.ref a) H):wpAny (model X.prog X.w) X.A (lO (.ref a) X.env) (λ_ b=>wpAny (model X.prog X.w) X.A (lU (.ref a) aT) (λ_ o=>wpAny (model X.prog X.w) X.A (handleBy (.ref a) X.env<|.ExceptHandler (al<|.Name x np) (al n) (b₀::h) pos::rest) (SP X pins D) X.xe o) X.xe b) X.xe s:=by
 refine t.noted Y d Z λh2 b b=>b.down Y d Z λb b=>bY0 (K:=X.K) f ?_;refine b.again (Q:=λ_ _=>True) (v:=.ref D') (λb=>ao2 (X:=X.hnd a b) g j rfl k) λu h r b=>AL b.own λa5 f f g j=>⟨r,b.inv.kIn,⟨a5,f,g⟩,b.down Y d Z λd b=>AL b.own λJ f f j g=>?_⟩;have k:Inv X ((a,J)::pins) W H {h with heap:=d}:=b.inv.pins_of λp d=>by
  rcases aD.mp d with z|z;.exact z▸⟨f,b.nH,b.inv.apart f g⟩
  .exact b.inv.pin p<|aN _ z
 refine jo k e hi (.inl c) (v:=.ref a) rfl (λh f=>?_) (.inr c);have k:Inv (X.hnd a J) pins (W.set i<|al<|.ref a) H h:=(f.pins_of λp d=>f.pin p<|aN _<|ah _ d).hnd (f.pin (a,J)<|aN _<|am ..).1 b.nH g;refine bD (l J j pins h _ H {nx:=λ_ _=>False,rt:=D.rt} k m) (λf a z=>?_) (λ_ _ z=>bo z);cases f with|next=>refine AE z λ_ _ _ z=>?_;simp_all|brk=>refine AE z λ_ _ _ z=>?_;simp_all|cont=>refine AE z λ_ _ _ z=>?_;simp_all|ret a=>
  refine AS z λv8 d f a g h=>have a:=a.unhnd b.inv.ok;ai<|wpAny_bindName<|jo a e hi (.inl c) (v:=.N) (u:=.none) rfl (λb b=>?_) (.inr c);have j:i<d.length:=by rw[a.len];grind
  exact wpAny_onRaise<|bj0 b e hi c (by rw[bq j]) λa a=>⟨v8,_,f,a,g,h⟩
end
section
open PySem.AutoSeq1(wpAny_loadPart')
open PySem.MeetsSeq PySem.MeetsSeq2 PySem.MeetsSeq3 PySem.SeqAt
end
section
variable{A:aU}{s:af}
end
section
variable{prog:aH}{w:World}{A:aU}{E:yB}{s:af}{x y:Str}{t u:Tok}
end
section
variable{X:Cx}{a:Addr}{oe:Obj}
end
def KV.get:∀{l}{m}{i:Nat}{k:κ}{v},KV l m->l[i]?=al (k,v)->∃u,m[i]?=al (k,u)/\RelV v u:=by intro l m i k v r;induction r generalizing i with|nil=>intro e;simp at e|cons h t a=>intro e;cases i with|zero=>cases(ay e);exact⟨_,congrArg al<|ip h.1.symm rfl,h.2⟩|succ i=>exact a<|by simpa using e
section
variable{X:Cx}{pins:yA}{W:St}{H:Hp}{s:af}
end
def Jk(a:Addr)(o:Obj)(kvs:List<|Key×V):It:=⟨λi H=>H a=al (.frz o<|.dK kvs)/\i<kvs.length,λi H x H'=>H'=H/\∃k v,kvs[i]?=al (k,v)/\x=kV k,λi H=>H a=al (.frz o<|.dK kvs)/\kvs.length<=i⟩
section
variable{X:Cx}{tg:Expr}
def cp4(tl:TE):TI:=λW H R=>tl W H λx c=>∃a b,x=.ref a/\c a=al (.dK b)/\∀o,R (Jk a o b) (upd c a<|.frz o<|.dK b)
end
end L2
end
noncomputable section
namespace L2
open PySem PyProof.Rows
noncomputable def kk(p:Keyed):Int:=numOf p.1
section
variable{prog:aH}{w:World}{A:aU}{E:yB}{s:af}
end
end L2
end
noncomputable section
namespace L2
open PySem PyProof.Rows
abbrev Srt(κ:Keyed->Int)(l:List Keyed):Prop:=l.Pairwise λx y=>κ x<=κ y
def Mg(κ:Keyed->Int)(A B out:List Keyed)(i j:Nat):Prop:=out.Perm (A.take i++B.take j)/\Srt κ out/\(∀x∈out,∀y∈A.drop i,κ x<=κ y)/\∀x∈out,∀y∈B.drop j,κ x<=κ y
section
variable{κ:Keyed->Int}{A B out:List Keyed}{i j k:Nat}
def Mg.add(h:Mg κ A B out i j)(J:Srt κ A)k(hk:∀x∈(A.drop i).take k,∀y∈B.drop j,κ x<=κ y):Mg κ A B (out++(A.drop i).take k) (i+k) j:=by
 refine AU h λp s c d=>?_;have e:A.drop i=(A.drop i).take k++A.drop (i+k):=by rw[<-List.drop_drop,i8]
 have z:Srt κ<|A.drop i:=J.sublist<|lz _ _;rw[e]at z;refine AI (j6.mp z) λs1 _ f=>⟨?_,j6.mpr ⟨s,s1,λx hx y b=>c x hx y<|gf b⟩,λx hx y b=>?_,λx hx y b=>?_⟩;.rw[List.take_add,be];refine(p.append_right _).trans ?_;rw[be];exact List.Perm.append_left _ List.perm_append_comm
 .exact(aZ.mp hx).elim (λhx=>c x hx y<|by rw[e];exact aN _ b) λhx=>f x hx y b
 .exact(aZ.mp hx).elim (λhx=>d x hx y b) λhx=>hk x hx y b
def Mg.fin(h:Mg κ A B out i j)(hi:A.length<=i)(a:B.length<=j):out.Perm (A++B)/\Srt κ out:=AI h λp s _=>⟨(cV hi▸cV a▸p),s⟩
def aO6(s:Srt κ A)(h:A[i]?=al x):∀y∈A.drop i,κ x<=κ y:=by
 have e:A.drop i=x::A.drop (i+1):=by obtain⟨J,e⟩:=ag.mp h;rw[cN J,e]
 have z:Srt κ<|A.drop i:=s.sublist<|lz _ _;rw[e]at z⊢;intro y hy;rcases aD.mp hy with rfl|hy;.exact cJ _
 .exact(List.pairwise_cons.mp z).1 y hy
def aQ9(h:A[i]?=al x):(A.drop i).take 1=[x]:=by obtain⟨z,e⟩:=ag.mp h;rw[cN z,e];rfl
def Mg.one(h:Mg κ A B out i j)(b:Srt κ A)(Y:Srt κ B)(a:A[i]?=al x)(c:B[j]?=al y)(J:κ x<=κ y):Mg κ A B (out++[x]) (i+1) j:=by
 have:=h.add b 1 λz b u d=>by rw[aQ9 a]at b;cases aP.mp b;exact fK J<|aO6 Y c u d
 rwa[aQ9 a]at this
def Mg.more(h:Mg κ A B out i j)(J:Srt κ A)(a:Srt κ B)(b:B[j]?=al y)(c:∀x∈(A.drop i).take k,κ x<=κ y):Mg κ A B (out++(A.drop i).take k) (i+k) j:=h.add J k λz d u e=>fK (c z d) (aO6 a b u e)
end
section
variable{prog:aH}{w:World}{A:aU}{E:yB}{s:af}
def Sm(st a:lV):Prop:=arrOf a=arrOf st/\nE a=nE st/\eR a=eR st/\failedOf a=failedOf st
def Sm.refl st:Sm st st:=⟨rfl,rfl,rfl,rfl⟩
theorem Sm.trans(h:Sm a b)(g:Sm b c):Sm a c:=⟨g.1.trans h.1,g.2.1.trans h.2.1,g.2.2.1.trans h.2.2.1,g.2.2.2.trans h.2.2.2⟩
section
variable{a b:Array Keyed}(sa:Srt kk a.toList)(sb:Srt kk b.toList)(hl:∀x∈b.toList,∀i,i+1=a.size->∀y∈a.toList.drop i,kk x<=kk y)
include sa sb
end
def tl{a:Array Keyed}{i:Nat}(h:a[i]?=al p):a.toList[i]?=al p:=by simp_all
end
end L2
end
noncomputable section
namespace L2
open PySem PyProof.Rows
section
variable{a b:Array Keyed}
variable(sa:Srt kk a.toList)(sb:Srt kk b.toList)(hf:∀x∈a.toList,∀y,b[0]?=al y->kk y<=kk x)
include sa sb
end
section
variable{prog:aH}{w:World}{A:aU}{E:yB}{s:af}
end
end L2
end
noncomputable section
namespace L2
open PySem PyProof.Rows
section
variable{prog:aH}{w:World}{A:aU}{E:yB}{s:af}
end
end L2
end
noncomputable section
namespace L2
open PySem PyProof.Rows
structure SB(P:Array<|Nat×Nat×Nat)(a₀:Array Keyed)(lo:Nat)(st:lV):Prop where
 perm:(arrOf st).Perm a₀
 kind:eR st=oneType'
 failed:failedOf st=aT
 pend:nE st=P
 pre:∀i,i<lo->(arrOf st)[i]?=a₀[i]?
section
variable{prog:aH}{w:World}{A:aU}{E:yB}{s:af}{P:Array<|Nat×Nat×Nat}{a₀:Array Keyed}{lo:Nat}
theorem SB.size{st}(h:SB P a₀ lo st):(arrOf st).size=a₀.size:=h.perm.size_eq
def SB.lt{st}(J:SB P a₀ lo st)(a:IntKeys a₀)(hi:i<a₀.size)(b:j<a₀.size)(h:Q (al<|decide<|K (arrOf st) i<K (arrOf st) j) st):wpS (model prog w) A E s (ltAt' i j) Q st:=by
 have at_:∀i,i<a₀.size->∃t q,(arrOf st)[i]?=al (.int (K (arrOf st) i) t,q):=λi hi=>by have z:i<(arrOf st).size:=J.size▸hi;refine Aa (a _<|(Array.perm_iff_toList_perm.mp J.perm).mem_iff.mp<|aF<|tl<|gS z) λn t c=>⟨t,(arrOf st)[i].2,?_⟩;have a:(arrOf st)[i]=(.int n t,(arrOf st)[i].2):=ip c rfl;rw[gS z,K_eq z,a];rfl
 exact Aa (at_ i hi) λt p c=>Aa (at_ j b) λu q a=>wpS_ltAt J.kind c a h
end
end L2
end
noncomputable section
namespace L2
open PySem PyProof.Rows
section
variable{prog:aH}{w:World}{A:aU}{E:yB}{s:af}{P:Array<|Nat×Nat×Nat}{a₀:Array Keyed}{lo:Nat}
end
end L2
end
noncomputable section
namespace L2
open PySem PyProof.Rows
section
variable{prog:aH}{w:World}{A:aU}{E:yB}{s:af}{a₀:Array Keyed}
end
end L2
end
noncomputable section
namespace L2
open PySem PyProof.Rows
section
variable{prog:aH}{w:World}{A:aU}{E:yB}{s:af}
end
end L2
end
noncomputable section
namespace L2
open PySem PySem.Spec PyProof.Rows
section
variable{X:Cx}{o e f:Expr}{apos cpos:Pos}{td ty tx:TE}
end
end L2
end
noncomputable section
namespace DV
set_option genInjectivity true in inductive D where|N|T(b:Bool)|int(i:Int)|str(x:List Nat)|tp(l:List D)|ref(n:Nat)|fn(f:String)|clo(f:String)(cs:List D)
noncomputable abbrev D.ctorIdx(x:D):Nat:=D.casesOn x 0 (λ_=>1) (λ_=>2) (λ_=>3) (λ_=>4) (λ_=>5) (λ_=>6) (λ_ _=>7)
noncomputable instance:DecidableEq D:=λa b=>iw<|a=b
noncomputable instance(x:D):Decidable<|x=.N:=match x with|.N=>.isTrue rfl|.T _=>.isFalse nofun|.int _=>.isFalse nofun|.str _=>.isFalse nofun|.tp _=>.isFalse nofun|.ref _=>.isFalse nofun|.fn _=>.isFalse nofun|.clo _ _=>.isFalse nofun
inductive O where|J(l:List D)|ro(l:List D)|dc(l:List<|D×D)|ins(c:String)(fs:List<|D×D)|dit(l:List<|D×D)|dicF(l:List<|D×D)
noncomputable abbrev O.ctorIdx(x:O):Nat:=O.casesOn x (λ_=>0) (λ_=>1) (λ_=>2) (λ_ _=>3) (λ_=>4) (λ_=>5)
noncomputable instance:DecidableEq O:=λa b=>iw<|a=b
abbrev Sto:=List O
noncomputable def O.kd:O->Nat|.J _=>0|.ro _=>1|.dc _=>2|.ins _ _=>3|.dit _=>4|.dicF _=>2
set_option genInjectivity true in inductive R(α:Type)where|ok(a:α)(s:Sto)|exc(e:D)(s:Sto)|B
noncomputable abbrev R.ctorIdx{α:Type}(x:R α):Nat:=R.casesOn x (λ_ _=>0) (λ_ _=>1) 2
noncomputable abbrev M α:=Sto->R α
noncomputable def R.bind(r:R α)(f:α->Sto->R β):R β:=match r with|.ok a s=>f a s|.exc e s=>.exc e s|.B=>.B
@[simp]theorem R.bind_ok a s(f:α->Sto->R β):(R.ok a s).bind f=f a s:=rfl
@[simp]theorem R.bind_bad(f:α->Sto->R β):(R.B).bind f=.B:=rfl
@[simp]theorem R.bind_exc e s(f:α->Sto->R β):(R.exc e s).bind f=.exc e s:=rfl
def R.bind_inv{r:R α}{b:β}(h:r.bind f=.ok b t):∃a s,r=.ok a s/\f a s=.ok b t:=by cases r with|ok a s=>exact⟨a,s,rfl,h⟩|exc e s=>cases h|B=>cases h
@[simp]theorem R.bind_assoc(r:R α)f(g:β->Sto->R γ):(r.bind f).bind g=r.bind λa s=>(f a s).bind g:=by cases r<;>rfl
mutual noncomputable def D.bnd(n:Nat):D->Bool|.tp l=>D.bndL n l|.ref k=>decide<|k<n|.clo _ l=>D.bndL n l|_=>bY noncomputable def D.bndL(n:Nat):List D->Bool|[]=>bY|d::l=>D.bnd n d&&D.bndL n l end
def O.bnd(n:Nat):O->Bool|.J l=>D.bndL n l|.ro l=>D.bndL n l|.dc l=>D.bndL n (l.map (·.1))&&D.bndL n (l.map (·.2))|.ins _ l=>D.bndL n (l.map (·.1))&&D.bndL n (l.map (·.2))|.dicF l=>D.bndL n (l.map (·.1))&&D.bndL n (l.map (·.2))|.dit l=>D.bndL n (l.map (·.1))&&D.bndL n (l.map (·.2))
mutual noncomputable def D.plain:D->Bool|.N=>bY|.int _=>bY|.str _=>bY|.tp l=>D.plainL l|_=>ce noncomputable def D.plainL:List D->Bool|[]=>bY|d::l=>D.plain d&&D.plainL l end
mutual noncomputable def D.ncl:D->Bool|.tp l=>D.nclL l|.clo _ _=>ce|_=>bY noncomputable def D.nclL:List D->Bool|[]=>bY|d::l=>D.ncl d&&D.nclL l end
def O.ncl:O->Bool|.J l=>D.nclL l|.ro l=>D.nclL l|.dc l=>D.nclL (l.map (·.2))|.dit l=>D.nclL (l.map (·.2))|.dicF l=>D.nclL (l.map (·.2))|.ins _ l=>D.nclL (l.map (·.2))
noncomputable def D.key:D->Bool|.int _=>bY|.str _=>bY|_=>ce
noncomputable def D.hdI:List D->Bool|.int _::_=>bY|.N::_=>bY|.tp _::_=>bY|_=>ce
noncomputable def D.keyF:D->Bool|.int _=>bY|.N=>bY|.str x=>decide<|x.length<=1000|_=>ce
def D.keyS:D->Bool|.tp l=>D.hdI l&&(l.all D.keyF&&decide (l.length<=1000))|d=>D.keyF d
def D.keyT:D->Bool|.tp l=>D.hdI l&&(l.all D.keyS&&decide (l.length<=1000))|_=>ce
noncomputable def LIM:Nat:=1000000
@[irreducible]noncomputable def BIG:Nat:=2^60000
@[irreducible]noncomputable def DIVL:Nat:=2^4096
set_option genCtorIdx true in inductive BOp where|add|sub|mul|fdiv|mod|pow|shl|shr|band|bor deriving DecidableEq
set_option genCtorIdx true in inductive COp where|eq|ne|lt|le|gt|ge|isin|notin deriving DecidableEq
set_option genCtorIdx true in inductive Cn where|N|T(b:Bool)|int(i:Int)|str(x:List Nat)deriving DecidableEq
noncomputable def Cn.d:Cn->D|.N=>.N|.T b=>.T b|.int i=>.int i|.str x=>.str x
set_option genCtorIdx true in inductive Bi where|len|abs|int|str|min2|max2|max3|min3|isInt|isBool|isStr|isTup|isList|ord deriving DecidableEq
set_option genCtorIdx true in inductive Mk where|tuple|list|all|any|sum|min|max|sorted|lenset deriving DecidableEq
set_option genCtorIdx true in inductive Mt where|append|partition deriving DecidableEq
set_option genCtorIdx true in inductive Tg where|Y(i:Nat)|tp(is:List Nat)deriving DecidableEq
mutual inductive E where|X(i:Nat)|K(c:Cn)|gl(x:String)|G(op:BOp)(a b:E)|not(a:E)|Z(op:COp)(a b:E)|isN(a:E)|notN(a:E)|and(a b:E)|or(a b:E)|ite(c a b:E)|tp(es:Es)|J(es:Es)|dc(ks vs:Es)|dicT|ix(a b:E)|slU(a hi:E)|call(f:String)(as:As)|callC(f:String)(as:As)|callV(i:Nat)(es:Es)|bi(b:Bi)(es:Es)|mk(k:Mk)(l:L)|mkD(k:Mk)(l:L)(d:E)|me(m:Mt)(o:E)(es:Es)|attr(o:E)(f:List Nat)|new(c:String)(as:As)|mcall(o:E)(m:String)(as:As)inductive Es where|nil|cons(e:E)(es:Es)inductive As where|nil|ex(e:E)(as:As)|lam(id:String)(caps:List Nat)(as:As)|fn(f:String)(as:As)inductive I where|seq(e:E)|rg(a:E)|rng3(a b:E)(c:Int)|keys(e:E)inductive L where|comp(tg:Tg)(it:I)(e:E)(caps:yE)|compIf(tg:Tg)(it:I)(c e:E)(caps:yE)|disp(es:Es)|seq(e:E)|compK(tg:Tg)(e b:E)(caps:yE)end
noncomputable abbrev E.ctorIdx(x:E):Nat:=E.casesOn x (λ_=>0) (λ_=>1) (λ_=>2) (λ_ _ _=>3) (λ_=>4) (λ_ _ _=>5) (λ_=>6) (λ_=>7) (λ_ _=>8) (λ_ _=>9) (λ_ _ _=>10) (λ_=>11) (λ_=>12) (λ_ _=>13) 14 (λ_ _=>15) (λ_ _=>16) (λ_ _=>17) (λ_ _=>18) (λ_ _=>19) (λ_ _=>20) (λ_ _=>21) (λ_ _ _=>22) (λ_ _ _=>23) (λ_ _=>24) (λ_ _=>25) (λ_ _ _=>26)
noncomputable abbrev As.ctorIdx(x:As):Nat:=As.casesOn x 0 (λ_ _=>1) (λ_ _ _=>2) (λ_ _=>3)
noncomputable abbrev I.ctorIdx(x:I):Nat:=I.casesOn x (λ_=>0) (λ_=>1) (λ_ _ _=>2) (λ_=>3)
mutual inductive S where|A(tg:Tg)(e:E)|setIx(o i e:E)|aug(i:Nat)(e:E)|ex(e:E)|ret(e:E)|retN|ite(c:E)(a b:Ss)|whl(c:E)(b:Ss)|fo(tg:Tg)(it:I)(b:Ss)|raise|und(i:Nat)|setA(o:E)(f:List Nat)(e:E)inductive Ss where|nil|cons(s:S)(ss:Ss)end
noncomputable abbrev S.ctorIdx(x:S):Nat:=S.casesOn x (λ_ _=>0) (λ_ _ _=>1) (λ_ _=>2) (λ_=>3) (λ_=>4) 5 (λ_ _ _=>6) (λ_ _=>7) (λ_ _ _=>8) 9 (λ_=>10) (λ_ _ _=>11)
noncomputable abbrev Ss.ctorIdx(x:Ss):Nat:=Ss.casesOn x 0<|λ_ _=>1
abbrev Env:=List<|Option D
noncomputable def ag2(o:O):M D:=λs=>.ok (.ref s.length) (s++[o])
noncomputable def pur(d:D):M D:=λs=>.ok d s
noncomputable def bad:M α:=λ_=>.B
def mulOk(a b:Int):Bool:=decide (a.natAbs<2^64)||decide (b.natAbs<2^64)||(decide (a.natAbs<BIG)&&decide (b.natAbs<BIG))
noncomputable def rep:Nat->List Nat->List Nat|0,_=>[]|n+1,a=>a++rep n a
def am4:BOp->D->D->M D
 |.add,.int a,.int b=>pur<|.int<|a+b|.add,.str a,.str b=>if a.length+b.length<=LIM then pur<|.str (a++b)else bad|.add,.ref a,.ref b=>λs=>match s[a]?,s[b]? with|some<|.J l,al<|.J m=>if l.length+m.length<=LIM then ag2 (.J<|l++m) s else .B|_,_=>.B
 |.sub,.int a,.int b=>pur<|.int<|a-b|.mul,.int a,.int b=>if mulOk a b then pur<|.int (a*b)else bad|.fdiv,.int a,.int b=>if 0<b/\b<(DIVL)then pur<|.int (a/b)else bad|.mod,.int a,.int b=>if 0<b then pur<|.int (a%b)else bad|.pow,.int a,.int b=>if 0<=b/\b<=1000000/\a.natAbs<2^64 then pur<|.int (a^b.toNat)else bad|.bor,.int a,.int b=>if 0<=a/\0<=b then pur<|.int ((a.toNat|||b.toNat))else bad|_,_,_=>bad
noncomputable def kd(s:Sto):D->Nat
 |.N=>0|.T _=>1|.int _=>1|.str _=>2|.tp _=>3|.ref r=>match s[r]? with|some<|.J _=>4|_=>9
 |_=>9
noncomputable def aI4(a b:Nat):Bool:=a==9||b==9||a==b
noncomputable def b2i(b:Bool):Int:=if b then 1 else 0
def ba2:D->D->Option Bool|.N,.N=>al bY|.T a,.T b=>al<|a==b|.int a,.int b=>al<|a==b|.T a,.int b=>al<|b2i a==b|.int a,.T b=>al<|a==b2i b|.str a,.str b=>al<|a==b|_,_=>aT
def af4(s:Sto)(a b:D):Option Bool:=match ba2 a b with|some z=>al z|none=>if aI4 (kd s a) (kd s b)then aT else al ce
noncomputable def eqL(f:D->D->Option Bool):List D->List D->Option Bool|[],[]=>al bY|[],_::_=>al ce|_::_,[]=>al ce|a::l,b::m=>match f a b,eqL f l m with|some x,al y=>al<|x&&y|_,_=>aT
def eqv(s:Sto):Nat->D->D->Option Bool|0,a,b=>af4 s a b|n+1,a,b=>match a,b with
  |.tp l,.tp m=>eqL (eqv s n) l m|.ref x,.ref y=>match s[x]?,s[y]? with|some<|.J l,al<|.J m=>if l.length=m.length then eqL (eqv s n) l m else al ce|_,_=>aT
  |a,b=>af4 s a b
noncomputable def DEEP:Nat:=30
def eqM(a b:D):M D:=λs=>match eqv s DEEP a b with|some r=>.ok (.T r) s|none=>.B
def inL(s:Sto)(x:D):List D->Option Bool|[]=>al ce|y::l=>match eqv s DEEP y x,inL s x l with|some a,al b=>al<|a||b|_,_=>aT
noncomputable def look(k:D):List (D×D)->Option D|[]=>aT|(a,v)::l=>if a=k then al v else look k l
def inM(a b:D):M Bool:=λs=>match b with
 |.ref r=>match s[r]? with
  |some<|.J l=>match inL s a l with|some r=>.ok r s|none=>.B
  |some<|.dc l=>if a.key then .ok (look a l).isSome s else .B|some<|.dit l=>if a.keyT then .ok (look a l).isSome s else .B|_=>.B
 |_=>.B
noncomputable def bp0:D->Option (Int×List Nat)|.tp [.int i,.str x]=>al (i,x)|_=>aT
def cu7(f:Int->List Nat->Int->List Nat->Bool)(a b:D):M D:=λs=>match bp0 a,bp0 b with|some (i,x),al (j,y)=>.ok (.T<|f i x j y) s|_,_=>.B
def qQ:COp->D->D->M D
 |.eq,a,b=>eqM a b|.ne,a,b=>λs=>match eqv s DEEP a b with|some r=>.ok (.T<|!r) s|none=>.B
 |.lt,.int a,.int b=>pur<|.T<|decide<|a<b|.le,.int a,.int b=>pur<|.T<|decide<|a<=b|.gt,.int a,.int b=>pur<|.T<|decide<|b<a|.ge,.int a,.int b=>pur<|.T<|decide<|b<=a|.isin,a,b=>λs=>(inM a b s).bind λr s=>.ok (.T r) s|.notin,a,b=>λs=>(inM a b s).bind λr s=>.ok (.T<|!r) s|_,_,_=>bad
noncomputable def ixn(n:Nat)(i:Int):Option Nat:=if 0<=i then(if i<n then al i.toNat else aT)else if-(n)<=i then al (i+n).toNat else aT
noncomputable def sbd(n:Nat)(i:Int):Nat:=if 0<=i then min i.toNat n else(i+n).toNat
def loB(n:Nat):Option Int->Nat|none=>0|some i=>sbd n i
def hiB(n:Nat):Option Int->Nat|none=>n|some i=>sbd n i
def aA6{α:Type}(l:List α)(a hi:Option Int):List α:=(l.drop<|loB l.length a).take<|hiB l.length hi-loB l.length a
def ixM(a b:D):M D:=λs=>match a,b with
 |.tp l,.int i=>match(ixn l.length i).bind λj=>l[j]? with|some d=>.ok d s|none=>.B
 |.str l,.int i=>match(ixn l.length i).bind λj=>l[j]? with|some c=>.ok (.str [c]) s|none=>.B
 |.ref r,b=>match s[r]? with
  |some<|.J l=>match b with
   |.int i=>match(ixn l.length i).bind λj=>l[j]? with|some d=>.ok d s|none=>.B
   |_=>.B
  |some<|.ro l=>match b with
   |.int i=>match(ixn l.length i).bind λj=>l[j]? with|some d=>.ok d s|none=>.B
   |_=>.B
  |some<|.dc l=>if b.key then match look b l with|some d=>.ok d s|none=>.B else .B|some<|.dit l=>if b.keyT then match look b l with|some d=>.ok d s|none=>.B else .B|_=>.B
 |_,_=>.B
def slM(a:D)(b hi:Option Int):M D:=λs=>match a with
 |.tp l=>.ok (.tp<|aA6 l b hi) s|.str l=>.ok (.str<|aA6 l b hi) s|.ref r=>match s[r]? with|some<|.J l=>ag2 (.J<|aA6 l b hi) s|_=>.B
 |_=>.B
noncomputable def aj9:List D->Option (List Bool)|[]=>al []|.T b::l=>(aj9 l).map (b::·)|_=>aT
noncomputable def qf:List D->Option (List Int)|[]=>al []|.int i::l=>(qf l).map (i::·)|_=>aT
noncomputable def av9:List D->Option (List<|List Nat)|[]=>al []|.str i::l=>(av9 l).map (i::·)|_=>aT
noncomputable def bE8(d:D):M D:=λs=>match d with
 |.tp l=>.ok (.int l.length) s|.str l=>.ok (.int l.length) s|.ref r=>match s[r]? with|some<|.J l=>.ok (.int l.length) s|some<|.ro l=>.ok (.int l.length) s|_=>.B
 |_=>.B
noncomputable def isK(k:Nat)(d:D):M D:=λs=>match d with
 |.N=>.ok (.T ce) s|.T _=>.ok (.T<|k==1||k==2) s|.int _=>.ok (.T<|k==1) s|.str _=>.ok (.T<|k==3) s|.tp _=>.ok (.T<|k==4) s|.ref r=>match s[r]? with|some<|.J _=>.ok (.T<|k==5) s|_=>.B
 |_=>.B
def bi1(f:D->M D):List D->M D|[d]=>f d|_=>bad
def bG8:List D->M D|[.str [c]]=>λs=>if 48<=c/\c<=57 then .ok (.int<|(c-48:Nat)) s else .B|_=>bad
def bJ7:List D->M D|[.int i]=>λs=>if 0<=i/\i<=9 then .ok (.str [48+i.toNat]) s else .B|[.str w]=>λs=>.ok (.str w) s|_=>bad
def bi:Bi->List D->M D
 |.len,l=>bi1 bE8 l|.abs,l=>λs=>match qf l with|some [i]=>.ok (.int<|if i<0 then-i else i) s|_=>.B
 |.int,l=>λs=>match aj9 l with|some [b]=>.ok (.int<|if b then 1 else 0) s|some _=>.B|none=>bG8 l s
 |.str,l=>bJ7 l|.min2,l=>λs=>match qf l with|some [a,b]=>.ok (.int<|if b<a then b else a) s|_=>.B
 |.max2,l=>λs=>match qf l with|some [a,b]=>.ok (.int<|if b>a then b else a) s|_=>.B
 |.max3,l=>λs=>match qf l with|some [a,b,c]=>.ok (.int<|max (max a b) c) s|_=>.B
 |.isInt,l=>bi1 (isK 1) l|.isBool,l=>bi1 (isK 2) l|.isStr,l=>bi1 (isK 3) l|.isTup,l=>bi1 (isK 4) l|.isList,l=>bi1 (isK 5) l|_,_=>bad
noncomputable def minI:List Int->Option Int|[]=>aT|a::l=>al<|l.foldl min a
noncomputable def cu4:List Int->Option Int|[]=>aT|a::l=>al<|l.foldl max a
noncomputable def ins(a:Int):List Int->List Int|[]=>[a]|b::l=>if a<=b then a::b::l else b::ins a l
def cf2:List Int->List Int|[]=>[]|a::l=>ins a<|cf2 l
noncomputable def cy3(a:List Int):Bool:=a.all (λi=>decide<|-1000000000<=i/\i<=1000000000)&&decide (a.length<=1000000)
def mk:Mk->List D->M D
 |.tuple,l=>λs=>.ok (.tp l) s|.list,l=>ag2<|.J l|.all,l=>λs=>match aj9 l with|some bs=>.ok (.T<|bs.all id) s|none=>.B
 |.any,l=>λs=>match aj9 l with|some bs=>.ok (.T<|bs.any id) s|none=>.B
 |.sum,l=>λs=>match qf l with|some a=>if cy3 a then .ok (.int a.sum) s else .B|none=>.B
 |.min,l=>λs=>match(qf l).bind minI with|some m=>.ok (.int m) s|none=>.B
 |.max,l=>λs=>match(qf l).bind cu4 with|some m=>.ok (.int m) s|none=>.B
 |.sorted,l=>λs=>match qf l with|some a=>ag2 (.J<|(cf2 a).map D.int) s|none=>.B
 |.lenset,l=>bad
def mkD(k:Mk)(l:List D)(d:D):M D:=λs=>match k with
 |.min=>match qf l with|some a=>(match minI a with|some m=>.ok (.int m) s|none=>.ok d s)|none=>.B
 |.max=>match qf l with|some a=>(match cu4 a with|some m=>.ok (.int m) s|none=>.ok d s)|none=>.B
 |_=>.B
def am5(k v:D)(l:List<|D×D):List<|D×D:=if(look k l).isSome then l.map (λp=>if p.1=k then(p.1,v)else p)else l++[(k,v)]
def setIx(o i v:D):Sto->R Unit:=λs=>match o with
 |.ref r=>match s[r]? with
  |some<|.J l=>match i with
   |.int i=>match ixn l.length i with|some j=>.ok ()<|s.set r<|.J<|l.set j v|none=>.B
   |_=>.B
  |some<|.dc l=>if i.key&&decide (l.length<LIM)then .ok ()<|s.set r<|.dc (am5 i v l)else .B|some<|.dit l=>if i.keyT&&decide (l.length<LIM)then .ok ()<|s.set r<|.dit (am5 i v l)else .B|_=>.B
 |_=>.B
def meth:Mt->D->List D->M D
 |.append,.ref r,[d]=>λs=>match s[r]? with|some<|.J l=>if l.length<LIM then .ok .N<|s.set r<|.J<|l++[d]else .B|_=>.B
 |_,_,_=>bad
structure Fns where
 call:String->List D->M D
 lam:String->List D->List D->M D
 con:String->Option D
 xcall:String->List D->Sto->Option (String×Sto)xc:String->Bool
 xt:String->Bool
 cdc:String->Option (List<|List Nat×List Nat)kd:String->Bool
 mcall:String->String->List D->M D
 new:String->List D->M D
 att:String->List Nat->Bool
 xm:String->String->List D->Sto->Option (String×Sto)
noncomputable def aI7(U:Env)(i:Nat):M D:=λs=>match U[i]? with|some<|al d=>.ok d s|_=>.B
noncomputable def ag9(U:Env):List Nat->Option (List D)|[]=>al []|i::a=>match U[i]?,ag9 U a with|some<|al d,al l=>al<|d::l|_,_=>aT
noncomputable def zI(U:Env)(a:yE):Env:=a.map λo=>match o with|none=>aT|some j=>(U[j]?).join
noncomputable def at1(U:Env)(i:Nat)(d:D):Option Env:=if i<U.length then al<|U.set i (al d)else aT
noncomputable def ai6(U:Env)(i:Nat):Option Env:=if i<U.length then al (U.set i aT)else aT
def aq6(U:Env):List Nat->List D->Option Env|[],[]=>al U|i::a,d::l=>(at1 U i d).bind λU=>aq6 U a l|_,_=>aT
def jc(U:Env):Tg->D->Option Env|.Y i,d=>at1 U i d|.tp a,.tp l=>aq6 U a l|_,_=>aT
structure Sq where
 its:List D
 src:List Nat
noncomputable def at2(d:D):M Sq:=λs=>match d with
 |.tp l=>.ok ⟨l,[]⟩ s|.str l=>.ok ⟨l.map λc=>.str [c],[]⟩ s|.ref r=>match s[r]? with|some<|.J l=>.ok ⟨l,[r]⟩ s|some<|.ro l=>.ok ⟨l,[]⟩ s|_=>.B
 |_=>.B
noncomputable def aY0(d:D):M Sq:=λs=>match d with
 |.ref r=>match s[r]? with|some<|.dc l=>if l.all (λp=>p.1.keyF)then .ok ⟨l.map (·.1),[r]⟩<|s.set r (.dicF l)else .B|_=>.B
 |_=>.B
noncomputable def co5(s:Sto)(a:List Nat):Bool:=a.all λr=>match s[r]? with|some<|.dicF _=>ce|_=>bY
noncomputable def cp6(b:List Nat)(a:α):Sto->R α:=λs=>match b with
 |[r]=>match s[r]? with|some<|.dicF l=>.ok a<|s.set r<|.dc l|_=>.B
 |_=>.B
def ct1(l m:List<|D×D):List<|D×D:=m.foldl (λa p=>am5 p.1 p.2 a) l
def ar4(f:List Nat)(x:D):M D:=λs=>match x with
 |.ref r=>match s[r]? with
  |some<|.ins _ fs=>match look (.str f) fs with|some d=>.ok d s|none=>.B
  |_=>.B
 |_=>.B
noncomputable def at4(k v:D):List (D×D)->List (D×D)|[]=>[(k,v)]|(a,x)::r=>if a=k then(a,v)::r else(a,x)::at4 k v r
def aI2(ok:String->Bool)(f:List Nat)(x v:D):Sto->R Unit:=λs=>match x with
 |.ref r=>match s[r]? with|some<|.ins c fs=>if ok c&&decide (fs.length<1000)then .ok ()<|s.set r<|.ins c (at4 (.str f) v fs)else .B|_=>.B
 |_=>.B
noncomputable def bm6(x:D):Sto->R String:=λs=>match x with
 |.ref r=>match s[r]? with|some<|.ins c _=>.ok c s|_=>.B
 |_=>.B
noncomputable def bl1(d:D):Sto->R (List D):=λs=>match d with
 |.tp l=>.ok l s|.str l=>.ok (l.map λc=>.str [c]) s|.ref r=>match s[r]? with|some<|.J l=>.ok l s|some<|.ro l=>.ok l s|_=>.B
 |_=>.B
noncomputable def Ww62:Int:=4611686018427387904
noncomputable def ag6(a b:Int):List D:=(aq (b-a).toNat).map λ(k:Nat)=>.int<|a+k
noncomputable def bm7(a b c:Int):List D:=if 0<c then(aq ((b-a+c-1)/c).toNat).map λ(k:Nat)=>.int (a+c*k)else(aq ((a-b+(-c)-1)/(-c)).toNat).map λ(k:Nat)=>.int<|a+c*k
noncomputable def chk(s0 s:Sto)(a:List Nat):Bool:=a.all λr=>decide<|s[r]?=s0[r]?
noncomputable def tru(r:R D)(f:Bool->Sto->R α):R α:=r.bind λd s=>match d with|.T b=>f b s|_=>.B
@[simp]theorem qF b s(f:Bool->Sto->R α):tru (.ok (.T b) s) f=f b s:=rfl
noncomputable def qu(ok:Sto->Bool)(g:D->Env->Sto->R (Option D×Env)):List D->Env->Sto->R (List D)|[],_,s=>if ok s then .ok [] s else .B|d::l,U,s=>if ok s then(g d U s).bind λp s=>(qu ok g l p.2 s).bind λr s=>.ok (match p.1 with|some v=>v::r|none=>r) s else .B
def kAt(x:D)(s:Sto):Option Nat:=match x with|.ref r=>s[r]?.map O.kd|_=>aT
def mkq(x:D)(s t:Sto)(r:R D):R D:=if kAt x s=kAt x t then r else .B
mutual noncomputable def ev(F:Fns):E->Env->Sto->R D
 |.X i,U,s=>aI7 U i s|.K c,_,s=>.ok c.d s|.gl x,_,s=>match F.con x with|some d=>.ok d s|none=>.B
 |.G c a b,U,s=>(ev F a U s).bind λx s=>(ev F b U s).bind<|am4 c x|.not a,U,s=>tru (ev F a U s) λb s=>.ok (.T<|!b) s|.Z c a b,U,s=>(ev F a U s).bind λx s=>(ev F b U s).bind<|qQ c x|.isN a,U,s=>(ev F a U s).bind λx s=>.ok (.T<|decide<|x=.N) s|.notN a,U,s=>(ev F a U s).bind λx s=>.ok (.T<|!decide (x=.N)) s|.and a b,U,s=>tru (ev F a U s) λc s=>if c then tru (ev F b U s) λc s=>.ok (.T c) s else .ok (.T ce) s|.or a b,U,s=>tru (ev F a U s) λc s=>if c then .ok (.T bY) s else tru (ev F b U s) λc s=>.ok (.T c) s|.ite c a b,U,s=>tru (ev F c U s) λk s=>if k then ev F a U s else ev F b U s|.tp c,U,s=>(evs F c U s).bind λl s=>.ok (.tp l) s|.J c,U,s=>(evs F c U s).bind λl s=>ag2 (.J l) s|.dc .nil .nil,U,s=>ag2 (.dc []) s|.dc (.cons k .nil) (.cons v .nil),U,s=>(ev F k U<|s++[.dc []]).bind λkd a=>(ev F v U a).bind λb a=>if kd.key=bY/\a[s.length]?=al (.dc [])then .ok (.ref s.length) (a.set s.length<|.dc [(kd,b)])else .B|.dc _ _,U,s=>.B|.dicT,_,s=>ag2 (.dit []) s|.ix a b,U,s=>(ev F a U s).bind λx s=>(ev F b U s).bind<|ixM x|.slU a b,U,s=>(ev F a U s).bind λx s=>(ev F b U s).bind λy s=>match y with|.int i=>slM x aT (al i) s|_=>.B
 |.call f a,U,s=>(af7 F a U s).bind<|F.call f|.callC f a,U,s=>(af7 F a U s).bind λl s=>(F.call f l s).bind λd e=>if(d.ncl&&e.all O.ncl)=bY then .ok d e else .B|.callV i c,U,s=>(evs F c U s).bind λl s=>match U[i]? with|some<|al<|.fn f=>F.call f l s|some<|al<|.clo id a=>F.lam id a l s|_=>.B
 |.bi b c,U,s=>(evs F c U s).bind<|bi b|.mk k it,U,s=>(evL F it U s).bind<|mk k|.mkD k it d,U,s=>(evL F it U s).bind λq s=>(ev F d U s).bind<|mkD k q|.me m o c,U,s=>(ev F o U s).bind λx s=>(evs F c U s).bind λl t=>mkq x s t<|meth m x l t|.attr o f,U,s=>(ev F o U s).bind<|ar4 f|.new c a,U,s=>(af7 F a U s).bind λl s=>(F.new c (.ref s.length::l) (s++[.ins c []])).bind λd e=>if d=.N then .ok (.ref s.length) e else .B|.mcall o m a,U,s=>(ev F o U s).bind λx s=>(bm6 x s).bind λc s=>(af7 F a U s).bind λl s=>F.mcall c m (x::l) s noncomputable def evs(F:Fns):Es->Env->Sto->R (List D)|.nil,_,s=>.ok [] s|.cons e a,U,s=>(ev F e U s).bind λd s=>(evs F a U s).bind λl s=>.ok (d::l) s noncomputable def af7(F:Fns):As->Env->Sto->R (List D)
 |.nil,_,s=>.ok [] s|.ex e a,U,s=>(ev F e U s).bind λd s=>(af7 F a U s).bind λl s=>.ok (d::l) s|.lam id b a,U,s=>match ag9 U b with|some b=>(af7 F a U s).bind λl s=>.ok (.clo id b::l) s|none=>.B
 |.fn f a,U,s=>(af7 F a U s).bind λl s=>.ok (.fn f::l) s noncomputable def evI(F:Fns):I->Env->Sto->R Sq
 |.seq e,U,s=>(ev F e U s).bind at2|.rg a,U,s=>(ev F a U s).bind λx s=>match x with|.int i=>if-Ww62<=i/\i<Ww62 then .ok ⟨ag6 0 i,[]⟩ s else .B|_=>.B
 |.rng3 a b c,U,s=>(ev F a U s).bind λx s=>(ev F b U s).bind λy s=>match x,y with|.int i,.int j=>if c=2/\(0<=i/\i<1048576)/\0<=j/\j<1048576 then .ok ⟨bm7 i j c,[]⟩ s else .B|_,_=>.B
 |.keys e,U,s=>(ev F e U s).bind aY0 noncomputable def evL(F:Fns):L->Env->Sto->R (List D)|.comp tg it e a,U,s=>(evI F it U s).bind λq f=>if q.its.length<=LIM then qu (λs=>chk f s q.src) (λd U s=>match jc U tg d with|some U=>(ev F e U s).bind λv s=>.ok (al v,U) s|none=>.B) q.its (zI U a) f else .B|.compIf tg it c e a,U,s=>(evI F it U s).bind λq f=>if q.its.length<=LIM then qu (λs=>chk f s q.src) (λd U s=>match jc U tg d with|some U=>tru (ev F c U s) λk s=>if k then(ev F e U s).bind λv s=>.ok (al v,U) s else .ok (aT,U) s|none=>.B) q.its (zI U a) f else .B|.disp a,U,s=>evs F a U s|.seq e,U,s=>(ev F e U s).bind bl1|.compK tg e b a,U,s=>((ev F e U s).bind aY0).bind λq f=>if co5 s q.src=bY/\q.its.length<=LIM then(qu (λs=>chk f s q.src) (λd U s=>match jc U tg d with|some U=>(ev F b U s).bind λv s=>.ok (al v,U) s|none=>.B) q.its (zI U a) f).bind<|cp6 q.src else .B end
inductive Ct where|next(U:Env)|ret(d:D)|cont(U:Env)|brk(U:Env)
noncomputable abbrev Ct.ctorIdx(x:Ct):Nat:=Ct.casesOn x (λ_=>0) (λ_=>1) (λ_=>2) (λ_=>3)
noncomputable def am6(ok:Sto->Bool)(g:D->Env->Sto->R Ct):List D->Env->Sto->R Ct|[],U,s=>if ok s then .ok (.next U) s else .B|d::l,U,s=>if ok s then(g d U s).bind λc s=>match c with|.next U=>am6 ok g l U s|.cont U=>am6 ok g l U s|.brk U=>.ok (.next U) s|.ret d=>.ok (.ret d) s else .B
def al0(c:Env->Sto->R D)(g:Env->Sto->R Ct):Nat->Env->Sto->R Ct|0,_,_=>.B|n+1,U,s=>tru (c U s) λb s=>if b then(g U s).bind λa s=>match a with|.next U=>al0 c g n U s|.cont U=>al0 c g n U s|.brk U=>.ok (.next U) s|.ret d=>.ok (.ret d) s else .ok (.next U) s
open Classical in def whl(c:Env->Sto->R D)(g:Env->Sto->R Ct)(U:Env)(s:Sto):R Ct:=if h:∃n,al0 c g n U s≠.B then al0 c g h.choose U s else .B
mutual noncomputable def ex(F:Fns):S->Env->Sto->R Ct
 |.A tg e,U,s=>(ev F e U s).bind λd s=>match jc U tg d with|some U=>.ok (.next U) s|none=>.B
 |.setIx o i e,U,s=>(ev F e U s).bind λd s=>(ev F o U s).bind λx s=>(ev F i U s).bind λy s=>(setIx x y d s).bind λ_ s=>.ok (.next U) s|.aug i e,U,s=>(aI7 U i s).bind λx s=>(ev F e U s).bind λy s=>match x,y with
  |.int a,.int b=>match at1 U i<|.int (a+b)with|some U=>.ok (.next U) s|none=>.B
  |_,_=>.B
 |.ex e,U,s=>(ev F e U s).bind λ_ s=>.ok (.next U) s|.ret e,U,s=>(ev F e U s).bind λd s=>.ok (.ret d) s|.retN,_,s=>.ok (.ret .N) s|.ite c a b,U,s=>tru (ev F c U s) λk s=>if k then exs F a U s else exs F b U s|.whl c b,U,s=>whl (ev F c) (exs F b) U s|.fo tg it b,U,s=>(evI F it U s).bind λq a=>am6 (λs=>chk a s q.src) (λd U s=>match jc U tg d with|some U=>exs F b U s|none=>.B) q.its U a|.raise,_,_=>.B|.und i,U,s=>match ai6 U i with|some U=>.ok (.next U) s|none=>.B
 |.setA o f e,U,s=>(ev F e U s).bind λd s=>(ev F o U s).bind λx s=>(aI2 (λc=>F.att c f) f x d s).bind λ_ s=>.ok (.next U) s noncomputable def exs(F:Fns):Ss->Env->Sto->R Ct|.nil,U,s=>.ok (.next U) s|.cons a b,U,s=>(ex F a U s).bind λc s=>match c with|.next U=>exs F b U s|c=>.ok c s end
structure Df where
 name:String
 ps:Nat
 vs:Nat
 body:Ss
structure Lm where
 id:String
 ps:Nat
 cs:Nat
 body:E
inductive HT where|ve|isi(cs:List String)|Y(c:String)|not(t:HT)|or(a b:HT)
noncomputable abbrev HT.ctorIdx(x:HT):Nat:=HT.casesOn x 0 (λ_=>1) (λ_=>2) (λ_=>3) (λ_ _=>4)
inductive KO where|pl|ls|eq(t:List Nat)
noncomputable abbrev KO.ctorIdx(x:KO):Nat:=KO.casesOn x 0 1<|λ_=>2
inductive Hd where|ret(t:HT)|iff(t:HT)(b:Bool)(h:Hd)|nob(b:Bool)|noe|rnn|iffN(t:HT)(h:Hd)|aoN(a b:HT)|sup(x:String)(h:Hd)|kin(f:String)(l:KO)
noncomputable abbrev Hd.ctorIdx(x:Hd):Nat:=Hd.casesOn x (λ_=>0) (λ_ _ _=>1) (λ_=>2) 3 4 (λ_ _=>5) (λ_ _=>6) (λ_ _=>7) (λ_ _=>8)
noncomputable def subC(c d:String):Bool:=c==d||(d=="TollError"||d=="ValueError")
noncomputable def bc6:List String:=["NotSteady","TooMuch","TooLong","NoMaking","NoPaper","NoPair","NoText","NoRow","NoName"]
noncomputable def bg1:List<|List Nat:=[[115,116,101,97,100,121],[109,117,99,104],[108,111,110,103],[109,97,107,105,110,103],[112,97,112,101,114],[112,97,105,114],[116,101,120,116],[114,111,119],[110,97,109,101]]
noncomputable def bw0:List Nat:=[97,110,111,116,104,101,114]
def cw4(bs:List Bool):List Nat:=if bs.countP id=1 then bg1.getD (bs.findIdx id) []else bw0
def az1(c:String):List Nat:=cw4<|bc6.map<|subC c
def HT.val(c:String):HT->Bool|.isi a=>a.any<|subC c|.Y d=>subC c d|.not t=>!t.val c|.or a b=>if a.val c then bY else b.val c|.ve=>bY
noncomputable def HT.ok(p:String->Bool):HT->Bool|.isi a=>a.all p|.Y d=>p d|.not t=>t.ok p|.or a b=>a.ok p&&b.ok p|.ve=>bY
noncomputable def Hd.val(c:String):Hd->Bool|.ret t=>t.val c|.iff t b h=>if t.val c then b else h.val c|.nob b=>b|.noe=>ce|.rnn=>ce|.iffN _ h=>h.val c|.aoN a b=>a.val c&&b.val c|.sup _ h=>h.val c|.kin _ _=>ce
noncomputable def Hd.ok(p:String->Bool):Hd->Bool|.ret t=>t.ok p|.iff t _ h=>t.ok p&&h.ok p|.nob _=>bY|.noe=>bY|.rnn=>bY|.iffN t h=>t.ok p&&h.ok p|.aoN a b=>a.ok p&&b.ok p|.sup x h=>p x&&h.ok p|.kin _ _=>bc6.all p
noncomputable def Hd.vD(c:String):Hd->D|.ret t=>.T<|t.val c|.iff t b h=>if t.val c then .T b else h.vD c|.nob b=>.T b|.noe=>.N|.rnn=>.N|.iffN t h=>if t.val c then .N else h.vD c|.aoN a b=>if a.val c then(if b.val c then .T bY else .N)else .N|.sup _ h=>h.vD c|.kin _ _=>.N
noncomputable def Hd.kn:Hd->Option (String×KO)|.kin f l=>al (f,l)|.sup _ h=>h.kn|_=>aT
noncomputable def Hd.kok(k:String->Bool)(h:Hd):Bool:=match h.kn with|some (f,_)=>k f|none=>bY
noncomputable def Hd.cls(c:String):Hd->String|.sup x _=>x|_=>c
def Hd.supOk(c:String):Hd->Bool|.sup x _=>subC c x|_=>bY
noncomputable def Hd.nn:Hd->Bool|.nob _=>bY|.noe=>bY|.rnn=>bY|_=>ce
noncomputable def ah1(ok:Sto->Bool)(g:D->Env->Sto->R Ct)(gx:D->Env->Sto->Option (String×Sto)):List D->Env->Sto->Option (String×Sto)|[],_,_=>aT|d::l,U,s=>if ok s then match g d U s with|.ok (.next a) b=>ah1 ok g gx l a b|.ok (.cont a) b=>ah1 ok g gx l a b|.ok _ _=>aT|_=>gx d U s else aT
noncomputable def qc(c:Env->Sto->R D)(g:Env->Sto->R Ct)(gx:Env->Sto->Option (String×Sto)):Nat->Env->Sto->Option (String×Sto)|0,_,_=>aT|n+1,U,s=>match c U s with
  |.ok (.T bY) d=>match g U d with|.ok (.next a) b=>qc c g gx n a b|.ok (.cont a) b=>qc c g gx n a b|.ok _ _=>aT|_=>gx U d
  |_=>aT
open Classical in def whlX(c:Env->Sto->R D)(g:Env->Sto->R Ct)(gx:Env->Sto->Option (String×Sto))(U:Env)(s:Sto):Option<|String×Sto:=if h:∃n,(qc c g gx n U s).isSome=bY then qc c g gx h.choose U s else aT
inductive XB where|no|rais(c:String)|call(f:String)(as:As)|iteT(c:E)(a r:XB)|seq(s:S)(b:XB)|kind|alt(a b:XB)|mcall(o:E)(m:String)(as:As)|lenc(f:String)(as:As)|iteE(c:E)(a r:XB)|forX(tg:Tg)(it:I)(b:Ss)(x:XB)|whlX(c:E)(b:Ss)(x:XB)
noncomputable abbrev XB.ctorIdx(x:XB):Nat:=XB.casesOn x 0 (λ_=>1) (λ_ _=>2) (λ_ _ _=>3) (λ_ _=>4) 5 (λ_ _=>6) (λ_ _ _=>7) (λ_ _=>8) (λ_ _ _=>9) (λ_ _ _ _=>10) (λ_ _ _=>11)
def xB(F:Fns):XB->Env->Sto->Option (String×Sto)
 |.no,_,_=>aT|.kind,_,_=>aT|.alt a b,U,s=>match xB F a U s with|some r=>al r|none=>xB F b U s
 |.rais c,_,s=>if F.xc c=bY then al (c,s)else aT|.call f a,U,s=>match af7 F a U s with|.ok l e=>F.xcall f l e|_=>aT
 |.lenc f a,U,s=>match af7 F a U s with|.ok l e=>F.xcall f l e|_=>aT
 |.mcall o m a,U,s=>match(ev F o U s).bind λx s=>(bm6 x s).bind λc s=>(af7 F a U s).bind λl s=>.ok (c,x::l) s with|.ok p e=>F.xm p.1 m p.2 e|_=>aT
 |.iteT c a r,U,s=>match ev F c U s with|.ok (.T b) e=>if b then xB F a U e else xB F r U e|_=>aT
 |.seq a b,U,s=>match ex F a U s with|.ok (.next a) e=>xB F b a e|_=>aT
 |.forX tg it b x,U,s=>match evI F it U s with|.ok q a=>ah1 (λs=>chk a s q.src) (λd U s=>match jc U tg d with|some U=>exs F b U s|none=>.B) (λd U s=>match jc U tg d with|some U=>xB F x U s|none=>aT) q.its U a|_=>aT
 |.iteE c a r,U,s=>match ev F c U s with|.ok (.T b) e=>if b then xB F a U e else xB F r U e|_=>aT
 |.whlX c b x,U,s=>DV.whlX (ev F c) (exs F b) (xB F x) U s
structure Xf where
 ps:Nat
 vs:Nat
 body:XB
structure Tf where
 ps:Nat
 vs:Nat
 body:Ss
 xb:XB
 c:String
 i:Nat
 h:Hd
 tl:Ss
 pre:Ss
structure Pr where
 df:String->Option Df
 lm:String->Option Lm
 con:String->Option D
 xf:String->Option Xf
 tf:String->Option Tf
 xc:String->Bool
 xt:String->Bool
 cdc:String->Option (List<|List Nat×List Nat)mt:String->String->Option Df
 att:String->List Nat->Bool
 mx:String->String->Option Xf
noncomputable def ag1(st a:Sto):Bool:=(aq st.length).all λi=>decide (a[i]?=st[i]?)||(match a[i]? with|some o=>o.bnd st.length|none=>ce)
def ac3(st:Sto)(d:D)(a:Sto):R D:=if ag1 st a then match d with
  |.ref r=>if r<st.length then .ok d (a.take st.length)else match a[r]? with|some o=>if o.bnd st.length then .ok (.ref st.length) (a.take st.length++[o])else .ok d a|none=>.B
  |d=>if d.bnd st.length then .ok d (a.take st.length)else .ok d a else .ok d a
def Hd.out(h:Hd)(c:String)(s a:Sto):R D:=match h with|.noe=>ac3 s (.ref a.length) (a++[.J []])|h=>match h.kn with|some (_,.ls)=>ac3 s (.ref a.length) (a++[.J [.str<|az1 c]])|some (_,.pl)=>ac3 s (.str<|az1 c) a|some (_,.eq t)=>ac3 s (.T<|decide<|az1 c=t) a|none=>ac3 s (h.vD c) a
def Tf.tk(d:Tf)(c:String):Bool:=match d.h with|.sup x _=>subC c x|_=>c==d.c
noncomputable def XB.isK:XB->Bool|.kind=>bY|_=>ce
noncomputable def ct3(P:Pr)(f:String):Bool:=match P.xf f with|some d=>d.ps==1&&(d.vs==1&&d.body.isK)|none=>ce
def bn7(F:Fns)(d:Tf)(s:Sto)(a:Env)(s0:Sto):R D:=match xB F d.xb a s0 with|some (c,b)=>if d.tk c=bY/\F.xc c=bY/\d.h.ok F.xt=bY/\d.h.kok F.kd=bY then d.h.out c s b else .B|none=>(exs F d.body a s0).bind λc a=>match c with
  |.ret v=>ac3 s v a|.next U=>(exs F d.tl U a).bind λc a=>match c with|.ret v=>ac3 s v a|.next _=>ac3 s .N a|_=>.B
  |_=>.B
def bP6(F:Fns)(d:Tf)(l:List D)(s:Sto):R D:=match exs F d.pre (l.map al++az d.vs aT) s with|.ok (.next a) b=>bn7 F d s a b|_=>.B
def bt2(F:Fns)(d:Df)(l:List D)(s:Sto):R D:=if l.length=d.ps then(exs F d.body (l.map al++az d.vs aT) s).bind λc a=>match c with|.ret v=>ac3 s v a|.next _=>ac3 s .N a|_=>.B else .B
def aa0(P:Pr):Nat->Fns|0=>⟨λ_ _ _=>.B,λ_ _ _ _=>.B,P.con,λ_ _ _=>aT,P.xc,P.xt,P.cdc,ct3 P,λ_ _ _ _=>.B,λ_ _ _=>.B,P.att,λ_ _ _ _=>aT⟩|n+1=>⟨λf l s=>match P.df f with|some d=>if l.length=d.ps then(exs (aa0 P n) d.body (l.map al++az d.vs aT) s).bind λc a=>match c with|.ret v=>ac3 s v a|.next _=>ac3 s .N a|_=>.B else .B|none=>match P.tf f with|some d=>if l.length=d.ps then bP6 (aa0 P n) d l s else .B|none=>.B,λid a l s=>match P.lm id with|some d=>if l.length=d.ps/\a.length=d.cs/\(D.nclL l&&D.nclL a&&s.all O.ncl)=bY then(ev (aa0 P n) d.body (l.map al++a.map al) s).bind<|ac3 s else .B|none=>.B,P.con,λf l s=>match P.xf f with|some d=>if l.length=d.ps then xB (aa0 P n) d.body (l.map al++az d.vs aT) s else aT|none=>aT,P.xc,P.xt,P.cdc,ct3 P,λc m l s=>match P.mt c m with|some d=>bt2 (aa0 P n) d l s|none=>.B,λc l s=>(aa0 P n).mcall c "__init__" l s,P.att,λc m l s=>match P.mx c m with|some d=>if l.length=d.ps then xB (aa0 P n) d.body (l.map al++az d.vs aT) s else aT|none=>aT⟩
end DV
end
open DV renaming Sto->n8,D->n9,Env->og,aa0->oh,R->ol,ev->om,LIM->ot,Pr->ou,eqv->ow,Fns->oy,subC->oA,tru->oB,DEEP->oC,am5->oE,af7->oF,look->oG,eqL->oH,kd->oI,jc->oJ,Es->oK,xB->oM,O->oO,af4->oQ,evs->oS,aA6->oU,ag9->oV,Ct->oW,As->oX,Df->oY,chk->oZ,exs->o4,Tg->o5,at1->o6,at4->o7,Bi->o8,sbd->o9,qf->pd,E->pf,loB->ph,ag2->pi,ixn->pj,bt2->pp,Sq->pq,minI->pw,aI4->pz,inL->pA,aj9->pB,ag6->pC,bm7->pD,setIx->pF,Ss->pG,evI->pH,ac3->pI,az1->pJ,zI->pK,mk->pL,Hd->pM,Lm->pO,Xf->pP,hiB->pQ,slM->pR,aq6->pS,kAt->pT,av9->pU,bi->pV,qu->pW,Mk->pX,Mt->pY,ba2->pZ,COp->p8,pur->p9,inM->rb,bi1->re,aI7->rf,am6->rg,ag1->rh,meth->rm,M->rq,BOp->rA,isK->rB,Ww62->rE,aY0->rF,S->rG,ar4->rH,aI2->rJ,bm6->rK,ai6->rL,XB->rM,ah1->rN,Tf->rO
open DV.D renaming bndL->oa,bnd->oq,hdI->oz,keyS->oN,nclL->pk,keyF->rn,ncl->rC
open DV.O renaming bnd->on,ncl->rD
noncomputable section
namespace L2
def fb{p:Prop}(h:(DV.R.B:ol α)=.ok d s):p:=nomatch h
open PySem PySem.Spec PyProof.Rows
structure LamI where
 qual:Str
 params:bK
 body:Expr
 scope:Scope
 ps:List Str
 fr:List Str
 nm:Option<|Str×Pos
def CloAt(H:Hp)(f:Addr)(J:LamI)(b:List V)(a:yC):Prop:=match J.nm with|none=>aF1 H f J.qual J.params J.body J.scope J.fr b a|some p=>as0 H f p.1 J.qual J.params [.Return (al J.body) p.2] J.scope J.fr b a
def ai9(H:Hp)(f:Addr)(J:LamI)(a:yC):Prop:=match J.nm with|none=>∃d b c,H f=al (ay8 f<|cB "<lambda>" J.qual J.params J.body J.scope a d (.ref b) c)/\H b=al (qo b J.qual)|some p=>∃e d b c,H f=al (ay8 f<|cX p.1 J.qual J.params [.Return (al J.body) p.2] J.scope a .none .none e d aT (.ref b) c)/\H b=al (qo b J.qual)
structure Gm where
 K:ac
 fa:String->Option Addr
 lg:String->LamI->Prop
 T:List<|Addr×Str
 cls:String->Option Addr
variable(Γ:Gm)
mutual noncomputable def RV(C:Nat->Addr)(H:Hp):n9->V->Prop|.N,v=>v=.N|.T b,v=>v=.T b|.int i,v=>v=.int i|.str x,v=>v=.str ⟨x.toArray⟩/\x.length<=ot|.tp l,v=>∃a b,v=.ref a/\(SqT Γ.K H a b/\(oz l=bY->H a=al (.tp b)))/\RVL C H l b|.ref n,v=>v=.ref (C n)|.fn f,v=>∃a,Γ.fa f=al a/\v=.ref a|.clo id c,v=>∃f a J b,v=.ref f/\Γ.lg id J/\CloAt H f J a b/\a.length=J.fr.length/\RVL C H c a noncomputable def RVL(C:Nat->Addr)(H:Hp):List n9->List V->Prop|[],a=>a=[]|d::l,a=>∃x r,a=x::r/\RV C H d x/\RVL C H l r end
noncomputable def ck1:HO->Bool|.tp _=>bY|.frz _<|.dK _=>ce|.frz _ _=>bY|.ext _=>bY|_=>ce
def Kp(H H':Hp):Prop:=∀b o,H b=al o->ck1 o=bY->H' b=al o
def Kp.refl H:Kp H H:=λ_ _ h _=>h
def Kp.trans(a:Kp H z)(b:Kp z H2):Kp H H2:=λc o h f=>b c o (a c o h f) f
def Kp.new(a:Kp H z)(h:z p=aT):Kp H<|upd z p o:=λc u e f=>have b:=a c u e f;zb (zu b h)▸b
def Kp.put(a:Kp H J)(h:J p=al u)(b:ck1 u=ce):Kp H<|upd J p o:=λc v e f=>by have b:=a c v e f;rw[zb<|λz=>by lia];lia
def Kp.sqT{K}(e:Kp H H')(h:SqT K H a z):SqT K H' a z:=by
 rcases h with(h|⟨o,h⟩)|h;.exact .inl<|.inl<|e _ _ h rfl
 .exact .inl<|.inr ⟨o,e _ _ h rfl⟩
 .exact .inr h
def aF1.kp(h:aF1 H f qual params body scope fr cap J)(e:Kp H H'):aF1 H' f qual params body scope fr cap J:=by
 refine AK h λpm a b c Y d AA=>AI AA λh4 Z f=>⟨pm,a,b,e _ _ c rfl,e _ _ Y rfl,λx c q=>?_,h4,Z,λi x v a b=>?_⟩;.exact AE (d x c q) λo v z d=>⟨o,v,e _ _ z rfl,d⟩
 .exact AS (f i x v a b) λc o u a b d=>⟨c,o,u,a,e _ _ b rfl,d⟩
def as0.kp(h:as0 H f name qual params body scope fr cap J)(e:Kp H H'):as0 H' f name qual params body scope fr cap J:=by
 refine AN h λY a b c d AA=>AW AA λZ f g h j=>⟨Y,a,b,c,e _ _ d rfl,e _ _ Z rfl,λx c q=>?_,g,h,λi x v a b=>?_⟩;.exact AE (f x c q) λo v z d=>⟨o,v,e _ _ z rfl,d⟩
 .exact AS (j i x v a b) λc o u a b d=>⟨c,o,u,a,e _ _ b rfl,d⟩
theorem CloAt.kp(h:CloAt H f J cap z)(e:Kp H H'):CloAt H' f J cap z:=by unfold CloAt at h⊢;cases q:J.nm with|none=>rw[q]at h;exact aF1.kp h e|some p=>rw[q]at h;exact as0.kp h e
def ai9.kp(h:ai9 H f J z)(e:Kp H H'):ai9 H' f J z:=by unfold ai9 at h⊢;cases q:J.nm with|none=>rw[q]at h;exact AX h λpm a b c Y=>⟨pm,a,b,e _ _ c rfl,e _ _ Y rfl⟩|some p=>rw[q]at h;exact AN h λZ pm a b c Y=>⟨Z,pm,a,b,e _ _ c rfl,e _ _ Y rfl⟩
theorem CloAt.fn{K}(h:CloAt H f J cap z):bL2 K H f:=by unfold CloAt at h;cases q:J.nm with|none=>rw[q]at h;exact AX h λZ a a Y _=>.inl ⟨_,Y⟩|some p=>exact as0.fn<|q▸h
structure Gw(C:Nat->Addr)(n:Nat)(H:Hp)(C':Nat->Addr)(H':Hp):Prop where
 map:∀i,i<n->C' i=C i
 kp:Kp H H'
variable{Γ:Gm}
mutual theorem RV.monoW{C b:Nat->Addr}{n:Nat}{H H':Hp}(g:Gw C n H b H'):∀(d:n9)(v:V),d.bnd n=bY->RV Γ C H d v->RV Γ b H' d v|.N,_,_,h=>h|.T _,_,_,h=>h|.int _,_,_,h=>h|.str _,_,_,h=>h|.tp l,_,b,h=>AL h λa Y e q r=>⟨a,Y,e,⟨g.kp.sqT q.1,λz=>g.kp _ _ (q.2 z) rfl⟩,RVL.monoW g l Y b r⟩|.ref k,_,b,h=>by unfold RV at h⊢;exact g.map k (dr b)▸h|.fn _,_,_,h=>h|.clo id c,_,b,h=>AN h λf a J d e AA=>AU AA λh1 Z h i=>⟨f,a,J,d,e,h1,Z.kp g.kp,h,RVL.monoW g c a b i⟩theorem RVL.monoW{C a:Nat->Addr}{n:Nat}{H H':Hp}(g:Gw C n H a H'):∀(l:List n9)(z:List V),oa n l=bY->RVL Γ C H l z->RVL Γ a H' l z|[],_,_,h=>h|d::l,_,b,h=>by unfold oa at b;rw[ae]at b;exact AL h λx r e q t=>⟨x,r,e,RV.monoW g d x b.1 q,RVL.monoW g l r b.2 t⟩end
mutual theorem zm{n m:Nat}(h:n<=m):∀d:n9,d.bnd n=bY->d.bnd m=bY|.N,_=>rfl|.T _,_=>rfl|.int _,_=>rfl|.str _,_=>rfl|.tp l,b=>ab1 h l b|.ref k,b=>gc<|aA (dr b) h|.fn _,_=>rfl|.clo _ l,b=>ab1 h l b theorem ab1{n m:Nat}(h:n<=m):∀l:List n9,oa n l=bY->oa m l=bY|[],_=>rfl|d::l,b=>by unfold oa at b⊢;rw[ae]at b⊢;exact⟨zm h d b.1,ab1 h l b.2⟩end
theorem ab5:∀{l},oa n l=bY↔∀d∈l,d.bnd n=bY|[]=>by unfold oa;simp|d::l=>by unfold oa;rw[ae,ab5];simp
def qI(h:oa n l=bY)(h':oa n m=bY):oa n (l++m)=true:=ab5.mpr λd a=>(aZ.mp a).elim (ab5.mp h d) (ab5.mp h' d)
def aQ4(h:oa n l=bY)(s:∀d∈m,d∈l):oa n m=true:=ab5.mpr λd a=>ab5.mp h d<|s d a
def ah6{i:Nat}(h:oa n l=bY)(e:l[i]?=al d):d.bnd n=true:=ab5.mp h d<|aF e
section
variable{C:Nat->Addr}{H:Hp}
def RVL.nil:RVL Γ C H [] []:=by rfl
def RVL.cons(a:RV Γ C H d x)(b:RVL Γ C H l h):RVL Γ C H (d::l) (x::h):=⟨x,h,rfl,a,b⟩
def RVL.unnil(h:RVL Γ C H [] z):z=[]:=h
def RVL.uncons(h:RVL Γ C H (d::l) z):∃x r,z=x::r/\RV Γ C H d x/\RVL Γ C H l r:=h
theorem RVL.length:∀{l}{z},RVL Γ C H l z->z.length=l.length|[],_,h=>by rw[h.unnil];rfl|d::l,_,h=>by obtain⟨x,r,rfl,_,t⟩:=h.uncons;rw[aR,aR,RVL.length t]
theorem RVL.get:∀{l}{z}{i:Nat}{d},RVL Γ C H l z->l[i]?=al d->∃x,z[i]?=al x/\RV Γ C H d x
 |[],_,_,_,_,e=>by simp at e|d::l,_,0,d',h,e=>by
  obtain⟨x,r,rfl,q,t⟩:=h.uncons;have e':=by simpa using e
  subst e';exact⟨x,rfl,q⟩|d::l,_,i+1,_,h,e=>by obtain⟨x,r,rfl,q,t⟩:=h.uncons;obtain⟨y,e1,e2⟩:=RVL.get t (by simpa using e);exact⟨y,by simpa using e1,e2⟩
theorem RVL.append:∀{l m}{z a},RVL Γ C H l z->RVL Γ C H m a->RVL Γ C H (l++m) (z++a)|[],_,_,_,h,h'=>h.unnil▸h'|d::l,_,_,_,h,h'=>by obtain⟨x,r,rfl,q,t⟩:=h.uncons;exact .cons q<|RVL.append t h'
theorem RVL.drop:∀{l}{z}n,RVL Γ C H l z->RVL Γ C H (l.drop n) (z.drop n)|_,_,0,h=>h|[],_,n+1,h=>h.unnil▸.nil|d::l,_,n+1,h=>by obtain⟨x,r,rfl,q,t⟩:=h.uncons;exact RVL.drop n t
theorem RVL.take:∀{l}{z}n,RVL Γ C H l z->RVL Γ C H (l.take n) (z.take n)|_,_,0,h=>.nil|[],_,n+1,h=>h.unnil▸.nil|d::l,_,n+1,h=>by obtain⟨x,r,rfl,q,t⟩:=h.uncons;exact .cons q<|RVL.take n t
theorem RVL.set:∀{l}{z}{d}{x}i,RVL Γ C H l z->RV Γ C H d x->RVL Γ C H (l.set i d) (z.set i x)|[],_,_,_,_,h,_=>h.unnil▸.nil|d::l,_,_,_,0,h,q=>by obtain⟨x,r,rfl,_,t⟩:=h.uncons;exact .cons q t|d::l,_,_,_,i+1,h,q=>by obtain⟨x,r,rfl,J,t⟩:=h.uncons;exact .cons J<|RVL.set i t q
def RV.intE(h:RV Γ C H (.int i) v):v=.int i:=h
def RV.blE(h:RV Γ C H (.T i) v):v=.T i:=h
def RV.nonE(h:RV Γ C H .N v):v=.N:=h
def RV.strE(h:RV Γ C H (.str x) v):v=.str ⟨x.toArray⟩:=h.1
def RV.strL(h:RV Γ C H (.str x) v):x.length<=ot:=h.2
def RV.tupE(h:RV Γ C H (.tp l) v):∃a z,v=.ref a/\SqT Γ.K H a z/\RVL Γ C H l z:=AL h λa z e q r=>⟨a,z,e,q.1,r⟩
def RV.tupZ(h:RV Γ C H (.tp l) v):∃a z,(v=.ref a/\(oz l=bY->H a=al (.tp z)))/\SqT Γ.K H a z/\RVL Γ C H l z:=AL h λa z e q r=>⟨a,z,⟨e,q.2⟩,q.1,r⟩
def RV.tupK(h:RV Γ C H (.tp l) v)(z:oz l=bY):∃a J,v=.ref a/\H a=al (.tp J)/\RVL Γ C H l J:=AL h λa J e q r=>⟨a,J,e,q.2 z,r⟩
def RV.refE(h:RV Γ C H (.ref n) v):v=.ref (C n):=h
def RV.intI:RV Γ C H (.int i) (.int i):=by rfl
def RV.blI:RV Γ C H (.T i) (.T i):=by rfl
def RV.nonI:RV Γ C H .N .N:=by rfl
def RV.strI(h:x.length<=ot):RV Γ C H (.str x) (.str ⟨x.toArray⟩):=⟨rfl,h⟩
def RV.tupI(h:H a=al (.tp z))(q:RVL Γ C H l z):RV Γ C H (.tp l) (.ref a):=⟨a,z,rfl,⟨SqT.of h,λ_=>h⟩,q⟩
def RV.tupC(h:SqT Γ.K H a J)(z:oz l=bY->H a=al (.tp J))(q:RVL Γ C H l J):RV Γ C H (.tp l) (.ref a):=⟨a,J,rfl,⟨h,z⟩,q⟩
def RV.refI:RV Γ C H (.ref n) (.ref<|C n):=by rfl
end
def bk5(h:(oU l J hi).length=l.length):oU l J hi=l:=by
 unfold oU at h⊢;rw[bQ,fS]at h;by_cases z:l=[];.simp_all
 .have hp:=kC.mpr z;have a:ph l.length J=0:=by lia
  rw[a]at h⊢;exact eD▸cV (by lia)
def SqF(K:ac)(H:Hp)(a:Addr)(b:List V):Prop:=SqL K H a b/\∀H',Kp H H'->SqL K H' a b
noncomputable def ai4:n9->Option Key|.int i=>al<|.inl i|.str x=>al<|.inr ⟨x.toArray⟩|_=>aT
noncomputable def fOf:n9->Option FK|.N=>al aT|.int i=>al<|al<|.inl i|.str x=>al<|al<|.inr ⟨x.toArray⟩|_=>aT
noncomputable def jw{κ:Type}(f:n9->Option κ):List n9->Option (List κ)|[]=>al []|d::l=>match f d,jw f l with|some k,al r=>al<|k::r|_,_=>aT
def nOf:n9->Option NI|.tp l=>(jw fOf l).map .inr|d=>(fOf d).map .inl
def at9:List n9->Option (List NI):=jw nOf
def bV4:n9->Option (List NI)|.tp l=>if(oz l&&(l.all oN&&decide (l.length<=1000)))=bY then at9 l else aT|_=>aT
def RVD{κ:Type}(b:n9->Option κ)(Γ:Gm)(C:Nat->Addr)(H:Hp):List (n9×n9)->List (κ×V)->Prop|[],a=>a=[]|(d,e)::l,a=>∃k v r,a=(k,v)::r/\b d=al k/\RV Γ C H e v/\RVD b Γ C H l r
noncomputable def ce3:n9->Option Str|.str x=>al ⟨x.toArray⟩|_=>aT
variable(Γ)
def RO(C:Nat->Addr)(H:Hp)(a:Addr):oO->Prop|.J l=>∃b,H a=al (.J b)/\RVL Γ C H l b|.ro l=>∃b,SqF Γ.K H a b/\RVL Γ C H l b|.dc l=>∃b,H a=al (.dK b)/\RVD ai4 Γ C H l b|.dit l=>∃b,H a=al (.dT b)/\RVD bV4 Γ C H l b|.dicF l=>∃o b,H a=al (.frz o<|.dK b)/\RVD ai4 Γ C H l b|.ins c l=>∃b e d,(Γ.cls c=al b/\Cls Γ.K b)/\(∀p∈d,NoAttr Γ.K b p.1)/\H a=al (.ins b e d)/\RVD ce3 Γ C H l d
abbrev okd:oO->Nat:=DV.O.kd
noncomputable def isMut:oO->Bool|.ro _=>ce|_=>bY
structure Rp(C:Nat->Addr)(H:Hp)(s:n8):Prop where
 inj:∀(i j:Nat)(o o':oO),s[i]?=al o->s[j]?=al o'->isMut o=bY->isMut o'=bY->C i=C j->i=j
 obj:∀(i:Nat)(o:oO),s[i]?=al o->RO Γ C H (C i) o
 wf:∀(i:Nat)(o:oO),s[i]?=al o->o.bnd s.length=bY
 tab:TabsH Γ.T H
structure RE(C:Nat->Addr)(H:Hp)(n:Nat)(U:og)(W:St):Prop where
 len:U.length=W.length
 val:∀(i:Nat)(d:n9),U[i]?=al (al d)->d.bnd n=bY/\∃v,W[i]?=al (al v)/\RV Γ C H d v
structure Gr(C:Nat->Addr)(s:n8)(H:Hp)(C':Nat->Addr)(s':n8)(H':Hp):Prop where
 w:Gw C s.length H C' H'
 le:s.length<=s'.length
 new:∀i:Nat,s.length<=i->i<s'.length->H (C' i)=aT
 kd:∀(i:Nat)(o o':oO),s[i]?=al o->s'[i]?=al o'->okd o'=okd o
 st:∀b,H b≠aT->H' b≠aT
 fz:∀b o kvs,H b=al (.frz o<|.dK kvs)->H' b=al (.frz o<|.dK kvs)fr:∀b o,H b=al o->(∀ps,o≠.tbl ps)->(∀(i:Nat)(ob:oO),s[i]?=al ob->isMut ob=bY->C i≠b)->H' b=al o
variable{Γ}
def bI7(h:okd z=okd o)(m:isMut z=bY):isMut o=true:=by cases o with
 |ro _=>cases z with|ro _=>cases m|_=>cases h
 |_=>rfl
def Gr.mu(g:Gr C s H C' s' H')(i:Nat)o h(e:s[i]?=al o)(e':s'[i]?=al h)(m:isMut h=bY):isMut o=true:=bI7 (g.kd i o h e e') m
theorem Gr.refl C s H:Gr C s H C s H:=⟨⟨λ_ _=>rfl,Kp.refl H⟩,aj _,λi a z=>ij z<|by lia,λi o J e a=>by lia,λ_ h=>h,λ_ _ _ h=>h,λ_ _ h _ _=>h⟩
theorem Gr.trans(a:Gr C s H C1 s1 Z)(b:Gr C1 s1 Z C2 s2 H2)(_h:s.length<=s1.length):Gr C s H C2 s2 H2:=by
 refine⟨⟨λi hi=>(b.w.map i<|aA hi a.le).trans<|a.w.map i hi,a.w.kp.trans b.w.kp⟩,au a.le b.le,λi h1 h2=>?_,λi o o' e e'=>?_,λc h=>b.st c<|a.st c h,λc o kvs h=>b.fz c o kvs<|a.fz c o kvs h,λc o h Y ne=>?_⟩
 .by_cases hi:i<s1.length;.rw[b.w.map i hi];exact a.new i h1 hi
  .have e:=b.new i (by lia) h2;cases q:H (C2 i)with|none=>rfl|some o=>exact ij e<|a.st _<|by rw[q];simp
 .have hl:i<s1.length:=aA (ag.mp e).1 a.le;obtain⟨J,e1⟩:∃J,s1[i]?=al J:=⟨s1[i],ar hl⟩;exact(b.kd i J o' e1 e').trans<|a.kd i o J e e1
 .refine b.fr c o (a.fr c o h Y ne) Y λi ob e m z=>?_;by_cases hi:i<s.length;.obtain⟨Uu,e0⟩:∃Uu,s[i]?=al Uu:=⟨s[i],ar hi⟩;exact ne i Uu e0 (a.mu i Uu ob e0 e m) (by rw[<-a.w.map i hi];exact z)
  .have:=a.new i (by lia) (ag.mp e).1;rw[z,h]at this;cases this
def RV.mono(g:Gr C s H C' s' H')d v(b:d.bnd s.length=bY)(h:RV Γ C H d v):RV Γ C' H' d v:=RV.monoW g.w d v b h
def RVL.mono(g:Gr C s H C' s' H')d v(b:oa s.length d=bY)(h:RVL Γ C H d v):RVL Γ C' H' d v:=RVL.monoW g.w d v b h
theorem RE.mono(h:RE Γ C H s.length U W)(g:Gr C s H C' s' H')(a:s.length<=s'.length):RE Γ C' H' s'.length U W:=⟨h.len,λi d e=>AO (h.val i d e) λb v c e=>⟨zm a d b,v,c,RV.mono g d v b e⟩⟩
def ag0(Γ:Gm)(C:Nat->Addr)(s:n8)(H:Hp)(d:n9)(a:n8)(Q:VK):Prop:=∀v b H',Gr C s H b a H'->s.length<=a.length->d.bnd a.length=bY->RV Γ b H' d v->Rp Γ b H' a->Q v H'
theorem ag0.trans(h:ag0 Γ C s H d s' Q)(g:Gr C s H C1 s1 z)(l:s.length<=s1.length):ag0 Γ C1 s1 z d s' Q:=λv a H' c J b r p=>h v a H' (g.trans c l) (au l J) b r p
def ag0.here(h:ag0 Γ C s H d s Q)(p:Rp Γ C H s)(b:d.bnd s.length=bY)(r:RV Γ C H d v):Q v H:=h v C H (Gr.refl C s H) (aj _) b r p
theorem RVD.monoW(g:Gw C n H C' H'):∀l(a:List<|κ×V),oa n (l.map (·.2))=bY->RVD z Γ C H l a->RVD z Γ C' H' l a|[],_,_,h=>h|(d,e)::l,_,b,h=>by refine AK h λk v r a c J d=>?_;rw[aQ]at b;unfold oa at b;rw[ae]at b;exact⟨k,v,r,a,c,RV.monoW g e v b.1 J,RVD.monoW g l r b.2 d⟩
def RO.mono(h:RO Γ C H a o)(g:Gw C n H C' H')(b:o.bnd n=bY)(J:isMut o=bY->∀u,H a=al u->H' a=al u):RO Γ C' H' a o:=by cases o with|J l=>exact AD h λz e r=>⟨z,J rfl _ e,RVL.monoW g l z b r⟩|ro l=>exact AD h λz e r=>⟨z,⟨e.2 _ g.kp,λa k=>e.2 _<|g.kp.trans k⟩,RVL.monoW g l z b r⟩|dc l=>unfold on at b;rw[ae]at b;exact AD h λkvs e r=>⟨kvs,J rfl _ e,RVD.monoW g l kvs b.2 r⟩|dit l=>unfold on at b;rw[ae]at b;exact AD h λkvs e r=>⟨kvs,J rfl _ e,RVD.monoW g l kvs b.2 r⟩|dicF l=>unfold on at b;rw[ae]at b;exact AE h λob kvs e r=>⟨ob,kvs,J rfl _ e,RVD.monoW g l kvs b.2 r⟩|ins c l=>unfold on at b;rw[ae]at b;exact AK h λCc Z a Y c e r=>⟨Cc,Z,a,Y,c,J rfl _ e,RVD.monoW g l a b.2 r⟩
def RO.there(h:RO Γ C H a o)(m:isMut o=bY):∃u,H a=al u/\ck1 u=ce/\(∀ps,u≠.tbl ps)/\((∀l,o≠.dicF l)->∀b a,u≠.frz b (.dK a)):=by cases o with|J l=>exact AD h λJ e _=>⟨_,e,rfl,by nofun,λ_ _ _ z=>(by cases z)⟩|ro l=>cases m|dc l=>exact AD h λJ e _=>⟨_,e,rfl,by nofun,λ_ _ _ z=>(by cases z)⟩|dit l=>exact AD h λJ e _=>⟨_,e,rfl,by nofun,λ_ _ _ z=>(by cases z)⟩|dicF l=>exact AE h λob J e _=>⟨_,e,rfl,by nofun,λz=>ij rfl<|z l⟩|ins c l=>exact AK h λ_ _ _ _ _ e _=>⟨_,e,rfl,by nofun,λ_ _ _ z=>(by cases z)⟩
def Rp.addr(p:Rp Γ C H s)(e:s[i]?=al (.J l)):∃h,H (C i)=al (.J h)/\RVL Γ C H l h:=p.obj i _ e
def qi(h:n<=m)(o:oO)(b:o.bnd n=bY):o.bnd m=true:=by cases o with|J l=>exact ab1 h l b|ro l=>exact ab1 h l b|dc l=>unfold on at b⊢;rw[ae]at b⊢;exact⟨ab1 h _ b.1,ab1 h _ b.2⟩|dit l=>unfold on at b⊢;rw[ae]at b⊢;exact⟨ab1 h _ b.1,ab1 h _ b.2⟩|dicF l=>unfold on at b⊢;rw[ae]at b⊢;exact⟨ab1 h _ b.1,ab1 h _ b.2⟩|ins c l=>unfold on at b⊢;rw[ae]at b⊢;exact⟨ab1 h _ b.1,ab1 h _ b.2⟩
def TabsH.keepF(h:TabsH T H)(k:∀b o,(ck1 o=bY\/∃ps,o=.tbl ps)->H b=al o->H' b=al o):TabsH T H':=λy a=>AH (h y a) λps e t c=>⟨ps,k _ _ (.inr ⟨_,rfl⟩) e,t,λa z q=>AD (c a z q) λJ a b=>⟨J,a,k _ _ (.inl rfl) b⟩⟩
theorem Rp.new(r:Rp Γ C H s)(d:H p=aT)(c:o.bnd s.length=bY)(l:∀a H',Gw C s.length H a H'->H' p=al u->RO Γ a H' p o):Gr C s H (λi=>if i=s.length then p else C i) (s++[o]) (upd H p u)/\Rp Γ (λi=>if i=s.length then p else C i) (upd H p u) (s++[o]):=by
 have g:Gw C s.length H (λi=>if i=s.length then p else C i) (upd H p u):=⟨λi a=>ef<|aI a,(Kp.refl H).new d⟩;have key:∀i z,(s++[o])[i]?=al z->(i<s.length/\s[i]?=al z)\/(i=s.length/\z=o):=λi z e=>by
  rcases ia i s.length with h|h|h;.exact .inl ⟨h,(aB h▸e)⟩
  .subst h;simp at e;exact .inr ⟨rfl,e.symm⟩
  .rw[b9<|by simp;lia]at e;cases e
 refine⟨⟨g,by simp,λi a h2=>?_,λi a a a a=>?_,λb c=>?_,λb a a c=>zb (zu c d)▸c,λb a c _ _=>zb (zu c d)▸c⟩,λi j h Y J f Z k e=>?_,λi z e=>?_,λi z e=>?_,r.tab.new d⟩;.grind
 .grind
 .unfold upd;lia
 .rcases key i h J with⟨a,J⟩|⟨a,rfl⟩<;>rcases key j Y f with⟨b,f⟩|⟨b,m⟩;.rw[ef<|aI a,ef<|aI b]at e;exact r.inj i j h Y J f Z k e
  .rw[ef<|aI a,dO b]at e;refine AD ((r.obj i h J).there Z) λu h _=>?_;lia
  .rw[ef<|aI b,dO a]at e;refine AD ((r.obj j Y f).there k) λu h _=>?_;lia
  .rw[a,b]
 .rcases key i z e with⟨a,e⟩|⟨a,rfl⟩;.show RO Γ _ _ (if i=s.length then p else C i) z;exact ef (aI a)▸(r.obj i z e).mono g (r.wf i z e) λ_ v b=>zb (zu b d)▸b
  .show RO Γ _ _ (if i=s.length then p else C i) z;exact dO a▸l _ _ g zh
 .rw[aO,cH];rcases key i z e with⟨a,e⟩|⟨a,rfl⟩;.exact qi (dL _) _<|r.wf i z e
  .exact qi (dL _) _ c
def Rp.set1(r:Rp Γ C H s)(c:s[k]?=al Uu)(d:isMut Uu=bY)(a:o.bnd s.length=bY)(p:∀H',Gw C s.length H C H'->H' (C k)=al u->RO Γ C H' (C k) o)(t:okd o=okd Uu):((∀l,Uu≠.dicF l)->Gr C s H C (s.set k o) (upd H (C k) u))/\Rp Γ C (upd H (C k) u) (s.set k o):=by
 refine AZ ((r.obj k Uu c).there d) λv0 Y a b b=>?_;have b:=(ag.mp c).1;have g:Gw C s.length H C<|upd H (C k) u:=⟨λ_ _=>rfl,(Kp.refl H).put Y a⟩;have key:∀i J,(s.set k o)[i]?=al J->(i≠k/\s[i]?=al J)\/(i=k/\J=o):=λi J e=>by
  by_cases h:i=k;.subst h;exact .inr ⟨rfl,(ay<|bq b▸e).symm⟩
  .exact .inl ⟨h,(aC (bH h)▸e)⟩
 have n:∀i J,(s.set k o)[i]?=al J->isMut J=bY->∃Z,s[i]?=al Z/\isMut Z=true:=λi J e m=>by
  rcases key i J e with⟨_,e⟩|⟨h,_⟩;.exact⟨J,e,m⟩
  .exact⟨Uu,h▸c,d⟩
 refine⟨λa=>⟨g,by simp,λi a h2=>by grind,λi o1 o2 f l=>?_,λb a=>?_,λb e a a=>by rw[zb λz=>by simp_all];exact a,λb e a b ne=>zb (bH<|ne k Uu c d)▸a⟩,λi j s u w x y z e=>?_,λi J e=>?_,λi J e=>?_,r.tab.keepF λb v b q=>?_⟩
 .rcases key i o2 l with⟨_,e⟩|⟨h,rfl⟩;.cases f▸e;rfl
  .subst h;cases c▸f;exact t
 .unfold upd;split;.simp
  .exact a
 .exact AD (n i s w y) λo1 f b=>AD (n j u x z) λo2 l h=>r.inj i j o1 o2 f l b h e
 .rcases key i J e with⟨h,e⟩|⟨h,rfl⟩;.exact(r.obj i J e).mono g (r.wf i J e) λm v b=>(zb λz=>h<|r.inj i k J Uu e c m d z)▸b
  .exact h▸p _ g zh
 .rw[bA];rcases key i J e with⟨_,e⟩|⟨_,rfl⟩;.exact r.wf i J e
  .exact a
 .rw[zb λz=>by simp_all];exact q
theorem Rp.set(r:Rp Γ C H s)(a:s[k]?=al z)(J:isMut z=bY)(b:o.bnd s.length=bY)(c:∀H',Gw C s.length H C H'->H' (C k)=al u->RO Γ C H' (C k) o)(h:autoParam (okd o=okd z) Zq4._auto_1)(d:autoParam (∀l,z≠.dicF l) Zq7._auto_1):Gr C s H C (s.set k o) (upd H (C k) u)/\Rp Γ C (upd H (C k) u) (s.set k o):=⟨(r.set1 a J b c h).1 d,(r.set1 a J b c h).2⟩
theorem Rp.same(r:Rp Γ C H s)(e:af9 H H'):Gr C s H C s H'/\Rp Γ C H' s:=have g:Gw C s.length H C H':=⟨λ_ _=>rfl,λb o h _=>e b o h⟩;⟨⟨g,aj _,λi a z=>ij z<|by omega,λi o J e a=>by lia,λb a=>by cases q:H b with|none=>lia|some o=>rw[e b o q];simp,λb o a h=>e b _ h,λb o h _ _=>e b o h⟩,r.inj,λi o h=>(r.obj i o h).mono g (r.wf i o h) λ_ u a=>e _ u a,r.wf,r.tab.same e⟩
section
variable{C:Nat->Addr}{H:Hp}{s:n8}{Q:VK}
def ag0.alloc(h:ag0 Γ C s H (.ref s.length) (s++[.J l]) Q)(r:Rp Γ C H s)(J:RVL Γ C H l z)(a:oa s.length l=bY)(b:H p=aT):Q (.ref p) (upd H p<|.J z):=by obtain⟨g,c⟩:=r.new (o:=.J l) b a λb H' g e=>⟨z,e,RVL.monoW g l z a J⟩;have:=h (.ref p) _ _ g (by simp) (by unfold oq;simp) (by unfold RV;simp) c;simp_all
def ag0.tup(h:ag0 Γ C s H (.tp l) s Q)(r:Rp Γ C H s)(J:RVL Γ C H l z)(a:oa s.length l=bY)(b:H p=aT):Q (.ref p) (upd H p<|.tp z):=AB (r.same<|(af9.refl H).new b) λg b=>h _ _ _ g (aj _) (a) (RV.tupI zh<|RVL.mono g l z a J) b
def ag0.put(h:ag0 Γ C s H d (s.set k<|.J l) Q)(r:Rp Γ C H s)(hk:s[k]?=al (.J l0))(J:RVL Γ C H l z)(hb:oa s.length l=bY)(hd:d.bnd s.length=bY)(hv:RV Γ C H d v):Q v<|upd H (C k) (.J z):=by obtain⟨g,Uu⟩:=r.set (o:=.J l) hk rfl hb λH' g e=>⟨z,e,RVL.monoW g l z hb J⟩;exact h _ _ _ g (by simp) (by rw[bA];exact hd) (RV.mono g d v hd hv) Uu
end
variable{Γ:Gm}
def keyOf_inj(ha:ai4 a=al k)(hb:ai4 b=al k):a=b:=by cases a with
 |int i=>cases ha;cases b with|int j=>cases hb;rfl|str y=>cases hb|_=>cases hb
 |str x=>cases ha;cases b with
  |int j=>cases hb|str y=>
   have h:=ay hb;injection h with h;injection h with h;have z:=by simpa using h
   rw[z]|_=>cases hb
 |_=>cases ha
def an5(h:d.key=bY):∃k,ai4 d=al k:=by cases d with|int i=>exact⟨_,rfl⟩|str x=>exact⟨_,rfl⟩|_=>cases h
def aM9(h:ai4 d=al k)(r:RV Γ C H d v):v=kV k:=by cases d with|int i=>cases h;exact r.intE|str x=>cases h;exact r.strE|_=>cases h
def by1{κ:Type}(c:n9->Option κ):Prop:=∀{a b}{k},c a=al k->c b=al k->a=b
def bb6:by1 fOf:=λ{a b k}d c=>by cases a with
 |N=>cases d;cases b with|N=>rfl|_=>cases c
 |int i=>cases d;cases b with|int j=>cases c;rfl|_=>cases c
 |str x=>cases d;cases b with|str y=>cases c;rfl|_=>cases c
 |_=>cases d
set_option tactic.hygienic true in theorem ao9{f}(h:by1 f):∀{a b}{k:List κ},jw f a=al k->jw f b=al k->a=b
 |[],[],k,_,_=>rfl|[],y::b,k,c,d=>by cases c;unfold jw at d;split at d<;>cases d|x::a,[],k,c,d=>by cases d;unfold jw at c;split at c<;>cases c|x::a,y::b,k,c,d=>by
  unfold jw at c d;split at c
  .rename_i k1 r1 e1 e2;cases c;split at d;.rename_i k2 Uu z J;cases d;rw[h e1 z,ao9 h e2 J]
   .cases d
  .cases c
def nOf_cases(h:nOf d=al k):(∃l r,d=.tp l/\jw fOf l=al r/\k=.inr r)\/∃f,fOf d=al f/\k=.inl f:=by cases d with|tp l=>exact AD (bp.mp<|h) λr e q=>.inl ⟨l,r,rfl,e,q.symm⟩|N=>exact AD (bp.mp<|show(fOf .N).map .inl=al k from h) λr e q=>.inr ⟨r,e,q.symm⟩|int i=>exact AD (bp.mp<|show(fOf<|.int i).map .inl=al k from h) λr e q=>.inr ⟨r,e,q.symm⟩|str i=>exact AD (bp.mp<|show(fOf<|.str i).map .inl=al k from h) λr e q=>.inr ⟨r,e,q.symm⟩|_=>cases h
def bH1:by1 nOf:=λ{a b k}a b=>by
 rcases nOf_cases a with⟨l,r,rfl,e,rfl⟩|⟨f,e,rfl⟩
 .rcases nOf_cases b with⟨m,h,rfl,a,q⟩|⟨f,a,q⟩;.cases q;rw[ao9 bb6 e a]
  .cases q
 .rcases nOf_cases b with⟨m,h,rfl,a,q⟩|⟨a,a,q⟩;.cases q
  .cases q;exact bb6 e a
def aw8(h:bV4 d=al k):∃l,d=.tp l/\(oz l=bY/\l.all oN=bY/\l.length<=1000)/\at9 l=al k:=by
 cases d with|tp l=>
  have h:(if(oz l&&(l.all oN&&decide (l.length<=1000)))=bY then at9 l else aT)=al k:=h;by_cases z:(oz l&&(l.all oN&&decide (l.length<=1000)))=bY;.rw[dO z]at h;rw[ae,ae]at z;exact⟨l,rfl,⟨z.1,z.2.1,dr z.2.2⟩,h⟩
  .rw[ef z]at h;cases h|_=>cases h
def keyT_inj:by1 bV4:=λa b=>by obtain⟨l,rfl,_,h⟩:=aw8 a;obtain⟨m,rfl,_,z⟩:=aw8 b;rw[ao9 bH1 h z]
theorem ak3{p}(a:∀d,p d=bY->∃k,f d=al k):∀{l},l.all p=bY->∃k,jw f l=al k|[],_=>⟨[],rfl⟩|d::l,h=>by rw[dk,ae]at h;exact AF (a d h.1) λk b=>AF (ak3 a h.2) λr a=>⟨k::r,by unfold jw;rw[b,a]⟩
def aZ0 d(h:d.keyF=bY):∃k,fOf d=al k:=by cases d with|int i=>exact⟨_,rfl⟩|str x=>exact⟨_,rfl⟩|N=>exact⟨_,rfl⟩|_=>cases h
def aQ6(h:(DV.D.tp l).keyS=bY):oz l=bY/\l.all rn=bY/\l.length<=1000:=by have h:(oz l&&(l.all rn&&decide (l.length<=1000)))=true:=h;rw[ae,ae]at h;exact⟨h.1,h.2.1,dr h.2.2⟩
def aX5 d(h:d.keyS=bY):∃k,nOf d=al k:=by cases d with|tp l=>exact AF (ak3 aZ0 (aQ6 h).2.1) λr e=>⟨.inr r,by show(jw fOf l).map _=_;rw[e];rfl⟩|int i=>exact⟨_,rfl⟩|str x=>exact⟨_,rfl⟩|N=>exact⟨_,rfl⟩|_=>cases h
def ap7(h:d.keyT=bY):∃k,bV4 d=al k:=by cases d with|tp l=>have h:(oz l&&(l.all oN&&decide (l.length<=1000)))=true:=h;have h':=h;rw[ae,ae]at h';exact AF (ak3 aX5 h'.2.1) λk a=>⟨k,by show(if(oz l&&(l.all oN&&decide (l.length<=1000)))=bY then at9 l else aT)=al k;exact dO h▸a⟩|_=>cases h
def cv2(h:fOf d=al k)(r:RV Γ C H d v):v=fV k:=by cases d with|N=>cases h;exact r.nonE|int i=>cases h;exact r.intE|str x=>cases h;exact r.strE|_=>cases h
set_option tactic.hygienic true in theorem cg7:∀{l}{k}{z},jw fOf l=al k->RVL Γ C H l z->z=k.map fV
 |[],k,z,h,r=>by cases h;exact r.unnil|d::l,k,z,h,r=>by
  unfold jw at h;split at h;.rename_i k1 r1 e1 e2;cases h;obtain⟨x,a,rfl,a,J⟩:=r.uncons;rw[cv2 e1 a,cg7 e2 J,aQ]
  .cases h
set_option tactic.hygienic true in theorem aZ2:∀{l}{k}{b},at9 l=al k->l.all oN=bY->RVL Γ C H l b->dA (NAt H) k b
 |[],k,b,h,_,r=>by cases h;cases r.unnil;exact .nil|d::l,k,b,h,z,r=>by
  unfold at9 jw at h;rw[dk,ae]at z;split at h
  .rename_i k1 r1 e1 e2;cases h;obtain⟨x,b,rfl,J,Y⟩:=r.uncons;refine .cons ?_<|aZ2 e2 z.2 Y;rcases nOf_cases e1 with⟨m,q,rfl,e,rfl⟩|⟨f,e,rfl⟩;.exact AL (J.tupK (aQ6 z.1).1) λa b b Z h2=>⟨a,b,(cg7 e h2▸Z)⟩
   .exact cv2 e J
  .cases h
def aJ6(h:bV4 d=al k)(r:RV Γ C H d v):∃b,v=.ref b/\NK H k b:=by obtain⟨l,rfl,z,b⟩:=aw8 h;exact AL (r.tupK z.1) λa c e Y J=>⟨a,e,c,Y,aZ2 b z.2.1 J⟩
section
variable{κ:Type}[DecidableEq κ]{kf:n9->Option κ}
theorem RVD.val(J:by1 kf)(c:kf d=al k):∀{l}{b},RVD kf Γ C H l b->(oG d l=aT/\aG5 b k=aT)\/∃e v,oG d l=al e/\aG5 b k=al v/\RV Γ C H e v/\e∈l.map (·.2)
 |[],b,h=>have h:=h;h▸.inl ⟨rfl,rfl⟩|(a,e)::l,b,h=>by
  obtain⟨f,v,r,rfl,b,g,Z⟩:=h;by_cases z:a=d;.subst z;cases c▸b;exact .inr ⟨e,v,by unfold oG;rw[dO rfl],am9 rfl,g,by simp⟩
  .have zk:¬f=k:=λq=>z<|J b<|q▸c;have Y:oG d ((a,e)::l)=oG d l:=by
    conv=>lhs;unfold oG
    rw[ef z]
   rw[Y,am7<|zk];rcases RVD.val J c Z with q|⟨b,c,d,e,f,a⟩;.exact .inl q
   .exact .inr ⟨b,c,d,e,f,by simp at a⊢;exact .inr a⟩
theorem RVD.repl(J:by1 kf)(hk:kf d=al k)(hv:RV Γ C H e v):∀{l}{kvs},RVD kf Γ C H l kvs->RVD kf Γ C H (l.map λp=>if p.1=d then(p.1,e)else p) (kvs.map λUu=>if Uu.1=k then(Uu.1,v)else Uu)
 |[],kvs,h=>by have h:=h;subst h;exact(rfl)|(a,e0)::l,kvs,h=>by
  obtain⟨k',v0,r,rfl,e2,Z,Y⟩:=h;rw[aQ,aQ];by_cases z:a=d;.subst z;rw[hk]at e2;cases e2;rw[dO rfl,dO rfl];exact⟨k,v,_,rfl,hk,hv,RVD.repl J hk hv Y⟩
  .have zk:¬k'=k:=λq=>z<|J e2 (by rw[q];exact hk);rw[ef z,ef zk];exact⟨k',v0,_,rfl,e2,Z,RVD.repl J hk hv Y⟩
theorem RVD.snoc(J:by1 kf)(c:kf d=al k)(f:RV Γ C H e v):∀{l}{b},RVD kf Γ C H l b->RVD kf Γ C H (l++[(d,e)]) (b++[(k,v)])|[],b,h=>by have h:=h;subst h;exact⟨k,v,[],rfl,c,f,rfl⟩|(a,e0)::l,b,h=>by obtain⟨a,b,r,rfl,d,z,e⟩:=h;exact⟨a,b,_,rfl,d,z,RVD.snoc J c f e⟩
def RVD.put(z:by1 kf)(a:kf d=al k)(c:RV Γ C H e v)(h:RVD kf Γ C H l kvs):RVD kf Γ C H (oE d e l) (as4 kvs k v):=by
 unfold oE as4;rw[ax4];rcases h.val z a with⟨J,b⟩|⟨b,b,J,b,_⟩;.exact J▸b▸h.snoc z a c
 .exact J▸b▸h.repl z a c
theorem RVD.get:∀{l}{kvs}{i:Nat}{d e},RVD kf Γ C H l kvs->l[i]?=al (d,e)->∃k v,kvs[i]?=al (k,v)/\kf d=al k/\RV Γ C H e v|[],_,_,_,_,_,h=>by cases h|(a,b)::l,kvs,0,d,e,h,q=>by obtain⟨k,v,r,rfl,e2,z,J⟩:=h;cases q;exact⟨k,v,rfl,e2,z⟩|(a,b)::l,kvs,i+1,d,e,h,q=>by obtain⟨k,v,r,rfl,e2,z,J⟩:=h;exact RVD.get (i:=i) J<|q
theorem RVD.keys:∀{l}{c},RVD kf Γ C H l c->∀e∈c,∃d,kf d=al e.1
 |[],c,h,e,d=>by cases h;cases d|(a,b)::l,c,h,e,d=>by
  obtain⟨k,v,r,rfl,b,c,J⟩:=h;rcases aD.mp d with z|z;.exact z▸⟨a,b⟩
  .exact RVD.keys J e z
theorem RVD.length:∀{l}{b},RVD kf Γ C H l b->b.length=l.length|[],b,h=>by have h:=h;subst h;rfl|(a,e)::l,b,h=>by obtain⟨a,v,r,rfl,a,J,z⟩:=h;rw[aR,aR,RVD.length z]
end
def aL7(h:(DV.O.dc l).bnd n=bY)(c:d.bnd n=bY)(J:e.bnd n=bY):(DV.O.dc<|oE d e l).bnd n=true:=by
 unfold on at h⊢;rw[ae]at h⊢;refine AB h λY b=>?_;have a:=ab5.mp Y;have z:=ab5.mp b;unfold oE;refine⟨ab5.mpr λx b=>?_,ab5.mpr λx b=>?_⟩
 .obtain⟨p,hp,rfl⟩:=ao.mp b;split at hp
  .obtain⟨q,hq,rfl⟩:=ao.mp hp;split;.exact a _ (bF (f:=(·.1)) hq)
   .exact a _<|bF hq
  .rcases aZ.mp hp with q|q;.exact a _<|bF q
   .exact aP.mp q▸c
 .obtain⟨p,hp,rfl⟩:=ao.mp b;split at hp
  .obtain⟨q,hq,rfl⟩:=ao.mp hp;split;.exact J
   .exact z _<|bF hq
  .rcases aZ.mp hp with q|q;.exact z _<|bF q
   .exact aP.mp q▸J
def bw5(h:(DV.O.dit l).bnd n=bY)(a:d.bnd n=bY)(z:e.bnd n=bY):(DV.O.dit<|oE d e l).bnd n=true:=aL7 h a z
def am8(h:oH f (a::l) (b::m)=al z):∃x y,f a b=al x/\oH f l m=al y/\z=(x&&y):=by unfold oH at h;cases c:f a b with|none=>cases c▸h|some x=>cases a:oH f l m with|none=>cases c▸a▸h|some y=>rw[c,a]at h;exact⟨x,y,rfl,rfl,(ay h).symm⟩
theorem bh7:∀{l m}{z},oH f l m=al z->∃e,(∀j d c,l[j]?=al d->m[j]?=al c->f d c=al (e j))/\((l.length==m.length)&&(aq<|min l.length m.length).all e)=z
 |[],[],z,h=>by unfold oH at h;simp_all|[],b::m,z,h=>by unfold oH at h;simp_all|a::l,[],z,h=>by unfold oH at h;simp_all|a::l,b::m,z,h=>by
  refine AL (am8 h) λx y b a f=>AD (bh7 a) λe Y g=>⟨λj=>match j with|0=>x|j+1=>e j,λj d c a J=>?_,?_⟩;.cases j with|zero=>simp at a J;subst a;subst J;exact b|succ j=>exact Y j d c (by simpa using a) (by simpa using J)
  .rw[aR,aR,show min (l.length+1) (m.length+1)=min l.length m.length+1 by lia,cK,dk,nF,f,<-g];grind
section
variable{X:Cx}{pins:yA}{W:St}{H:Hp}{sh:af}{C:Nat->Addr}{s:n8}
def aq3(I:Inv X pins W H sh)(h:H a=al (.J J))(h':SqT X.K H a ys):False:=by
 rcases h' with(z|⟨o,z⟩)|⟨o,its,n,hk,_⟩;.lia
 .lia
 .have:=(I.bs a o<|I.mod.kin a o hk).2;lia
def rv_two(I:Inv X pins W H sh)(f:X.K=Γ.K)(R:Rp Γ C H s)(d:RV Γ C H a x)(z:RV Γ C H b x)(g:oI s a≠9)(c:oI s b≠9):a=b\/∃l m p Y,a=.tp l/\b=.tp m/\x=.ref p/\RVL Γ C H l Y/\RVL Γ C H m Y:=by
 have J:∀{r:Nat},oI s (.ref r)≠9->∃l,s[r]?=al (.J l):=λ{r}h=>by have h:(match s[r]? with|some<|DV.O.J l=>4|_=>9:Nat)≠9:=h;cases e:s[r]? with|none=>exact ij rfl<|e▸h|some o=>rw[e]at h;cases o with|J l=>exact⟨l,rfl⟩|_=>exact ij rfl h
 cases a with
 |N=>have e:=d.nonE;subst e;cases b with|N=>exact .inl rfl|T _=>cases z.blE|int _=>cases z.intE|str _=>cases z.strE|tp _=>refine AE z.tupE λ_ _ e _=>?_;cases e|ref _=>cases z.refE|fn _=>exact ij rfl c|clo _ _=>exact ij rfl c
 |T p=>have e:=d.blE;subst e;cases b with|N=>cases z.nonE|T _=>cases z.blE;exact .inl rfl|int _=>cases z.intE|str _=>cases z.strE|tp _=>refine AE z.tupE λ_ _ e _=>?_;cases e|ref _=>cases z.refE|fn _=>exact ij rfl c|clo _ _=>exact ij rfl c
 |int p=>have e:=d.intE;subst e;cases b with|N=>cases z.nonE|T _=>cases z.blE|int _=>cases z.intE;exact .inl rfl|str _=>cases z.strE|tp _=>refine AE z.tupE λ_ _ e _=>?_;cases e|ref _=>cases z.refE|fn _=>exact ij rfl c|clo _ _=>exact ij rfl c
 |str p=>have e:=d.strE;subst e;cases b with
  |N=>cases z.nonE|T _=>cases z.blE|int _=>cases z.intE|str q=>
   have a:p.toArray=q.toArray:=Str.mk.inj<|V.str.inj z.strE;have e:p=q:=by simpa using congrArg lf a
   exact e▸.inl rfl|tp _=>refine AE z.tupE λ_ _ e _=>?_;cases e|ref _=>cases z.refE|fn _=>exact ij rfl c|clo _ _=>exact ij rfl c
 |tp l=>refine AL d.tupE λp Y e Z h=>?_;subst e;cases b with|N=>cases z.nonE|T _=>cases z.blE|int _=>cases z.intE|str _=>cases z.strE|tp m=>refine AL z.tupE λp' j e a i=>?_;cases e;rw[<-f]at Z a;exact .inr ⟨l,m,p,Y,rfl,rfl,rfl,h,(I.tuple_inj a Z▸i)⟩|ref r=>cases z.refE;exact AF (J c) λm h=>AD (R.addr h) λys a _=>(aq3 I a<|f▸Z).elim|fn _=>exact ij rfl c|clo _ _=>exact ij rfl c
 |ref r=>cases d.refE;refine AF (J g) λl d=>AD (R.addr d) λY h _=>?_;cases b with|N=>cases z.nonE|T _=>cases z.blE|int _=>cases z.intE|str _=>cases z.strE|tp m=>refine AL z.tupE λp' j e a i=>?_;cases e;exact(aq3 I h<|f▸a).elim|ref a=>exact AF (J c) λm h=>have e:C r=C a:=V.ref.inj z.refE;R.inj r a _ _ d h rfl rfl e▸.inl rfl|fn _=>exact ij rfl c|clo _ _=>exact ij rfl c
 |fn _=>exact ij rfl g|clo _ _=>exact ij rfl g
def jp(h:oQ s a b=al z):pZ a b=al z\/(pZ a b=aT/\pz (oI s a) (oI s b)=ce/\z=ce):=by unfold oQ at h;cases e:pZ a b with|some w=>rw[e]at h;exact .inl h|none=>rw[e]at h;cases q:pz (oI s a) (oI s b)with|true=>rw[q]at h;cases h|false=>rw[q]at h;exact .inr ⟨rfl,rfl,(ay h).symm⟩
def br0(h:pZ a b=al z):oI s a≠9/\oI s b≠9:=by cases a<;>cases b<;>first|(cases h;done)|(constructor<;>(intro z;cases z))
def ai1(h:oQ s a b=al z):oI s a≠9/\oI s b≠9:=by
 rcases jp h with h|⟨_,h,_⟩;.exact br0 h
 .unfold pz at h;simp only[j7,beq_eq_false_iff_ne]at h;exact⟨h.1.1,h.1.2⟩
def aK0(h:oQ s a a=al z):z=true:=by
 rcases jp h with h|⟨_,h,_⟩;.cases a<;>cases h<;>first|rfl|exact beq_self_eq_true _
 .unfold pz at h;simp at h
set_option tactic.hygienic true in def aN3(I:Inv X pins W H sh)(i:X.K=Γ.K)(R:Rp Γ C H s):∀n a b x z,ow s n a b=al z->RV Γ C H a x->RV Γ C H b x->z=true:=by
 have Z:∀a b x z,oQ s a b=al z->RV Γ C H a x->RV Γ C H b x->z=true:=by
  intro a b x z h c J;rcases rv_two I i R c J (ai1 h).1 (ai1 h).2 with e|⟨l,m,_,_,rfl,rfl,_⟩;.subst e;exact aK0 h
  .rcases jp h with h|⟨_,h,_⟩;.cases h
   .unfold pz at h;simp[oI]at h
 intro n;induction n with|zero=>exactλa b x z h=>Z a b x z h|succ n a=>
  have j:∀l m Y z,oH (ow s n) l m=al z->RVL Γ C H l Y->RVL Γ C H m Y->z=true:=by intro l;induction l with
   |nil=>intro m Y z h c J;cases m with|nil=>exact(ay h).symm|cons b m=>refine AE J.uncons λx r e _=>?_;cases c.unnil▸e
   |cons a l a=>intro m Y z h c J;cases m with|nil=>refine AE c.uncons λx r e _=>?_;cases J.unnil▸e|cons b m=>refine AL (am8 h) λp q g k a=>?_;obtain⟨v,r,rfl,a,a⟩:=c.uncons;refine AL J.uncons λv' a e a a=>?_;grind
  intro a b x z h c J;unfold ow at h;split at h;.rename_i l m;obtain⟨a,Y,rfl,g,d⟩:=c.tupE;refine AL J.tupE λb ys e k f=>?_;cases e;rw[<-i]at g k;exact j l m Y z h d<|I.tuple_inj k g▸f
  .rename_i p q;split at h
   .rename_i l m hl hm;refine AD (R.addr hl) λY g d=>AD (R.addr hm) λys k f=>?_;have e:=c.refE.symm.trans J.refE;have i:=V.ref.inj e;rw[i,k]at g;have e:=by injection(ay g)
    subst e;split at h;.exact j l m ys z h d f
    .rename_i a0;exact ij (d.length.symm.trans f.length) a0
   .cases h
  .exact Z a b x z h c J
end
variable{Γ:Gm}
inductive Vw(sh:af):Nat->Value->Prop where|N:Vw sh 0 .none|T(b:Bool):Vw sh 1<|.bool b|int(i:Int)(t:Tok):Vw sh 1<|.int i t|str(x:Str)(t:Tok):Vw sh 2<|.str x t|tp{l:Addr}{items:yK}(h:sh.heap.IsTuple l items):Vw sh 3<|.ref l|J{l:Addr}{items:yK}(h:sh.heap.IsList l items):Vw sh 4<|.ref l
def Vw.eq(a:Vw sh k u)(b:Vw sh k' v)(z:k≠k')(hu:A.units<cLine):iP A sh u v false:=by cases a with
 |N=>cases b with|N=>exact ij rfl z|T b=>exact SeqAt.EqAt.none_bool b|int i t=>exact km i t|str x t=>exact ko x t|tp h=>exact iW h hu|J h=>exact SeqAt.EqAt.none_list h hu
 |T a=>cases b with|N=>exact SeqAt.EqAt.bool_none a|T b=>exact ij rfl z|int i t=>exact ij rfl z|str x t=>exact SeqAt.EqAt.bool_str a x t|tp h=>exact SeqAt.EqAt.bool_tuple a h hu|J h=>exact SeqAt.EqAt.bool_list a h hu
 |int a q=>cases b with|N=>exact kq a q|T b=>exact ij rfl z|int i t=>exact ij rfl z|str x t=>exact kJ a q x t|tp h=>exact jP a q h hu|J h=>exact SeqAt.EqAt.int_list a q h hu
 |str a q=>cases b with|N=>exact kr a q|T b=>exact SeqAt.EqAt.str_bool a q b|int i t=>exact kK a q i t|str x t=>exact ij rfl z|tp h=>exact jQ a q h hu|J h=>exact SeqAt.EqAt.str_list a q h hu
 |tp g=>cases b with|N=>exact iX g hu|T b=>exact SeqAt.EqAt.tuple_bool b g hu|int i t=>exact jR i t g hu|str x t=>exact jS x t g hu|tp h=>exact ij rfl z|J h=>exact SeqAt.EqAt.tuple_list g h hu
 |J g=>cases b with|N=>exact SeqAt.EqAt.list_none g hu|T b=>exact SeqAt.EqAt.list_bool b g hu|int i t=>exact SeqAt.EqAt.list_int i t g hu|str x t=>exact SeqAt.EqAt.list_str x t g hu|tp h=>exact SeqAt.EqAt.list_tuple g h hu|J h=>exact ij rfl z
def Vw.rc(a:Vw sh k u)(b:Vw sh k' v)(z:k≠k')(hu:A.units<cLine):nZ A sh u v false:=by cases a with
 |N=>cases b with|N=>exact ij rfl z|T b=>exact SeqAt.RcAt.none_bool b|int i t=>exact SeqAt.RcAt.none_int i t|str x t=>exact SeqAt.RcAt.none_str x t|tp h=>exact SeqAt.RcAt.none_tuple h hu|J h=>exact SeqAt.RcAt.none_list h hu
 |T a=>cases b with|N=>exact SeqAt.RcAt.bool_none a|T b=>exact ij rfl z|int i t=>exact ij rfl z|str x t=>exact SeqAt.RcAt.bool_str a x t|tp h=>exact SeqAt.RcAt.bool_tuple a h hu|J h=>exact SeqAt.RcAt.bool_list a h hu
 |int a q=>cases b with|N=>exact SeqAt.RcAt.int_none a q|T b=>exact ij rfl z|int i t=>exact ij rfl z|str x t=>exact SeqAt.RcAt.int_str a q x t|tp h=>exact SeqAt.RcAt.int_tuple a q h hu|J h=>exact SeqAt.RcAt.int_list a q h hu
 |str a q=>cases b with|N=>exact SeqAt.RcAt.str_none a q|T b=>exact SeqAt.RcAt.str_bool a q b|int i t=>exact SeqAt.RcAt.str_int a q i t|str x t=>exact ij rfl z|tp h=>exact SeqAt.RcAt.str_tuple a q h hu|J h=>exact SeqAt.RcAt.str_list a q h hu
 |tp g=>cases b with|N=>exact SeqAt.RcAt.tuple_none g hu|T b=>exact SeqAt.RcAt.tuple_bool b g hu|int i t=>exact SeqAt.RcAt.tuple_int i t g hu|str x t=>exact SeqAt.RcAt.tuple_str x t g hu|tp h=>exact ij rfl z|J h=>exact SeqAt.RcAt.tuple_list g h hu
 |J g=>cases b with|N=>exact SeqAt.RcAt.list_none g hu|T b=>exact SeqAt.RcAt.list_bool b g hu|int i t=>exact SeqAt.RcAt.list_int i t g hu|str x t=>exact SeqAt.RcAt.list_str x t g hu|tp h=>exact SeqAt.RcAt.list_tuple g h hu|J h=>exact ij rfl z
def Vw.ne(a:Vw sh k u)(b:Vw sh k' v)(z:k≠k')(hu:A.units<cLine):nJ A sh u v true:=by cases a with
 |N=>cases b with|N=>exact ij rfl z|T b=>exact SeqAt.RcNeAt.none_bool b|int i t=>exact SeqAt.RcNeAt.none_int i t|str x t=>exact SeqAt.RcNeAt.none_str x t|tp h=>exact SeqAt.RcNeAt.none_tuple h hu|J h=>exact SeqAt.RcNeAt.none_list h hu
 |T a=>cases b with|N=>exact SeqAt.RcNeAt.bool_none a|T b=>exact ij rfl z|int i t=>exact ij rfl z|str x t=>exact SeqAt.RcNeAt.bool_str a x t|tp h=>exact SeqAt.RcNeAt.bool_tuple a h hu|J h=>exact SeqAt.RcNeAt.bool_list a h hu
 |int a q=>cases b with|N=>exact SeqAt.RcNeAt.int_none a q|T b=>exact ij rfl z|int i t=>exact ij rfl z|str x t=>exact SeqAt.RcNeAt.int_str a q x t|tp h=>exact SeqAt.RcNeAt.int_tuple a q h hu|J h=>exact SeqAt.RcNeAt.int_list a q h hu
 |str a q=>cases b with|N=>exact SeqAt.RcNeAt.str_none a q|T b=>exact SeqAt.RcNeAt.str_bool a q b|int i t=>exact SeqAt.RcNeAt.str_int a q i t|str x t=>exact ij rfl z|tp h=>exact SeqAt.RcNeAt.str_tuple a q h hu|J h=>exact SeqAt.RcNeAt.str_list a q h hu
 |tp g=>cases b with|N=>exact SeqAt.RcNeAt.tuple_none g hu|T b=>exact SeqAt.RcNeAt.tuple_bool b g hu|int i t=>exact SeqAt.RcNeAt.tuple_int i t g hu|str x t=>exact SeqAt.RcNeAt.tuple_str x t g hu|tp h=>exact ij rfl z|J h=>exact SeqAt.RcNeAt.tuple_list g h hu
 |J g=>cases b with|N=>exact SeqAt.RcNeAt.list_none g hu|T b=>exact SeqAt.RcNeAt.list_bool b g hu|int i t=>exact SeqAt.RcNeAt.list_int i t g hu|str x t=>exact SeqAt.RcNeAt.list_str x t g hu|tp h=>exact SeqAt.RcNeAt.list_tuple g h hu|J h=>exact ij rfl z
def bW9(a b:List Nat):((⟨a.toArray⟩:Str)==⟨b.toArray⟩)=(a==b):=by
 by_cases e:a=b;.subst e;simp
 .have:(⟨a.toArray⟩:Str)≠⟨b.toArray⟩:=λq=>e (by simpa using congrArg (λz=>z.cps.toList) q);rw[beq_eq_false_iff_ne.mpr this,beq_eq_false_iff_ne.mpr e]
structure Cmp(A:aU)(sh:af)(u v:Value)(z:Bool):Prop where
 rc:nZ A sh u v z
 ne:nJ A sh u v<|!z
section
variable{X:Cx}{pins:yA}{W:St}{H:Hp}{sh:af}{C:Nat->Addr}{s:n8}
def bZ4(I:Inv X pins W H sh)(c:X.K=Γ.K)(R:Rp Γ C H s)(h:RV Γ C H d x)(r:RelV x u)(a:oI s d≠9):Vw sh (oI s d) u:=by cases d with
 |N=>have e:=h.nonE;subst e;exact r▸.N|T b=>have e:=h.blE;subst e;exact r▸.T b|int i=>cases h.intE;obtain⟨t,rfl⟩:=r;exact .int i t|str y=>have e:=h.strE;subst e;obtain⟨t,rfl⟩:=r;exact .str _ t|tp l=>refine AL h.tupE λa z e q _=>?_;subst e;cases r;rw[<-c]at q;exact AH (I.tuple q) λits _ t _=>.tp t|ref n=>have e:=h.refE;subst e;cases r;have a:(match s[n]? with|some<|DV.O.J l=>4|_=>9:Nat)≠9:=a;show Vw sh (match s[n]? with|some<|DV.O.J l=>4|_=>9:Nat) _;cases b:s[n]? with|none=>simp_all|some o=>rw[b]at a;cases o with|J l=>exact AD (R.addr b) λz e _=>AH (I.list<|SqL.of e) λits _ t _=>.J t.isList|_=>simp_all
 |fn _=>exact ij rfl a|clo _ _=>exact ij rfl a
def aE5(I:Inv X pins W H sh)(g:X.K=Γ.K)(R:Rp Γ C H s)(h:oQ s a b=al z)(Y:RV Γ C H a x)(J:RV Γ C H b y)(c:RelV x u)(d:RelV y v)(f:A.units<cLine):iP A sh u v z/\Cmp A sh u v z:=by
 rcases jp h with h|⟨_,e,i⟩
 .cases a<;>cases b<;>try cases h
  .cases Y.nonE;cases J.nonE;cases c;cases d;exact⟨fg _,SeqAt.RcAt.none_none,SeqAt.RcNeAt.none_none⟩
  .cases Y.blE;cases J.blE;cases c;exact d▸⟨SeqAt.EqAt.bool_bool _ _,SeqAt.RcAt.bool_bool _ _,SeqAt.RcNeAt.bool_bool _ _⟩
  .cases Y.blE;cases J.intE;cases c;obtain⟨a,rfl⟩:=d;exact⟨SeqAt.EqAt.bool_int _ _ _,SeqAt.RcAt.bool_int _ _ _,SeqAt.RcNeAt.bool_int _ _ _⟩
  .cases Y.intE;cases J.blE;obtain⟨t,rfl⟩:=c;exact d▸⟨SeqAt.EqAt.int_bool _ _ _,SeqAt.RcAt.int_bool _ _ _,SeqAt.RcNeAt.int_bool _ _ _⟩
  .cases Y.intE;cases J.intE;obtain⟨t,rfl⟩:=c;obtain⟨a,rfl⟩:=d;exact⟨SeqAt.EqAt.int_int _ _ _ _,SeqAt.RcAt.int_int _ _ _ _,SeqAt.RcNeAt.int_int _ _ _ _⟩
  .cases Y.strE;cases J.strE;obtain⟨t,rfl⟩:=c;obtain⟨a,rfl⟩:=d;rw[<-bW9];exact⟨SeqAt.EqAt.str_str _ _ _ _,SeqAt.RcAt.str_str _ _ _ _,SeqAt.RcNeAt.str_str _ _ _ _⟩
 .subst i;unfold pz at e;simp only[j7,beq_eq_false_iff_ne]at e;have Z:=bZ4 I g R Y c e.1.1;have a:=bZ4 I g R J d e.1.2;exact⟨Z.eq a e.2 f,Z.rc a e.2 f,Z.ne a e.2 f⟩
set_option tactic.hygienic true in def aY3(I:Inv X pins W H sh)(hK:X.K=Γ.K)(R:Rp Γ C H s):∀n a b x y u v A z,ow s n a b=al z->RV Γ C H a x->RV Γ C H b y->RelV x u->RelV y v->Room n A->iP A sh u v z/\Cmp A sh u v z:=by intro n;induction n with|zero=>intro a b x y u v A z h h1 h2 r1 r2 hr;unfold ow at h;exact aE5 I hK R h h1 h2 r1 r2 hr.units0|succ n ih=>
  have J:∀{l m:List n9}{xs ys:List V}{its its':yH}{A:aU}{e:Nat->Bool},RVL Γ C H l xs->RVL Γ C H m ys->Vals xs its->Vals ys its'->Room n A->(∀j d d',l[j]?=al d->m[j]?=al d'->ow s n d d'=al (e j))->∀j(h1:j<its.toArray.size)(h2:j<its'.toArray.size),iP A sh its.toArray[j] its'.toArray[j]<|e j:=by
   intro l m xs ys its its' A e d1 Z v1 v2 hr he j h1 h2;have l1:=v1.length;have l2:=v2.length;have e1:=d1.length;have e2:=Z.length;have a2:=by simpa using h1
   have a3:=by simpa using h2
   have hj:j<l.length:=by lia
   have a1:j<m.length:=by lia
   obtain⟨x,ex,dx⟩:=d1.get<|ar hj;obtain⟨y,ey,dy⟩:=Z.get<|ar a1;obtain⟨u,eu,ru⟩:=v1.get ex;obtain⟨w,ew,a4⟩:=v2.get ey;have g1:its.toArray[j]=u:=by have:=ar a2;rw[eu]at this;simpa using(ay this).symm
   have g2:its'.toArray[j]=w:=by have:=ar a3;rw[ew]at this;simpa using(ay this).symm
   rw[g1,g2];exact(ih _ _ x y u w A (e j) (he j _ _ (ar hj) (ar a1)) dx dy ru a4 hr).1
  intro a b x y u v A z h h1 h2 r1 r2 hr;have hz:=h;unfold ow at h;split at h
  .rename_i l m;obtain⟨p,xs,ex,q1,d1⟩:=id h1.tupE;obtain⟨q,ys,ey,q2,Z⟩:=id h2.tupE;subst ex;subst ey;cases r1;cases r2;rw[<-hK]at q1 q2;obtain⟨its,v1,t1,_⟩:=I.tuple q1;obtain⟨its',v2,t2,_⟩:=I.tuple q2;obtain⟨e,he,Uu⟩:=bh7 h;have l1:=v1.length;have l2:=v2.length;have e1:=d1.length;have e2:=Z.length;have sz:((aq<|min its.toArray.size its'.toArray.size).all e&&its.toArray.size==its'.toArray.size)=z:=by rw[<-Uu,Bool.and_comm,show its.toArray.size=l.length by simp;lia,show its'.toArray.size=m.length by simp;lia]
   have key:=k7 t1 t2 hr.units0<|J d1 Z v1 v2 hr.in1 he;have Y:=SeqAt.RcNeAt.tuples t1 t2 hr.units0<|J d1 Z v1 v2 hr.in1 he;rw[sz]at key Y;refine⟨?_,key,Y⟩;by_cases hab:p=q;.subst hab;rw[aN3 I hK R _ _ _ _ _ hz h1 h2];exact fg _
   .exact gH hab key
  .rename_i p q;split at h
   .rename_i l m hl hm;obtain⟨xs,e1,d1⟩:=R.addr hl;obtain⟨ys,e2,Z⟩:=R.addr hm;have ex:=h1.refE;have ey:=h2.refE;subst ex;subst ey;cases r1;cases r2;obtain⟨its,v1,t1,_⟩:=I.list<|SqL.of e1;obtain⟨its',v2,t2,_⟩:=I.list<|SqL.of e2;have l1:=v1.length;have l2:=v2.length;have c1:=d1.length;have c2:=Z.length;have fin:Cmp A sh (.ref<|C p) (.ref<|C q) z:=by
     split at h
     .rename_i a0;obtain⟨e,he,Uu⟩:=bh7 h;have sz:(aq its.toArray.size).all e=z:=by rw[<-Uu,show its.toArray.size=l.length by simp;omega,a0];simp
      have key:=SeqAt.RcAt.lists t1.isList t2.isList (by simp;lia) hr.units0<|J d1 Z v1 v2 hr.in1 he;have Y:=SeqAt.RcNeAt.lists (e:=e) t1.isList t2.isList (by simp;omega) hr.units0<|J d1 Z v1 v2 hr.in1 he;rw[sz]at key Y;exact⟨key,Y⟩
     .rename_i a0;cases h;have hs:(its.toArray.size !=its'.toArray.size)=true:=by simp;lia
      exact⟨SeqAt.RcAt.lists_lengths t1.isList t2.isList hs hr.units0,SeqAt.RcNeAt.lists_lengths t1.isList t2.isList hs hr.units0⟩
    refine⟨?_,fin⟩;by_cases hab:C p=C q;.rw[aN3 I hK R _ _ _ _ _ hz RV.refI<|by rw[hab];exact RV.refI,hab];exact fg _
    .exact gH hab fin.rc
   .cases h
  .exact aE5 I hK R h h1 h2 r1 r2 hr.units0
end
variable{Γ:Gm}{X:Cx}
noncomputable def cs7:rA->mM|.add=>.Add|.sub=>.Sub|.mul=>.Mult|.fdiv=>.FloorDiv|.mod=>.Mod|.pow=>.Pow|.shl=>.LShift|.shr=>.RShift|.band=>.BitAnd|.bor=>.BitOr
noncomputable def bS0:p8->CmpOp|.eq=>.Eq|.ne=>.NotEq|.lt=>.Lt|.le=>.LtE|.gt=>.Gt|.ge=>.GtE|.isin=>.In|.notin=>.NotIn
def rOp(Γ:Gm)(f:n9->n9->n8->ol n9):R2:=λx y H Q=>∃C s a b d c,Rp Γ C H s/\RV Γ C H a x/\RV Γ C H b y/\a.bnd s.length=bY/\b.bnd s.length=bY/\f a b s=.ok d c/\ag0 Γ C s H d c Q
def jl(h:p9 d s=.ok e t):d=e/\s=t:=by unfold p9 at h;lia
def qr(h:pi o s=.ok e t):e=.ref s.length/\t=s++[o]:=by unfold pi at h;lia
def bb9(a b:List Nat):(⟨a.toArray⟩:Str)++⟨b.toArray⟩=⟨(a++b).toArray⟩:=by show Str.append _ _=_;unfold Str.append;simp
def qt:ot<=a7:=by rw[f8];decide
def bM6:OpR X (eW .Mult) (rI (λi j=>DV.mulOk i j=bY) λi j=>.int<|i*j):=opI λi j _ _ _ _ _ a q=>mul_int q<|by
 unfold DV.mulOk at a;simp only[cf,ae,iF]at a;rcases a with(h|h)|⟨z,J⟩;.exact cl0.ok<|.inl<|by omega
 .exact cl0.ok<|.inr<|by omega
 .unfold DV.BIG at z J;exact IntMulOk.of_le (intBits_le_iff.mpr z) (intBits_le_iff.mpr J) (by decide)
def bo3(a:0<=x)(a:0<=y):ig x y=((x.toNat|||y.toNat)):=by
 have nn:∀z:Int,fM (fM z)=z:=λz=>by unfold fM;lia
 unfold ig;rw[bitAnd_nn (by unfold fM;lia) (by unfold fM;lia),nn,nn,nn]
set_option tactic.hygienic true in def bV3(a:X.K=Γ.K)op:OpR X (eW<|cs7 op) (rOp Γ<|DV.am4 op):=by refineλJ s W H x y v u Q I Y Z h=>AJ h λC e a AA=>AK AA λb d c R d f AA=>AU AA λna c z q=>?_;cases op with
 |add=>cases a with
  |int a=>cases b with|int b=>obtain⟨rfl,rfl⟩:=jl z;have ex:=d.intE;have c:=f.intE;subst ex;subst c;exact bY6 J s W H _ _ v u Q I Y Z ⟨_,_,rfl,rfl,q.here R rfl RV.intI⟩|_=>exact fb z
  |str a=>
   cases b with|str b=>
    change(if _ then _ else _:rq n9) e=_ at z;split at z
    .rename_i hl;obtain⟨rfl,rfl⟩:=jl z;have ex:=d.strE;have c:=f.strE;subst ex;subst c;refine aU2 J s W H _ _ v u Q I Y Z ⟨_,_,rfl,rfl,?_,?_⟩;.show a.toArray.size+b.toArray.size<=_;simp only[aJ];exact au hl qt
     .rw[bb9];exact q.here R rfl<|RV.strI<|by simp_all
    .exact fb z|_=>exact fb z
  |ref a=>
   cases b with|ref b=>
    change(match e[a]?,e[b]? with|some<|DV.O.J l,al<|DV.O.J m=>if l.length+m.length<=ot then pi (.J<|l++m) e else .B|_,_=>.B)=_ at z;split at z
    .rename_i l m h1 h2;split at z
     .rename_i hl;obtain⟨rfl,rfl⟩:=qr z;refine AD (R.addr h1) λxs i g=>AD (R.addr h2) λys j d2=>?_;have ex:=d.refE;have c:=f.refE;subst ex;subst c;have c:=R.wf _ _ h1;have k:=R.wf _ _ h2;refine bV6 J s W H _ _ v u Q I Y Z ⟨C a,C b,xs,ys,rfl,rfl,i,j,?_,λp i=>?_⟩;.exact g.length▸d2.length▸au hl qt
      .exact q.alloc R (g.append d2) (qI c k) i
     .exact fb z
    .exact fb z|_=>exact fb z
  |_=>exact fb z
 |sub=>cases a with
  |int a=>cases b with|int b=>obtain⟨rfl,rfl⟩:=jl z;have ex:=d.intE;have c:=f.intE;subst ex;subst c;exact bV0 J s W H _ _ v u Q I Y Z ⟨_,_,rfl,rfl,q.here R rfl RV.intI⟩|_=>exact fb z
  |_=>exact fb z
 |mul=>cases a with
  |int a=>
   cases b with|int b=>
    change(if _ then _ else _:rq n9) e=_ at z;split at z;.rename_i hc;obtain⟨rfl,rfl⟩:=jl z;have ex:=d.intE;have c:=f.intE;subst ex;subst c;exact bM6 J s W H _ _ v u Q I Y Z ⟨_,_,rfl,rfl,hc,q.here R rfl RV.intI⟩
    .exact fb z|_=>exact fb z
  |_=>exact fb z
 |fdiv=>cases a with
  |int a=>
   cases b with|int b=>
    change(if _ then _ else _:rq n9) e=_ at z;split at z;.rename_i hc;obtain⟨rfl,rfl⟩:=jl z;have ex:=d.intE;have c:=f.intE;subst ex;subst c;refine bs5 J s W H _ _ v u Q I Y Z ⟨_,_,rfl,rfl,⟨hc.1,?_⟩,q.here R rfl RV.intI⟩;have:=hc.2;unfold DV.DIVL at this;simpa using this
    .exact fb z|_=>exact fb z
  |_=>exact fb z
 |mod=>cases a with
  |int a=>
   cases b with|int b=>
    change(if _ then _ else _:rq n9) e=_ at z;split at z;.rename_i hc;obtain⟨rfl,rfl⟩:=jl z;have ex:=d.intE;have c:=f.intE;subst ex;subst c;exact cd2 J s W H _ _ v u Q I Y Z ⟨_,_,rfl,rfl,hc,q.here R rfl RV.intI⟩
    .exact fb z|_=>exact fb z
  |_=>exact fb z
 |pow=>cases a with
  |int a=>
   cases b with|int b=>
    change(if _ then _ else _:rq n9) e=_ at z;split at z;.rename_i hc;obtain⟨rfl,rfl⟩:=jl z;have ex:=d.intE;have c:=f.intE;subst ex;subst c;exact bZ7 J s W H _ _ v u Q I Y Z ⟨_,_,rfl,rfl,hc,q.here R rfl RV.intI⟩
    .exact fb z|_=>exact fb z
  |_=>exact fb z
 |shl=>exact fb z|shr=>exact fb z|band=>exact fb z|bor=>cases a with
  |int a=>
   cases b with|int b=>
    change(if _ then _ else _:rq n9) e=_ at z;split at z;.rename_i hc;obtain⟨rfl,rfl⟩:=jl z;have ex:=d.intE;have c:=f.intE;subst ex;subst c;exact cm2 J s W H _ _ v u Q I Y Z ⟨_,_,rfl,rfl,by show Q (V.int<|ig a b) H;exact bo3 hc.1 hc.2▸q.here R rfl RV.intI⟩
    .exact fb z|_=>exact fb z
  |_=>exact fb z
variable{Γ:Gm}{X:Cx}{pins:yA}{W:St}{H:Hp}{sh:af}{C:Nat->Addr}{s:n8}
set_option tactic.hygienic true in def aP5(h:ow s n a b=al z):oI s a≠9:=by cases n with|zero=>exact(ai1 h).1|succ n=>
  unfold ow at h;split at h;.simp[oI]
  .split at h;.rename_i J _;simp[oI,J]
   .cases h
  .exact(ai1 h).1
def bm4(I:Inv X pins W H sh)(hK:X.K=Γ.K)(R:Rp Γ C H s):∀n a b c x p q,RV Γ C H a x->RV Γ C H b x->ow s n a c=al p->ow s n b c=al q->p=q:=by
 intro n;induction n with|zero=>
  intro a b c x p q z h e1 e2;rcases rv_two I hK R z h (aP5 e1) (aP5 e2)with e|⟨l,m,_,_,rfl,rfl,_⟩;.subst e;rw[e1]at e2;exact ay e2
  .unfold ow at e1 e2;have:oQ s (.tp l) c=oQ s (.tp m) c:=by unfold oQ;cases c<;>rfl
   rw[this,e2]at e1;exact(ay e1).symm|succ n ih=>
  have Uu:∀l m k J p q,RVL Γ C H l J->RVL Γ C H m J->oH (ow s n) l k=al p->oH (ow s n) m k=al q->p=q:=by
   intro l;induction l with|nil=>
    intro m k J p q z h e1 e2;have:=z.unnil;subst this;have hm:=by have:=h.length;exact fu.mp this.symm
    subst hm;rw[e1]at e2;exact ay e2|cons a l ihl=>intro m k J p q z h e1 e2;obtain⟨x,r,rfl,g1,Z⟩:=z.uncons;cases m with|nil=>have:=h.unnil;cases this|cons b m=>obtain⟨x',r',e,g3,g4⟩:=h.uncons;cases e;cases k with|nil=>unfold oH at e1 e2;rw[<-ay e1,<-ay e2]|cons c k=>obtain⟨p1,Y,a1,a2,a3⟩:=am8 e1;obtain⟨q1,q2,b1,b2,b3⟩:=am8 e2;rw[a3,b3,ih a b c x p1 q1 g1 g3 a1 b1,ihl m k r Y q2 Z g4 a2 b2]
  intro a b c x p q z h e1 e2;rcases rv_two I hK R z h (aP5 e1) (aP5 e2)with e|⟨l,m,_,J,rfl,rfl,_,d1,d2⟩;.subst e;rw[e1]at e2;exact ay e2
  .cases c with|tp k=>unfold ow at e1 e2;exact Uu l m k J p q d1 d2 e1 e2|_=>
    unfold ow at e1 e2;simp only at e1 e2;have e3:oQ s (.tp l)=oQ s (.tp m):=by funext c;unfold oQ;cases c<;>rfl
    rw[e3]at e1;exact ay<|e1.symm.trans e2
theorem bA5:∀{l}{z},pA s x l=al z->∃e:Nat->Bool,(∀j d,l[j]?=al d->ow s oC d x=al (e j))/\(z=bY↔∃j,j<l.length/\e j=bY)|[],z,h=>by unfold pA at h;simp_all|y::l,z,h=>by unfold pA at h;cases c:ow s oC y x with|none=>simp_all|some a=>cases d:pA s x l with|none=>simp_all|some b=>
    rw[c,d]at h;refine AD (bA5 d) λe b J=>⟨λj=>match j with|0=>a|j+1=>e j,λj d g=>?_,?_⟩;.cases j with|zero=>simp at g;exact g▸c|succ j=>exact b j d<|by simpa using g
    .have hz:=ay h;rw[<-hz,cf,J];constructor
     .rintro(q|⟨j,hj,q⟩);.exact⟨0,by simp,q⟩
      .exact⟨j+1,by simp_all,q⟩
     .rintro⟨j,hj,q⟩;cases j with|zero=>exact .inl q|succ j=>exact .inr ⟨j,by simpa using hj,q⟩
def cb9(I:Inv X pins W H sh)(hK:X.K=Γ.K)(R:Rp Γ C H s)(hx:RV Γ C H x xv)(rx:RelV xv xu){its:yH}(hl:RVL Γ C H l ys)(hv:Vals ys its)(h:pA s x l=al z)(hr:Room oC A):∃e:Value->Bool,(∀y,y∈its.toArray->iP A sh y xu (e y))/\its.toArray.any e=z:=by
 obtain⟨e,h1,h2⟩:=bA5 h;have len:its.length=l.length:=by rw[<-hv.length];exact hl.length
 have J:∀j u,its[j]?=al u->∃d y,l[j]?=al d/\ys[j]?=al y/\RV Γ C H d y/\RelV y u:=λj u g=>by
  have hj:j<l.length:=by rw[<-len];exact(ag.mp g).1
  obtain⟨y,g1,g2⟩:=hl.get<|ar hj;obtain⟨u',Uu,Z⟩:=hv.get g1;rw[g]at Uu;cases Uu;exact⟨_,y,ar hj,g1,g2,Z⟩
 classical
 let f:Value->Bool:=λu=>decide<|∃j,its[j]?=al u/\e j=bY;have hf:∀j u,its[j]?=al u->f u=e j:=λj u g=>by obtain⟨d,y,g1,g2,Uu,Z⟩:=J j u g;cases q:e j with|true=>exact gc ⟨j,g,q⟩|false=>refine gn λ⟨k,g',q'⟩=>?_;obtain⟨d',y',k1,k2,k3,k4⟩:=J k u g';have ey:y'=y:=k4.inj Z;subst ey;have:=bm4 I hK R _ d d' x _ _ _ Uu k3 (h1 j d g1) (h1 k d' k1);rw[q,q']at this;cases this
 refine⟨f,λu hu=>?_,?_⟩
 .obtain⟨j,hj,g⟩:=dj.mp (by simpa using hu:u∈its);have g':its[j]?=al u:=by rw[ar hj,g]
  obtain⟨d,y,g1,g2,Uu,Z⟩:=J j u g';rw[hf j u g'];exact(aY3 I hK R _ d x y xv u xu A _ (h1 j d g1) Uu hx Z rx hr).1
 .have e1:its.toArray.any f=bY↔z=true:=by
   rw[h2,List.any_toArray,lP];constructor
   .rintro⟨u,hu,q⟩;obtain⟨j,hj,g⟩:=dj.mp hu;have g':its[j]?=al u:=by rw[ar hj,g]
    exact⟨j,by lia,by rw[<-hf j u g'];exact q⟩
   .rintro⟨j,hj,q⟩;have Y:j<its.length:=by lia
    exact⟨its[j],lW Y,by rw[hf j _<|ar Y];exact q⟩
  cases z<;>cases q:its.toArray.any f;.rfl
  .have:=e1.mp q;cases this
  .rw[q]at e1;have:=e1.mpr rfl;cases this
  .rfl
variable{Γ:Gm}{X:Cx}
def aa1{r:ol α}{b:β}(h:r.bind f=.ok b t):∃a s,r=.ok a s/\f a s=.ok b t:=DV.R.bind_inv h
set_option tactic.hygienic true in def bz4(n:X.K=Γ.K)(i:Room (oC+1) X.A)(c:Bool){st}(I:Inv X Uu W H sh)(j:RelV x v)(p:RelV y u)(R:Rp Γ C H st)(q:RV Γ C H a x)(s:RV Γ C H b y)(h:rb a b st=.ok z Y):Y=st/\∀Q:Value->af->Prop,(∀d,Inv X Uu W H d->Q (.bool<|if c then !z else z) d)->wpAny (model X.prog X.w) X.A (dZ (if c then .NotIn else .In) v u) Q X.xe sh:=by unfold rb at h;cases b with
 |ref r=>simp only at h;cases m:st[r]? with|none=>cases m▸h|some o=>rw[m]at h;cases o with
   |J l=>simp only at h;cases e:pA st a l with|none=>cases e▸h|some w=>cases e▸h;refine AD (R.addr m) λys g d=>?_;have Z:=s.refE;subst Z;cases p;refine AH (I.list<|SqL.of g) λits b t _=>AD (cb9 I n R q j d b e (A:=X.A.in1) i.in1) λf d h2=>⟨rfl,λQ b=>?_⟩;cases c with|false=>exact SeqAt.in_listAt f t.isList d<|h2▸b _ I|true=>exact SeqAt.notIn_listAt f t.isList d<|h2▸b _ I
   |dc l=>
    simp only at h;split at h;case isFalse=>exact fb h
    rename_i J;cases h;refine AF (an5 J) λk e=>AD (R.obj r _ m) λkvs g d=>?_;have Z:=s.refE;subst Z;cases p;have ex:=aM9 e q;subst ex;have o:(oG a l).isSome=(aG5 kvs k).isSome:=by rcases d.val keyOf_inj e with⟨f,n⟩|⟨_,_,f,n,_⟩<;>rw[f,n]<;>rfl
    refine⟨rfl,λQ b=>?_⟩;rw[o]at b;cases c with|false=>exact cu9 (au9 i) I (aG4.k g) j b|true=>exact bd8 (au9 i) I (aG4.k g) j b
   |dit l=>
    simp only at h;split at h;case isFalse=>exact fb h
    rename_i J;cases h;refine AF (ap7 J) λk e=>AD (R.obj r _ m) λkvs g d=>?_;have Z:=s.refE;subst Z;cases p;refine AD (aJ6 e q) λkb ex m=>?_;subst ex;have o:(oG a l).isSome=(aG5 kvs k).isSome:=by rcases d.val keyT_inj e with⟨f,n⟩|⟨_,_,f,n,_⟩<;>rw[f,n]<;>rfl
    refine⟨rfl,λQ b=>?_⟩;rw[o]at b;cases c with|false=>exact cu9 (au9 i) I (aG4.t g m) j b|true=>exact bd8 (au9 i) I (aG4.t g m) j b
   |ro l=>exact fb h|ins c l=>exact fb h|dicF l=>exact fb h
 |_=>exact fb h
def bY8{st}(h:DV.qQ .le a b st=.ok d z):∃i j,a=.int i/\b=.int j:=by cases a with|int i=>(cases b with|int j=>exact⟨i,j,rfl,rfl⟩|_=>exact fb h)|_=>exact fb h
def aF7(h:DV.bp0 a=al (i,x)):a=.tp [.int i,.str x]:=by
 unfold DV.bp0 at h;split at h;.cases h;rfl
 .cases h
set_option tactic.hygienic true in def bw2{st}(h:DV.cu7 f a b st=.ok d z):∃i x j y,a=.tp [.int i,.str x]/\b=.tp [.int j,.str y]:=by
 unfold DV.cu7 at h;split at h;.rename_i i x j y e1 e2;exact⟨i,x,j,y,aF7 e1,aF7 e2⟩
 .exact fb h
def ord_inv{st}(c:op=.lt\/op=.gt\/op=.ge)(h:DV.qQ op a b st=.ok d z):(∃i j,a=.int i/\b=.int j)\/∃i x j y,a=.tp [.int i,.str x]/\b=.tp [.int j,.str y]:=by rcases c with rfl|rfl|rfl<;>
 (cases a with|int i=>(cases b with|int j=>exact .inl ⟨i,j,rfl,rfl⟩|_=>exact fb h)|tp l=>(cases b with
  |tp m=>first|exact .inr<|bw2 h|exact fb h
  |_=>exact fb h)|_=>exact fb h)
section
variable{pins:yA}{sh:af}{W:St}{H:Hp}{C:Nat->Addr}{st:n8}
end
def bU2(k:X.K=Γ.K)(l:Room (oC+1) X.A)op:OpR X (dZ<|bS0 op) (rOp Γ<|DV.qQ op):=by refineλUu s W H x y v u Q I Z c h=>AJ h λC st a AA=>AK AA λb d Y R f g AA=>AU AA λna e J q=>?_;cases op with
 |eq=>have J:DV.eqM a b st=.ok d Y:=J;unfold DV.eqM at J;cases e:ow st oC a b with|none=>simp_all|some z=>rw[e]at J;cases J;exact(aY3 I k R _ a b x y v u X.A z e f g Z c<|l.mono<|by lia).2.rc X.prog X.w X.xe _ ⟨.T z,H,I,rfl,q.here R rfl RV.blI⟩
 |ne=>have J:(match ow st oC a b with|some r=>.ok (.T<|!r) st|none=>.B:ol n9)=.ok d Y:=J;cases e:ow st oC a b with|none=>simp_all|some z=>rw[e]at J;cases J;exact(aY3 I k R _ a b x y v u X.A z e f g Z c<|l.mono<|by omega).2.ne X.prog X.w X.xe _ ⟨.T<|!z,H,I,rfl,q.here R rfl RV.blI⟩
 |lt=>
  rcases ord_inv (.inl rfl) J with⟨i,j,rfl,rfl⟩|⟨i,b,j,d,rfl,rfl⟩;.cases J;have ex:=f.intE;have a:=g.intE;subst ex;subst a;exact cq8 Uu s W H _ _ v u Q I Z c ⟨_,_,rfl,rfl,q.here R rfl RV.blI⟩
  .exact fb J|le=>obtain⟨i,j,rfl,rfl⟩:=bY8 J;cases J;have ex:=f.intE;have a:=g.intE;subst ex;subst a;exact cs3 Uu s W H _ _ v u Q I Z c ⟨_,_,rfl,rfl,q.here R rfl RV.blI⟩|gt=>
  rcases ord_inv (.inr<|.inl rfl) J with⟨i,j,rfl,rfl⟩|⟨i,b,j,d,rfl,rfl⟩;.cases J;have ex:=f.intE;have a:=g.intE;subst ex;subst a;exact cn3 Uu s W H _ _ v u Q I Z c ⟨_,_,rfl,rfl,q.here R rfl RV.blI⟩
  .exact fb J|ge=>
  rcases ord_inv (.inr<|.inr rfl) J with⟨i,j,rfl,rfl⟩|⟨i,b,j,d,rfl,rfl⟩;.cases J;have ex:=f.intE;have a:=g.intE;subst ex;subst a;exact cm5 Uu s W H _ _ v u Q I Z c ⟨_,_,rfl,rfl,q.here R rfl RV.blI⟩
  .exact fb J|isin=>have J:=J;refine AE (aa1 J) λz e a b=>?_;obtain⟨rfl,w⟩:=bz4 k l ce I Z c R f g a;cases b;exact w _ λh d=>⟨.T z,H,d,rfl,q.here R rfl RV.blI⟩|notin=>have J:=J;refine AE (aa1 J) λz e a b=>?_;obtain⟨rfl,w⟩:=bz4 k l bY I Z c R f g a;cases b;exact w _ λh d=>⟨.T<|!z,H,d,rfl,q.here R rfl RV.blI⟩
def bf9(h:RVL Γ C H l z)(e:((pj l.length i).bind λj=>l[j]?)=al d):∃v,atI z i=al v/\RV Γ C H d v:=by cases a:pj l.length i with|none=>simp_all|some j=>rw[a]at e;refine AD (h.get<|e) λv b b=>⟨v,?_,b⟩;unfold atI;have:ixN z.length i=al j:=h.length▸a;simp_all
def aH1{l:List n9}(e:((pj l.length i).bind λj=>l[j]?)=al d):d∈l:=by cases a:pj l.length i with|none=>simp_all|some j=>exact aF ((a▸e))
set_option tactic.hygienic true in def co9(t:X.K=Γ.K)(A:X.A.units+2<cLine):IxR X<|rOp Γ DV.ixM:=by refineλUu J Y s W H x y v u Q I j m h n=>AJ h λC y a AA=>AK AA λb d d R o hb AA=>AU AA λna d z q=>?_;unfold DV.ixM at z;cases a with
 |tp l=>cases b with
  |int i=>
   simp only at z;split at z;.rename_i d' e;cases z;obtain⟨p,xs,rfl,a,d⟩:=o.tupE;have Z:=hb.intE;subst Z;exact AD (bf9 d e) λw f g=>bI8 t Uu J Y s W H _ _ v u Q I j m ⟨p,xs,i,w,rfl,rfl,a,f,q.here R (ab5.mp na _<|aH1 e) g⟩ n
   simp_all|_=>exact fb z
 |str l=>cases b with
  |int i=>
   simp only at z;split at z;.rename_i c e;cases z;have a:=o.strL;have ex:=o.strE;have Z:=hb.intE;subst ex;subst Z;exact ix_str Uu J Y s W H _ _ v u Q I j m ⟨⟨l.toArray⟩,i,c,rfl,rfl,by show l.toArray.size<=_;exact aJ▸au a qt,e,q.here R rfl<|RV.strI<|by simp;decide⟩ n
   simp_all|_=>exact fb z
 |ref r=>have ex:=o.refE;subst ex;simp only at z;cases a:y[r]? with|none=>simp_all|some o=>rw[a]at z;cases o with
   |J l=>cases b with
    |int i=>
     simp only at z;split at z;.rename_i d' e;cases z;cases hb.intE;exact AD (R.addr a) λxs f d=>AD (bf9 d e) λw g o=>have c:=R.wf _ _ a;aM3 t Uu J Y s W H _ _ v u Q I j m ⟨C r,xs,i,w,rfl,rfl,SqL.of f,g,q.here R (ab5.mp c _<|aH1 e) o⟩ n
     simp_all|_=>exact fb z
   |ro l=>cases b with
    |int i=>
     simp only at z;split at z;.rename_i d' e;cases z;cases hb.intE;exact AD (R.obj _ _ a) λxs f d=>AD (bf9 d e) λw g o=>have c:=R.wf _ _ a;aM3 t Uu J Y s W H _ _ v u Q I j m ⟨C r,xs,i,w,rfl,rfl,f.1,g,q.here R (ab5.mp c _<|aH1 e) o⟩ n
     simp_all|_=>exact fb z
   |dc l=>
    simp only at z;split at z;case isFalse=>simp_all
    rename_i p;refine AF (an5 p) λk b=>AD (R.obj r _ a) λkvs f d=>?_;cases aM9 b hb;cases j;rcases d.val keyOf_inj b with⟨i,_⟩|⟨e,o,i,s,t,u⟩;.simp_all
    .cases i▸z;have c:=R.wf _ _ a;unfold on at c;rw[ae]at c;have g:aG4 H (C r) (kV k) (al o):=s▸aG4.k f;exact mO (as3 I g) gT.lookup (aF6 A I g m λw x k v=>⟨o,H,k,v,q.here R (ab5.mp c.2 _ u) t⟩) n|dit l=>
    simp only at z;split at z;case isFalse=>simp_all
    rename_i p;refine AF (ap7 p) λk b=>AD (R.obj r _ a) λkvs f d=>AD (aJ6 b hb) λkb Z a2=>?_;subst Z;cases j;rcases d.val keyT_inj b with⟨i,_⟩|⟨e,o,i,s,t,u⟩;.simp_all
    .rw[i]at z;cases z;have c:=R.wf _ _ a;unfold on at c;rw[ae]at c;have g:aG4 H (C r) (.ref kb) (al o):=s▸aG4.t f a2;exact mO (as3 I g) gT.lookup (aF6 A I g m λw x k v=>⟨o,H,k,v,q.here R (ab5.mp c.2 _ u) t⟩) n|ins c l=>simp_all|dicF l=>simp_all
 |_=>simp_all
def aY7 n d i:HT.sIx n d (al i)=o9 n i:=by
 show(if i<0 then(i+(n)).toNat else min i.toNat n)=_;unfold o9;by_cases h:i<0;.rw[dO h,ef<|by lia]
 .rw[ef h,dO<|by lia]
def by5(h:RVL Γ C H l J)z hi:RVL Γ C H (oU l z hi) (aR7 J z hi):=by
 unfold oU aR7;have a:HT.sIx J.length 0 z=ph l.length z:=by cases z with|none=>rfl|some i=>rw[aY7,h.length];rfl
 have b:HT.sIx J.length J.length hi=pQ l.length hi:=by cases hi with|none=>exact h.length|some i=>rw[aY7,h.length];rfl
 exact a▸b▸(h.drop _).take _
def aM7:∀d∈oU l h a,d∈l:=λd a=>List.mem_of_mem_drop<|gf a
def bu7(l:List α)h hi:(oU l h hi).length<=l.length:=by unfold oU;rw[bQ,fS];lia
def co3 z hi n:b8 z hi 1 n=(aq<|pQ n hi-ph n z).map (ph n z+·):=by
 rw[<-sliceRange_one];unfold b8;have cl:∀i:Int,max 0 (min (if i<0 then i+(n)else i) (n))=((o9 n i)):=λi=>by
  unfold o9;by_cases h:i<0;.rw[dO h,ef<|by omega];omega
  .rw[ef h,dO<|by omega];omega
 simp only[if_true];cases z<;>cases hi<;>simp only[cl,pQ]<;>rfl
theorem aQ3{l:List Nat}:∀a k,a+k<=l.length->((aq k).map (a+·)).filterMap (λx=>l.toArray[x]?)=(l.drop a).take k
 |a,0,_=>by simp|a,k+1,h=>by
  rw[dX,aS,List.filterMap_append,aQ3 a k<|by lia];have b:a+k<l.length:=by lia
  rw[List.take_add_one,List.getElem?_drop];simp[b]
def aX8 l h hi:gr ⟨l.toArray⟩ h hi=⟨(oU l h hi).toArray⟩:=by
 unfold gr;have a:(⟨l.toArray⟩:Str).length=l.length:=by show l.toArray.size=_;simp
 rw[a,co3];have a:pQ l.length hi<=l.length:=by cases hi with|none=>exact aj _|some i=>show o9 l.length i<=_;unfold o9;lia
 have ha:ph l.length h<=l.length:=by cases h with|none=>exact cy _|some i=>show o9 l.length i<=_;unfold o9;lia
 unfold oU;generalize pQ l.length hi=b at*;generalize ph l.length h=a at*;by_cases c:((1:Int)==1&&((aq<|b-a).map (a+·)).length==l.length)=bY
 .rw[dO c];have:b-a=l.length:=by simp_all
  have d:a=0\/l.length=0:=by lia
  grind
 .rw[ef c];by_cases c:a<=b;.have e:=aQ3 (l:=l) a (b-a) (by omega);lia
  grind
def rSl(Γ:Gm):V->Option Int->Option Int->Hp->VK->Prop:=λx c e H Q=>∃C s a d b,Rp Γ C H s/\RV Γ C H a x/\a.bnd s.length=bY/\pR a c e s=.ok d b/\ag0 Γ C s H d b Q
def cs2(u:X.K=Γ.K):SlR X<|rSl Γ:=by refineλJ s W H x v vl f Y b i Q I j k m n h=>AG h λC x a d c R c na AA=>AB AA λUu q=>?_;unfold pR at Uu;cases a with
 |tp l=>
  cases Uu;obtain⟨p,xs,⟨rfl,r⟩,a,d⟩:=c.tupZ;refine bG7 u J s W H _ v vl f Y b i Q I j k m n ⟨p,xs,rfl,a,λt H' e p a=>AB (R.same e) λg t=>?_⟩;have o:=by5 (RVL.mono g _ _ na d) Y b;refine q _ _ _ g (aj _) (aQ4 na aM7) (RV.tupC p (λz=>?_) o) t;rcases a with a|⟨rfl,ex⟩;.exact a
  .rw[ex];refine e _ _<|r ?_;have Z:(oU l Y b).length=l.length:=by rw[<-o.length,ex,d.length]
   rwa[bk5 Z]at z|str l=>cases Uu;have Z:=c.strL;cases c.strE;refine ca7 J s W H _ v vl f Y b i Q I j k m n ⟨_,rfl,by show l.toArray.size<=_;exact aJ▸au Z qt,?_⟩;rw[aX8];exact q.here R rfl<|RV.strI<|au (bu7 l Y b) Z|ref r=>have ex:=c.refE;subst ex;simp only at Uu;cases a:x[r]? with|none=>simp_all|some o=>rw[a]at Uu;cases o with|J l=>obtain⟨rfl,rfl⟩:=qr Uu;exact AD (R.addr a) λxs c d=>have e:=R.wf _ _ a;bq1 u J s W H _ v vl f Y b i Q I j k m n ⟨C r,xs,rfl,SqL.of c,λp a=>q.alloc R (by5 d Y b) (aQ4 e aM7) a⟩|_=>exact fb Uu
 |_=>exact fb Uu
variable{Γ:Gm}{X:Cx}
def rCl(Γ:Gm)(f:List n9->n8->ol n9):List V->Hp->VK->Prop:=λb H Q=>∃C s l d a,Rp Γ C H s/\RVL Γ C H l b/\oa s.length l=bY/\f l s=.ok d a/\ag0 Γ C s H d a Q
def RVL.one(h:RVL Γ C H [d] z):∃x,z=[x]/\RV Γ C H d x:=by obtain⟨x,r,rfl,a,J⟩:=h.uncons;exact J.unnil▸⟨x,rfl,a⟩
def bQ8 a b c:mx3 a b c=max (max a b) c:=by unfold mx3 mx;lia
noncomputable def biN:o8->Option (String×Nat)|.len=>al ("len",1)|.abs=>al ("abs",1)|.min2=>al ("min",2)|.max2=>al ("max",2)|.max3=>al ("max",3)|_=>aT
theorem zY:∀{l}{a},pd l=al a->l=a.map DV.D.int|[],a,h=>by unfold pd at h;simp_all|d::l,a,h=>by cases d with
  |int i=>have h:(pd l).map (i::·)=al a:=h;cases e:pd l with|none=>simp_all|some m=>cases e▸h;rw[zY e];rfl
  |_=>cases h
theorem ar9:∀{l}{a},pB l=al a->l=a.map DV.D.T|[],a,h=>by unfold pB at h;simp_all|d::l,a,h=>by cases d with
  |T i=>have h:(pB l).map (i::·)=al a:=h;cases e:pB l with|none=>simp_all|some m=>cases e▸h;rw[ar9 e];rfl
  |_=>cases h
theorem RVL.ints:∀{a:List Int}{z},RVL Γ C H (a.map DV.D.int) z->z=a.map V.int|[],_,h=>h.unnil|i::a,_,h=>by obtain⟨x,r,rfl,a,J⟩:=RVL.uncons h;rw[a.intE,RVL.ints J];rfl
theorem RVL.bls:∀{a:List Bool}{z},RVL Γ C H (a.map DV.D.T) z->z=a.map V.T|[],_,h=>h.unnil|i::a,_,h=>by obtain⟨x,r,rfl,a,J⟩:=RVL.uncons h;rw[a.blE,RVL.bls J];rfl
def bm5(h:re f l s=.ok d s'):∃a,l=[a]/\f a s=.ok d s':=by match l,h with|[a],h=>exact⟨a,rfl,h⟩|[],h=>exact fb h|_::_::_,h=>exact fb h
set_option tactic.hygienic true in def bl3(i:X.K=Γ.K)(j:X.calm=bY)(g:biN b=al (nm,k)):ae4 X (.builtin nm) (rCl Γ<|pV b):=by refineλz s W H a f Q I r h=>AG h λC st l d Y R Z nl AA=>AB AA λJ q=>?_;cases b with
 |len=>cases g;have J:=J;obtain⟨a,rfl,b⟩:=bm5 J;clear J;obtain⟨x,rfl,c⟩:=Z.one;unfold DV.bE8 at b;cases a with
  |tp l=>cases b;obtain⟨p,ys,rfl,e,a⟩:=c.tupE;exact ar2 i z s W H _ f Q I r ⟨p,ys,rfl,.inr e,a.length▸q.here R rfl RV.intI⟩|str l=>cases b;have a:=c.strL;have e:=c.strE;subst e;refine aD0 z s W H _ f Q I r ⟨_,rfl,by show l.toArray.size<=_;exact aJ▸au a qt,?_⟩;show Q (.int ((l.toArray.size))) H;exact aJ▸q.here R rfl RV.intI|ref n=>have e:=c.refE;subst e;simp only at b;cases c:st[n]? with|none=>simp_all|some o=>rw[c]at b;cases o with|J l=>cases b;refine AD (R.addr c) λys m a=>ar2 i z s W H _ f Q I r ⟨C n,ys,rfl,.inl<|SqL.of m,?_⟩;rw[a.length];exact q.here R rfl RV.intI|ro l=>cases b;refine AD (R.obj _ _ c) λys m a=>ar2 i z s W H _ f Q I r ⟨C n,ys,rfl,.inl m.1,?_⟩;rw[a.length];exact q.here R rfl RV.intI|dc l=>simp_all|dit l=>simp_all|ins c l=>simp_all|dicF l=>simp_all
  |_=>simp_all
 |abs=>
  cases g;have J:(match pd l with|some [i]=>.ok (.int<|if i<0 then-i else i) st|_=>.B:ol n9)=.ok d Y:=J;split at J;.rename_i i e;cases J;have:=zY e;subst this;have:=RVL.ints Z;subst this;exact bv7 z s W H _ f Q I r ⟨i,rfl,q.here R rfl RV.intI⟩
  simp_all|min2=>
  cases g;have J:(match pd l with|some [a,b]=>.ok (.int<|if b<a then b else a) st|_=>.B:ol n9)=.ok d Y:=J;split at J;.rename_i a b e;cases J;have:=zY e;subst this;have:=RVL.ints Z;subst this;exact bk9 j z s W H _ f Q I r ⟨_,_,rfl,q.here R rfl RV.intI⟩
  simp_all|max2=>
  cases g;have J:(match pd l with|some [a,b]=>.ok (.int<|if b>a then b else a) st|_=>.B:ol n9)=.ok d Y:=J;split at J;.rename_i a b e;cases J;have:=zY e;subst this;have:=RVL.ints Z;subst this;exact bi9 j z s W H _ f Q I r ⟨_,_,rfl,q.here R rfl RV.intI⟩
  simp_all|max3=>
  cases g;have J:(match pd l with|some [a,b,c]=>.ok (.int<|max (max a b) c) st|_=>.B:ol n9)=.ok d Y:=J;split at J;.rename_i a b c e;cases J;have:=zY e;subst this;have:=RVL.ints Z;subst this;refine bf0 j z s W H _ f Q I r ⟨_,_,_,rfl,?_⟩;rw[bQ8];exact q.here R rfl RV.intI
  simp_all|_=>cases g
def aP4:∀j:Nat,j<=9->bv (toString (j:Int))=(⟨[48+j].toArray⟩):=by decide
set_option tactic.hygienic true in def bY3:ae4 X (.type "int") (rCl Γ<|pV .int):=by
 refineλJ s W H a f Q I r h=>AG h λC a l d g R Z nl AA=>AB AA λz q=>?_;have z:(match pB l with|some [b]=>.ok (.int<|if b then 1 else 0) a|some _=>.B|none=>DV.bG8 l a:ol n9)=.ok d g:=z;split at z;.rename_i b e;cases z;have:=ar9 e;subst this;have:=RVL.bls Z;subst this;exact bg2 J s W H _ f Q I r<|.inr ⟨b,rfl,q.here R rfl RV.intI⟩
 .simp_all
 .unfold DV.bG8 at z;split at z
  .rename_i c _ _;split at z;.rename_i hc;cases z;obtain⟨x,Y,rfl,a,b⟩:=Z.uncons;cases(b);have:=a.strE;subst this;obtain⟨u,rfl,t,rfl⟩:=jM r;obtain⟨j,hj,rfl⟩:∃j,j<=9/\c=48+j:=⟨c-48,by omega,by omega⟩;rw[(aP4 j hj).symm];refine PySem.W.KIN.call_num (by lia) (by lia) ⟨.int<|j,H,I.tok _,⟨_,rfl⟩,?_⟩;have:=q.here R rfl<|RV.intI;simp_all
   simp_all
  .exact fb z
set_option tactic.hygienic true in def cg2:ae4 X (.type "str") (rCl Γ<|pV .str):=by
 refineλa0 s W H a a Q I r h=>AG h λC a l d b R Z c AA=>AB AA λz q=>?_;have z:DV.bJ7 l a=.ok d b:=z;unfold DV.bJ7 at z;split at z
 .rename_i i _;split at z
  .rename_i hi;cases z;obtain⟨x,J,rfl,a,Y⟩:=Z.uncons;cases(Y);have:=a.intE;subst this;obtain⟨u,rfl,t,rfl⟩:=jM r;obtain⟨j,rfl⟩:∃j:Nat,i=(j):=⟨i.toNat,by lia⟩;have a:j<=9:=by lia
   refine PySem.P.str_of_int ?_ ⟨.str ⟨[48+j].toArray⟩,H,I.tok _,⟨s.toks,?_⟩,?_⟩;.have:(j:Int).natAbs.log2<=(j:Int).natAbs:=Nat.log2_le_self _;lia
   .rw[<-aP4 j a]
   .have:=q.here R rfl<|RV.strI<|by show 1<=ot;decide
    simp_all
  simp_all
 .rename_i w _;cases z;obtain⟨x,J,rfl,a,Y⟩:=Z.uncons;cases(Y);have e:=a.strE;subst e;obtain⟨u,rfl,t,rfl⟩:=jM r;exact PySem.P.str_of_str ⟨.str ⟨w.toArray⟩,H,I,⟨_,rfl⟩,q.here R rfl a⟩
 .exact fb z
noncomputable def as8:Nat->String|1=>"int"|2=>"bool"|3=>"str"|4=>"tuple"|_=>"list"
def bO4{K}k(hk:1<=k/\k<=5):bz K (.type "NoneType") (.type<|as8 k)=al ce/\bz K (.type "bool") (.type<|as8 k)=al (k==1||k==2)/\bz K (.type "int") (.type<|as8 k)=al (k==1)/\bz K (.type "str") (.type<|as8 k)=al (k==3)/\bz K (.type "tuple") (.type<|as8 k)=al (k==4)/\bz K (.type "list") (.type<|as8 k)=al (k==5):=by obtain⟨J,z⟩:=hk;rcases(by lia:k=1\/k=2\/k=3\/k=4\/k=5)with h|h|h|h|h<;>subst h<;>refine⟨?_,?_,?_,?_,?_,?_⟩<;>with_unfolding_all rfl
def aS6{s}{E:yB}{Q:yB}(I:Inv X J W H s)(Z:SqT X.K H a Y)(e:bz X.K (.type "tuple") c=al b)(h:∀tk,Q (.bool b) {s with toks:=tk}):wpAny (model X.prog X.w) A (call (.builtin "isinstance") [.ref a,c]) Q E s:=by obtain⟨a,_,⟨o,a,b,_⟩,_⟩:=I.tuple Z;exact bW kP I.kIn ⟨o,a,b⟩ e (λz=>nomatch z) h
def ca2(i:X.K=Γ.K)(e:1<=k/\k<=5):ae4 X (.builtin "isinstance") (λY H Q=>∃x,Y=[x,.ty<|as8 k]/\rCl Γ (re<|rB k) [x] H Q):=by intro a s W H Y a Q I r h;obtain⟨x,rfl,C,g,l,d,J,R,f,nl,b,q⟩:=h;obtain⟨a,rfl,z⟩:=bm5 b;clear b;obtain⟨u,b,rfl,c,b⟩:=bm1 r;cases b;refine AD f.one λx' b f=>?_;cases b;obtain⟨b,h,j,l,m,k5⟩:=bO4 k e;unfold rB at z;cases a with
 |N=>cases z;have e:=f.nonE;subst e;exact jn I c .N b λtk=>⟨.T _,H,I.tok _,rfl,q.here R rfl RV.blI⟩|T b=>cases z;have e:=f.blE;subst e;exact jn I c (.T b) h λtk=>⟨.T _,H,I.tok _,rfl,q.here R rfl RV.blI⟩|int b=>cases z;have e:=f.intE;subst e;exact jn I c (.int b) j λtk=>⟨.T _,H,I.tok _,rfl,q.here R rfl RV.blI⟩|str b=>cases z;have e:=f.strE;subst e;exact jn I c (.str _) l λtk=>⟨.T _,H,I.tok _,rfl,q.here R rfl RV.blI⟩|tp l=>cases z;obtain⟨p,a,rfl,Z,b⟩:=f.tupE;cases c;exact aS6 I (i▸Z) m λtk=>⟨.T _,H,I.tok _,rfl,q.here R rfl RV.blI⟩|ref n=>have e:=f.refE;subst e;have z:(match g[n]? with|some<|.J _=>.ok (.T<|k==5) g|_=>.B:ol n9)=.ok d J:=z;cases a:g[n]? with|none=>simp_all|some o=>rw[a]at z;cases o with|J l=>cases z;exact AD (R.addr a) λys a b=>jn I c (.J a) k5 λtk=>⟨.T _,H,I.tok _,rfl,q.here R rfl RV.blI⟩|_=>simp_all
 |_=>simp_all
variable{X:Cx}
def bL4{bs:List Bool}{its:yH}(r:Vals (bs.map V.T) its){i:Nat}(h:its[i]?=al v):∃z,bs[i]?=al z/\v=Value.bool z:=by induction bs generalizing its i with|nil=>rw[eK]at r;cases r;simp at h|cons b bs ih=>rw[aQ]at r;cases r with|cons r1 r2=>cases i with|zero=>cases r1;have:=ay h;exact⟨b,rfl,this.symm⟩|succ i=>exact ih r2 h
def aY1{bs:List Bool}:(aq bs.length).all (λi=>bs.getD i ce)=bs.all id:=by
 rw[fj,aG,aG];constructor;.intro h b hb;obtain⟨i,hi,e⟩:=dj.mp hb;have:=h i<|bC.mpr hi;rw[bE,ar hi]at this;rw[<-e];exact this
 .intro h i hi;have hi:=bC.mp hi;rw[bE,ar hi];exact h _<|lW hi
def bj6{K}(c:X.calm=bY)(b:X.K=K):ae4 X (.builtin "all") (λY H Q=>∃(a:Addr)(bs:List Bool),Y=[.ref a]/\SqL K H a (bs.map V.T)/\Q (.T<|bs.all id) H):=by
 subst b;intro a s W H Y a Q I r h;obtain⟨a,bs,rfl,b,q⟩:=h;obtain⟨u,rfl,d⟩:=jM r;cases d;refine AH (I.list b) λits Z b d=>?_;have d:=Z.length;rw[av]at d;refine call_all_walk<|d6 b.isList ?_;have d:a<s.heap.objs.size:=AE b λo _ e _=>aM e;have e:=mR (prog:=X.prog) (w:=X.w) (A:=X.A.in1) (I.ok.hd c) s.heap.objs.size a (aI d) its.toArray;refine⟨_,_,_,_,_,_,λi=>bs.getD i ce,rfl,e,⟨⟨_,aW _ rfl,rfl,rfl⟩,?_⟩,λi v a a a J a=>?_,λh' tk k=>?_⟩;.exact AD b.isList λo e r=>⟨o,ak _ e,r⟩
 .refine AD (bL4 Z<|have J:its.toArray[i]?=al v:=J;c8▸J) λz b c=>?_;subst c;refine cL ?_;have:bs.getD i ce=z:=by rw[bE,b];rfl
  exact this▸a
 .have es:its.toArray.size=bs.length:=by rw[aJ];lia
  rw[es,aY1];refine⟨.T<|bs.all id,H,I.kept λb o q=>k b o ?_<|ak _ q,rfl,q⟩;intro z;have a:=by simpa using z
  exact ij (aM q) (a▸bO _)
noncomputable def sgV(x:List Nat):List V:=x.map λc=>.str ⟨#[c]⟩
def bQ5{z:yH}(J:vs.length=z.length)(h:∀(i:Nat)(x:V)(u:Value),vs[i]?=al x->z[i]?=al u->RelV x u):Vals vs z:=by induction vs generalizing z with
 |nil=>cases z with|nil=>exact .nil|cons _ _=>cases J
 |cons v vs b=>cases z with|nil=>cases J|cons a z=>exact .cons (h 0 v a rfl rfl) (b (by simpa using J) λi x u a b=>h (i+1) x u a b)
def aw1{z:yK}(h:ItemsOf (SignAt ⟨x.toArray⟩) z x.length):Vals (sgV x) z.toList:=by
 have Y:(sgV x).length=z.toList.length:=by unfold sgV;rw[av];simpa using h.1.symm
 refine bQ5 Y λi v u a b=>AE (h.2 i u<|by simp_all) λc t J b=>?_;unfold sgV at a;rw[aK]at a;have J:x[i]?=al c:=by simp_all
 cases J▸a;exact⟨t,b⟩
def aK8(b:X.calm=bY):ae4 X (.type "tuple") (λa H Q=>∃x,a=[.str ⟨x.toArray⟩]/\x.length<=ot/\∀l,H l=aT->Q (.ref l) (upd H l<|.tp<|sgV x)):=by
 intro z s W H a a Q I r h;obtain⟨x,rfl,Y,q⟩:=h;obtain⟨u,rfl,a⟩:=jM r;obtain⟨t,rfl⟩:=a;have c:(sgV x).length<=a7:=by unfold sgV;rw[av];exact au Y qt
 refine call_tuple_str (I.ok.hd b) _ t (λh' tk J kp a=>?_) (aJ▸au Y qt);have a:ItemsOf (SignAt ⟨x.toArray⟩) J x.length:=by simp_all
 have d:=aw1 a;have Z:=I.kept (t':=tk) kp;have a:=Z.laid (t':=tk) (λb o e=>ak _ e) (aj _) (show ad9 X.prog X.w _ _ _<|.tp (sgV x)from⟨c,J.toList,d,nD _ _⟩);exact⟨.ref h'.objs.size,_,a,rfl,q _<|Z.hok.fresh<|aj _⟩
def aV1(b:X.calm=bY):ae4 X (.type "list") (λJ H Q=>∃x,J=[.str ⟨x.toArray⟩]/\x.length<=ot/\∀l,H l=aT->Q (.ref l) (upd H l<|.J<|sgV x)):=by
 intro Y s W H J a Q I r h;obtain⟨x,rfl,a,q⟩:=h;obtain⟨u,rfl,Z⟩:=jM r;obtain⟨t,rfl⟩:=Z;have c:(sgV x).length<=a7:=by unfold sgV;rw[av];exact au a qt
 refine call_list_str (I.ok.hd b) _ t (λh' tk z d kp e b=>?_) (aJ▸au a qt);have b:ItemsOf (SignAt ⟨x.toArray⟩) z x.length:=by simp_all
 have a:=aw1 b;exact⟨.ref s.heap.objs.size,_,I.laid kp (aj _) (show ad9 X.prog X.w _ h' _<|.J (sgV x)from⟨c,z.toList,d,a,e⟩),rfl,q _<|I.hok.fresh<|aj _⟩
section
variable{Γ:Gm}{C C':Nat->Addr}{H H' H1 H2 H3:Hp}{clos:yC}{s s':n8}
def zL(b:Cells clos H)(e:H a=al u)(c:∀o,u≠.frz o (.own a)):isC clos a≠true:=λz=>AE (b.at z) λo v q _=>by grind
def SqT.dropC{K}(b:Cells clos H)(h:SqT K H a J):SqT K (ad0 clos H) a J:=by
 rcases h with(h|⟨o,h⟩)|h;.exact .inl<|.inl<|(ad0.ne<|zL b h<|λ_ z=>by cases z)▸h
 .exact .inl<|.inr ⟨o,(ad0.ne<|zL b h<|λ_ z=>by cases z)▸h⟩
 .exact .inr h
def SqL.dropC{K}(b:Cells clos H)(h:SqL K H a J):SqL K (ad0 clos H) a J:=by
 rcases h with(h|⟨o,h⟩)|h;.exact .inl<|.inl<|(ad0.ne<|zL b h<|λ_ z=>by cases z)▸h
 .exact .inl<|.inr ⟨o,(ad0.ne<|zL b h<|λ_ z=>by cases z)▸h⟩
 .exact .inr h
theorem SqF.dropC{K}(hc:Cells clos H)(h:SqF K H a J):SqF K (ad0 clos H) a J:=by
 refine⟨SqL.dropC hc h.1,λH2 k=>?_⟩;have hk:Kp H<|λb=>if isC clos b=bY then H b else H2 b:=λb o e f=>by
  by_cases z:isC clos b=bY;.show(if isC clos b=bY then H b else H2 b)=_;rw[dO z];exact e
  .show(if isC clos b=bY then H b else H2 b)=_;rw[ef z];exact k b o (by rw[ad0.ne z];exact e) f
 have q:=h.2 _ hk;have at_:∀u,(if isC clos a=bY then H a else H2 a)=al u->(∀o,u≠.frz o (.own a))->H2 a=al u:=λu e hu=>by
  by_cases z:isC clos a=bY;.rw[dO z]at e;exact ij z<|zL hc e hu
  .rw[ef z]at e;exact e
 rcases q with(q|⟨o,q⟩)|q;.exact .inl<|.inl<|at_ _ q<|λ_ z=>by cases z
 .exact .inl<|.inr ⟨o,at_ _ q<|λ_ z=>by cases z⟩
 .exact .inr q
mutual theorem RV.dropC(b:Cells clos H):∀(d:n9)(v:V),d.ncl=bY->RV Γ C H d v->RV Γ C (ad0 clos H) d v|.N,_,_,h=>h|.T _,_,_,h=>h|.int _,_,_,h=>h|.str _,_,_,h=>h|.tp l,_,n,h=>AL h λa J e q r=>⟨a,J,e,⟨SqT.dropC b q.1,λz=>(ad0.ne<|zL b (q.2 z) (λ_ z=>by cases z))▸q.2 z⟩,RVL.dropC b l J n r⟩|.ref k,_,_,h=>h|.fn _,_,_,h=>h|.clo id a,_,n,h=>by cases n theorem RVL.dropC(a:Cells clos H):∀(l:List n9)(z:List V),pk l=bY->RVL Γ C H l z->RVL Γ C (ad0 clos H) l z|[],_,_,h=>h|d::l,_,n,h=>by unfold pk at n;rw[ae]at n;exact AL h.uncons λx r e b J=>e▸.cons (RV.dropC a d x n.1 b) (RVL.dropC a l r n.2 J)end
theorem RVD.dropC(b:Cells clos H):∀l a,pk (l.map (·.2))=bY->RVD z Γ C H l a->RVD z Γ C (ad0 clos H) l a|[],_,_,h=>h|(d,e)::l,_,n,h=>by refine AK h λk v r a c J d=>?_;rw[aQ]at n;unfold pk at n;rw[ae]at n;exact⟨k,v,r,a,c,RV.dropC b e v n.1 J,RVD.dropC b l r n.2 d⟩
theorem RO.dropC(b:Cells clos H)(h:RO Γ C H a o)(n:o.ncl=bY):RO Γ C (ad0 clos H) a o:=by cases o with|J l=>exact AD h λJ e r=>⟨J,(ad0.ne<|zL b e<|λ_ z=>by cases z)▸e,RVL.dropC b l J n r⟩|ro l=>exact AD h λJ e r=>⟨J,SqF.dropC b e,RVL.dropC b l J n r⟩|dc l=>exact AD h λJ e r=>⟨J,(ad0.ne<|zL b e<|λ_ z=>by cases z)▸e,RVD.dropC b l J n r⟩|dit l=>exact AD h λJ e r=>⟨J,(ad0.ne<|zL b e<|λ_ z=>by cases z)▸e,RVD.dropC b l J n r⟩|dicF l=>exact AE h λob J e r=>⟨ob,J,(ad0.ne<|zL b e<|λ_ z=>by cases z)▸e,RVD.dropC b l J n r⟩|ins c l=>exact AK h λCc Y a Z c e r=>⟨Cc,Y,a,Z,c,(ad0.ne<|zL b e<|λ_ z=>by cases z)▸e,RVD.dropC b l a n r⟩
def TabsH.dropC(b:Cells clos H)(h:TabsH T H):TabsH T<|ad0 clos H:=λy a=>AH (h y a) λps e t c=>⟨ps,(ad0.ne<|zL b e<|λ_ z=>by cases z)▸e,t,λa J q=>AD (c a J q) λUu c a=>⟨Uu,c,(ad0.ne<|zL b a<|λ_ z=>by unfold qo at z;cases z)▸a⟩⟩
theorem Rp.dropC(a:Cells clos H)(r:Rp Γ C H s)(n:s.all rD=bY):Rp Γ C (ad0 clos H) s:=⟨r.inj,λi o e=>RO.dropC a (r.obj i o e) (aG.mp n o<|aF e),r.wf,TabsH.dropC a r.tab⟩
def Gr.caught{kd:Str->Option cA}(h:Caught clos N kd W H1 H2)(g:Gr C s H2 C' s' H3):Gr C s H1 C' s'<|ad0 clos H3:=by
 have nc:∀b o,H1 b=al o->isC clos b≠true:=λb o e z=>by rw[h.free b z]at e;cases e
 have up:∀b o,H1 b=al o->H2 b=al o:=λb o e=>by rw[h.ne b<|nc b o e];exact e
 refine⟨⟨g.w.map,λb o e f=>?_⟩,g.le,λi Z Uu=>?_,g.kd,λb e=>?_,λb o kvs e=>?_,λb o e J Y=>?_⟩;.rw[ad0.ne<|nc b o e];exact g.w.kp b o (up b o e) f
 .have:=g.new i Z Uu;by_cases z:isC clos (C' i)=bY;.exact h.free _ z
  .rw[<-h.ne _ z];exact this
 .cases q:H1 b with|none=>exact ij q e|some o=>rw[ad0.ne<|nc b o q];exact g.st b<|by rw[up b o q];simp
 .rw[ad0.ne<|nc b _ e];exact g.fz b o kvs<|up b _ e
 .rw[ad0.ne<|nc b o e];exact g.fr b o (up b o e) J Y
def bl8(h:∀b,isC clos b=bY->H' b=aT):af9 H'<|Put clos H H':=λb o e=>by rw[Put.ne<|λz=>by simp_all];exact e
def Gr.put(a:Cells clos H)(c:∀b,isC clos b=bY->H' b=aT)(a:∀b o,Γ.K.lookup b=al o->H b=aT)(d:Rp Γ C' H' s')(g:Gr C s (ad0 clos H) C' s' H'):Gr C s H C' s'<|Put clos H H':=by
 refine⟨⟨g.w.map,λb o e f=>?_⟩,g.le,λi h Z=>?_,g.kd,λb e=>?_,λb o a e=>?_,λb o e j k=>?_⟩
 .by_cases z:isC clos b=bY;.exact Put.cell z▸e
  .exact Put.ne z▸g.w.kp b o (ad0.ne z▸e) f
 .have hd:=g.new i h Z;by_cases z:isC clos (C' i)=bY;.have J:=c _ z;obtain⟨o,c⟩:∃o,s'[i]?=al o:=⟨s'[i],ar Z⟩;have h:=d.obj i o c;cases o with|J l=>refine AD h λY e _=>?_;lia|ro l=>refine AD h λY e _=>?_;rcases e.1 with(e|⟨_,e⟩)|⟨ob,its,n,e,_⟩;all_goals simp_all|dc l=>refine AD h λY e _=>?_;lia|dit l=>refine AD h λY e _=>?_;lia|dicF l=>refine AE h λ_ Y e _=>?_;lia|ins _ _=>refine AK h λ_ _ _ _ _ e _=>?_;lia
  .rw[ad0.ne z]at hd;lia
 .by_cases z:isC clos b=bY;.exact Put.cell z▸e
  .exact Put.ne z▸g.st b (ad0.ne z▸e)
 .by_cases z:isC clos b=bY;.exact Put.cell z▸e
  .exact Put.ne z▸g.fz b o a (ad0.ne z▸e)
 .by_cases z:isC clos b=bY;.exact Put.cell z▸e
  .exact Put.ne z▸g.fr b o (ad0.ne z▸e) j k
def bt9(hT:TabsH T H)(nd:(T.map (·.1)).Nodup)(hm:(P,q)∈T)(go:∀(f:Addr)(H':Hp),bm3 H H'->(∀b,H b≠aT->H' b≠aT)->TabsH T H'->H f=aT->(∃pm Z J,H' f=al (ay8 f<|cB "<lambda>" q params body scope (af8 cells scope.names []) pm (.ref Z) J)/\H' Z=al (qo Z q))->Q (.ref f) H'):cv7 cells P q params body scope pos W H Q:=by
 obtain⟨ps,hP,ht,hc⟩:=hT _ hm;refine⟨ps,hP,ht,λhn Z f pm J n1 n2 ne=>?_,λcv e=>?_⟩
 .have cP:Z≠P:=λz=>by rw[z,hP]at n1;cases n1
  have fP:f≠P:=λz=>by rw[z,hP]at n2;cases n2
  have Y:∀b,b≠P->H b≠aT->∀o1 o2 o3,upd (upd (upd H P o1) Z o2) f o3 b=H b:=λb z1 z2 o1 o2 o3=>by rw[zb λz=>by subst z;exact z2 n2,zb λz=>by subst z;exact z2 n1,zb z1]
  refine go f _ (λb o d e=>?_) (λb hb=>?_) (λy hy=>?_) n2 ⟨pm,Z,J,zh,by rw[zb ne,zh]⟩;.rw[Y b (λz=>by subst z;rw[hP]at e;cases e;exact d _ rfl) (by rw[e];simp)];exact e
  .by_cases z:b=P;.subst z;rw[zb<|bH fP,zb<|bH cP,zh];simp
   .rw[Y b z hb];exact hb
  .by_cases z:y.1=P
   .have ey:=by
     have:∀(l:List<|Addr×Str),(l.map (·.1)).Nodup->y∈l->(P,q)∈l->y=(P,q):=by intro l;induction l with|nil=>intro _ h;simp at h|cons a l ih=>
       intro hn h1 h2;rw[aQ,cS]at hn;rcases aD.mp h1 with e1|h1<;>rcases aD.mp h2 with e2|h2;.rw[e1,e2]
       .exact ij (by rw[<-e1,z];exact bF h2) hn.1
       .exact ij (by rw[<-e2,<-z];exact bF (f:=(·.1)) h1) hn.1
       .exact ih hn.2 h1 h2
     exact this T nd hy hm
    subst ey;refine⟨_,by rw[zb<|bH fP,zb<|bH cP,zh],?_,λUu cv e=>?_⟩;.rw[eT];exact TriplesOk_snoc _ _ _ _ ht
    .rw[eT]at e;rcases codeAmong_add _ ht e with e'|e';.obtain⟨c2,e1,e2⟩:=hc Uu cv e';exact⟨c2,e1,by rw[Y c2 (λz=>by subst z;rw[hP]at e2;unfold qo at e2;cases e2) (by rw[e2];simp)];exact e2⟩
     .exact⟨Z,e',by rw[zb ne,zh]⟩
   .obtain⟨qs,e1,e2,e3⟩:=hT y hy;refine⟨qs,by rw[Y y.1 z<|by rw[e1];simp];exact e1,e2,λUu cv e=>?_⟩;obtain⟨c2,e4,e5⟩:=e3 Uu cv e;exact⟨c2,e4,by rw[Y c2 (λz=>by subst z;rw[hP]at e5;unfold qo at e5;cases e5) (by rw[e5];simp)];exact e5⟩
 .obtain⟨Z,e1,e2⟩:=hc pos cv e;refine⟨Z,e1,λf pm J n=>go f _ (.of<|(af9.refl H).new n) (λb hb=>by
   by_cases z:b=f;.subst z;rw[zh];simp
   .rw[zb z];exact hb) (hT.new n) n ⟨pm,Z,J,zh,?_⟩⟩;rw[zb<|zu e2 n];exact e2
set_option tactic.hygienic true in def bI1{K:ac}{body:yM}{h:yC}(S:LamScope N ps fr scope)(len:∀a H Q E,sp a H Q E->a.length=ps.length)(u:cap.length=fr.length)(x:∀(a1 i:Value)(g:Addr)(Z:Value)(c:yH),c.length=ps.length->eY (cX name qual params body scope h .none .none a1 i aT (.ref g) Z) ⟨c,[]⟩=pure (ps.zip c))(z:∀(A:aU)(d:List Env)(s:af)(H:Hp)(c:Value)(a:List V)(Q:VK),Room k (A.deeper<|dN qual scope s.heap.objs.size f c<|aX (s.heap.objs.size+1) scope.names h)->as0 H f name qual params body scope fr cap h->(∀b o,K.lookup b=al o->H b=aT)->sp a H Q E0->∃t,PSs (aG6 P w K mg base N qual scope f c h A d s H) body t/\t {nx:=λ_ H'=>(∀b,isC h b=bY->H' b=aT)->Q .N (Put h H H'),rt:=λv H'=>(∀b,isC h b=bY->H' b=aT)->Q v (Put h H H')} (a.map al++cap.map al) (ad0 h H)):ClOk P w K mg base (k+1) (λH=>as0 H f name qual params body scope fr cap h) f sp:=by
 refine⟨λA d s H c a Q j Y m r n=>have p:=len _ _ _ _ n;AN (id m) λa1 i g Z t AA=>AW AA λh2 k v B C=>have D:s.heap.NoLimit:=Y.mod.nolimit.keeps λb o e=>(Y.bs b o e).1;i5 j.depth (az8 Y.hok t) rfl S.co S.gen rfl (aC7 Y.hok h2) ?_⟩;rw[x a1 i g Z c<|r.length▸p];refine aE<|at8 S.kind (λy b=>?_) λe e i x=>?_;.exact(S.par y.1 (fh<|show(y.1,y.2)∈ps.zip c from b).1).elim (λq=>.inl q) λq=>.inr ⟨q,z5 q⟩
 .subst e;refine⟨D.keeps x.toInCall.keep,codeAny_func ?_⟩;refine AD (z A d s H (.ref g) a Q (j.deeper _) m (λb o e=>(Y.bs b o<|Y.mod.kin b o e).2) n) λt a b=>have I:=bb2 S j.hd Y p u r k v B C x;bD (a [] i _ _ _ I b) (λi c a=>?_) λe c a=>a.elim;have fin:∀{e:St}{H':Hp}{v:V}{u:Value},Inv (aG6 P w K mg base N qual scope f (.ref g) h A d s H) [] e H' c->RelV v u->((∀b,isC h b=bY->H' b=aT)->Q v (Put h H H'))->CE d P w H s Q u c:=λ{e H' v u}J f q=>by obtain⟨un,e⟩:=ba7 Y.hok k Y.frf J.base J.hok;have g:∀b,isC h b=bY->H' b=none:=λb y=>AE (k.at y) λo v z _=>(show Un (frs d) [] (ad0 h H) H' s.heap c.heap from J.base).free b o (Y.hok b _ z).1 (ad0.cell y) (by simp);exact⟨v,_,J.os,J.bare,un,e,f,q g⟩
  cases i with|ret u=>exact AS a λv e H' J f q=>fin J f q|next=>exact AE a λW' H' J q=>fin (v:=V.N) (u:=Value.none) J rfl q|brk=>refine AE a λ_ _ _ q=>?_;simp_all|cont=>refine AE a λ_ _ _ q=>?_;simp_all
def bM5{K:ac}{h:yC}(S:LamScope N ps fr scope)(len:∀a H Q E,sp a H Q E->a.length=ps.length)(n:cap.length=fr.length)(p:∀(pm:Value)(d:Addr)(Z:Value)(c:yH),c.length=ps.length->eY (cB "<lambda>" qual params body scope h pm (.ref d) Z) ⟨c,[]⟩=pure (ps.zip c))(u:∀(A:aU)(g:List Env)(s:af)(H:Hp)(c:Value)(a:List V)(Q:VK),Room k (A.deeper<|dN qual scope s.heap.objs.size f c<|aX (s.heap.objs.size+1) scope.names h)->aF1 H f qual params body scope fr cap h->(∀b o,K.lookup b=al o->H b=aT)->sp a H Q E0->∃t,PE (aG6 P w K mg base N qual scope f c h A g s H) body t/\t (a.map al++cap.map al) (ad0 h H) λv H'=>(∀b,isC h b=bY->H' b=aT)->Q v (Put h H H')):ClOk P w K mg base (k+1) (λH=>aF1 H f qual params body scope fr cap h) f sp:=by
 refine⟨λA g s H c a Q f Y k r l=>have m:=len _ _ _ _ l;AK (id k) λpm d Z t h2 i AA=>AI AA λh4 v w=>have z:s.heap.NoLimit:=Y.mod.nolimit.keeps λb o e=>(Y.bs b o e).1;PySem.W.kla_callFunE f.depth (az8 Y.hok t) rfl S.co S.gen rfl (aC7 Y.hok h2) ?_⟩;rw[p pm d Z c<|r.length▸m];refine aE<|at8 S.kind (λy b=>?_) λe e j x=>?_;.exact(S.par y.1 (fh<|show(y.1,y.2)∈ps.zip c from b).1).elim (λq=>.inl q) λq=>.inr ⟨q,z5 q⟩
 .subst e;refine⟨z.keeps x.toInCall.keep,PySem.W.kla_codeExpr ?_⟩;refine AD (u A g s H (.ref d) a Q (f.deeper _) k (λb o e=>(Y.bs b o<|Y.mod.kin b o e).2) l) λt a b=>have I:=bb2 S f.hd Y m n r i h4 v w x;bD (a [] j _ _ _ I b) (λu c a=>?_) λe c a=>a.elim;refine AL a λv H' J a q=>AB (ba7 Y.hok i Y.frf J.base J.hok) λun d=>?_;have e:∀b,isC h b=bY->H' b=none:=λb y=>AE (i.at y) λo v z _=>(show Un (frs g) [] (ad0 h H) H' s.heap c.heap from J.base).free b o (Y.hok b _ z).1 (ad0.cell y) (by simp);exact⟨v,_,J.os,J.bare,un,d,a,q e⟩
def Rp.sameT(r:Rp Γ C H s)(e:bm3 H H')(st:∀b,H b≠aT->H' b≠aT)(tb:TabsH Γ.T H'):Gr C s H C s H'/\Rp Γ C H' s:=by have kp:Kp H H':=λb o h f=>e b o (λps z=>by subst z;cases f) h;have Z:Gw C s.length H C H':=⟨λ_ _=>rfl,kp⟩;refine⟨⟨Z,aj _,λi a h2=>ij h2<|by omega,λi o a e a=>by lia,st,λb o a h=>e b _ (by nofun) h,λb o h a _=>e b o a h⟩,r.inj,λi o Y=>?_,r.wf,tb⟩;exact(r.obj i o Y).mono Z (r.wf i o Y) λm u b=>by refine AZ ((r.obj i o Y).there m) λu' J _ a _=>?_;cases b▸J;exact e _ _ a b
def Cells.kp(h:Cells clos H)(k:Kp H H'):Cells clos H':=λx c e=>AE (h x c e) λo v q d=>⟨o,v,k _ _ q rfl,d⟩
def PVp(Γ:Gm)(a:yC)(N:yI)(W:St)(C:Nat->Addr)(H:Hp)(d:n9)(v:V):Prop:=RV Γ C H d v\/∃id b,d=.clo id b/\∃f J,v=.ref f/\Γ.lg id J/\ai9 H f J (af8 a J.scope.names [])/\b.length=J.fr.length/\(∀x,J.scope.names.lookup x=al .free->∃c,a.lookup x=al c)/\∃a,RVL Γ C H b a/\∀(i:Nat)x v,J.fr[i]?=al x->a[i]?=al v->J.scope.names.lookup x=al .free/\∃j:Nat,N[j]?=al x/\W[j]?=al (al v)
inductive PVL(Γ:Gm)(cells:yC)(N:yI)(W:St)(C:Nat->Addr)(H:Hp):List n9->List V->Prop where|nil:PVL Γ cells N W C H [] []|cons{d v l vs}(a:PVp Γ cells N W C H d v)(b:PVL Γ cells N W C H l vs):PVL Γ cells N W C H (d::l) (v::vs)
theorem PVp.mono(g:Gr C s H C' s' H')(b:d.bnd s.length=bY)(h:PVp Γ cells N W C H d v):PVp Γ cells N W C' H' d v:=by
 rcases h with h|⟨id,c,rfl,h⟩;.exact .inl<|RV.mono g _ _ b h
 .exact AR h λf J e d z AA=>AM AA λZ h a i Y=>.inr ⟨id,c,rfl,f,J,e,d,z.kp g.w.kp,Z,h,a,RVL.mono g c a b i,Y⟩
def PVp.caught(Y:Caught cells N kd W H1 H2)(k:∀x c,cells.lookup x=al c->kd x=al .cell\/kd x=al .free)(b:d.bnd n=bY)(h:PVp Γ cells N W C H1 d v):RV Γ C H2 d v:=by
 have g:Gw C n H1 C H2:=⟨λ_ _=>rfl,λb o e _=>Y.same b o e⟩;rcases h with h|⟨id,l,rfl,h⟩;.exact RV.monoW g _ _ b h
 .refine AR h λf J e m d AA=>AM AA λh4 Z a h n=>?_;have z:∀i x v,J.fr[i]?=al x->a[i]?=al v->J.scope.names.lookup x=al .free/\(kd x=al .cell\/kd x=al .free)/\∃j,N[j]?=al x/\W[j]?=al (al v):=λi x v j o=>AB (n i x v j o) λq1 i=>AF (Z x q1) λc j=>⟨q1,k x c j,i⟩;have c:CloAt H2 f J a<|af8 cells J.scope.names []:=by unfold CloAt;unfold ai9 at d;cases q:J.nm with|none=>rw[q]at d;exact bv9 Y d Z z|some p=>rw[q]at d;exact bx1 Y d Z z
  exact⟨f,a,J,_,e,m,c,by rw[h.length,h4],RVL.monoW g l a b h⟩
theorem PVL.caught(d:Caught cells N kd W J H2)(z:∀x c,cells.lookup x=al c->kd x=al .cell\/kd x=al .free)(h:PVL Γ cells N W C J l vs)(b:oa n l=bY):RVL Γ C H2 l vs:=by induction h with|nil=>exact .nil|cons a _ c=>unfold oa at b;rw[ae]at b;exact .cons (a.caught d z b.1) (c b.2)
end
variable{Γ:Gm}{X:Cx}
def TEv(Γ:Gm)(m:og->n8->ol n9):TE:=λW H Q=>∃C U s d a,RE Γ C H s.length U W/\Rp Γ C H s/\m U s=.ok d a/\ag0 Γ C s H d a Q
def cj6(Γ:Gm)(C:Nat->Addr)(s:n8)(H:Hp)(l:List n9)(a:n8)(Q:List V->Hp->Prop):Prop:=∀c b H',Gr C s H b a H'->s.length<=a.length->oa a.length l=bY->RVL Γ b H' l c->Rp Γ b H' a->Q c H'
def TAv(Γ:Gm)(m:og->n8->ol (List n9)):TA:=λW H Q=>∃C U s l a,RE Γ C H s.length U W/\Rp Γ C H s/\m U s=.ok l a/\cj6 Γ C s H l a Q
def aP0(Γ:Gm)(C:Nat->Addr)(s:n8)(H:Hp)(b:Bool)(a:n8)(Q:Bool->Hp->Prop):Prop:=∀c H',Gr C s H c a H'->s.length<=a.length->Rp Γ c H' a->Q b H'
def TTv(Γ:Gm)(m:og->n8->ol n9):TT:=λW H Q=>∃C U s b a,RE Γ C H s.length U W/\Rp Γ C H s/\m U s=.ok (.T b) a/\aP0 Γ C s H b a Q
def PE.imp(h:PE X e t)(i:∀W H Q,t' W H Q->t W H Q):PE X e t':=λz s W H Q I q=>h z s W H Q I<|i W H Q q
def PT.imp(h:PT X e t)(i:∀W H Q,t' W H Q->t W H Q):PT X e t':=λz s W H Q I q=>h z s W H Q I<|i W H Q q
def PA.imp(h:PA X e t)(i:∀W H Q,t' W H Q->t W H Q):PA X e t':=λa z s W H Q I q=>h a z s W H Q I<|i W H Q q
theorem aP0.trans(h:aP0 Γ C s H b s' Q)(g:Gr C s H C1 s1 z)(l:s.length<=s1.length):aP0 Γ C1 s1 z b s' Q:=λa H' b J p=>h a H' (g.trans b l) (au l J) p
set_option tactic.hygienic true in def bX5 i(h:TEv Γ (λU s=>rf U i s) W H Q):bm8 i W H Q:=by
 refine AG h λC U s d a E R z q=>?_;simp only[rf]at z;split at z;.rename_i d' e;cases z;exact AO (E.val i _ e) λb v a c=>⟨v,a,q.here R b c⟩
 .exact fb z
def aB2(a:∀n,c.bnd n=bY)(b:∀C H,RV Γ C H c v)(h:TEv Γ (λU s=>.ok c s) W H Q):tC v W H Q:=by refine AG h λC U s d c E R z q=>?_;cases z;exact q.here R (a _) (b _ _)
def bs6(h:TEv Γ (λU s=>(Y U s).bind λx s=>(Z U s).bind λy s=>f x y s) W H Q):tOp (rOp Γ f) (TEv Γ Y) (TEv Γ Z) W H Q:=AG h λC U s d g E R z q=>AE (aa1 z) λx b a z=>AE (aa1 z) λy c h z=>⟨C,U,s,x,b,E,R,a,λi j a e a f k l=>⟨j,U,b,y,c,E.mono e a,l,h,λb h b J b j l R2=>⟨h,c,x,y,d,g,R2,RV.mono J x i f k,l,zm b x f,j,z,q.trans (e.trans J a) (au a b)⟩⟩⟩
def AA{a:α}(h:oB r f=.ok a t):∃b s,r=.ok (.T b) s/\f b s=.ok a t:=by refine AE (aa1 h) λd s e h=>?_;cases d with|T b=>exact⟨b,s,e,h⟩|_=>exact fb h
def aO3(h:TTv Γ m W H Q):tB (TEv Γ m) W H Q:=AG h λC U s b a E R J q=>⟨C,U,s,.T b,a,E,R,J,λv a H' g l c r z=>⟨b,r.blE,q a H' g l z⟩⟩
def bJ3(h:TTv Γ m W H Q):ch7 (TEv Γ m) W H Q:=aO3 h
def cf7(h:TTv Γ (λU s=>oB (m U s) λb s=>.ok (.T<|!b) s) W H Q):cw3 (TTv Γ m) W H Q:=by refine AG h λC U s b a E R z q=>AE (AA z) λc a a z=>?_;cases z;exact⟨C,U,s,c,_,E,R,a,q⟩
def bA1(h:TTv Γ (λU s=>oB (Uu U s) λc s=>if c then oB (J U s) λc s=>.ok (.T c) s else .ok (.T ce) s) W H Q):cu1 (TTv Γ Uu) (TTv Γ J) W H Q:=by refine AG h λC U s b a E R z q=>AE (AA z) λc d e1 z=>⟨C,U,s,c,d,E,R,e1,λe Y a b f=>?_⟩;cases c with|true=>rw[dO rfl]at z⊢;refine AE (AA z) λZ c c z=>?_;cases z;exact⟨e,U,d,_,_,E.mono a b,f,c,q.trans a b⟩|false=>rw[ef bB]at z⊢;cases z;exact q e Y a b f
def bU6(h:TTv Γ (λU s=>oB (Uu U s) λc s=>if c then .ok (.T bY) s else oB (J U s) λc s=>.ok (.T c) s) W H Q):tOr (TTv Γ Uu) (TTv Γ J) W H Q:=by refine AG h λC U s b a E R z q=>AE (AA z) λc d e1 z=>⟨C,U,s,c,d,E,R,e1,λe Y a b f=>?_⟩;cases c with|true=>rw[dO rfl]at z⊢;cases z;exact q e Y a b f|false=>rw[ef bB]at z⊢;refine AE (AA z) λZ c c z=>?_;cases z;exact⟨e,U,d,_,_,E.mono a b,f,c,q.trans a b⟩
def cj5(h:TEv Γ (λU s=>oB (m U s) λb s=>.ok (.T<|!b) s) W H Q):cb5 (TEv Γ m) W H Q:=by refine AG h λC U s d a E R z q=>AE (AA z) λc a a z=>?_;cases z;exact⟨C,U,s,.T c,_,E,R,a,λv a J g l b r b=>⟨c,r.blE,q _ a J g l rfl RV.blI b⟩⟩
def bD0(h:TEv Γ (λU s=>oB (Uu U s) λc s=>if c then oB (J U s) λc s=>.ok (.T c) s else .ok (.T ce) s) W H Q):bW3 (TEv Γ Uu) (TEv Γ J) W H Q:=by refine AG h λC U s d a E R z q=>AE (AA z) λc d e1 z=>⟨C,U,s,.T c,d,E,R,e1,λv e Y a b b1 g f=>⟨c,g.blE,?_⟩⟩;cases c with|true=>rw[dO rfl]at z⊢;refine AE (AA z) λc g g z=>?_;cases z;exact⟨e,U,d,.T c,_,E.mono a b,f,g,q.trans a b⟩|false=>rw[ef bB]at z⊢;cases z;exact q _ e Y a b rfl RV.blI f
def cc2(h:TEv Γ (λU s=>oB (Uu U s) λc s=>if c then .ok (.T bY) s else oB (J U s) λc s=>.ok (.T c) s) W H Q):cv5 (TEv Γ Uu) (TEv Γ J) W H Q:=by refine AG h λC U s d a E R z q=>AE (AA z) λc d e1 z=>⟨C,U,s,.T c,d,E,R,e1,λv e Y a b b1 g f=>⟨c,g.blE,?_⟩⟩;cases c with|true=>rw[dO rfl]at z⊢;cases z;exact q _ e Y a b rfl RV.blI f|false=>rw[ef bB]at z⊢;refine AE (AA z) λc g g z=>?_;cases z;exact⟨e,U,d,.T c,_,E.mono a b,f,g,q.trans a b⟩
def bV8(h:TEv Γ (λU s=>oB (mc U s) λk s=>if k then Uu U s else J U s) W H Q):tIf (TTv Γ mc) (TEv Γ Uu) (TEv Γ J) W H Q:=by refine AG h λC U s d f E R z q=>AE (AA z) λc e e1 z=>⟨C,U,s,c,e,E,R,e1,λg Y a b h=>?_⟩;cases c with|true=>rw[dO rfl]at z⊢;exact⟨g,U,e,d,f,E.mono a b,h,z,q.trans a b⟩|false=>rw[ef bB]at z⊢;exact⟨g,U,e,d,f,E.mono a b,h,z,q.trans a b⟩
def av4(h:TAv Γ (λU s=>.ok [] s) W H Q):aH9 W H Q:=by refine AG h λC U s d a E R z q=>?_;cases z;exact q [] C H (Gr.refl _ _ _) (aj _) rfl .nil R
def bK9(h:TAv Γ (λU s=>(m U s).bind λd s=>(ms U s).bind λl s=>.ok (d::l) s) W H Q):ak6 (TEv Γ m) (TAv Γ ms) W H Q:=by refine AG h λC U s l a E R z q=>AE (aa1 z) λx b a z=>AE (aa1 z) λy c f z=>?_;cases z;refine⟨C,U,s,x,b,E,R,a,λc g a d a e h i=>⟨g,U,b,y,_,E.mono d a,i,f,λZ f g J b i Y R2=>q (c::Z) f g (d.trans J a) (au a b) ?_ (.cons (RV.mono J x c e h) Y) R2⟩⟩;unfold oa;rw[zm b x e,i];rfl
def aL1(h:TEv Γ (λU s=>(ms U s).bind λl s=>f l s) W H Q):tCB (rCl Γ f) (TAv Γ ms) W H Q:=AG h λC U s d b E R z q=>AE (aa1 z) λl a c z=>⟨C,U,s,l,a,E,R,c,λc c J e f g h i=>⟨c,a,l,d,b,i,h,g,z,q.trans e f⟩⟩
def cs5:(TEv Γ (λU s=>(m U s).bind λx s=>(ml U s).bind λy s=>match y with|.int i=>pR x (al i) aT s|_=>.B) W H Q->tSl (rSl Γ) (TEv Γ m) (bf7<|TEv Γ ml) aI9 W H Q)/\(TEv Γ (λU s=>(m U s).bind λx s=>(mh U s).bind λy s=>match y with|.int i=>pR x aT (al i) s|_=>.B) W H Q->tSl (rSl Γ) (TEv Γ m) aI9 (bf7<|TEv Γ mh) W H Q)/\(TEv Γ (λU s=>(m U s).bind λx s=>(ml U s).bind λy s=>match y with|.int i=>(mh U s).bind (λz s=>match z with|.int j=>pR x (al i) (al j) s|_=>.B)|_=>.B) W H Q->tSl (rSl Γ) (TEv Γ m) (bf7<|TEv Γ ml) (bf7<|TEv Γ mh) W H Q):=by
 refine⟨λh=>?_,λh=>?_,λh=>?_⟩;.refine AG h λC U s d k E R J q=>AE (aa1 J) λx e j J=>AE (aa1 J) λy f l J=>⟨C,U,s,x,e,E,R,j,λm n t c a g o p=>⟨n,U,e,y,f,E.mono c a,p,l,λu r v Y b w Z R2=>?_⟩⟩;cases y with|int i=>exact⟨i,Z.intE,r,f,x,d,k,R2,RV.mono Y x m g o,zm b x g,J,q.trans (c.trans Y a) (au a b)⟩|_=>exact fb J
 .refine AG h λC U s d k E R J q=>AE (aa1 J) λx e j J=>AE (aa1 J) λy f l J=>⟨C,U,s,x,e,E,R,j,λm n t c a g o p=>⟨n,U,e,y,f,E.mono c a,p,l,λu r v Y b w Z R2=>?_⟩⟩;cases y with|int i=>exact⟨i,Z.intE,r,f,x,d,k,R2,RV.mono Y x m g o,zm b x g,J,q.trans (c.trans Y a) (au a b)⟩|_=>exact fb J
 .refine AG h λC U s d k E R J q=>AE (aa1 J) λx e j J=>AE (aa1 J) λy f l J=>⟨C,U,s,x,e,E,R,j,λm n t c a g o p=>⟨n,U,e,y,f,E.mono c a,p,l,λu r v Y b w Z R2=>?_⟩⟩;cases y with
  |int i=>refine AE (aa1 J) λz e e3 J=>⟨i,Z.intE,r,U,f,z,e,E.mono (c.trans Y a) (au a b),R2,e3,λf i f f h b3 l n=>?_⟩;cases z with|int j=>exact⟨j,l.intE,i,e,x,d,k,n,RV.mono (Y.trans f b) x m g o,zm (au b h) x g,J,q.trans ((c.trans Y a).trans f<|au a b) (au (au a b) h)⟩|_=>exact fb J
  |_=>exact fb J
variable{Γ:Gm}{X:Cx}
def am0(Γ:Gm)(J:It)(C0:Nat->Addr)(H0:Hp)(s0:n8)(q:pq):Prop:=∀C H s,Gr C0 s0 H0 C s H->s0.length<=s.length->Rp Γ C H s->oZ s0 s q.src=bY->∀i:Nat,(i<q.its.length->J.go i H/\∀x H',J.yld i H x H'->af9 H H'/\∀d,q.its[i]?=al d->RV Γ C H' d x)/\(q.its.length<=i->J.stop i H)
def TIv(Γ:Gm)(m:og->n8->ol pq):TI:=λW H R=>∃C U s q a,RE Γ C H s.length U W/\Rp Γ C H s/\m U s=.ok q a/\∀J b H',Gr C s H b a H'->s.length<=a.length->oa a.length q.its=bY->Rp Γ b H' a->am0 Γ J b H' a q->R J H'
def PI.imp(h:PI X tg e t)(i:∀W H R,t' W H R->t W H R):PI X tg e t':=λz s W H R I q=>h z s W H R I<|i W H R q
def PI.or(h:PI X tg e t)(h':PI X tg e t'):PI X tg e<|λW H R=>t W H R\/t' W H R:=λz s W H R I q=>q.elim (h z s W H R I) (h' z s W H R I)
def bn5(h:SqT Γ.K H0 a z)(Y:RVL Γ C0 H0 l z)(b:oa s0.length l=bY):am0 Γ (Itt Γ.K a) C0 H0 s0 ⟨l,[]⟩:=by refineλC H s g _ R _ i=>have h':=g.w.kp.sqT h;have J:=RVL.mono g l z b Y;⟨λa=>⟨⟨z,z[i]'(J.length▸a),h',ar _⟩,λx H' y=>?_⟩,λa=>⟨z,h',J.length▸a⟩⟩;refine AB y λe y=>?_;subst e;refine⟨af9.refl _,λd a=>AD (J.get a) λv a a=>?_⟩;simp_all
def bN2(h:SqF Γ.K H0 a z)(Y:RVL Γ C0 H0 l z)(b:oa s0.length l=bY):am0 Γ (Itl Γ.K a) C0 H0 s0 ⟨l,[]⟩:=by refineλC H s g _ R _ i=>have h':=h.2 _ g.w.kp;have J:=RVL.mono g l z b Y;⟨λa=>⟨⟨z,z[i]'(J.length▸a),h',ar _⟩,λx H' y=>?_⟩,λa=>⟨z,h',J.length▸a⟩⟩;refine AB y λe y=>?_;subst e;refine⟨af9.refl _,λd a=>AD (J.get a) λv a a=>?_⟩;simp_all
def br1(a:s0[r]?=al (.J l)):am0 Γ (Itl Γ.K<|C0 r) C0 H0 s0 ⟨l,[r]⟩:=by
 intro C H s g _ R Y i;have z:=(ag.mp a).1;have a:s[r]?=al (.J l):=by unfold oZ at Y;simp_all
 refine AD (R.addr a) λJ e h=>?_;rw[g.w.map r z]at e;have h':SqL Γ.K H (C0 r) J:=SqL.of e;refine⟨λa=>⟨⟨J,J[i]'(h.length▸a),h',ar _⟩,λx H' y=>?_⟩,λa=>⟨J,h',h.length▸a⟩⟩;refine AB y λe y=>?_;subst e;refine⟨af9.refl _,λd a=>AD (h.get a) λv a a=>?_⟩;simp_all
def bu2{l:List Nat}:am0 Γ (Its ⟨l.toArray⟩) C0 H0 s0 ⟨l.map λc=>.str [c],[]⟩:=by
 intro C H s g _ R _ i;have a:(⟨l.toArray⟩:Str).cps.size=l.length:=by simp
 refine⟨λb=>?_,λh=>?_⟩
 .simp only[av]at b;refine⟨show i<(⟨l.toArray⟩:Str).cps.size by exact a▸b,λx H' y=>?_⟩;obtain⟨e,c,c,rfl⟩:=y;subst e;refine⟨af9.refl _,λd b=>?_⟩;have z:=by simpa using c
  rw[aK,z]at b;cases b;exact RV.strI<|by simp;decide
 .simp only[av]at h;show(⟨l.toArray⟩:Str).cps.size<=i;exact a▸h
def bx5:am0 Γ (Itr a (b-a).toNat) C0 H0 s0 ⟨pC a b,[]⟩:=by
 intro C H s g _ R _ i;have d:(pC a b).length=(b-a).toNat:=by simp[pC]
 refine⟨λc=>⟨show i<(b-a).toNat by exact d▸c,λx H' y=>?_⟩,λh=>show(b-a).toNat<=i by exact d▸h⟩;obtain⟨e,rfl⟩:=y;subst e;refine⟨af9.refl _,λd a=>?_⟩;simp only[pC]at a c;rw[aK,bV<|by simp_all]at a;cases a;exact RV.intI
def aY6:am0 Γ (cm3 a ((b-a+1)/2).toNat) C0 H0 s0 ⟨pD a b 2,[]⟩:=by
 intro C H s g _ R _ i;have J:pD a b 2=(aq ((b-a+1)/2).toNat).map λ(k)=>.int<|a+2*k:=by unfold pD;rw[dO<|by decide,show b-a+2-1=b-a+1 by lia]
 have hn:(pD a b 2).length=((b-a+1)/2).toNat:=by rw[J];simp
 refine⟨λhlt=>⟨show i<((b-a+1)/2).toNat by rw[<-hn];exact hlt,λx H' y=>?_⟩,λz=>show((b-a+1)/2).toNat<=i by rw[<-hn];exact z⟩;obtain⟨e,rfl⟩:=y;subst e;refine⟨af9.refl _,λd hd=>?_⟩;have h:i<((b-a+1)/2).toNat:=by rw[<-hn];exact hlt
 simp only[J]at hd;rw[aK,bV h]at hd;cases hd;rw[Int.mul_comm];exact RV.intI
set_option tactic.hygienic true in def bP1(h:TIv Γ (λU s=>(J U s).bind λx s=>(Uu U s).bind λy s=>match x,y with|.int i,.int j=>if(2:Int)=2/\(0<=i/\i<1048576)/\0<=j/\j<1048576 then .ok ⟨pD i j 2,[]⟩ s else .B|_,_=>.B) W H R):bA2 (ak6 (TEv Γ J) (ak6 (TEv Γ Uu) (ak6 (tC<|.int 2) aH9))) W H R:=by refine AG h λC U s q a E P z k=>AE (aa1 z) λx a b z=>AE (aa1 z) λy c d z=>⟨C,U,s,x,a,E,P,b,λv e b g l b r b=>⟨e,U,a,y,c,E.mono g l,b,d,λa a H2 Y Z b2 c P2=>?_⟩⟩;cases x with
 |int i=>cases y with
  |int j=>
   simp only at z;split at z;.rename_i hi;cases z;refine⟨i,j,by rw[r.intE,c.intE],⟨hi.2.1.1,hi.2.1.2,hi.2.2.1,hi.2.2.2⟩,k _ a H2 (g.trans Y l) (au l Z) ?_ P2 aY6⟩;refine ab5.mpr λd a=>?_;unfold pD at a;rw[dO<|by decide,ao]at a;obtain⟨_,_,rfl⟩:=a;rfl
   simp_all|_=>exact fb z
 |_=>cases y<;>cases z
set_option tactic.hygienic true in def bQ6(h:TIv Γ (λU s=>(m U s).bind λx s=>match x with|.int i=>if-rE<=i/\i<rE then .ok ⟨pC 0 i,[]⟩ s else .B|_=>.B) W H R):cj4 (ak6 (TEv Γ m) aH9) W H R:=by refine AG h λC U s q e E P z k=>AE (aa1 z) λx b e1 z=>⟨C,U,s,x,b,E,P,e1,λv c J g l b r d=>?_⟩;cases x with
 |int i=>
  simp only at z;split at z
  .rename_i hi;cases z;have f:rE=2^62:=by decide
   rw[f]at hi;refine⟨i,by rw[r.intE],hi.1,hi.2,k _ c J g l ?_ d ?_⟩;.refine ab5.mpr λd d=>?_;simp only[pC,ao]at d;obtain⟨_,_,rfl⟩:=d;rfl
   .have:=bx5 (Γ:=Γ) (C0:=c) (H0:=J) (s0:=e) (a:=0) (b:=i);simp_all
  simp_all|_=>exact fb z
def ci8(h:TIv Γ (λU s=>(m U s).bind λd s=>DV.at2 d s) W H R):cn1 Γ.K (TEv Γ m) W H R\/bM3 Γ.K (TEv Γ m) W H R\/ct6 (TEv Γ m) W H R:=by refine AG h λC U s q a E P z k=>AE (aa1 z) λx i f z=>?_;unfold DV.at2 at z;cases x with
 |tp l=>cases z;refine .inl ⟨C,U,s,_,_,E,P,f,λv c e g l b r J=>?_⟩;obtain⟨a,Z,rfl,d,h⟩:=r.tupE;exact⟨a,rfl,⟨Z,d⟩,k _ c e g l b J<|bn5 d h b⟩|str l=>cases z;refine .inr<|.inr ⟨C,U,s,_,_,E,P,f,λv c e g Y b r J=>⟨_,r.strE,k _ c e g Y ?_ J bu2⟩⟩;refine ab5.mpr λd a=>?_;simp only[ao]at a;obtain⟨_,_,rfl⟩:=a;rfl|ref r=>simp only at z;cases a:i[r]? with|none=>cases a▸z|some o=>rw[a]at z;cases o with|J l=>cases z;refine .inr<|.inl ⟨C,U,s,_,_,E,P,f,λv c e g Y b j J=>?_⟩;cases j.refE;exact AD (J.addr a) λZ d h=>have i:=J.wf _ _ a;⟨c r,rfl,⟨Z,SqL.of d⟩,k _ c e g Y i J<|br1 a⟩|ro l=>cases z;refine .inr<|.inl ⟨C,U,s,_,_,E,P,f,λv c e g Y b j J=>?_⟩;cases j.refE;exact AD (J.obj _ _ a) λZ d h=>have i:=J.wf _ _ a;⟨c r,rfl,⟨Z,d.1⟩,k _ c e g Y i J<|bN2 d h i⟩|dc l=>exact fb z|dit l=>exact fb z|ins c l=>exact fb z|dicF l=>exact fb z
 |_=>exact fb z
def bG6(h:ai4 d=al k)(z:d.keyF=bY):RV Γ C H d<|kV k:=by cases d with|int i=>cases h;exact RV.intI|str x=>cases h;exact RV.strI<|au (dr z) (by decide)|_=>cases h
theorem RVD.keyAt:∀{l}{a}{i:Nat}{k}{v},RVD ai4 Γ C H l a->a[i]?=al (k,v)->∃p,l[i]?=al p/\ai4 p.1=al k|[],_,_,_,_,h,e=>by cases(h);simp at e|(d,a)::l,_,0,_,_,h,e=>by obtain⟨b,c,r,rfl,f,J,z⟩:=h;simp_all|(d,a)::l,_,i+1,_,_,h,e=>by obtain⟨b,c,r,rfl,f,J,z⟩:=h;exact RVD.keyAt (i:=i) z<|by simpa using e
def be0(h:H0 a=al (.frz o<|.dK kvs))(J:RVD ai4 Γ C0 H0 l kvs)(c:l.all (λp=>p.1.keyF)=bY):am0 Γ (Jk a o kvs) C0 H0 s0 ⟨l.map (·.1),[r]⟩:=by refineλC H s g _ R _ i=>have h':=g.fz _ _ _ h;have len:=J.length;⟨λa=>⟨⟨h',by simp_all⟩,λx H' y=>?_⟩,λz=>⟨h',by simp_all⟩⟩;obtain⟨e,k,v,b,rfl⟩:=y;subst e;refine⟨af9.refl _,λd a=>AD (J.keyAt b) λp b d=>?_⟩;have a:=a;rw[aK,b]at a;cases a;exact bG6 d<|aG.mp c p<|aF b
set_option tactic.hygienic true in def bk0(h:rF d s=.ok q s'):∃r l,d=.ref r/\s[r]?=al (.dc l)/\l.all (λp=>p.1.keyF)=bY/\q=⟨l.map (·.1),[r]⟩/\s'=s.set r (.dicF l):=by
 unfold rF at h;split at h
 .split at h
  .rename_i l e;split at h;.rename_i hk;cases h;exact⟨_,l,rfl,e,hk,rfl,rfl⟩
   .exact fb h
  .exact fb h
 .exact fb h
def cn5(h:TIv Γ (λU s=>(m U s).bind λd s=>rF d s) W H R):cp4 (TEv Γ m) W H R:=by refine AG h λC U s q a E P a k=>AE (aa1 a) λx b d a=>?_;obtain⟨r,l,rfl,c,f,rfl,rfl⟩:=bk0 a;refine⟨C,U,s,_,b,E,P,d,λv a b g Z b e J=>AD (J.obj r _ c) λkvs e2 b=>?_⟩;have d:=J.wf _ _ c;have z:=d;unfold on at z;rw[ae]at z;exact⟨a r,kvs,e.refE,e2,λo=>AB (J.set (o:=.dicF l) c rfl d λH' g e=>⟨o,kvs,e,RVD.monoW g l kvs z.2 b⟩) λY R2=>k _ a _ (g.trans Y Z) (by simp_all) (by simp_all) R2<|be0 zh (RVD.monoW Y.w l kvs z.2 b) f⟩
variable{Γ:Gm}{X:Cx}
noncomputable def ck6:List Nat->TGs|[]=>cv8|i::a=>cb4 (aB8 i) (ck6 a)
def gOf(K:ac):o5->TG|.Y i=>aB8 i|.tp a=>co2 K a.length<|ck6 a
set_option tactic.hygienic true in def bk1(E:RE Γ C H n U W)(r:RV Γ C H d v)(b:d.bnd n=bY)(h:o6 U i d=al U'):RE Γ C H n U'<|W.set i<|al v:=by
 unfold o6 at h;split at h
 .rename_i hi;cases h;refine⟨by rw[bA,bA];exact E.len,λj e c=>?_⟩;by_cases a:j=i;.subst a;rw[bq hi]at c;cases c;exact⟨b,v,by rw[bq<|E.len▸hi],r⟩
  .rw[aC<|bH a]at c;exact AO (E.val j e c) λJ w z b=>⟨J,w,by rw[aC<|bH a];exact z,b⟩
 .cases h
theorem bU1:∀a l z U c W,RE Γ C H n U W->RVL Γ C H l z->oa n l=bY->pS U a l=al c->(∀b,RE Γ C H n c b->Q b H)->ck6 a z W H Q|[],[],z,U,c,W,E,r,_,h,k=>by cases h;exact⟨r.unnil,k W E⟩|[],d::l,_,_,_,_,_,_,_,h,_=>by cases h|i::a,[],_,_,_,_,_,_,_,h,_=>by cases h|i::a,d::l,z,U,c,W,E,r,b,h,k=>by have h:(o6 U i d).bind (λU=>pS U a l)=al c:=h;obtain⟨x,J,rfl,Y,f⟩:=r.uncons;unfold oa at b;rw[ae]at b;cases e:o6 U i d with|none=>simp_all|some d=>rw[e]at h;exact⟨x,J,rfl,bU1 a l J d c _ (bk1 E Y b.1 e) f b.2 h k⟩
def aY2:∀{a}{U b},pS U a l=al b->a.length=l.length:=by induction l with
 |nil=>intro a U b h;cases a with|nil=>rfl|cons i a=>cases h
 |cons d l c=>intro a U b h;cases a with|nil=>cases h|cons i a=>have h:(o6 U i d).bind (λU=>pS U a l)=al b:=h;cases e:o6 U i d with|none=>simp_all|some a=>rw[e]at h;rw[aR,aR,c h]
def bq0(E:RE Γ C H n U W)(r:RV Γ C H d v)(b:d.bnd n=bY)(h:oJ U tg d=al U')(k:∀a,RE Γ C H n U' a->Q a H):gOf Γ.K tg v W H Q:=by cases tg with|Y i=>exact k _<|bk1 E r b h|tp e=>cases d with|tp l=>have h:=h;obtain⟨a,z,rfl,J,c⟩:=r.tupE;exact⟨a,z,rfl,J,by rw[c.length,aY2 h],bU1 e l z U U' W E c b h k⟩|_=>cases h
def Off(C:Nat->Addr)(s:n8)(b:Addr):Prop:=∀i a,s[i]?=al a->isMut a=bY->C i≠b
def Off.mono(h:Off C s b)(g:Gr C s H C' s' H')(a:H b=al o):Off C' s' b:=λi b e m z=>by
 by_cases a:i<s.length;.obtain⟨J,Uu⟩:∃J,s[i]?=al J:=⟨s[i],ar a⟩;exact h i J Uu (g.mu i J b Uu e m) (g.w.map i a▸z)
 .have:=g.new i (by lia) (ag.mp e).1;lia
def Off.new(r:Rp Γ C H s)(h:H b=aT):Off C s b:=λi a e m z=>AD ((r.obj i a e).there m) λu a _=>by lia
def Rp.foreign(r:Rp Γ C H s)(a:H b=al (.J ys))(c:Off C s b):Rp Γ C (upd H b<|.J h) s:=have g:Gw C s.length H C<|upd H b<|.J h:=⟨λ_ _=>rfl,(Kp.refl H).put a rfl⟩;⟨r.inj,λi o e=>(r.obj i o e).mono g (r.wf i o e) λm u b=>zb (c i o e m)▸b,r.wf,r.tab.put a⟩
def Gr.foreign(g:Gr C s H C' s' H')(a:H b=aT)(c:H' b=al (.J ys)):Gr C s H C' s'<|upd H' b<|.J J:=by
 have ne:∀c o,H c=al o->c≠b:=λc o e=>zu e a;refine⟨⟨g.w.map,λc o e f=>?_⟩,g.le,g.new,g.kd,λc b=>?_,λc o a e=>zb (ne c _ e)▸g.fz c o a e,λc o e h z=>?_⟩;.exact zb (ne c o e)▸g.w.kp c o e f
 .unfold upd;split;.simp
  .exact g.st c b
 .exact zb (ne c o e)▸g.fr c o e h z
def cd8(Γ:Gm)(C:Nat->Addr)(s:n8)(H:Hp)(l:List n9)(a:n8)(Q:VK):Prop:=∀p c b H',Gr C s H b a H'->s.length<=a.length->oa a.length l=bY->H' p=al (.J c)->H p=aT->Off b a p->RVL Γ b H' l c->Rp Γ b H' a->Q (.ref p) H'
def TFv(Γ:Gm)(m:og->n8->ol (List n9)):TE:=λW H Q=>∃C U s l a,RE Γ C H s.length U W/\Rp Γ C H s/\m U s=.ok l a/\cd8 Γ C s H l a Q
def aJ0(h:TEv Γ (λU s=>(m U s).bind λl s=>pi (.J l) s) W H Q):TFv Γ m W H Q:=by
 refine AG h λC U s d a E R a q=>AE (aa1 a) λl b c a=>?_;obtain⟨rfl,rfl⟩:=qr a;refine⟨C,U,s,l,b,E,R,c,λp f c H' g a k t a m r J=>?_⟩;have n:Gw c b.length H' (λi=>if i=b.length then p else c i) H':=⟨λi a=>ef<|aI a,Kp.refl _⟩;have key:∀i z,(b++[DV.O.J l])[i]?=al z->(i<b.length/\b[i]?=al z)\/(i=b.length/\z=.J l):=λi z e=>by
  rcases ia i b.length with h|h|h;.exact .inl ⟨h,(aB h▸e)⟩
  .subst h;simp at e;exact .inr ⟨rfl,e.symm⟩
  .rw[b9<|by simp;lia]at e;cases e
 have G:Gr C s H (λi=>if i=b.length then p else c i) (b++[.J l]) H':=by
  refine⟨⟨λi a=>by rw[ef<|by lia];exact g.w.map i a,g.w.kp⟩,by simp;lia,λi d h2=>?_,λi o z e h=>?_,g.st,g.fz,g.fr⟩
  .by_cases a:i=b.length;.lia
   .exact ef a▸g.new i d (by simp at h2;lia)
  .rcases key i z h with⟨_,d⟩|⟨a,_⟩;.exact g.kd i o z e d
   simp_all
 have P:Rp Γ (λi=>if i=b.length then p else c i) H'<|b++[.J l]:=by
  refine⟨λi j Y Z c d g h e=>?_,λi o e=>?_,λi o e=>?_,J.tab⟩
  .rcases key i Y c with⟨a,c⟩|⟨a,_⟩<;>rcases key j Z d with⟨b,d⟩|⟨b,_⟩;.rw[ef<|aI a,ef<|aI b]at e;exact J.inj i j Y Z c d g h e
   .rw[ef<|aI a,dO b]at e;exact ij e<|m i Y c g
   .exact ij (ef (aI b)▸dO a▸e).symm<|m j Z d h
   .rw[a,b]
  .rcases key i o e with⟨a,e⟩|⟨a,rfl⟩;.exact ef (aI a)▸(J.obj i o e).mono n (J.wf i o e) λ_ u b=>b
   .exact dO a▸⟨f,t,RVL.monoW n l f k r⟩
  .rw[aO,cH];rcases key i o e with⟨_,e⟩|⟨_,rfl⟩;.exact qi (dL _) _<|J.wf i o e
   .exact qi (dL _) _<|k
 exact q (.ref p) _ H' G (by simp;omega) (by unfold oq;simp) (by unfold RV;simp) P
def cd3(E:RE Γ C H n U W)h:RE Γ C H n (pK U h) (aB4 h W):=by refine⟨by unfold pK aB4;simp,λi d e=>?_⟩;unfold pK at e;rw[aK]at e;cases q:h[i]? with|none=>rw[q]at e;cases e|some o=>rw[q]at e;cases o with|none=>cases e|some j=>
   have e':(U[j]?).join=al d:=ay e;have ej:U[j]?=al (al d):=by cases q2:U[j]? with|none=>rw[q2]at e';cases e'|some o2=>rw[q2]at e';exact congrArg al e'
   obtain⟨b,v,J,z⟩:=E.val j d ej;refine⟨b,v,?_,z⟩;unfold aB4;rw[aK,q];show al ((W[j]?).join)=_;rw[J];rfl
set_option tactic.hygienic true in def bi7 (h:TFv Γ (λU s=>(mI U s).bind λq a=>if q.its.length<=ot then pW (λs=>oZ a s q.src) (λd U s=>match oJ U tg d with|some U=>oB (mc U s) λk s=>if k then(me U s).bind λv s=>.ok (al v,U) s else .ok (aT,U) s|none=>.B) q.its (pK U Z) a else .B) W H Q):tComp Z (TIv Γ mI) (gOf Γ.K tg) (TTv Γ mc) (TEv Γ me) W H Q:=by
 refine AG h λC U s l A E R b k=>AE (aa1 b) λq a d b=>?_;split at b;case isFalse=>exact fb b
 rename_i e;refine⟨C,U,s,q,a,E,R,d,λJ n p u y z r B D j=>?_⟩;have I:H D=none:=by cases e:H D with|none=>rfl|some o=>exact ij j<|u.st D<|by rw[e];simp
 refine⟨λi m w H'=>∃f e t h o rest,Gr n a p f t H'/\Rp Γ f H' t/\RE Γ f H' t.length e w/\H' D=al (.J o)/\Off f t D/\RVL Γ f H' h o/\oa t.length h=bY/\h.length<=i/\i<=q.its.length/\m=q.its.length-i/\pW (λs=>oZ a s q.src) (λd U s=>match oJ U tg d with|some U=>oB (mc U s) λk s=>if k then(me U s).bind λv s=>.ok (al v,U) s else .ok (aT,U) s|none=>.B) (q.its.drop i) e t=.ok rest A/\l=h++rest,⟨q.its.length,?_⟩,?_⟩;.exact AB (r.same<|(af9.refl p).new j) λg2 R2=>⟨n,pK U Z,a,[],[],l,g2,R2,cd3 ((E.mono u y).mono g2<|aj _) Z,zh,Off.new r j,.nil,rfl,aj _,cy _,by simp,eD▸b,rfl⟩
 .rintro i m w H'⟨f,e,t,h,o,rest,g,R',E',hy,a3,ra,ba,c0,hil,rfl,hc,hl⟩;have Y:=g.le;rcases lA i q.its.length with a|m
  .have hd:=ar a;rw[cN a]at hc;unfold pW at hc;split at hc;case isFalse=>exact fb hc
   rename_i s;refine AB ((B f H' t g Y R' s i).1 a) λb2 d=>.inr ⟨b2,_,λb b n=>⟨q.its.length-(i+1),by omega,n⟩,λx b l=>AB (d x b l) λsm b=>AB (R'.same sm) λg2 R2=>have l:=b _ hd;have bd:=zm Y _<|ah6 z hd;AE (aa1 hc) λp n b hc=>AE (aa1 hc) λr2 d C hc=>?_⟩;cases d:oJ e tg q.its[i]with|none=>rw[d]at b;cases b|some p=>rw[d]at b;refine bq0 (E'.mono g2<|aj _) l bd d λd q=>AE (AA b) λc e ec b=>⟨f,p,t,c,e,q,R2,ec,λE d d l F=>?_⟩;have r:=sm _ _ hy;have s:=d.fr D _ r (by nofun) a3;have t:=a3.mono d r;have G:=(g.trans g2 Y).trans d Y;cases c with
    |true=>
     rw[dO rfl]at b;refine iteT ?_;refine AE (aa1 b) λv b ev b=>?_;cases b;refine⟨E,p,e,v,n,q.mono d l,F,ev,λw x r c J K L M=>have e:=c.fr D _ s (by nofun) t;have z:=t.mono c s;⟨o,e,?_,?_⟩⟩;.rw[ra.length];have:=qt;lia
     .have gw:Gw x n.length r x<|upd r D<|.J<|o++[w]:=⟨λ_ _=>rfl,(Kp.refl r).put e rfl⟩;have N:=G.trans c<|au Y l;have r:=g2.trans (d.trans c l) (aj _);have O:=RVL.mono r _ _ ba ra;have H:oa n.length (h++[v])=true:=qI (ab1 r.le _ ba) (by unfold oa;rw[K];rfl);refine⟨x,p,n,h++[v],o++[w],r2,N.foreign j e,M.foreign e z,?_,zh,z,RVL.monoW gw _ _ H<|O.append<|.cons L .nil,H,by simp;omega,a,rfl,?_,?_⟩;.have E5:=(q.mono d l).mono c J;exact⟨E5.len,λj e c=>AO (E5.val j e c) λh1 z h2 c=>⟨h1,z,h2,RV.monoW gw _ _ h1 c⟩⟩
      .cases hc;exact C
      .cases hc;rw[hl];simp|false=>rw[ef bB]at b;refine cx1 ?_;cases b;have r:=g2.trans d<|aj _;exact⟨E,p,n,h,o,r2,G,F,q.mono d l,s,t,RVL.mono r _ _ ba ra,ab1 l _ ba,by lia,a,rfl,by cases hc;exact C,by cases hc;exact hl⟩
  .have hi:=by omega
   rw[fN m]at hc;unfold pW at hc;split at hc;case isFalse=>exact fb hc
   rename_i s;cases hc;refine .inl ⟨(B f H' A g Y R' s i).2 m,?_⟩;rw[aY]at hl;subst hl;exact k D o f H' (u.trans g y) (au y Y) ba hy I a3 ra R'
variable{Γ:Gm}{X:Cx}
def cv3(Γ:Gm)(C:Nat->Addr)(H:Hp)(n:Nat)(D:Ends):oW->Prop|.next U=>∀W,RE Γ C H n U W->D.nx W H|.ret d=>∀v,d.bnd n=bY->RV Γ C H d v->D.rt v H|.cont U=>∀W,RE Γ C H n U W->D.ct W H|.brk U=>∀W,RE Γ C H n U W->D.bk W H
def ar5(Γ:Gm)(C:Nat->Addr)(s:n8)(H:Hp)(c:oW)(a:n8)(D:Ends):Prop:=∀b H',Gr C s H b a H'->s.length<=a.length->Rp Γ b H' a->cv3 Γ b H' a.length D c
def TSv(Γ:Gm)(m:og->n8->ol oW):TS:=λD W H=>∃C U s c a,RE Γ C H s.length U W/\Rp Γ C H s/\m U s=.ok c a/\ar5 Γ C s H c a D
def PS.imp(h:PS X e t)(i:∀D W H,t' D W H->t D W H):PS X e t':=λz s W H Q I q=>h z s W H Q I<|i Q W H q
def PSs.imp(h:PSs X e t)(i:∀D W H,t' D W H->t D W H):PSs X e t':=λz s W H Q I q=>h z s W H Q I<|i Q W H q
theorem ar5.trans{D}(h:ar5 Γ C s H c s' D)(g:Gr C s H C1 s1 z)(l:s.length<=s1.length):ar5 Γ C1 s1 z c s' D:=λa H' b J p=>h a H' (g.trans b l) (au l J) p
def ar5.here{D}(h:ar5 Γ C s H c s D)(p:Rp Γ C H s):cv3 Γ C H s.length D c:=h C H (Gr.refl C s H) (aj _) p
variable{D:Ends}{W:St}{H:Hp}
def bK3(z:∀U s,m U s=.ok (.next U) s)(h:TSv Γ m D W H):bV5 D W H:=by refine AG h λC U s c a E R e q=>?_;rw[z]at e;cases e;exact q.here R W E
def bG4(h:TSv Γ (λU s=>.ok (.ret .N) s) D W H):cb3 D W H:=by refine AG h λC U s c a E R e q=>?_;cases e;exact q.here R .N rfl RV.nonI
def ci0(h:TSv Γ (λU s=>(m U s).bind λd s=>.ok (.ret d) s) D W H):cw0 (TEv Γ m) D W H:=by refine AG h λC U s c a E R e q=>AE (aa1 e) λx a a e=>?_;cases e;exact⟨C,U,s,x,_,E,R,a,λv a z b c d e f=>q a z b c f v d e⟩
def bH5(h:TSv Γ (λU s=>(m U s).bind λ_ s=>.ok (.next U) s) D W H):bU5 (TEv Γ m) D W H:=by refine AG h λC U s c a E R e q=>AE (aa1 e) λx a a e=>?_;cases e;exact⟨C,U,s,x,_,E,R,a,λv c z a b d d d=>q c z a b d W<|E.mono a b⟩
def bf3(h:TSv Γ (λU s=>(m U s).bind λd s=>match oJ U tg d with|some U=>.ok (.next U) s|none=>.B) D W H):bw9 (TEv Γ m) (gOf Γ.K tg) D W H:=by refine AG h λC U s c a E R e q=>AE (aa1 e) λx a b e=>⟨C,U,s,x,a,E,R,b,λv d z a b f g h=>?_⟩;cases c:oJ U tg x with|none=>simp_all|some i=>cases c▸e;exact bq0 (E.mono a b) g f c<|q d z a b h
def bs8(h:TSv Γ (λU s=>((m U s).bind λl s=>pi (.J l) s).bind λd s=>match oJ U tg d with|some U=>.ok (.next U) s|none=>.B) D W H):bw9 (TFv Γ m) (gOf Γ.K tg) D W H:=aJ0<|bf3 h
def cb1(Γ:Gm):ck9:=λo i v H Q=>∃C s x y d a,Rp Γ C H s/\RV Γ C H x o/\RV Γ C H y i/\RV Γ C H d v/\x.bnd s.length=bY/\y.bnd s.length=bY/\d.bnd s.length=bY/\pF x y d s=.ok () a/\∀b H',Gr C s H b a H'->s.length<=a.length->Rp Γ b H' a->Q H'
def br7(h:TSv Γ (λU s=>(me U s).bind λd s=>(mo U s).bind λx s=>(mi U s).bind λy s=>(pF x y d s).bind λ_ s=>.ok (.next U) s) D W H):bw9 (TEv Γ me) (cu6 (TEv Γ mo) (TEv Γ mi) (cb1 Γ)) D W H:=by refine AG h λC U s c a E R e q=>AE (aa1 e) λd b a e=>AE (aa1 e) λx c h e=>AE (aa1 e) λy f j e=>AE (aa1 e) λu e k e=>?_;cases e;exact⟨C,U,s,d,b,E,R,a,λl i a e a g m n=>⟨i,U,b,x,c,E.mono e a,n,h,λn o b Z z h p R2=>have i:=e.trans Z a;have b:=au a z;⟨o,U,c,y,f,E.mono i b,R2,j,λa a c J c e j o=>⟨a,f,x,y,d,_,o,RV.mono J x n h p,j,RV.mono (Z.trans J z) d l g m,zm c x h,e,zm (au z c) d g,k,λf g d e h=>have Y:=i.trans J b;have a:=au b c;q f g (Y.trans d a) (au a e) h W<|E.mono (Y.trans d a) (au a e)⟩⟩⟩⟩
set_option tactic.hygienic true in def ca6(D:X.A.units+2<cLine):cp3 X<|cb1 Γ:=by refineλa1 sh W H o i v f g u Q I p t w h=>AJ h λC s x AA=>AK AA λy d n R A B AA=>AV AA λrd a E bd J q=>?_;cases x with
 |ref r=>have J:(match s[r]? with|some<|.J l=>(match y with|.int i=>(match pj l.length i with|some j=>DV.R.ok ()<|s.set r<|.J<|l.set j d|none=>.B)|_=>.B)|some<|.dc l=>if y.key&&decide (l.length<ot)then .ok ()<|s.set r<|.dc (oE y d l)else .B|some<|.dit l=>if y.keyT&&decide (l.length<ot)then .ok ()<|s.set r<|.dit (oE y d l)else .B|_=>.B)=.ok () n:=J;cases e:s[r]? with|none=>simp_all|some a=>rw[e]at J;cases a with
   |J l=>cases y with|int k=>have J:(match pj l.length k with|some j=>DV.R.ok ()<|s.set r<|.J<|l.set j d|none=>.B)=.ok () n:=J;cases c:pj l.length k with|none=>simp_all|some j=>
      cases c▸J;refine AD (R.addr e) λxs m b=>?_;have a:oa s.length (l.set j d)=true:=ab5.mpr λz h=>by
       rcases gU h with h|h;.exact ab5.mp (have:=R.wf r _ e;this) z h
       lia
      refine bx3 a1 sh W H o i v f g u Q I p t w ⟨C r,xs,k,j,A.refE,B.intE,m,?_,?_⟩;.exact b.length▸c
      .exact AB (R.set (o:=.J<|l.set j d) e rfl a λH' g e=>⟨_,e,RVL.monoW g _ _ a<|b.set j rd⟩) λg Z=>q _ _ g (by simp) Z|_=>exact fb J
   |dc l=>
    have J:(if y.key&&decide (l.length<ot)then DV.R.ok ()<|s.set r<|.dc (oE y d l)else .B)=.ok () n:=J;split at J;case isFalse=>exact fb J
    rename_i c;cases J;rw[ae]at c;refine AF (an5 c.1) λk hk=>have f:=dr c.2;AD (R.obj r _ e) λkvs m b=>?_;have ex:=A.refE;subst ex;cases p;have i:=aM9 hk B;subst i;have a:=aL7 (R.wf r _ e) E bd;have Y:=by unfold on at a;rw[ae]at a;exact a.2
    exact AB (R.set e rfl a λH' g e=>⟨_,e,RVD.monoW g _ _ Y<|b.put keyOf_inj hk rd⟩) λg Z=>aD1 D I (bI4.k m<|b.length▸aA f qt) t w λk j=>⟨_,j,q _ _ g (by simp) Z⟩|dit l=>
    have J:(if y.keyT&&decide (l.length<ot)then DV.R.ok ()<|s.set r<|.dit (oE y d l)else .B)=.ok () n:=J;split at J;case isFalse=>exact fb J
    rename_i c;cases J;rw[ae]at c;refine AF (ap7 c.1) λk hk=>have f:=dr c.2;AD (R.obj r _ e) λkvs m b=>?_;have ex:=A.refE;subst ex;cases p;refine AD (aJ6 hk B) λkb i c=>?_;subst i;have a:=bw5 (R.wf r _ e) E bd;have Y:=by unfold on at a;rw[ae]at a;exact a.2
    exact AB (R.set e rfl a λH' g e=>⟨_,e,RVD.monoW g _ _ Y<|b.put keyT_inj hk rd⟩) λg Z=>aD1 D I (bI4.t m c<|b.length▸aA f qt) t w λk j=>⟨_,j,q _ _ g (by simp) Z⟩|_=>exact fb J
 |_=>exact fb J
set_option tactic.hygienic true in def ci4(h:TSv Γ (λU s=>(rf U i s).bind λx s=>(m U s).bind λy s=>match x,y with
  |.int a,.int b=>match o6 U i<|.int (a+b)with|some U=>.ok (.next U) s|none=>.B
  |_,_=>.B) D W H):cw1 i (TEv Γ m) (ipI λi j=>i+j) D W H:=by
 refine AG h λC U s c h E R z q=>AE (aa1 z) λx a a J=>AE (aa1 J) λy f e2 e=>?_;clear z J;unfold rf at a;split at a;case h_2=>grind
 rename_i d d;cases a;refine AO (E.val i _ d) λb v Z Uu=>⟨v,Z,C,U,s,y,f,E,R,e2,λw j Y d g b1 k l=>?_⟩;cases x with
 |int a=>cases y with
  |int b=>refine⟨a,b,Uu.intE,k.intE,?_⟩;have e:(match o6 U i<|.int (a+b)with|some U=>DV.R.ok (DV.Ct.next U) f|none=>.B)=.ok c h:=e;cases c:o6 U i<|.int (a+b)with|none=>simp_all|some a=>rw[c]at e;cases e;exact q j Y d g l _<|bk1 (E.mono d g) RV.intI rfl c
  |_=>cases e
 |_=>cases e
def cs0(h:TSv Γ (λU s=>oB (mc U s) λk s=>if k then Uu U s else J U s) D W H):cv4 (TTv Γ mc) (TSv Γ Uu) (TSv Γ J) D W H:=by refine AG h λC U s d f E R z q=>AE (AA z) λc e e1 z=>⟨C,U,s,c,e,E,R,e1,λg Y a b h=>?_⟩;cases c with|true=>rw[dO rfl]at z⊢;exact⟨g,U,e,d,f,E.mono a b,h,z,q.trans a b⟩|false=>rw[ef bB]at z⊢;exact⟨g,U,e,d,f,E.mono a b,h,z,q.trans a b⟩
set_option tactic.hygienic true in def bz1(h:TSv Γ (λU s=>(Y U s).bind λc s=>match c with|.next U=>Uu U s|c=>.ok c s) D W H):cn8 (TSv Γ Y) (TSv Γ Uu) D W H:=by refine AG h λC U s c g E R z q=>AE (aa1 z) λc1 d e1 z=>⟨C,U,s,c1,d,E,R,e1,λa J b e f=>?_⟩;cases c1 with|next h=>exactλi Z=>⟨a,h,d,c,g,Z,f,z,q.trans b e⟩|ret d=>cases z;exact q a J b e f|cont U=>cases z;exact q a J b e f|brk U=>cases z;exact q a J b e f
set_option tactic.hygienic true in def bv6(h:TSv Γ (DV.whl mc mb) D W H):be9 (TTv Γ mc) (TSv Γ mb) D W H:=by
 refine AG h λC U s c a E R z q=>?_;unfold DV.whl at z;split at z;case isFalse=>exact fb z
 rename_i d;generalize d.choose=n at z;refine⟨λn W H=>∃C U s,RE Γ C H s.length U W/\Rp Γ C H s/\DV.al0 mc mb n U s=.ok c a/\ar5 Γ C s H c a D,⟨n,C,U,s,E,R,z,q⟩,?_⟩;clear E R z q d;rintro n W H⟨C,U,s,E,R,z,q⟩;cases n with|zero=>exact fb z|succ n=>refine AE (AA z) λb e e1 z=>⟨C,U,s,b,e,E,R,e1,λf Z c a g=>?_⟩;cases b with|false=>rw[ef bB]at z⊢;cases z;exact q f Z c a g W<|E.mono c a|true=>rw[dO rfl]at z⊢;refine AE (aa1 z) λc1 d e2 z=>⟨_,λh H' w=>⟨n,dE n,w⟩,f,U,e,c1,d,E.mono c a,g,e2,λb e f Y R2=>?_⟩;have G:=c.trans f a;have L:=au a Y;cases c1 with|next a=>exactλc J=>⟨b,a,d,J,R2,z,q.trans G L⟩|cont a=>exactλc J=>⟨b,a,d,J,R2,z,q.trans G L⟩|ret d=>cases z;exact q b e G L R2|brk U=>cases z;exact q b e G L R2
set_option tactic.hygienic true in def cf3(h:TSv Γ (λU s=>(mI U s).bind λq a=>rg (λs=>oZ a s q.src) (λd U s=>match oJ U tg d with|some U=>mb U s|none=>.B) q.its U a) D W H):cs4 (TIv Γ mI) (gOf Γ.K tg) (TSv Γ mb) D W H:=by
 refine AG h λC U s c o E R hm k=>AE (aa1 hm) λq a d hm=>⟨C,U,s,q,a,E,R,d,λJ l d h e r n p=>⟨λi m j H'=>∃b f t,Gr l a d b t H'/\Rp Γ b H' t/\RE Γ b H' t.length f j/\i<=q.its.length/\m=q.its.length-i/\rg (λs=>oZ a s q.src) (λd U s=>match oJ U tg d with|some U=>mb U s|none=>.B) (q.its.drop i) f t=.ok c o,⟨q.its.length,?_⟩,?_⟩⟩;.exact⟨l,U,a,Gr.refl _ _ _,n,E.mono h e,cy _,by simp,by simp_all⟩
 .rintro i m j H'⟨b,f,t,g,Y,E',hil,rfl,hc⟩;have z:=g.le;rcases lA i q.its.length with a|c
  .have hd:=ar a;rw[cN a]at hc;unfold rg at hc;split at hc;case isFalse=>exact fb hc
   rename_i l;refine AB ((p b H' t g z Y l i).1 a) λa1 l=>.inr ⟨a1,_,λd d n=>⟨q.its.length-(i+1),by omega,n⟩,λx d m=>AB (l x d m) λsm d=>AB (Y.same sm) λg2 R2=>have n:=d _ hd;have bd:=zm z _<|ah6 r hd;AE (aa1 hc) λc1 d hs hc=>?_⟩;cases m:oJ f tg q.its[i]with|none=>simp_all|some f=>rw[m]at hs;refine bq0 (E'.mono g2<|aj _) n bd m λm m=>⟨b,f,t,c1,d,m,R2,hs,λf q m n Z=>?_⟩;have l:=(g.trans g2 z).trans m z;have r:=au z n;have s:=h.trans l e;cases c1 with|next m=>exactλt n=>⟨f,m,d,l,Z,n,a,rfl,hc⟩|cont m=>exactλt n=>⟨f,m,d,l,Z,n,a,rfl,hc⟩|ret d=>cases hc;exact k f q s (au e r) Z|brk U=>cases hc;exact k f q s (au e r) Z
  .rw[fN c]at hc;unfold rg at hc;split at hc;case isFalse=>exact fb hc
   rename_i l;cases hc;exact .inl ⟨(p b H' o g z Y l i).2 c,k b H' (h.trans g e) (au e z) Y j E'⟩
structure Ck where
 N:List Str
 sc:Scope
 lk:String->List Nat->Expr->Bool
noncomputable abbrev ck0(N:yI)(a:Scope):Ck:=⟨N,a,λ_ _ _=>ce⟩
noncomputable def Ck.vis(c:Ck)(x:Str):Bool:=match c.sc.names.lookup x with|some .local=>bY|some .cell=>bY|some .free=>bY|_=>ce
noncomputable def Ck.loc(c:Ck)(x:Str):Bool:=match c.sc.names.lookup x with|some .local=>bY|some .cell=>bY|_=>ce
noncomputable def Ck.gl(c:Ck)(x:Str):Bool:=(match c.sc.names.lookup x with|some .globalImplicit=>bY|_=>ce)&&!(x==("__debug__"))&&!decide (x=("__name__"))
noncomputable def Ck.var(c:Ck)(i:Nat)(x:Str):Bool:=decide (c.N[i]?=al x)&&c.vis x&&!(x==("__debug__"))&&!(x==("__classdict__"))
noncomputable def shp:Expr->Bool|.Starred ..=>ce|.Set ..=>ce|.SetComp ..=>ce|.DictComp ..=>ce|.GeneratorExp ..=>ce|.Slice ..=>ce|.NamedExpr ..=>ce|_=>bY
noncomputable def aq0:Expr->Bool|.ListComp ..=>ce|.SetComp ..=>ce|.DictComp ..=>ce|_=>bY
noncomputable def bX4:Expr->Bool|.Tuple ..=>ce|_=>bY
noncomputable def bX1:Expr->Bool|.Call _ [] [] _=>ce|_=>bY
noncomputable def mC:DV.Cn->Const->Bool|.N,.none=>bY|.T b,.bool c=>b==c|.int i,.int j=>decide<|i=j|.str x,.str y=>decide (y=⟨x.toArray⟩)&&decide (x.length<=1000)|_,_=>ce
noncomputable def ck8(a:Ck):List Nat->List Expr->Bool|[],[]=>bY|i::b,.Name x _::c=>decide (a.N[i]?=al x)&&a.loc x&&ck8 a b c|_,_=>ce
def mTg(a:Ck):o5->Expr->Bool|.Y i,.Name x _=>decide (a.N[i]?=al x)&&a.loc x|.tp b,.Tuple c _ _=>ck8 a b c|_,_=>ce
noncomputable def tgN:Expr->List Str
 |.Name x _=>[x]|.Tuple a _ _=>a.filterMap λe=>match e with|.Name x _=>al x|_=>aT
 |_=>[]
structure ItT where
 x:Str
 y:Str
 ob:Expr
 sc:Scope
 p1:Pos
 p2:Pos
 p3:Pos
 p4:Pos
 p5:Pos
 p6:Pos
 p7:Pos
 k1:Nat
 k2:Nat
 ap:Pos
 cp:Pos
 pos:Pos
noncomputable def ItT.tg(q:ItT):Expr:=.Tuple [.Name q.x q.p5,.Name q.y q.p6] q.k2 q.p7
noncomputable def ItT.it(q:ItT):Expr:=.Call (.Attribute q.ob "items" q.ap) [] [] q.cp
noncomputable def ItT.text(q:ItT):Expr:=.ListComp (.BinOp (.Name q.x q.p1) .Add (.Tuple [.Name q.y q.p2] q.k1 q.p3) q.p4) [⟨q.tg,q.it,[],0⟩] q.sc q.pos
def ckC(c:Ck)(b:Expr)(a:yE)(scope:Scope):Ck:=⟨tgN b++(a.filterMap id).map λj=>c.N.getD j "",scope,λ_ _ _=>ce⟩
def aU8(c:Ck)(tg:o5)(b iter:Expr)(a:yE)(scope:Scope):Bool:=qd (ckC c b a scope).N a scope c.N c.sc&&decide ((ckC c b a scope).N.Nodup)&&mTg (ckC c b a scope) tg b&&shp iter
noncomputable def isK:DV.L->Bool|.compK ..=>bY|_=>ce
def noK:pf->Bool|.mk _ l=>!isK l|_=>bY
noncomputable def biT:o8->Option Str|.len=>al "len"|.abs=>al "abs"|.min2=>al "min"|.max2=>al "max"|.max3=>al "max"|.int=>al "int"|.str=>al "str"|_=>aT
noncomputable def biK:o8->Option (Nat×Str)|.isInt=>al (1,"int")|.isBool=>al (2,"bool")|.isStr=>al (3,"str")|.isTup=>al (4,"tuple")|.isList=>al (5,"list")|_=>aT
noncomputable def mkT:pX->Option Str|.tuple=>al "tuple"|.list=>al "list"|_=>aT
noncomputable def mkF:pX->Option Str|.all=>al "all"|.min=>al "min"|_=>aT
noncomputable def mtT:pY->Option (Str×Nat)|.append=>al ("append",1)|_=>aT
noncomputable def bv2:oX->Bool|.nil=>ce|.ex _ a=>bv2 a|.lam _ _ _=>bY|.fn _ a=>bv2 a
def ck7(a:Ck)(b:o8)(x:Str)(c:yL)(d e:Bool):Bool:=match biK b with|some p=>(match c with|[_,.Name y _]=>decide (x=("isinstance"))&&a.gl x&&decide (y=p.2)&&a.gl y&&e|_=>ce)|none=>(match c with|_::_=>decide (biT b=al x)&&a.gl x&&d|[]=>ce)
noncomputable def lamArgs:bK->Option (List Str)|⟨[],a,aT,[],[],aT,[]⟩=>al (a.map (·.arg))|_=>aT
mutual noncomputable def mE(j:Ck):pf->Expr->Bool
 |.X i,E=>match E with|.Name x _=>j.var i x|_=>ce
 |.K c,E=>match E with|.Constant v _ _=>mC c v|_=>ce
 |.gl g,E=>match E with|.Name x _=>decide (x=(g:Str))&&j.gl x|_=>ce
 |.G c a b,E=>match E with|.BinOp l o r _=>decide (o=cs7 c)&&mE j a l&&mE j b r|_=>ce
 |.not a,E=>match E with|.UnaryOp .Not l _=>mE j a l|_=>ce
 |.Z c a b,E=>match E with|.Compare l [o] [r] _=>decide (o=bS0 c)&&mE j a l&&mE j b r|_=>ce
 |.isN a,E=>match E with|.Compare l [.Is] [.Constant .none _ _] _=>mE j a l|_=>ce
 |.notN a,E=>match E with|.Compare l [.IsNot] [.Constant .none _ _] _=>mE j a l|_=>ce
 |.and a b,E=>match E with|.BoolOp .And [l,r] _=>mE j a l&&mE j b r|.BoolOp .And (l::m::r::n) p=>mE j a l&&mE j b (.BoolOp .And (m::r::n) p)|_=>ce
 |.or a b,E=>match E with|.BoolOp .Or [l,r] _=>mE j a l&&mE j b r|.BoolOp .Or (l::m::r::n) p=>mE j a l&&mE j b (.BoolOp .Or (m::r::n) p)|_=>ce
 |.ite c a b,E=>match E with|.IfExp t l r _=>mE j c t&&mE j a l&&mE j b r|_=>ce
 |.tp n,E=>match E with|.Tuple g _ _=>mEs j n g&&decide (g.length<=1000)|_=>ce
 |.J n,E=>match E with|.List g _=>mEs j n g&&decide (g.length<=1000)|_=>ce
 |.dc c d,E=>match E with|.Dict a b _=>(match a,b with|[],[]=>mEs j c []&&mEs j d []|[al x],[y]=>mEs j c [x]&&mEs j d [y]|_,_=>ce)|_=>ce
 |.slU a b,E=>match E with|.Subscript o (.Slice aT (al h) aT _) _=>mE j a o&&mE j b h|_=>ce
 |.dicT,E=>match E with|.Dict [] [] _=>bY|_=>ce
 |.ix a b,E=>match E with|.Subscript o i _=>mE j a o&&mE j b i|_=>ce
 |.call f h,E=>match E with|.Call (.Name x _) g [] _=>decide (x=(f:Str))&&j.gl x&&mAs j h g|_=>ce
 |.callC f h,E=>match E with|.Call (.Name x _) (y::a) [] _=>decide (x=(f:Str))&&j.gl x&&bv2 h&&bT5 j h (y::a)|_=>ce
 |.callV i n,E=>match E with|.Call (.Name x _) (y::a) [] _=>j.var i x&&mEs j n (y::a)|_=>ce
 |.bi b n,E=>match E with|.Call (.Name x _) g [] _=>ck7 j b x g (mEs j n g) (mEs j n<|g.take 1)|_=>ce
 |.mk k l,E=>match E with|.Call (.Name x _) [a] [] _=>j.gl x&&shp a&&((decide (mkT k=al x)&&mL j 2 l a)||(decide (mkF k=al x)&&mL j 1 l a))|.ListComp e a b p=>decide (k=.list)&&(mL j 0 l (.ListComp e a b p)||(isK l&&mL j 1 l (.ListComp e a b p)))|_=>ce
 |.mkD k l d,E=>match E with|.Call (.Name x _) [a] [⟨al y,b,_⟩] _=>(decide (k=.min)&&decide (x=("min":Str)))&&decide (y=("default":Str))&&j.gl x&&shp a&&mL j 1 l a&&mE j d b|_=>ce
 |.me m o n,E=>match E with|.Call (.Attribute a x b) g [] d=>decide (mtT m=al (x,g.length))&&bX1 a&&(b.endLine==d.line)&&mE j o a&&mEs j n g|_=>ce
 |.attr o f,E=>match E with|.Attribute a x _=>decide (x=⟨f.toArray⟩)&&bX1 a&&mE j o a|_=>ce
 |.new c h,E=>match E with|.Call (.Name x _) g [] _=>decide (x=(c:Str))&&j.gl x&&mAs j h g|_=>ce
 |.mcall o m h,E=>match E with|.Call (.Attribute a x b) g [] d=>(match a with|.Name y a=>decide (x=(m:Str))&&mE j o (.Name y a)&&(b.endLine==d.line)&&decide (g.length<29)&&mAs j h g|_=>ce)|_=>ce noncomputable def mEs(b:Ck):oK->List Expr->Bool
 |.nil,a=>match a with|[]=>bY|_=>ce
 |.cons e c,a=>match a with|x::a=>mE b e x&&shp x&&mEs b c a|_=>ce noncomputable def mFs(b:Ck):oK->List Expr->Bool
 |.nil,a=>match a with|[]=>bY|_=>ce
 |.cons e d,a=>match a with|.FormattedValue v c aT _::a=>decide (c=-1)&&mE b e v&&mFs b d a|.Constant v j p::a=>mE b e (.Constant v j p)&&mFs b d a|_=>ce noncomputable def mAs(b:Ck):oX->List Expr->Bool
 |.nil,a=>match a with|[]=>bY|_=>ce
 |.ex e c,a=>match a with|x::a=>mE b e x&&shp x&&mAs b c a|_=>ce
 |.lam _ _ _,_=>ce|.fn _ _,_=>ce noncomputable def bT5(c:Ck):oX->List Expr->Bool
 |.nil,a=>match a with|[]=>bY|_=>ce
 |.ex e d,a=>match a with|x::a=>mE c e x&&shp x&&bT5 c d a|_=>ce
 |.lam id b d,a=>match a with|x::a=>c.lk id b x&&shp x&&bT5 c d a|_=>ce
 |.fn _ _,_=>ce noncomputable def mI(d:Ck)(a:Expr):DV.I->Expr->Bool
 |.rg a,E=>match E with|.Call (.Name x _) [l] [] _=>decide (x=("range":Str))&&d.gl x&&mE d a l&&shp l|_=>ce
 |.seq e,x=>mE d e x&&shp x|.rng3 a b c,E=>match E with|.Call (.Name x _) [l,r,.Constant v _ _] [] _=>decide (x=("range":Str))&&d.gl x&&mE d a l&&shp l&&mE d b r&&shp r&&decide (c=2)&&decide (v=.int 2)|_=>ce
 |.keys _,_=>ce noncomputable def mL(g:Ck)(k:Nat):DV.L->Expr->Bool
 |.comp tg it e b,E=>match E with|.ListComp h [⟨d,f,[],z⟩] a _=>decide (z=0)&&aU8 g tg d f b a&&mI g d it f&&mE (ckC g d b a) e h|_=>ce
 |.compIf tg it c e b,E=>match E with|.ListComp h [⟨d,f,[i],z⟩] a _=>decide (z=0)&&aU8 g tg d f b a&&mI g d it f&&mE (ckC g d b a) c i&&mE (ckC g d b a) e h|_=>ce
 |.disp b,E=>match E with|.List a _=>decide (1<=k)&&mEs g b a&&decide (a.length<=1000)|_=>ce
 |.seq e,x=>decide (k=2)&&mE g e x|.compK _ _ _ _,_=>ce end
def ff{p:Prop}(h:ce=bY):p:=lT h
noncomputable def bQ9:bK->Bool|⟨[],a,aT,[],[],aT,[]⟩=>a.all λy=>y.annotation.isNone|_=>ce
noncomputable def cu8:List Stmt->Option (Str×bK×Expr×Pos×Scope×Pos×List Stmt)|.FunctionDef f a [.Return (al b) g] [] aT [] c aT d e::h=>if d=f then al (f,a,b,g,c,e,h)else aT|_=>aT
noncomputable def ct5(nm:Str):List Stmt->Option (Str×Pos×Expr×Pos×Pos×Pos)|[.Return (al<|.Call (.Name g c) [a,.Name x d] [] e) b]=>if x=nm then al (g,c,a,d,e,b)else aT|_=>aT
noncomputable def cr9:rG->pG->Option (Nat×String×pf×String×List Nat)|.und i,.cons (.ret<|.callC g<|.ex e<|.lam id a .nil) .nil=>al (i,g,e,id,a)|_,_=>aT
def bW4(a:Ck)(s:rG)(b:pG)(S:yM):Bool:=(cr9 s b).any λd=>(cu8 S).any λq=>(ct5 q.1 q.2.2.2.2.2.2).any λr=>decide (a.N[d.1]?=al q.1)&&a.loc q.1&&a.var d.1 q.1&&a.lk d.2.2.2.1 d.2.2.2.2 (.NamedExpr (.Name q.1 q.2.2.2.1) (.Lambda q.2.1 q.2.2.1 q.2.2.2.2.1 q.2.2.2.2.2.1) q.2.2.2.2.2.1)&&decide (r.1=(d.2.1))&&a.gl r.1&&mE a d.2.2.1 r.2.2.1&&shp r.2.2.1&&bQ9 q.2.1
mutual noncomputable def mS(d:Ck):rG->Stmt->Bool
 |.A tg e,S=>match S with|.Assign [t] v _=>mTg d tg t&&mE d e v&&(match tg with|.Y _=>noK e|.tp _=>bX4 v&&aq0 v)|_=>ce
 |.setIx o i e,S=>match S with|.Assign [.Subscript g a _] v _=>mE d o g&&mE d i a&&mE d e v&&aq0 v|_=>ce
 |.aug i e,S=>match S with|.AugAssign (.Name x _) .Add v _=>decide (d.N[i]?=al x)&&d.loc x&&mE d e v|_=>ce
 |.ex e,S=>match S with|.Expr v _=>mE d e v&&aq0 v|_=>ce
 |.ret e,S=>match S with|.Return (al v) _=>mE d e v|_=>ce
 |.retN,S=>match S with|.Return aT _=>bY|_=>ce
 |.ite c a b,S=>match S with|.If t l r _=>mE d c t&&mSs d a l&&mSs d b r|_=>ce
 |.whl c b,S=>match S with|.While t l [] _=>mE d c t&&mSs d b l|_=>ce
 |.fo tg it b,S=>match S with|.For a c l [] _=>mTg d tg a&&mI d a it c&&mSs d b l|_=>ce
 |.raise,_=>bY|.und _,_=>ce|.setA o f e,S=>match S with|.Assign [.Attribute g x _] v _=>decide (x=⟨f.toArray⟩)&&mE d o g&&mE d e v&&aq0 v|_=>ce noncomputable def mSs(b:Ck):pG->List Stmt->Bool
 |.nil,a=>match a with|[]=>bY|_=>ce
 |.cons s c,a=>match a with|x::a=>bW4 b s c (x::a)||(mS b s x&&mSs b c a)|_=>ce end
def aM8(h:mE z e E=bY):shp E=true:=by cases E<;>first|rfl|(exfalso;cases e<;>exact ff h)
def bB3(h:mI J z e E=bY):shp E=true:=by cases e with|seq e=>have h:(mE J e E&&shp E)=true:=h;rw[ae]at h;exact h.2|_=>cases E<;>first|rfl|exact ff h
def bP9(h:DV.mkq x s t r=.ok d s'):pT x s=pT x t/\r=.ok d s':=by
 unfold DV.mkq at h;split at h;.exact⟨by assumption,h⟩
 .cases h
def cp7(h:s[a]?=al o)(g:t[a]?=al z)(n:o.kd≠z.kd):¬pT (.ref a) s=pT (.ref a) t:=by unfold pT;simp_all
def ze{es:yL}(h:shp e=bY):a9 (e::es) env=(ce,eval e env)::a9 es env:=by cases e<;>first|rfl|cases h
theorem zr:∀{es:yL},(∀e∈es,shp e=bY)->(cT pos<|a9 es env).any (·.1)=ce/\(cT pos<|a9 es env).all (λx=>!x.1)=bY|[],_=>⟨rfl,rfl⟩|e::es,h=>by have J:=ze (es:=es) (env:=env)<|h e<|am ..;obtain⟨z,a⟩:=zr (env:=env) (pos:=pos) λx b=>h x<|ah _ b;rw[J];unfold cT at z a⊢;simp only[aQ,fY,dk,z,a];exact⟨rfl,rfl⟩
def ax3(h:shp e=bY)x:d8 e env x=pure x:=by cases e<;>first|rfl|cases h
def aE4(h:shp e=bY):d3 op e=false:=by cases e<;>first|rfl|cases h
def aj8(h:aq0 e=bY):fR e t l env=pure false:=by cases e<;>first|rfl|cases h
def az4(h:bX1 e=bY):eX e f env (eval e env)=eval e env:=by cases e with
 |Call g a k p=>cases g with
  |Name x b=>cases a with
   |nil=>cases k with|nil=>cases h|cons _ _=>rfl
   |cons _ _=>rfl
  |_=>rfl
 |_=>rfl
def aT1{es:yL}(h:bX4 e=bY):kG [.Tuple es k p] e env=pure none:=by cases e<;>first|rfl|cases h
def aS9:kG [.Subscript o i p] e env=pure none:=by cases e<;>rfl
def aW7(h:shp e=bY):bb5 e:=λo i=>by cases e<;>first|rfl|cases h
def spV(Γ:Gm)(c:List n9->n8->ol n9):Sp:=λa H Q _=>rCl Γ c a H Q
noncomputable def bNames:List Str:=["len","abs","min","max","int","isinstance","bool","str","tuple","list","range","sum","all","any","sorted","zip","enumerate","ord"]
def spL(Γ:Gm)(c:List n9->List n9->n8->ol n9)(a:List V):Sp:=λf H Q _=>∃C s b l d e,Rp Γ C H s/\RVL Γ C H l f/\RVL Γ C H b a/\oa s.length l=bY/\oa s.length b=bY/\c b l s=.ok d e/\ag0 Γ C s H d e Q
noncomputable def LamI.own(J:LamI):Str:=match J.nm with|none=>"<lambda>"|some p=>p.1
noncomputable def lamText(J:LamI)(a:bK)(body:Expr)(scope:Scope)(pos:Pos):Expr:=match J.nm with|none=>.Lambda a body scope pos|some p=>.NamedExpr (.Name p.1 p.2) (.Lambda a body scope pos) pos
structure LamHere(Γ:Gm)(X:Cx)(N:yI)(id:String)(caps:List Nat)(params:bK)(body:Expr)(scope:Scope)(c P:Addr)(J:LamI):Prop where
 code:X.env.code=.ref c
 hd:bL X.base c P
 bm:BM X.mg X.base
 ck:lamCheck scope X.env.scope=bY
 df:mV params X.env=([],[])lg:Γ.lg id J
 q:J.qual=X.env.qual++J.own
 p:J.params=params
 b:J.body=body
 s:J.scope=scope
 len:J.fr.length=caps.length
 at_:∀(i j:Nat)(x:Str),caps[i]?=al j->J.fr[i]?=al x->N[j]?=al x
 fr:∀x∈J.fr,scope.names.lookup x=al .free
 cl:∀x,scope.names.lookup x=al .free->∃c,X.env.cells.lookup x=al c
 tab:(P,J.qual)∈Γ.T
 nd:(Γ.T.map (·.1)).Nodup
 fn:∀x,X.fn x=bY
 kd:∀x c,X.env.cells.lookup x=al c->X.env.kindOf x=al .cell\/X.env.kindOf x=al .free
 gs:LamScope (J.ps++J.fr) J.ps J.fr J.scope
 gp:lamArgs J.params=al J.ps
 gb:∀(clos:yC)(pm:Value)(c':Addr)(ctv:Value)(us:yH),us.length=J.ps.length->eY (cB "<lambda>" J.qual J.params J.body J.scope clos pm (.ref c') ctv) ⟨us,[]⟩=pure (J.ps.zip us)
noncomputable def strD(kvs:List<|List Nat×List Nat):List<|PyData×PyData:=kvs.map λp=>(.str ⟨p.1.toArray⟩,.str ⟨p.2.toArray⟩)
structure ObOk(Γ:Gm)(prog:aH)(w:World)(K:ac)(mg:yD)(base:Heap)(F:oy)(n:Nat):Prop where att:∀(c:String)(f:List Nat)(Cc:Addr),F.att c f=bY->Γ.cls c=al Cc->NoAttr K Cc ⟨f.toArray⟩mc:∀c m:String,(∀l s,F.mcall c m l s=.B)\/∃Cc a fd ps,Γ.cls c=al Cc/\Cls K Cc/\Meth K Cc (m:Str) a/\FnOk prog w K mg base CX0 n a fd ps (spV Γ<|F.mcall c m)/\Binds K fd ps []nw:∀c:String,(∀l s,F.new c l s=.B)\/∃k Cc a fd ps,k+1<=n/\(Γ.cls c=al Cc/\Cls K Cc)/\mg (c:Str)=al (.ref Cc)/\Mk K Cc a/\FnOk prog w K mg base CX0 k a fd ps (spV Γ<|F.new c)/\Binds K fd ps []
structure CG(Γ:Gm)(F:oy)(n:Nat)(X:Cx)(ck:Ck):Prop where
 K:X.K=Γ.K
 N:X.N=ck.N
 nd:ck.N.Nodup
 xe:X.xe=λ_ _=>False
 calm:X.calm=bY
 deep:oC+1<=n
 room:Room n X.A
 sc:∀x k,ck.sc.names.lookup x=al k->X.env.scope.names.lookup x=al k\/(k=.free/\X.env.scope.names.lookup x=al .cell)fn:∀x,ck.sc.names.lookup x=al .cell->X.fn x=bY
 bi:∀x∈bNames,X.mg x=aT
 call:∀f:String,(∀l s,F.call f l s=.B)\/∃a fd ps,FnOk X.prog X.w X.K X.mg X.base CX0 n a fd ps (spV Γ<|F.call f)/\X.mg (f:Str)=al (.ref a)/\bR X.K (.ref a)=bY/\Binds X.K fd ps []con:∀x d,F.con x=al d->∃v u,X.mg (x:Str)=al u/\RelV v u/\(∀m,d.bnd m=bY)/\∀C H,RV Γ C H d v
 lam:∀id caps E,ck.lk id caps E=bY->∃c P params body scope pos J,E=lamText J params body scope pos/\LamHere Γ X ck.N id caps params body scope c P J
 cl:∀(id:String)(J:LamI)(f:Addr)(cap:List V)(clos:yC),Γ.lg id J->cap.length=J.fr.length->ClOk X.prog X.w X.K X.mg X.base n (λH=>CloAt H f J cap clos) f (spL Γ (F.lam id) cap)fa:∀(f:String)(a:Addr),Γ.fa f=al a->X.mg (f:Str)=al (.ref a)/\∃oc od fd sl,X.K.lookup a=al ⟨oc,od,.func fd,sl⟩cdc:∀c kvs,F.cdc c=al kvs->∃a,X.mg (c:Str)=al (.ref a)/\∀h:Heap,X.K.In h->StrTab X.prog X.w h a (strD kvs)ob:ObOk Γ X.prog X.w X.K X.mg X.base F n
section
variable{Γ:Gm}{F:oy}{n:Nat}{X:Cx}{ck:Ck}
set_option tactic.hygienic true in theorem CG.vis(G:CG Γ F n X ck)(h:ck.vis x=bY):Vis X.env.scope x:=by
 unfold Ck.vis at h;split at h
 .rename_i e;rcases G.sc _ _ e with z|⟨z,_⟩;.exact .inl z
  .cases z
 .rename_i e;rcases G.sc _ _ e with z|⟨z,_⟩;.exact .inr<|.inl z
  .cases z
 .rename_i e;rcases G.sc _ _ e with z|⟨_,z⟩;.exact .inr<|.inr z
  .exact .inr<|.inl z
 .cases h
set_option tactic.hygienic true in theorem CG.loc(G:CG Γ F n X ck)(h:ck.loc x=bY):Loc X.env.scope x/\(X.fn x=bY\/X.env.scope.names.lookup x=al .local):=by
 unfold Ck.loc at h;split at h
 .rename_i e;rcases G.sc _ _ e with z|⟨z,_⟩;.exact⟨.inl z,.inr z⟩
  .cases z
 .rename_i e;rcases G.sc _ _ e with z|⟨z,_⟩;.exact⟨.inr z,.inl<|G.fn _ e⟩
  .cases z
 .cases h
set_option tactic.hygienic true in theorem CG.gl(G:CG Γ F n X ck)(h:ck.gl x=bY):Gl X x/\(x==("__debug__"))=ce/\x≠"__name__":=by
 unfold Ck.gl at h;simp only[ae,fL]at h;obtain⟨⟨J,a⟩,b⟩:=h;refine⟨?_,a,of_decide_eq_false b⟩;split at J
 .rename_i e;rcases G.sc _ _ e with z|⟨z,_⟩;.exact z
  .cases z
 .cases J
theorem bC1(G:CG Γ F n X ck):∀{b}{d:yL},ck8 ck b d=bY->PGs X d (ck6 b)/\(c6 d X.env).length=b.length/\(c6 d X.env).findIdx? (·.1)=aT|[],[],_=>⟨bR3,rfl,rfl⟩|[],_::_,h=>by cases h|i::b,[],h=>by cases h|i::b,e::d,h=>by cases e with|Name x p=>unfold ck8 at h;simp only[ae,iF]at h;obtain⟨⟨e,z⟩,b⟩:=h;refine AB (G.loc z) λl1 J=>AI (bC1 G b) λa b c=>have b:c6 (.Name x p::d) X.env=(ce,iC (.Name x p) X.env)::c6 d X.env:=rfl;⟨bs7 (bl4 (G.N▸G.nd) (G.N▸e) l1 J) a<|by rw[b];rfl,by simp_all,?_⟩;rw[b,List.findIdx?_cons];simp[c]|_=>cases h
def bq8(G:CG Γ F n X ck)(h:mTg ck tg e=bY):PG X e<|gOf Γ.K tg:=by
 unfold mTg at h;split at h;.simp only[ae,iF]at h;exact AB (G.loc h.2) λl1 z=>bl4 (G.N▸G.nd) (G.N▸h.1) l1 z
 .exact AI (bC1 G h) λa b c=>bF0 G.K G.calm a b c
 .cases h
set_option tactic.hygienic true in def CG.comp(G:CG Γ F n X ck)(h:aU8 ck tg Uu iter J scope=bY):qd (ckC ck Uu J scope).N J scope X.N X.env.scope=bY/\shp iter=bY/\∀b a s H ex,CG Γ F n (zQ X (ckC ck Uu J scope).N scope b a s H ex) (ckC ck Uu J scope)/\PG (zQ X (ckC ck Uu J scope).N scope b a s H ex) Uu (gOf Γ.K tg):=by
 unfold aU8 at h;simp only[ae,iF]at h;obtain⟨⟨⟨Y,h2⟩,d⟩,a⟩:=h;refine⟨?_,a,λb a s H ex=>?_⟩
 .rw[G.N];unfold qd at Y⊢;simp only[ae]at Y⊢;obtain⟨⟨⟨⟨⟨e,c⟩,f⟩,g⟩,h⟩,i⟩:=Y;refine⟨⟨⟨⟨⟨e,?_⟩,f⟩,g⟩,h⟩,i⟩;rw[aG]at c⊢;intro y e;have:=c y e;rw[cf]at this⊢;rcases this with q|q;.exact .inl q
  .right;rw[cf]at q⊢;rcases q with q|q
   .rcases G.sc _ _ (gv q)with z|⟨z,_⟩;.left;exact z▸beq_self_eq_true _
    .cases z
   .rcases G.sc _ _ (gv q)with z|⟨_,z⟩;.right;exact z▸beq_self_eq_true _
    .left;exact z▸beq_self_eq_true _
 .have Z:CG Γ F n (zQ X (ckC ck Uu J scope).N scope b a s H ex) (ckC ck Uu J scope):=by
   refine⟨G.K,rfl,h2,rfl,G.calm,G.deep,G.room,λx k e=>?_,λx e=>?_,G.bi,G.call,G.con,λ_ _ _ h=>(by cases h),G.cl,G.fa,G.cdc,G.ob⟩
   .have q:=qz (env:=X.env) e;have a:(fX scope X.env).names.lookup x=al (if(k==NameKind.free&&X.env.scope.kind==.function&&X.env.kindOf x==al .cell)then NameKind.cell else k):=q;show(fX scope X.env).names.lookup x=al k\/_;rw[a];split;.rename_i hc;simp only[ae]at hc;exact .inr ⟨gv hc.1.1,rfl⟩
    .exact .inl rfl
   .show(scope.names.lookup x==al .cell)=bY;rw[show scope.names.lookup x=al .cell from e];rfl
  exact⟨Z,bq8 Z d⟩
end
section
variable{Γ:Gm}{F:oy}{n:Nat}{X:Cx}{ck:Ck}{W:St}{H:Hp}{Q:VK}
def TEv.eq(e:∀U s,m U s=m' U s)(q:TEv Γ m W H Q):TEv Γ m' W H Q:=by have:=funext λU=>funext<|e U;simp_all
def TTv.eq{Q}(e:∀U s,m U s=m' U s)(q:TTv Γ m W H Q):TTv Γ m' W H Q:=by have:=funext λU=>funext<|e U;simp_all
def TAv.eq{Q}(e:∀U s,m U s=m' U s)(q:TAv Γ m W H Q):TAv Γ m' W H Q:=by have:=funext λU=>funext<|e U;simp_all
def TFv.eq(e:∀U s,m U s=m' U s)(q:TFv Γ m W H Q):TFv Γ m' W H Q:=by have:=funext λU=>funext<|e U;simp_all
def TIv.eq(e:∀U s,m U s=m' U s)(q:TIv Γ m W H R):TIv Γ m' W H R:=by have:=funext λU=>funext<|e U;simp_all
def TSv.eq(e:∀U s,m U s=m' U s)(q:TSv Γ m D W H):TSv Γ m' D W H:=by have:=funext λU=>funext<|e U;simp_all
def EvT(Γ:Gm)(X:Cx)(E:Expr)(m:og->n8->ol n9):Prop:=PE X E (TEv Γ m)/\PT X E (TTv Γ m)
def EvT.val(h:PE X E<|TEv Γ m)(J:autoParam (∀z,ie E X.env z=(do let v<-z;lc E.pos;gX [v]<|truthy v)) Zq3._auto_1):EvT Γ X E m:=⟨h,(bc2 h J).imp λW H Q q=>aO3 q⟩
def bt6(d:PT X c Uu)(f:PT X a tb)(g:PT X b tc):PT X (.IfExp c a b pos) (λW H Q=>Uu W H λk J=>if k=bY then tb W J Q else tc W J Q):=by intro z s W H Q I h;have e:ie (.IfExp c a b pos) X.env (eval (.IfExp c a b pos) X.env)=(do if<-ie c X.env (eval c X.env)then ie a X.env (eval a X.env)else ie b X.env<|eval b X.env):=rfl;rw[e];refine ai<|thn (d z s W H _ I h) λk a⟨J,Y,Z⟩=>?_;cases k with|true=>exact f z a W J Q Y Z|false=>exact g z a W J Q Y Z
def ca5{Q}(h:TTv Γ (λU s=>oB (mc U s) λk s=>if k then Y U s else Uu U s) W H Q):TTv Γ mc W H λk J=>if k=bY then TTv Γ Y W J Q else TTv Γ Uu W J Q:=by refine AG h λC U s d f E R z q=>AE (AA z) λc e e1 z=>⟨C,U,s,c,e,E,R,e1,λg J a b h=>?_⟩;cases c with|true=>rw[dO rfl]at z⊢;exact⟨g,U,e,d,f,E.mono a b,h,z,q.trans a b⟩|false=>rw[ef bB]at z⊢;exact⟨g,U,e,d,f,E.mono a b,h,z,q.trans a b⟩
section
variable{a b c:pf}{l r t:Expr}{pos:Pos}
def bF5(G:CG Γ F n X ck)op(ha:EvT Γ X l<|om F a)(hb:EvT Γ X r<|om F b):EvT Γ X (.BinOp l (cs7 op) r pos) (om F<|.G op a b):=.val<|(cm8 (bV3 G.K op) ha.1 hb.1).imp λW H Q q=>bs6<|TEv.eq (λU s=>rfl) q
def bL5(b:EvT Γ X l<|om F a):EvT Γ X (.UnaryOp .Not l pos) (om F<|.not a):=⟨(bC7 b.1).imp λW H Q q=>cj5<|TEv.eq (λU s=>rfl) q,(bC6 b.2).imp λW H Q q=>cf7<|TTv.eq (λU s=>rfl) q⟩
def bL7(G:CG Γ F n X ck)op(hs:shp r=bY)(ha:EvT Γ X l<|om F a)(hb:EvT Γ X r<|om F b):EvT Γ X (.Compare l [bS0 op] [r] pos) (om F<|.Z op a b):=have a:=bU2 G.K (G.room.mono G.deep) op;⟨(bM4 a ha.1 hb.1<|aE4 hs).imp λW H Q q=>bs6<|TEv.eq (λU s=>rfl) q,(bP8 a ha.1 hb.1<|aE4 hs).imp λW H Q q=>have q:=bJ3 q;bs6<|TEv.eq (λU s=>rfl) q⟩
def RV.nonIff(r:RV Γ C H x v):decide (v=.N)=decide (x=.N):=by cases x with|N=>rw[r.nonE];rfl|T b=>rw[r.blE];rfl|int i=>rw[r.intE];rfl|str z=>rw[r.strE];rfl|tp l=>obtain⟨a,h,rfl,_⟩:=r.tupE;rfl|ref k=>rw[r.refE];rfl|fn f=>obtain⟨a,_,rfl⟩:=r;rfl|clo f a=>obtain⟨f,_,_,_,rfl,_⟩:=r;rfl
def bF1(b:EvT Γ X l<|om F a):EvT Γ X (.Compare l [.Is] [.Constant .none j pos'] pos) (om F<|.isN a):=by
 have key:∀W H Q,TEv Γ (om F<|.isN a) W H Q->cv0 (TEv Γ<|om F a) W H Q:=λW H Q q=>by refine AG q λC U s d a E R h k=>AE (aa1 h) λx a a h=>?_;cases h;refine⟨C,U,s,x,_,E,R,a,λv a z c d e e f=>?_⟩;show Q (.T<|decide<|v=.N) z;exact e.nonIff▸k _ a z c d rfl RV.blI f
 exact⟨(bB9<|bE1 b.1).imp key,(bB1<|bE1 b.1).imp λW H Q q=>key _ _ _<|aO3 q⟩
def bv0(b:EvT Γ X l<|om F a):EvT Γ X (.Compare l [.IsNot] [.Constant .none j pos'] pos) (om F<|.notN a):=by
 have key:∀W H Q,TEv Γ (om F<|.notN a) W H Q->bT9 (TEv Γ<|om F a) W H Q:=λW H Q q=>by refine AG q λC U s d a E R h k=>AE (aa1 h) λx a a h=>?_;cases h;refine⟨C,U,s,x,_,E,R,a,λv a z c d e e f=>?_⟩;show Q (.T<|!decide (v=.N)) z;exact e.nonIff▸k _ a z c d rfl RV.blI f
 exact⟨(bB9<|be2 b.1).imp key,(bB1<|be2 b.1).imp λW H Q q=>key _ _ _<|aO3 q⟩
def bg3{es:yL}{t}(h:PT X (.BoolOp op es pos) t):PW X (.BoolOp op es pos) t:=by intro J z s W H Q I q;have:=h z s W H Q I q;have e:∀w,ie (.BoolOp op es pos) X.env w=allTrue op es X.env:=λw=>rfl;rw[e]at this⊢;exact this
def bE5(c:EvT Γ X l<|om F a)(d:EvT Γ X r<|om F b):EvT Γ X (.BoolOp .And [l,r] pos) (om F<|.and a b):=⟨(bD1 c.1<|bD9 d.1).imp λW H Q q=>bD0<|TEv.eq (λU s=>rfl) q,(bC9 c.2<|bS1 d.2).pt.imp λW H Q q=>bA1<|TTv.eq (λU s=>rfl) q⟩
def bJ6{es:yL}(c:EvT Γ X l<|om F a)(d:EvT Γ X (.BoolOp .And (r::es) pos) (om F b)):EvT Γ X (.BoolOp .And (l::r::es) pos) (om F<|.and a b):=⟨(bD1 c.1 d.1).imp λW H Q q=>bD0<|TEv.eq (λU s=>rfl) q,(bC9 c.2<|bg3 d.2).pt.imp λW H Q q=>bA1<|TTv.eq (λU s=>rfl) q⟩
def bV7(c:EvT Γ X l<|om F a)(d:EvT Γ X r<|om F b):EvT Γ X (.BoolOp .Or [l,r] pos) (om F<|.or a b):=⟨(cd0 c.1<|bD9 d.1).imp λW H Q q=>cc2<|TEv.eq (λU s=>rfl) q,(ch0 c.2<|cc6 d.2).pt.imp λW H Q q=>bU6<|TTv.eq (λU s=>rfl) q⟩
def cc1{es:yL}(c:EvT Γ X l<|om F a)(d:EvT Γ X (.BoolOp .Or (r::es) pos) (om F b)):EvT Γ X (.BoolOp .Or (l::r::es) pos) (om F<|.or a b):=⟨(cd0 c.1 d.1).imp λW H Q q=>cc2<|TEv.eq (λU s=>rfl) q,(ch0 c.2<|bg3 d.2).pt.imp λW H Q q=>bU6<|TTv.eq (λU s=>rfl) q⟩
def bG9(d:EvT Γ X t<|om F c)(e:EvT Γ X l<|om F a)(f:EvT Γ X r<|om F b):EvT Γ X (.IfExp t l r pos) (om F<|.ite c a b):=⟨(bx7 d.2 e.1 f.1).imp λW H Q q=>bV8<|TEv.eq (λU s=>rfl) q,(bt6 d.2 e.2 f.2).imp λW H Q q=>ca5<|TTv.eq (λU s=>rfl) q⟩
def cc9(G:CG Γ F n X ck)(c:shp r=bY)(d:EvT Γ X l<|om F a)(e:EvT Γ X r<|om F b):EvT Γ X (.Subscript l r pos) (om F<|.ix a b):=.val<|(cl6 (co9 G.K<|au9 G.room) d.1 e.1<|aW7 c).imp λW H Q q=>bs6<|TEv.eq (λU s=>rfl) q
def bJ2(G:CG Γ F n X ck)(c:EvT Γ X l<|om F a)(d:EvT Γ X r<|om F b):EvT Γ X (.Subscript l (.Slice aT (al r) aT h) pos) (om F<|.slU a b):=.val<|(br5 (cs2 G.K) c.1 bQ0<|bS7 d.1).imp λW H Q q=>(cs5 (ml:=om F b)).2.1<|TEv.eq (λU s=>rfl) q
end
end
section
variable{Γ:Gm}{F:oy}{n:Nat}{X:Cx}{ck:Ck}{W:St}{H:Hp}{Q:VK}
theorem ay4:∀{a}{U}{s b}{l}{z:yL}{J},oS F a U s=.ok l b->mEs J a z=bY->l.length=z.length
 |.nil,U,s,b,l,z,J,h,m=>by cases h;cases z with|nil=>rfl|cons _ _=>rw[mEs]at m<;>first|cases m|(intros;simp_all)
 |.cons e a,U,s,b,l,z,J,h,m=>by refine AE (aa1 h) λd a a h=>AE (aa1 h) λr a a h=>?_;cases h;cases z with
  |nil=>rw[mEs]at m<;>first|cases m|(intros;simp_all)
  |cons x z=>rw[mEs,ae]at m;rw[aR,aR,ay4 a m.2]
theorem aA2:∀{b}{z:yL},mEs ck b z=bY->∀x∈z,shp x=bY
 |.nil,[],_,x,a=>by cases a|.nil,_::_,m,_,_=>by rw[mEs]at m<;>first|cases m|(intros;simp_all)
 |.cons e b,[],m,x,a=>by cases a|.cons e b,y::z,m,x,a=>by
  rw[mEs,ae,ae]at m;rcases aD.mp a with h|h;.exact h▸m.1.2
  .exact aA2 m.2 x h
theorem jI:∀{b}{z:yL},mAs ck b z=bY->∀x∈z,shp x=bY
 |.nil,[],_,x,a=>by cases a|.nil,_::_,m,_,_=>by rw[mAs]at m<;>first|cases m|(intros;simp_all)
 |.ex e b,[],m,x,a=>by cases a|.lam _ _ _,_,m,_,_=>by rw[mAs]at m<;>first|cases m|(intros;simp_all)
 |.fn _ _,_,m,_,_=>by rw[mAs]at m<;>first|cases m|(intros;simp_all)
 |.ex e b,y::z,m,x,a=>by
  rw[mAs,ae,ae]at m;rcases aD.mp a with h|h;.exact h▸m.1.2
  .exact jI m.2 x h
def aO8(a:shp x=bY)(J:PE X x<|TEv Γ<|om F e)(z:PA X h<|TAv Γ ms):PA X (x::h) (TAv Γ<|λU s=>(om F e U s).bind λd s=>(ms U s).bind λl s=>.ok (d::l) s):=(zy J z<|ze a).imp λW H Q q=>bK9 q
def aN5(h:k<=1000):k<=a7:=by rw[f8];lia
theorem bN0{z:yL}(m:mEs ck es z=bY)(a:z.length<=1000)(h:PA X z<|TAv Γ<|oS F es):EvT Γ X (.Tuple z k pos) (om F<|.tp es):=.val<|(bz2 h).imp λW H Q q=>tv_tup' a m q where tv_tup'{es}{z}{W}{H}{Q}(a:z.length<=1000)(m:mEs ck es z=bY)(q:TEv Γ (om F<|.tp es) W H Q):cv9 (TAv Γ<|oS F es) W H Q:=by refine AG q λC U s d b E R J q=>AE (aa1 J) λl b b J=>?_;cases J;exact⟨C,U,s,l,_,E,R,b,λc c c d e f c g=>⟨c.length▸ay4 b m▸aN5 a,λp a=>(q.trans d e).tup g c f a⟩⟩
def bR7{z:yL}(m:mEs ck es z=bY)(c:z.length<=1000)(h:PA X z<|TAv Γ<|oS F es):EvT Γ X (.List z pos) (om F<|.J es):=by refine .val<|(by7 h).imp λW H Q q=>AG q λC U s d a E R J q=>AE (aa1 J) λl a a J=>?_;obtain⟨rfl,rfl⟩:=qr J;exact⟨C,U,s,l,_,E,R,a,λb b b d e f b g=>⟨b.length▸ay4 a m▸aN5 c,λp a=>(q.trans d e).alloc g b f a⟩⟩
def bt4{f:String}{J:yL}(G:CG Γ F n X ck)(a:ck.gl (f:Str)=bY)(m:mAs ck z J=bY)(h:PA X J<|TAv Γ<|oF F z):EvT Γ X (.Call (.Name (f) p) J [] pos) (om F<|.call f z):=by
 refine .val ?_;refine AI (G.gl a) λg1 Z a=>?_;rcases G.call f with a|⟨a,a,ps,a,b,c,e⟩;.refineλa0 s W H Q I q=>AG q λC U s d d E R Y q=>AE (aa1 Y) λl d d Y=>?_;simp_all
 have key:∀W H Q,TEv Γ (om F<|.call f z) W H Q->aR1 (spV Γ<|F.call f) [] E0 (TAv Γ<|oF F z) W H Q:=λW H Q q=>by have:=aL1<|TEv.eq (λU s=>rfl) q;unfold tCB at this;unfold aR1 spV;simp_all
 cases J with
 |nil=>have d:PE X (.Call (.Name (f) p) [] [] pos) (aR1 (spV Γ<|F.call f) [] E0 aH9):=bo2 a G.room g1 b c e .nil aU5 Z;cases z with|nil=>exact d.imp λW H Q q=>have d:=key W H Q q;av4<|TAv.eq (λU s=>rfl) d|_=>rw[mAs]at m<;>first|cases m|(intros;simp_all)
 |cons x J=>have d:=jI m;exact(aX6 a G.room g1 b c e .nil aU5 h Z (ze<|d x<|am ..) (zr λe a=>d e<|ah _ a).1).imp key
def BiC(Γ:Gm)(X:Cx)(b:o8)(x:Str):Prop:=(∃id,bM x=al (.builtin id)/\ae4 X (.builtin id) (rCl Γ<|pV b))\/∃T,bM x=al (.type T)/\ae4 X (.type T) (rCl Γ<|pV b)
def ci3(G:CG Γ F n X ck)(h:biT b=al x):x∈bNames/\BiC Γ X b x:=by
 cases b<;>first|cases h|skip
 .exact⟨by decide,.inl ⟨_,cq4,bl3 G.K G.calm (k:=1) rfl⟩⟩
 .exact⟨by decide,.inl ⟨_,cm6,bl3 G.K G.calm (k:=1) rfl⟩⟩
 .exact⟨by decide,.inr ⟨_,ce4,bY3⟩⟩
 .exact⟨by decide,.inr ⟨_,bV1,cg2⟩⟩
 .exact⟨by decide,.inl ⟨_,bM2,bl3 G.K G.calm (k:=2) rfl⟩⟩
 .exact⟨by decide,.inl ⟨_,bU9,bl3 G.K G.calm (k:=2) rfl⟩⟩
 .exact⟨by decide,.inl ⟨_,bU9,bl3 G.K G.calm (k:=3) rfl⟩⟩
def ca1{z:yL}(G:CG Γ F n X ck)(a:biT b=al x)(c:ck.gl x=bY)(m:mEs ck es (y::z)=bY)(h:PA X (y::z) (TAv Γ<|oS F es)):EvT Γ X (.Call (.Name x p) (y::z) [] pos) (om F<|.bi b es):=by
 refine .val ?_;refine AI (G.gl c) λg1 Y Z=>AB (ci3 G a) λhm d=>?_;have a:=aA2 m;have b:=ze (es:=z) (env:=X.env)<|a y<|am ..;have c:=(zr (env:=X.env) (pos:=pos) λe f=>a e<|ah _ f).1;rcases d with⟨id,a,J⟩|⟨T,a,J⟩;.exact(jr J g1 (G.bi _ hm) a h Z Y b c).imp λW H Q q=>aL1<|TEv.eq (λU s=>rfl) q
 .exact(ao8 J g1 (G.bi _ hm) a h Z Y b c).imp λW H Q q=>aL1<|TEv.eq (λU s=>rfl) q
def bX6(h:biK b=al (k,t)):(1<=k/\k<=5)/\t∈bNames/\bM t=al (.type<|as8 k)/\pV b=re (rB k):=by
 cases b<;>cases h;.exact⟨by lia,by decide,ce4,rfl⟩
 .exact⟨by lia,by decide,bZ3,rfl⟩
 .exact⟨by lia,by decide,bV1,rfl⟩
 .exact⟨by lia,by decide,be3,rfl⟩
 .exact⟨by lia,by decide,bA0,rfl⟩
def PEs(Γ:Gm)(F:oy)(X:Cx):oK->List Expr->Prop|.nil,[]=>True|.cons e a,x::b=>(shp x=bY/\EvT Γ X x (om F e))/\PEs Γ F X a b|_,_=>False
theorem ap3:∀{a}{z:yL},PEs Γ F X a z->PA X z (TAv Γ<|oS F a)|.nil,[],_=>af0.imp λW H Q q=>av4<|TAv.eq (λU s=>rfl) q|.nil,_::_,h=>h.elim|.cons _ _,[],h=>h.elim|.cons e a,x::z,h=>(aO8 h.1.1 h.1.2.1<|ap3 h.2).imp λW H Q q=>TAv.eq (λU s=>rfl) q
def bO8(G:CG Γ F n X ck)(c:biK b=al (k,t))(d:ck.gl "isinstance"=bY)(Y:ck.gl t=bY)(h:PEs Γ F X es [a]):EvT Γ X (.Call (.Name "isinstance" p) [a,.Name t Uu] [] pos) (om F<|.bi b es):=by refine .val ?_;refine AI (G.gl d) λg1 b d=>AI (G.gl Y) λt1 a e=>AU (bX6 c) λhk z c Z=>?_;have J:PE X (.Name t Uu) (tC<|.ty<|as8 k):=bG3 t1 (G.bi _ z) c rfl e a;cases es with|nil=>exact h.elim|cons e es=>cases es with|cons _ _=>exact h.2.elim|nil=>obtain⟨⟨a,c,_⟩,_⟩:=h;have e:=zy c (zy J af0<|ze rfl) (ze a);refine(jr (ca2 G.K hk) g1 (G.bi _<|by decide) jg e d b (ze a) (zr λe a=>by rw[aP.mp a];rfl).1).imp λW H Q q=>AG q λC U s d b E R z q=>AE (aa1 z) λl a a z=>AE (aa1 a) λx a c a=>AE (aa1 a) λl2 a e a=>?_;cases e;cases a;rw[Z]at z;exact⟨C,U,s,x,_,E,R,c,λv a c g1 c e f g=>⟨v,rfl,a,_,[x],d,b,g,.cons f .nil,by unfold oa;rw[e];rfl,z,q.trans g1 c⟩⟩
end
section
variable{Γ:Gm}{F:oy}{n:Nat}{X:Cx}{ck:Ck}{W:St}{H:Hp}
def TAp(Γ:Gm)(a:yC)(N:yI)(m:og->n8->ol (List n9)):TA:=λW H Q=>∃C U s l b,RE Γ C H s.length U W/\Rp Γ C H s/\m U s=.ok l b/\∀d c H',Gr C s H c b H'->s.length<=b.length->oa b.length l=bY->PVL Γ a N W c H' l d->Rp Γ c H' b->Q d H'
def TAp.eq(e:∀U s,m U s=m' U s)(q:TAp Γ cells N m W H Q):TAp Γ cells N m' W H Q:=AG q λC U s l a E R h q=>⟨C,U,s,l,a,E,R,by simp_all,q⟩
def bE2(h:TAp Γ cells N (λU s=>.ok [] s) W H Q):aH9 W H Q:=by refine AG h λC U s l a E R z q=>?_;cases z;exact q [] C H (Gr.refl _ _ _) (aj _) rfl .nil R
def ca3(h:TAp Γ cells N (λU s=>(m U s).bind λd s=>(ms U s).bind λl s=>.ok (d::l) s) W H Q):ak6 (TEv Γ m) (TAp Γ cells N ms) W H Q:=by refine AG h λC U s l e E R z q=>AE (aa1 z) λx b a z=>AE (aa1 z) λy c f z=>?_;cases z;exact⟨C,U,s,x,b,E,R,a,λv g Z c a d h i=>⟨g,U,b,y,e,E.mono c a,i,f,λe f g J b i Y R2=>q (v::e) f g (c.trans J a) (au a b) (by unfold oa;rw[zm b x d,i];rfl) (.cons (PVp.mono J d<|.inl h) Y) R2⟩⟩
theorem aq1:∀{a}{b},oV U a=al b->b.length=a.length/\∀(i j:Nat),a[i]?=al j->∃d,b[i]?=al d/\U[j]?=al (al d)|[],b,h=>by cases h;exact⟨rfl,λi j e=>by cases e⟩|k::a,b,h=>by unfold oV at h;cases e:U[k]? with|none=>cases e▸h|some o=>cases o with|none=>cases e▸h|some d=>cases b:oV U a with|none=>rw[e,b]at h;cases h|some l=>rw[e,b]at h;cases h;refine AB (aq1 b) λUu J=>⟨by rw[aR,aR,Uu],λi j z=>?_⟩;cases i with|zero=>cases z;exact⟨d,rfl,e⟩|succ i=>exact J i j z
theorem bf4(E:RE Γ C H s.length U W):∀{c}{b},oV U c=al b->∃cap,RVL Γ C H b cap/\oa s.length b=bY/\∀(i j:Nat)v,c[i]?=al j->cap[i]?=al v->W[j]?=al (al v)|[],b,h=>by cases h;exact⟨[],.nil,rfl,λi j v e=>by cases e⟩|k::c,b,h=>by unfold oV at h;cases e:U[k]? with|none=>simp_all|some o=>cases o with|none=>simp_all|some d=>cases b:oV U c with|none=>simp_all|some l=>cases e▸b▸h;refine AH (bf4 E b) λcap Z b c=>AO (E.val k d e) λhb v Y d=>⟨v::cap,.cons d Z,by rw[oa,hb,b];rfl,λi j w J z=>?_⟩;cases i with|zero=>cases J;exact z▸Y|succ i=>exact c i j w J z
def cf0(L:LamHere Γ X X.N Z h params body scope c P J)(b:J.nm=aT)(h2:PA X xs<|TAp Γ X.env.cells X.N ms):PA X (.Lambda params body scope pos::xs) (TAp Γ X.env.cells X.N<|λU s=>match oV U h with|some a=>(ms U s).bind λl s=>.ok (.clo Z a::l) s|none=>.B):=by refine(zy (bk7 L.code L.hd L.bm L.ck L.df) h2).imp λW H Q q=>AG q λC U s l g E R z q=>?_;have z:(match oV U h with|some a=>(ms U s).bind λl s=>DV.R.ok (DV.D.clo Z a::l) s|none=>DV.R.B)=.ok l g:=z;cases c:oV U h with|none=>simp_all|some a=>
  rw[c]at z;refine AE (aa1 z) λy d i z=>?_;cases z;refine AH (bf4 E c) λcap j d k=>?_;have Y:=(aq1 c).1;have c:J.qual=X.env.qual++"<lambda>":=by rw[L.q];unfold LamI.own;rw[b]
  rw[<-c];refine bt9 R.tab L.nd L.tab λf H' e c tb l l=>AB (R.sameT e c tb) λg1 c=>⟨C,U,s,y,g,E.mono g1<|aj _,c,i,λg i m c e n o R2=>q (.ref f::g) i m (g1.trans c<|aj _) e (by unfold oa oq;rw[ab1 e a d,n];rfl) (.cons ?_ o) R2⟩;have e:PVp Γ X.env.cells X.N W C H' (.clo Z a) (.ref f):=by refine .inr ⟨Z,a,rfl,f,J,rfl,L.lg,by unfold ai9;rw[b];exact L.p▸L.b▸L.s▸l,by rw[Y,L.len],L.s▸L.cl,cap,RVL.mono g1 a cap d j,λi x v a f=>?_⟩;have g:i<h.length:=L.len▸(ag.mp a).1;have b:=ar g;exact⟨L.s▸L.fr x (aF a),h[i],L.at_ i _ x b a,k i _ v b f⟩
  exact e.mono c<|d
set_option tactic.hygienic true in def bd9{f:String}{es:yL}(G:CG Γ F n X ck)(a:ck.gl (f:Str)=bY)(g:∀x,X.fn x=bY)(Z:∀x c,X.env.cells.lookup x=al c->X.env.kindOf x=al .cell\/X.env.kindOf x=al .free)(c:∀y∈e::es,shp y=bY)(h:PA X (e::es) (TAp Γ X.env.cells X.N ms)):PE X (.Call (.Name (f) p) (e::es) [] pos) (TEv Γ<|λU s=>(ms U s).bind λl s=>(F.call f l s).bind λd b=>if(d.ncl&&b.all rD)=bY then .ok d b else .B):=by
 refine AI (G.gl a) λg1 i a=>?_;rcases G.call f with j|⟨a,a,ps,k,Y,m,n⟩;.refineλa0 s W H Q I q=>AG q λC U s d b E R z q=>AE (aa1 z) λl a f z=>?_;rw[j]at z;exact fb z
 .refine(aP3 k G.room g1 Y m n g h i (ze<|c e<|am ..) (zr λy a=>c y<|ah _ a).1).imp λW H Q q=>AG q λC U s d b E R z q=>AE (aa1 z) λl a f z=>AE (aa1 z) λd2 c g z=>?_;split at z;case isFalse=>exact fb z
  rename_i c;cases z;rw[ae]at c;exact⟨C,U,s,l,a,E,R,f,λe h e i e f j k=>λm J=>AB (k.same J.same) λgs R2=>⟨h,a,l,d,b,R2,j.caught J Z f,f,g,λv f g a h j k l=>have b:=J.cells.kp a.w.kp;q v f (ad0 X.env.cells g) (i.trans (Gr.caught J a) e) (au e h) j (RV.dropC b d v c.1 k) (l.dropC b c.2)⟩⟩
def bh8{b:yL}(G:CG Γ F n X ck)(c:ck.var i x=bY)(c:∀y∈e::b,shp y=bY)(h:PA X (e::b) (TAv Γ<|oS F es))(d:PE X (.Name x p) (bm8 i)):PE X (.Call (.Name x p) (e::b) [] pos) (TEv Γ<|om F<|.callV i es):=by refine(bq4 rfl rfl rfl rfl rfl G.room d h (ze<|c e<|am ..) (zr λy b=>c y<|ah _ b).1).imp λW H Q q=>AG q λC U s d h E R z q=>have z:=z;AE (aa1 z) λl c t z=>?_;cases b:U[i]? with
 |none=>exact fb<|b▸z|some o=>cases o with|none=>exact fb<|b▸z|some e=>refine AO (E.val i e b) λhb v u rv=>?_;cases e with|fn f=>
    rw[b]at z;have z:F.call f l c=.ok d h:=z;refine AD rv λa e i=>?_;subst i;refine AB (G.fa f a e) λh1 h2=>?_;rcases G.call f with hb|⟨e,e,ps,i,e,g,p⟩;.rw[hb]at z;exact fb z
    .cases h1▸e;exact⟨a,u,.inr h2,C,U,s,l,c,E,R,t,λx k v e g m n o=>⟨.inr h2,_,_,ClOk.ofFn i p,trivial,k,c,l,d,h,o,n,m,z,q.trans e g⟩⟩|clo id p=>rw[b]at z;have z:=z;refine AN rv λf a J w i AA=>AU AA λa3 Z r y=>?_;subst i;have fin:∀H',CloAt H' f J a w->bL2 X.K H' f:=λH' h'=>h'.fn;exact⟨f,u,fin H Z,C,U,s,l,c,E,R,t,λx k v e g m n o=>have Y:=Z.kp e.w.kp;⟨fin v Y,_,_,G.cl id J f a w a3 r,Y,k,c,p,l,d,h,o,n,RVL.mono e p a hb y,m,ab1 g p hb,z,q.trans e g⟩⟩|_=>exact fb<|b▸z
end
section
variable{Γ:Gm}{F:oy}{n:Nat}{X:Cx}{ck:Ck}{W:St}{H:Hp}{Q:VK}
def cy4(K:ac)(H:Hp)(v:V)(ys:List V)(z:Bool):Prop:=(∃a,v=.ref a/\(SqL K H a ys\/(SqT K H a ys/\(z=bY->H a=al (.tp ys)))))\/∃x,v=.str ⟨x.toArray⟩/\x.length<=ot/\ys=sgV x
def TLv(Γ:Gm)(m:og->n8->ol (List n9)):TE:=λW H Q=>∃C U s l a,RE Γ C H s.length U W/\Rp Γ C H s/\m U s=.ok l a/\∀v c b H',Gr C s H b a H'->s.length<=a.length->oa a.length l=bY->cy4 Γ.K H' v c (oz l)->RVL Γ b H' l c->Rp Γ b H' a->Q v H'
def aL6(h:TLv Γ m W H Q):TFv Γ m W H Q:=AG h λC U s l a E R b q=>⟨C,U,s,l,a,E,R,b,λp a b H' g J c d e e r z=>q (.ref p) a b H' g J c (.inl ⟨p,rfl,.inl<|SqL.of d⟩) r z⟩
theorem aC9:∀x:List Nat,RVL Γ C H (x.map λc=>.str [c]) (sgV x)|[]=>.nil|c::x=>.cons (RV.strI<|by unfold ot;simp) (aC9 x)
theorem au7:∀x:List Nat,oa k (x.map λc=>.str [c])=bY|[]=>rfl|c::x=>by rw[aQ];rw[oa,au7 x];rfl
def bY2(h:TLv Γ (λU s=>(m U s).bind λd s=>DV.bl1 d s) W H Q):TEv Γ m W H Q:=by refine AG h λC U s l j E R z q=>AE (aa1 z) λd c a z=>⟨C,U,s,d,c,E,R,a,λv f Z g h b1 e b=>?_⟩;cases d with
 |tp i=>cases z;obtain⟨a,Uu,⟨rfl,i⟩,Y,J⟩:=e.tupZ;exact q _ Uu f Z g h b1 (.inl ⟨a,rfl,.inr ⟨Y,i⟩⟩) J b|str x=>cases z;exact q v (sgV x) f Z g h (au7 x) (.inr ⟨x,e.strE,e.strL,rfl⟩) (aC9 x) b|ref k=>have z:(match c[k]? with|some<|.J l=>DV.R.ok l c|some<|.ro l=>.ok l c|_=>.B)=.ok l j:=z;rw[e.refE];cases e:c[k]? with|none=>simp_all|some a=>rw[e]at z;cases a with|J i=>cases z;exact AD (b.addr e) λUu Y J=>have:=b.wf k _ e;q _ Uu f Z g h this (.inl ⟨_,rfl,.inl<|SqL.of Y⟩) J b|ro i=>cases z;exact AD (b.obj k _ e) λUu Y J=>have:=b.wf k _ e;q _ Uu f Z g h this (.inl ⟨_,rfl,.inl Y.1⟩) J b|_=>exact fb z
 |_=>exact fb z
def TLv.eq(e:∀U s,m U s=m' U s)(q:TLv Γ m W H Q):TLv Γ m' W H Q:=by have:=funext λU=>funext<|e U;simp_all
def aU7(G:CG Γ F n X ck)(Z:ck.gl "tuple"=bY)(b:shp a=bY)(h:PE X a<|TLv Γ m):PE X (.Call (.Name "tuple" p) [a] [] pos) (TEv Γ<|λU s=>(m U s).bind λl s=>pL .tuple l s):=by
 refine AI (G.gl Z) λg1 J Y=>(ao8 ((aJ4 G.K).or<|aK8 G.calm) g1 (G.bi _<|by decide) be3 (zy h af0<|ze b) Y J (ze b) rfl).imp λW H Q q=>AG q λC U s d a E R z q=>AE (aa1 z) λl a a z=>?_;cases z;refine⟨C,U,s,l,_,E,R,a,λv h i j g1 c d b e f=>?_⟩;rcases b with⟨a,rfl,b|b⟩|⟨x,rfl,k,rfl⟩;.exact .inl ⟨a,h,rfl,.inl ⟨b,λp g=>(q.trans g1 c).tup f e d g⟩⟩
 .exact .inl ⟨a,h,rfl,.inr ⟨b.1,q _ i j g1 c (d) (RV.tupC b.1 b.2 e) f⟩⟩
 .exact .inr ⟨x,rfl,k,λp g=>(q.trans g1 c).tup f e d g⟩
def bf5(G:CG Γ F n X ck)(Y:ck.gl "list"=bY)(b:shp a=bY)(h:PE X a<|TLv Γ m):PE X (.Call (.Name "list" p) [a] [] pos) (TEv Γ<|λU s=>(m U s).bind λl s=>pL .list l s):=by
 refine AI (G.gl Y) λg1 J a=>(ao8 ((aT2 G.K).or<|aV1 G.calm) g1 (G.bi _<|by decide) bA0 (zy h af0<|ze b) a J (ze b) rfl).imp λW H Q q=>AG q λC U s d a E R z q=>AE (aa1 z) λl a a z=>?_;obtain⟨rfl,rfl⟩:=qr z;refine⟨C,U,s,l,_,E,R,a,λv g a Z g1 c d b e f=>?_⟩;rcases b with⟨a,rfl,b⟩|⟨x,rfl,h,rfl⟩;.exact .inl ⟨a,g,rfl,b.imp id (·.1),λp a=>(q.trans g1 c).alloc f e d a⟩
 .exact .inr ⟨x,rfl,h,λp a=>(q.trans g1 c).alloc f e d a⟩
def cf8(G:CG Γ F n X ck)(c:mkT k=al x)(z:ck.gl x=bY)(b:shp a=bY)(h:PE X a<|TLv Γ m):PE X (.Call (.Name x p) [a] [] pos) (TEv Γ<|λU s=>(m U s).bind λl s=>pL k l s):=by
 cases k<;>cases c;.exact aU7 G z b h
 .exact bf5 G z b h
def FrC(Γ:Gm)(X:Cx)(x:Str)(k:pX):Prop:=∃id r,bM x=al (.builtin id)/\x∈bNames/\ae4 X (.builtin id) r/\∀C H s l a p d b Q,Rp Γ C H s->RVL Γ C H l a->H p=al (.J a)->pL k l s=.ok d b->ag0 Γ C s H d b Q->r [.ref p] H Q
theorem aQ7:∀(l:List Int)a,(l.foldl min a=a\/l.foldl min a∈l)/\l.foldl min a<=a/\∀y∈l,l.foldl min a<=y|[],a=>⟨.inl rfl,cJ _,λy c=>by grind⟩|b::l,a=>by refine AI (aQ7 l<|min a b) λJ a a=>?_;rw[iV];refine⟨?_,by lia,λy c=>?_⟩;all_goals grind
def aR0(h:pw l=al m):m∈l/\∀y∈l,m<=y:=by cases l with|nil=>cases h|cons a l=>cases h;refine AI (aQ7 l a) λUu J a=>?_;simp_all
def bH2(G:CG Γ F n X ck)(hk:mkF k=al x):FrC Γ X x k:=by
 cases k<;>cases hk;.refine⟨_,_,co1,by decide,bj6 G.calm G.K,λC H s l ys p d s' Q R r hp h q=>?_⟩;unfold pL at h;dsimp only at h;cases e:pB l with|none=>rw[e]at h;exact fb h|some bs=>rw[e]at h;cases h;have:=ar9 e;subst this;exact⟨p,bs,rfl,SqL.of<|by rw[<-r.bls];exact hp,q.here R rfl RV.blI⟩
 .refine⟨_,_,bM2,by decide,bb3 G.calm G.K,λC H s l ys p d s' Q R r hp h q=>?_⟩;unfold pL at h;dsimp only at h;cases e:pd l with|none=>rw[e]at h;exact fb h|some is=>rw[e]at h;have h:(match pw is with|some m=>DV.R.ok (DV.D.int m) s|none=>.B)=.ok d s':=h;cases e2:pw is with|none=>rw[e2]at h;exact fb h|some mm=>rw[e2]at h;cases h;have:=zY e;subst this;refine⟨p,is,rfl,SqL.of<|by rw[<-r.ints];exact hp,(λ(z)=>by rw[z]at e2;cases e2),λm h J=>?_⟩;obtain⟨a,b⟩:=aR0 e2;have:=mr (J mm a) (b m h);rw[this];exact q.here R rfl RV.intI
def bZ5(G:CG Γ F n X ck)(c:mkF k=al x)(Z:ck.gl x=bY)(b:shp a=bY)(h:PE X a<|TFv Γ m):PE X (.Call (.Name x p) [a] [] pos) (TEv Γ<|λU s=>(m U s).bind λl s=>pL k l s):=AI (G.gl Z) λg1 J Y=>AR (bH2 G c) λid r a c d e=>(jr d g1 (G.bi _ c) a (zy h af0<|ze b) Y J (ze b) rfl).imp λW H Q q=>AG q λC U s d a E R z q=>AE (aa1 z) λl b c z=>⟨C,U,s,l,_,E,R,c,λp c f g g1 h i i j j j k=>e f g b l c p d a Q k j i z<|q.trans g1 h⟩
def bV9(G:CG Γ F n X ck)(b:ck.gl "min"=bY)(e:shp a=bY)(h:PE X a<|TFv Γ ml)(f:PE X de<|TEv Γ md):PE X (.Call (.Name "min" p) [a] [⟨al "default",de,kp⟩] pos) (TEv Γ<|λU s=>(ml U s).bind λl s=>(md U s).bind λd s=>DV.mkD .min l d s):=by refine AI (G.gl b) λg1 c a=>(bO1 rfl G.calm g1 (G.bi _<|by decide) h f<|ze e).imp λW H Q q=>AG q λC U s d i E R J q=>AE (aa1 J) λl b e1 J=>AE (aa1 J) λd0 f a J=>⟨C,U,s,l,b,E,R,e1,λp c c e g1 g e e h h j k=>⟨c,U,b,d0,f,E.mono g1 g,k,a,λv b b c k n o R2=>?_⟩⟩;have r:=c.fr p _ e (by nofun) (h);unfold DV.mkD at J;cases e:pd l with|none=>simp_all|some b=>
  rw[e]at J;have h:(match pw b with|some m=>DV.R.ok (DV.D.int m) f|none=>DV.R.ok d0 f)=.ok d i:=J;have:=zY e;subst this;have d:=q.trans (g1.trans c g) (au g k);refine⟨p,b,rfl,SqL.of<|j.ints▸r,λz=>?_,λm Z Y=>?_⟩;.subst z;cases h;exact d.here R2 n o
  .clear a;cases a:pw b with
   |none=>cases b with|nil=>cases Z|cons _ _=>cases a
   |some b=>cases a▸h;exact AB (aR0 a) λx y=>have:=mr (Y b x) (y m Z);this▸d.here R2 rfl RV.intI
def bs4(R:Rp Γ C H s)(g:Gr C s H C' s' H')(a:r<s.length)(e:s'[r]?=al (.J l)):tyV Γ.K "list" (.ref<|C r) H:=by obtain⟨h,z⟩:∃h,s[r]?=al h:=⟨s[r],ar a⟩;have J:=g.mu r h _ z e rfl;have a:=R.obj r h z;cases h with|J b=>exact AD a λUu Y _=>.inl ⟨rfl,Uu,SqL.of Y⟩|ro _=>cases J|_=>have:=g.kd r _ _ z e;cases this
def mtR(Γ:Gm)(m:pY):V->List V->Hp->VK->Prop:=λx c H Q=>∃C s a l d b,Rp Γ C H s/\RV Γ C H a x/\RVL Γ C H l c/\a.bnd s.length=bY/\oa s.length l=bY/\rm m a l s=.ok d b/\ag0 Γ C s H d b Q
def bW8:ot<a7:=by rw[f8];decide
def aN6(Uu:mtT m=al (x,k))(h:rm m a l s=.ok d s'):∃r l0,a=.ref r/\s[r]?=al (.J l0):=by
 have go:∀{r:Nat}{f:List n9->ol n9},(match s[r]? with|some<|.J l=>f l|_=>.B)=.ok d s'->∃l0,s[r]?=al (.J l0):=λ{r f}h=>by cases e:s[r]? with|none=>rw[e]at h;exact fb h|some ob=>cases ob with|J l0=>exact⟨l0,rfl⟩|_=>rw[e]at h;exact fb h
 cases a with
 |ref r=>
  have z:∀{f:List n9->ol n9},(match s[r]? with|some<|.J l=>f l|_=>.B)=.ok d s'->∃J l0,DV.D.ref r=.ref J/\s[J]?=al (.J l0):=λh=>by obtain⟨l0,e⟩:=go h;exact⟨_,l0,rfl,e⟩
  cases m with
  |append=>match l with|[d]=>exact z h|[]=>exact fb h|_::_::_=>exact fb h
  |_=>exact fb h
 |_=>cases m<;>exact fb h
set_option tactic.hygienic true in def bx2:MtR X "list.append"<|mtR Γ .append:=by refineλUu sh W H x a v b Q I c f h=>AJ h λC s a AA=>AK AA λl d a R a d AA=>AU AA λba g J q=>?_;obtain⟨r,e,rfl,e⟩:=aN6 rfl J;cases l with|nil=>exact fb J|cons y t=>cases t with|cons _ _=>exact fb J|nil=>
   simp only[rm,e]at J;split at J;case isFalse=>exact fb J
   rename_i h;cases J;obtain⟨z,rfl,rz⟩:=d.one;refine AD (R.addr e) λxs d Z=>?_;have Y:=have:=R.wf r _ e;this;exact aD5 Uu sh W H x [z] v b Q I c f ⟨C r,xs,z,a.refE,rfl,d,by rw[Z.length];have:=bW8;lia,q.put R e (Z.append<|.cons rz .nil) (qI Y g) rfl RV.nonI⟩
structure MtOk(Γ:Gm)(X:Cx)(m:pY)(x:Str):Prop where ex:∃id,PySem.Slot "list" x id/\kR (.builtin id)=pure (.type "method_descriptor")/\MtR X id (mtR Γ m)
def cg0(a:X.K=Γ.K)(z:Room (oC+1) X.A)(h:mtT m=al (x,k)):MtOk Γ X m x:=by cases m<;>cases h;.exact⟨_,i6,PySem.F.type_list_append,bx2⟩
def bp7{J:yL}(G:CG Γ F n X ck)(Y:mtT m=al (x,J.length))(c:bX1 ob=bY)(w:(ap.endLine==cp.line)=bY)(A:PE X ob<|TEv Γ<|om F o)(d:mEs ck es J=bY)(h:PEs Γ F X es J):EvT Γ X (.Call (.Attribute ob x ap) J [] cp) (om F<|.me m o es):=by
 refine .val ?_;refine AH ((cg0 G.K (G.room.mono G.deep) Y).ex) λid b Z B=>?_;have p:=aA2 d;have key:∀W H Q,TEv Γ (om F<|.me m o es) W H Q->tBM Γ.K "list" (mtR Γ m) (TEv Γ<|om F o) (TAv Γ<|oS F es) W H Q:=λW H Q q=>by
  refine AG q λC U s d t E R z q=>AE (aa1 z) λa e f z=>AE (aa1 z) λl h y z=>AB (bP9 z) λhq z=>⟨C,U,s,a,e,E,R,f,λv i u j a f g n=>?_⟩;obtain⟨r,k,rfl,s⟩:=aN6 Y z;rw[g.refE];have v:TAv Γ (oS F es) W u λJ k=>mtR Γ m (.ref<|i r) J k Q:=by refine⟨i,U,e,l,h,E.mono j a,n,y,λi u k i k y D R2=>⟨u,h,.ref r,l,d,t,R2,?_,D,zm k _ f,y,z,q.trans (j.trans i a) (au a k)⟩⟩;have:=RV.mono i _ _ f g;rw[g.refE]at this;simp_all
  refine⟨?_,v⟩;have d:r<e.length:=by unfold oq at f;lia
  obtain⟨a,f⟩:∃a,e[r]?=al a:=⟨e[r],ar d⟩;have d:=n.obj r a f;cases a with|J k=>obtain⟨J,h1,_⟩:=d;exact .inl ⟨rfl,J,SqL.of h1⟩|ro k=>obtain⟨J,h1,_⟩:=d;exact .inl ⟨rfl,J,h1.1⟩|_=>exact ij hq<|cp7 f s<|λh=>by cases h
 cases J with
 |nil=>have a:PE X (.Call (.Attribute ob x ap) [] [] cp) (ct7 X.K "list" (mtR Γ m) (TEv Γ<|om F o)):=ce7 iy b Z B A (az4 c) w;rw[G.K]at a;refine a.imp λW H Q q=>?_;cases es with|cons _ _=>exact h.elim|nil=>exact AG (key W H Q q) λC U s d t E R z k=>⟨C,U,s,d,t,E,R,z,λv i u j a f g n=>AB (k v i u j a f g n) λh1 h2=>⟨h1,av4<|TAv.eq (λU s=>rfl) h2⟩⟩
 |cons y a=>
  refine(bW0 G.K iy b Z B A (ap3 h) (az4 c) ?_ w (ze<|p y<|am ..) (zr λe b=>p e<|ah _ b).1).imp key;rw[(zr p).2];have:(y::a).length<=1:=by unfold mtT at Y;lia
  simp only[du,fi,lB];show(bY&&decide ((y::a).length+0+0<30))=bY;lia
end
section
variable{Γ:Gm}{F:oy}{n:Nat}{X:Cx}{ck:Ck}{W:St}{H:Hp}{Q:VK}
def PIf.imp(h:PIf X e t)(i:∀W H Q,t' W H Q->t W H Q):PIf X e t':=λz s W H Q I q=>h z s W H Q I<|i W H Q q
structure CompF(Γ:Gm)(X:Cx)(m:og->n8->ol (List n9))(E:Expr):Prop where ex:∃elt tgt iter ifs scope pos N' caps wi g tc te,E=.ListComp elt [⟨tgt,iter,ifs,0⟩] scope pos/\qd N' caps scope X.N X.env.scope=bY/\PI X tgt iter wi/\(∀(Cc:Addr)(cells:yC)(s:af)(H:Hp)(ex:List Addr),PG (zQ X N' scope Cc cells s H ex) tgt g/\PIf (zQ X N' scope Cc cells s H ex) ifs tc/\PE (zQ X N' scope Cc cells s H ex) elt te)/\(∀x,d8 iter X.env x=pure x)/\∀W H Q,TFv Γ m W H Q->tComp caps wi g tc te W H Q
def CompF.pe(h:CompF Γ X m E)(b:X.calm=bY):PE X E<|TFv Γ m:=by obtain⟨Y,a,a,a,a,a,a,z,c,g,c,c,rfl,c,J,d,Z,e⟩:=h.ex;exact(bf8 a z c J b d Z).imp e
def bJ0{mI}(G:CG Γ F n X ck)(Z:aU8 ck tg z iter h scope=bY)(hi:PI X z iter<|TIv Γ mI)(c:∀b a s H ex,PT (zQ X (ckC ck z h scope).N scope b a s H ex) i<|TTv Γ mc)(Y:∀b a s H ex,PE (zQ X (ckC ck z h scope).N scope b a s H ex) J<|TEv Γ Uu):CompF Γ X (λU s=>(mI U s).bind λq a=>if q.its.length<=ot then pW (λs=>oZ a s q.src) (λd U s=>match oJ U tg d with|some U=>oB (mc U s) λk s=>if k then(Uu U s).bind λv s=>.ok (al v,U) s else .ok (aT,U) s|none=>.B) q.its (pK U h) a else .B) (.ListComp J [⟨z,iter,[i],0⟩] scope pos):=AI (G.comp Z) λc1 d e=>⟨J,z,iter,[i],scope,pos,_,h,_,_,_,_,rfl,c1,hi,λb a s H ex=>⟨(e b a s H ex).2,bG0<|c b a s H ex,Y b a s H ex⟩,ax3 d,λW H Q q=>bi7 q⟩
def bs1{mI}(G:CG Γ F n X ck)(c:aU8 ck tg z iter h scope=bY)(hi:PI X z iter<|TIv Γ mI)(Z:∀b a s H ex,PE (zQ X (ckC ck z h scope).N scope b a s H ex) J<|TEv Γ Y):CompF Γ X (λU s=>(mI U s).bind λq a=>if q.its.length<=ot then pW (λs=>oZ a s q.src) (λd U s=>match oJ U tg d with|some U=>(Y U s).bind λv s=>.ok (al v,U) s|none=>.B) q.its (pK U h) a else .B) (.ListComp J [⟨z,iter,[],0⟩] scope pos):=by
 refine AI (G.comp c) λc1 c d=>⟨J,z,iter,[],scope,pos,_,h,_,_,TTv Γ<|λU s=>.ok (.T bY) s,_,rfl,c1,hi,λb a s H ex=>⟨(d b a s H ex).2,bQ2.imp λW H Q q=>?_,Z b a s H ex⟩,ax3 c,λW H Q q=>bi7<|TFv.eq (λU s=>?_) q⟩;.refine AG q λC U s b a E R c q=>?_;cases c;exact q C H (Gr.refl _ _ _) (aj _) R
 .congr 1
def bT2(G:CG Γ F n X ck)(h:PE X E<|TEv Γ<|om F e):PI X tg E<|TIv Γ<|pH F<|.seq e:=by refine(PI.or (bF6 G.K h) (PI.or (bt1 G.K h) (bX3 h))).imp λW H R q=>ci8<|TIv.eq (λU s=>rfl) q
def bt0(G:CG Γ F n X ck)(z:ck.gl "range"=bY)(b:shp l=bY)(h:PE X l<|TEv Γ<|om F a):PI X tg (.Call (.Name "range" p) [l] [] pos) (TIv Γ<|pH F<|.rg a):=(aX7 (G.gl z).1 (G.bi _<|by decide) (zy h af0<|ze b) (ze b)).imp λW H R q=>bQ6<|TIv.eq (λU s=>rfl) q
def by0{ck0:Nat}(G:CG Γ F n X ck)(d:ck.gl "range"=bY)(c:shp l=bY)(z:shp r=bY)(h:PE X l<|TEv Γ<|om F a)(J:PE X r<|TEv Γ<|om F b):PI X tg (.Call (.Name "range" p) [l,r,.Constant (.int 2) ck0 cp] [] pos) (TIv Γ<|pH F<|.rng3 a b 2):=(aW6 (G.gl d).1 (G.bi _<|by decide) (zy h (zy J (zy bB4 af0 rfl) (ze z)) (ze c)) (ze c) (by rw[ze z];rfl)).imp λW H R q=>bP1<|TIv.eq (λU s=>rfl) q
def bY4(h:TEv Γ (λU s=>pi (.dc []) s) W H Q):by6 W H Q:=by refine AG h λC U s d a E R J q=>?_;obtain⟨rfl,rfl⟩:=qr J;exactλp a=>AB (R.new (o:=.dc []) a rfl λa H' g e=>⟨[],e,rfl⟩) λg z=>q (.ref p) _ _ g (by simp) (by unfold oq;simp) (by unfold RV;simp) z
set_option tactic.hygienic true in def cg4(h:TEv Γ (λU s=>(mk U<|s++[.dc []]).bind λkd f=>(mv U f).bind λUu a=>if kd.key=bY/\a[s.length]?=al (.dc [])then .ok (.ref s.length) (a.set s.length<|.dc [(kd,Uu)])else .B) W H Q):cb0 [(TEv Γ mk,TEv Γ mv)] W H Q:=by
 refine AG h λC U s d a E R J q=>AE (aa1 J) λkd f c J=>AE (aa1 J) λUu a j J=>?_;split at J;case isFalse=>simp_all
 rename_i d;cases J;refineλp b=>AB (R.new (o:=.dc []) b rfl λb H' g e=>⟨[],e,rfl⟩) λg0 e=>?_;have b:s.length<=(s++[DV.O.dc []]).length:=by simp
 refine⟨_,U,s++[DV.O.dc []],kd,f,E.mono g0 b,e,c,λe l c h c g m n=>⟨l,U,f,Uu,a,(E.mono g0 b).mono h c,n,j,λf l j Y Z j n R2=>?_⟩⟩;have z:l s.length=p:=by rw[Y.w.map s.length<|aA (by simp) c,h.w.map s.length<|by simp];simp
 refine AF (an5 d.1) λk l=>have o:=aM9 l<|RV.mono Y kd e g m;AD (R2.obj s.length _ d.2) λkvs m e=>?_;have e:=e;subst e;rw[z]at m;refine⟨m,[(k,f)],by simp_all,by simp,?_⟩;have e:(DV.O.dc [(kd,Uu)]).bnd a.length=true:=by unfold on;simp only[aQ,eK,oa,f6,ae];exact⟨zm Z _ g,j⟩
 refine AB (R2.set d.2 rfl e λH' g e=>⟨_,e,k,f,[],rfl,l,RV.monoW g _ _ j n,rfl⟩) λg3 d=>?_;rw[z]at g3 d;have L:=au b<|au c Z;have lt:s.length<a.length:=aA (by simp) (au c Z);exact q (.ref p) _ _ (((g0.trans h b).trans Y<|au b c).trans g3 L) (by simp_all) (by unfold oq;simp_all) (by unfold RV;rw[z]) d
def bF7(h:TEv Γ (λU s=>pi (.dit []) s) W H Q):bC4 W H Q:=by refine AG h λC U s d a E R J q=>?_;obtain⟨rfl,rfl⟩:=qr J;exactλp a=>AB (R.new (o:=.dit []) a rfl λa H' g e=>⟨[],e,rfl⟩) λg z=>q (.ref p) _ _ g (by simp) (by unfold oq;simp) (by unfold RV;simp) z
section
variable{c:String}{kvs:List<|List Nat×List Nat}{a:Addr}
end
end
section
variable{Γ:Gm}{F:oy}{n:Nat}{X:Cx}{ck:Ck}
end
section
variable{Γ:Gm}{F:oy}{n:Nat}{X:Cx}{ck:Ck}
def TJv(Γ:Gm)(m:og->n8->ol (List n9))(out:List Nat):TE:=λW H Q=>∃C U s l a ws,RE Γ C H s.length U W/\Rp Γ C H s/\m U s=.ok l a/\pU l=al ws/\(out++ws.flatten).length<=ot/\∀b H',Gr C s H b a H'->s.length<=a.length->Rp Γ b H' a->Q (.str ⟨(out++ws.flatten).toArray⟩) H'
def PF(Γ:Gm)(X:Cx)(vs:yL)(m:og->n8->ol (List n9)):Prop:=∀out a s(W:St)H Q,Inv X a W H s->TJv Γ m out W H Q->wpAny (model X.prog X.w) X.A (joinParts ⟨out.toArray⟩<|evalEach vs X.env) (EP X a W Q) X.xe s
def PF.eq(e:∀U s,m U s=m' U s)(h:PF Γ X vs m):PF Γ X vs m':=λout z s W H Q I q=>AJ q λC U a AA=>AK AA λl b ws E R J q=>h out z s W H Q I ⟨C,U,a,l,b,ws,E,R,by simp_all,q⟩
def aK5(w:List Nat):(⟨w.toArray⟩:Str).length=w.length:=by simp[Str.length]
def cc5:PF Γ X []<|λ_ s=>.ok [] s:=λout z s W H Q I q=>by refine AJ q λC U a AA=>AK AA λl a ws E R J AA=>AI AA λhw h q=>?_;cases J;cases hw;rw[List.flatten_nil,aY]at q h;exact joinParts_nilE<|joinParts_nil ⟨.str ⟨out.toArray⟩,H,I.tok _,⟨_,rfl⟩,q C H (Gr.refl _ _ _) (aj _) R⟩<|by rw[aK5];exact au h qt
def bj5(h:pU (d::l)=al ws):∃w z,d=.str w/\pU l=al z/\ws=w::z:=by cases d with
 |str w=>have h:(pU l).map (w::·)=al ws:=h;cases e:pU l with|none=>simp_all|some z=>simp_all
 |_=>cases h
def be4(h2:PF Γ X vs m2)(b:∀(h:yA)(s:af)(W:St)(H:Hp)(w:List Nat)(Q:VK),w.length<=ot->Inv X h W H s->TEv Γ m1 W H (λx z=>x=.str ⟨w.toArray⟩/\Q x z)->wpAny (model X.prog X.w) X.A (eval v X.env) (λu a=>∃t z,u=.str ⟨w.toArray⟩ t/\Inv X h W z a/\Q (.str ⟨w.toArray⟩) z) X.xe s):PF Γ X (v::vs) (λU s=>(m1 U s).bind λd s=>(m2 U s).bind λl s=>.ok (d::l) s):=λout h s W H Q I q=>by
 refine AJ q λC U c AA=>AK AA λl g ws E R Y AA=>AI AA λhw f q=>AE (aa1 Y) λd a d Y=>AE (aa1 Y) λZ e i Y=>?_;cases Y;obtain⟨w,j,rfl,k,rfl⟩:=bj5 hw;rw[g6,<-be]at f q;have l:(out++w).length<=ot:=by grind
 have J:w.length<=ot:=by grind
 refine joinParts_consE<|joinParts_cons<|bD (b h s W H w (λx z=>∃b,Gr C c H b a z/\c.length<=a.length/\Rp Γ b z a) J I ⟨C,U,c,.str w,a,E,R,d,λv b z d c e m e=>⟨m.strE,b,d,c,e⟩⟩) (λu m n=>?_) λ_ _ x=>x;obtain⟨t,z,rfl,o,b,d,c,e⟩:=n;show(_++_:Str).length<=a7/\_;rw[bb9];refine⟨by rw[aK5];exact au l qt,h2 (out++w) h m W z Q o ⟨b,U,a,Z,g,j,E.mono d c,e,i,k,f,λa b e Z R2=>q a b (d.trans e c) (au c Z) R2⟩⟩
def bB7(b:PE X v<|TEv Γ J)h s(W:St)H(w:List Nat)(Q:VK)(I:Inv X h W H s)(q:TEv Γ J W H<|λx z=>x=.str ⟨w.toArray⟩/\Q x z):wpAny (model X.prog X.w) X.A (eval v X.env) (λu a=>∃t z,u=.str ⟨w.toArray⟩ t/\Inv X h W z a/\Q (.str ⟨w.toArray⟩) z) X.xe s:=bD (b h s W H _ I q) (λu a a=>by refine AR a λx z Z a ex Y=>?_;subst ex;obtain⟨t,rfl⟩:=(a);exact⟨t,z,rfl,Z,Y⟩) λ_ _ x=>x
def bW5(a:PE X v<|TEv Γ z)(b:PF Γ X vs J):PF Γ X (.FormattedValue v (-1) aT p::vs) (λU s=>(z U s).bind λd s=>(J U s).bind λl s=>.ok (d::l) s):=be4 b λh s W H w Q b I q=>FormattedValue_plain<|bD (bB7 a h s W H w Q I q) (λu a a=>by obtain⟨t,Y,rfl,c,Z⟩:=a;exact formatField_str (λa tk=>⟨a,Y,rfl,c.tok tk,Z⟩) (by rw[aK5];exact au b qt)) λ_ _ x=>x
def ca0(a:PE X v<|TEv Γ J)(b:PF Γ X vs z):PF Γ X (v::vs) (λU s=>(J U s).bind λd s=>(z U s).bind λl s=>.ok (d::l) s):=be4 b λh s W H w Q b I q=>bB7 a h s W H w Q I q
end
section
variable{Γ:Gm}{F:oy}{n:Nat}{X:Cx}{ck:Ck}{W:St}{H:Hp}{Q:VK}
def aN4:by1 ce3:=λ{a b k}ha hb=>by cases a with
 |str x=>cases ha;cases b with
  |str y=>
   have h:=ay hb;injection h with h;have z:=by simpa using h
   rw[z]|_=>cases hb
 |_=>cases ha
set_option tactic.hygienic true in theorem RVD.lk:∀{l}{gs},RVD ce3 Γ C H l gs->oG (.str f) l=al d->∃v,gs.lookup ⟨f.toArray⟩=al v/\RV Γ C H d v/\((⟨f.toArray⟩,v))∈gs/\d∈l.map (·.2)
 |[],_,_,e=>by cases e|(a,e0)::l,_,h,e=>by
  obtain⟨k',v',r,rfl,e2,J,Uu⟩:=h;unfold oG at e;split at e;.rename_i ha;subst ha;cases e2;cases e;exact⟨v',by simp[],J,by simp,by simp⟩
  .rename_i ha;obtain⟨v,Y,q2,q3,q4⟩:=RVD.lk Uu e;refine⟨v,?_,q2,ah _ q3,by simp at q4⊢;exact .inr q4⟩;have ne:((⟨f.toArray⟩)==k')=false:=beq_eq_false_iff_ne.mpr λz=>ha<|aN4 e2 (by rw[<-z];rfl);rw[bj,ne];exact Y
theorem RVD.putA(c:RV Γ C H d v):∀{l}{a},RVD ce3 Γ C H l a->RVD ce3 Γ C H (o7 (.str f) d l) (an6 ⟨f.toArray⟩ v a)
 |[],_,h=>by cases(h);exact⟨_,v,[],rfl,rfl,c,rfl⟩|(a,b)::l,_,h=>by
  obtain⟨b,d,r,rfl,e,i,J⟩:=h;rw[show an6 ⟨f.toArray⟩ v ((b,d)::r)=(if b=⟨f.toArray⟩then(b,v)::r else(b,d)::an6 ⟨f.toArray⟩ v r)from rfl];unfold o7;by_cases g:a=.str f;.subst g;cases e;exact dO rfl▸dO rfl▸⟨_,v,r,rfl,rfl,c,J⟩
  .rw[ef g,ef λz=>g<|aN4 e<|by rw[z];rfl];exact⟨b,d,_,rfl,e,i,RVD.putA c J⟩
set_option tactic.hygienic true in theorem putA_mem:∀{l},p∈o7 k v l->p∈l\/(p.1=k/\p.2=v)
 |[],h=>by simp[o7]at h;exact .inr<|by rw[h];exact⟨rfl,rfl⟩|(a,e)::l,h=>by
  unfold o7 at h;split at h
  .rename_i ha;rcases aD.mp h with z|z;.subst z;exact .inr ⟨ha,rfl⟩
   .exact .inl<|ah _ z
  .rcases aD.mp h with z|z;.subst z;exact .inl<|am ..
   .rcases putA_mem z with z|z;.exact .inl<|ah _ z
    .exact .inr z
def bo1(h:(DV.O.ins c l).bnd n=bY)(b:d.bnd n=bY):(DV.O.ins c<|o7 (.str f) d l).bnd n=true:=by
 unfold on at h⊢;rw[ae]at h⊢;have c:=ab5.mp h.1;have J:=ab5.mp h.2;refine⟨ab5.mpr λx a=>?_,ab5.mpr λx a=>?_⟩
 .obtain⟨p,hp,rfl⟩:=ao.mp a;rcases putA_mem hp with z|⟨z,_⟩;.exact c _<|bF z
  .rw[z];rfl
 .obtain⟨p,hp,rfl⟩:=ao.mp a;rcases putA_mem hp with z|⟨_,z⟩;.exact J _<|bF z
  .exact z▸b
set_option tactic.hygienic true in def aX1(h:rH f x s=.ok d s'):∃r c fs,x=.ref r/\s[r]?=al (.ins c fs)/\oG (.str f) fs=al d/\s'=s:=by
 unfold rH at h;split at h
 .split at h
  .rename_i c fs e;split at h;.rename_i e2;cases h;exact⟨_,c,fs,rfl,e,e2,rfl⟩
   .exact fb h
  .exact fb h
 .exact fb h
def bv3(G:CG Γ F n X ck)(a:bX1 o=bY)(h:PE X o<|TEv Γ m):PE X (.Attribute o ⟨f.toArray⟩ pos) (TEv Γ<|λU s=>(m U s).bind λx s=>rH f x s):=by refine(ci6 h<|az4 a).imp λW H Q q=>AG q λC U s d a E R J q=>AE (aa1 J) λx a a J=>?_;obtain⟨r,c,fs,rfl,d,c,rfl⟩:=aX1 J;refine⟨C,U,s,.ref r,_,E,R,a,λv e a f g a h a=>?_⟩;obtain⟨i,j,k,⟨b,b⟩,z,Y,Z⟩:=a.obj r _ d;refine AZ (Z.lk c) λv' l m n o=>?_;have c:=a.wf _ _ d;unfold on at c;rw[ae]at c;exact G.K▸⟨e r,i,j,k,v',h.refE,Y,b,z _ n,l,(q.trans f g).here a (ab5.mp c.2 _ o) m⟩
set_option tactic.hygienic true in def bf2(h:rJ ok f x v s=.ok u s'):∃r c fs,x=.ref r/\s[r]?=al (.ins c fs)/\ok c=bY/\fs.length<1000/\s'=s.set r (.ins c<|o7 (.str f) v fs):=by
 unfold rJ at h;split at h
 .split at h
  .rename_i c fs e;split at h;.rename_i hc;rw[ae]at hc;cases h;exact⟨_,c,fs,rfl,e,hc.1,dr hc.2,rfl⟩
   .exact fb h
  .exact fb h
 .exact fb h
def bn2(G:CG Γ F n X ck)(a:PE X o<|TEv Γ mo)(b:PE X h<|TEv Γ me)(e:aq0 h=bY):PS X (.Assign [.Attribute o ⟨f.toArray⟩ Z] h pos) (TSv Γ<|λU s=>(me U s).bind λd s=>(mo U s).bind λx s=>(rJ (λc=>F.att c f) f x d s).bind λ_ s=>.ok (.next U) s):=by
 refine(cc4 a b<|aj8 e).imp λD W H q=>AG q λC U s c a E R e q=>AE (aa1 e) λd a b e=>AE (aa1 e) λx j h e=>AE (aa1 e) λu c c e=>?_;cases e;obtain⟨r,m,fs,rfl,hs,k,Y,rfl⟩:=bf2 c;refine⟨C,U,s,d,a,E,R,b,λc b g n i g l o=>⟨b,U,a,.ref r,j,E.mono n i,o,h,λa o a t u a B R2=>?_⟩⟩;obtain⟨b,v,C,⟨w,h⟩,D,F,y⟩:=R2.obj r _ hs;have H:NoAttr Γ.K b ⟨f.toArray⟩:=G.K▸G.ob.att m f b k w;have a:=R2.wf _ _ hs;have bd:=zm u d g;have I:=RV.mono t d c g l;have A:=bo1 (f:=f) a bd;have J:=A;unfold on at J;rw[ae]at J;have key:∀{l},(∀p∈l,NoAttr Γ.K b p.1)->∀p∈an6 ⟨f.toArray⟩ c l,NoAttr Γ.K b p.1:=by intro l;induction l with
  |nil=>intro _ p g;cases(g)with|head=>grind|tail _ z=>cases z
  |cons a l g=>intro g p g;obtain⟨k,x⟩:=a;rw[show an6 ⟨f.toArray⟩ c ((k,x)::l)=(if k=⟨f.toArray⟩then(k,c)::l else(k,x)::an6 ⟨f.toArray⟩ c l)from rfl]at g;grind
 obtain⟨a,k⟩:=R2.set hs rfl A λH' g e=>⟨b,v,_,⟨w,h⟩,key D,e,RVD.monoW g _ _ J.2<|RVD.putA I y⟩;have c:=n.trans t i;have e:=au i u;have g:s.length<=(j.set r<|.ins m<|o7 (.str f) d fs).length:=by simp_all
 rw[G.K];refine⟨o r,b,v,C,B.refE,F,h,H,y.length▸Y,q o _ (c.trans a e) g k W<|E.mono (c.trans a e) g⟩
set_option tactic.hygienic true in def bj1(i:Γ.cls c=al Cc/\Cls Γ.K Cc)(q:TEv Γ (om F<|.new c as) W H Q):bl5 Cc (spV Γ<|F.new c) [] E0 (TAv Γ<|oF F as) W H Q:=by
 refine AG q λC U s d a E R h q=>AE (aa1 h) λl a b h=>AE (aa1 h) λd0 d j h=>?_;split at h;case isFalse=>simp_all
 rename_i d;subst d;cases h;refine⟨C,U,s,l,a,E,R,b,λk b b m d f n e x J g Y ne=>?_⟩;obtain⟨r,R2⟩:=e.same<|(af9.refl b).new Y;have Z:upd b J (.own x) x=none:=by rw[zb<|bH ne];lia
 obtain⟨b,s⟩:=R2.new (o:=.ins c []) Z rfl λh H' g e=>⟨Cc,J,[],i,(λp g=>by grind),e,rfl⟩;have i:=r.trans b<|aj _;have e:a.length<=(a++[DV.O.ins c []]).length:=by simp
 refine⟨_,a++[.ins c []],.ref a.length::l,.N,_,s,.cons (by unfold RV;lia) (by rw[aY];exact RVL.mono i l k f n),by rw[oa,ab1 e l f];unfold oq;simp,j,λv h H' g f b r b=>⟨r.nonE,?_⟩⟩;have j:=aA (show a.length<(a++[DV.O.ins c []]).length by simp) f;refine q (.ref x) h H' ((m.trans i d).trans g<|au d e) (au d<|au e f) (by unfold oq;lia) ?_ b;unfold RV;rw[g.w.map a.length<|by simp];lia
def bM9{c:String}{J:yL}(G:CG Γ F n X ck)(a:ck.gl (c:Str)=bY)(m:mAs ck Y J=bY)(h:PA X J<|TAv Γ<|oF F Y):EvT Γ X (.Call (.Name (c) p) J [] pos) (om F<|.new c Y):=by
 refine .val ?_;refine AI (G.gl a) λg1 e a=>?_;rcases G.ob.nw c with a|⟨k,b,a,a,ps,i,a,a,M,f,g⟩;.refineλa0 s W H Q I q=>AG q λC U s d d E R Z q=>AE (aa1 Z) λl d d Z=>?_;simp_all
 have d:=G.room.mono i;have z:Γ.cls c=al b/\Cls Γ.K b:=by rw[<-G.K];lia
 cases J with
 |nil=>have i:PE X (.Call (.Name (c) p) [] [] pos) (bl5 b (spV Γ<|F.new c) [] E0 aH9):=bp4 M f d g1 a g .nil aU5 e;cases Y with|nil=>exact i.imp λW H Q q=>have b:=bj1 z q;av4<|TAv.eq (λU s=>rfl) b|_=>rw[mAs]at m<;>first|cases m|(intros;simp_all)
 |cons x J=>have b:=jI m;exact(bO5 M f d g1 a g .nil aU5 h e (ze<|b x<|am ..) (zr λe a=>b e<|ah _ a).1).imp λW H Q q=>bj1 z q
set_option tactic.hygienic true in def aP9(h:rK x s=.ok c s'):∃r fs,x=.ref r/\s[r]?=al (.ins c fs)/\s'=s:=by
 unfold rK at h;split at h
 .split at h;.rename_i c fs e;cases h;exact⟨_,fs,rfl,e,rfl⟩
  .exact fb h
 .exact fb h
theorem aL2{K}(J:Meth K Cc m a):∀{a:List<|Str×V},(∀p∈a,NoAttr K Cc p.1)->a.lookup m=aT|[],_=>rfl|(k,v)::a,h=>by rw[bj];cases e:m==k with|true=>have a:=gv e;subst a;have z:=h (m,v)<|am ..;unfold NoAttr at z;cases J.at_▸z|false=>exact aL2 J λp a=>h p<|ah _ a
def aD2{a:yL}(J:j8 (a.length+([]:List fD).length) (cT pos<|a9 a env) (fC pos<|di [] env)=bY)(b:(h.endLine==pos.line)=bY):∃c,eval (.Call (.Attribute (.Name x px) m h) a [] pos) env=(do
  let ov<-eval (.Name x px) env
  lc h.atName let(f,first)<-gX [ov]<|ke ov m c
  callWith pos f first (cT pos<|a9 a env) (fC pos<|di [] env)):=by
 have z:methodCallPos bY (.Name x px) env h pos=pure pos:=by unfold methodCallPos;simp[b]
 rw[arm_eval_Call,az4 rfl];unfold methodCall;rw[J];simp only[z];exact⟨_,rfl⟩
def bb1{g:pf}{m:String}{b:oX}{J:yL}{y:Str}{i k pos:Pos}(G:CG Γ F n X ck)(A:PE X (.Name y i) (TEv Γ<|om F g))(u:mAs ck b J=bY)(O:(k.endLine==pos.line)=bY)(a:J.length<29)(h:PA X J<|TAv Γ<|oF F b):EvT Γ X (.Call (.Attribute (.Name y i) (m:Str) k) J [] pos) (om F<|.mcall g m b):=by
 refine .val λUu sh W H Q I q=>AG q λC U s d v E R Y q=>AE (aa1 Y) λx a e a=>AE (aa1 a) λc x a f=>AE (aa1 f) λl B P Y=>?_;obtain⟨r,fs,rfl,S,rfl⟩:=aP9 a;rcases G.ob.mc c m with a|⟨D,a,f,ps,T,f,z,K,L⟩;.simp_all
 have key:bn6 D (m:Str) (spV Γ<|F.mcall c m) [] E0 (TEv Γ<|om F g) (TAv Γ<|oF F b) W H Q:=by refine⟨C,U,s,.ref r,x,E,R,e,λM j N n e o p t=>?_⟩;obtain⟨s,w,M,⟨Z,s⟩,s,N,R⟩:=t.obj r _ S;rw[T]at Z;cases Z;rw[<-G.K]at s;refine⟨j r,w,M,p.refE,N,aL2 z s,j,U,x,l,B,E.mono n e,t,P,λj t j j s w x R2=>⟨t,B,.ref r::l,d,v,R2,.cons (RV.mono j _ _ o p) (by simp_all),by rw[oa,w,zm s _ o];rfl,Y,q.trans (n.trans j e) (au e s)⟩⟩
 have d:j8 (J.length+([]:List fD).length) (cT pos<|a9 J X.env) (fC pos<|di [] X.env)=true:=by show((cT pos<|a9 J X.env).all (λx=>!x.1)&&(fC pos<|di [] X.env).all (λx=>x.1.isSome)&&decide (J.length+([]:List fD).length+(if([]:List fD).isEmpty then 0 else 1)<30))=bY;rw[(zr<|jI u).2];simp only[du,ae,iF];exact⟨rfl,by grind⟩
 refine AF (aD2 (x:=y) (px:=i) (m:=(m:Str)) d O) λpl l=>?_;cases J with
 |nil=>have d:PE X (.Call (.Attribute (.Name y i) (m:Str) k) [] [] pos) (bn6 D (m:Str) (spV Γ<|F.mcall c m) [] E0 (TEv Γ<|om F g) aH9):=br6 (pl:=pl) A f z K G.room L .nil aU5 l;refine d Uu sh W H Q I ?_;cases b with|nil=>exact AG key λC U s d v E R Y k=>⟨C,U,s,d,v,E,R,Y,λM j N n e o p t=>AK (k M j N n e o p t) λa w fs b c d e=>⟨a,w,fs,b,c,d,av4<|TAv.eq (λU s=>rfl) e⟩⟩|_=>rw[mAs]at u<;>first|grind|(intros;simp_all)
 |cons e a=>have a:=jI u;exact bb8 (pl:=pl) A f z K G.room L .nil aU5 h (ze<|a e<|am ..) (zr λe b=>a e<|ah _ b).1 l Uu sh W H Q I key
end
section
variable{Γ:Gm}{F:oy}{n:Nat}{X:Cx}{ck:Ck}
theorem RVD.merge:∀{m l}{more kvs},RVD ai4 Γ C H l kvs->RVD ai4 Γ C H m more->RVD ai4 Γ C H (DV.ct1 l m) (ao5 kvs more)|[],l,more,kvs,h,g=>have g:=g;g▸h|(d,e)::m,l,_,kvs,h,g=>by obtain⟨k,v,r,rfl,a,z,J⟩:=g;exact RVD.merge (l:=oE d e l) (kvs:=as4 kvs k v) (RVD.put keyOf_inj a z h) J
end
section
variable{Γ:Gm}{F:oy}{n:Nat}
set_option tactic.hygienic true in def ce2(h:mC c v=bY):EvT Γ X (.Constant v k pos) (om F<|.K c):=by
 refine .val ?_;unfold mC at h;split at h;.exact cb2.imp λW H Q q=>aB2 (λ_=>rfl) (λ_ _=>RV.nonI) (TEv.eq (λU s=>rfl) q)
 .rename_i b c;have e:=gv h;exact e▸cn7.imp λW H Q q=>aB2 (λ_=>rfl) (λ_ _=>RV.blI) (TEv.eq (λU s=>rfl) q)
 .rename_i i j;have e:=dr h;exact e▸bB4.imp λW H Q q=>aB2 (λ_=>rfl) (λ_ _=>RV.intI) (TEv.eq (λU s=>rfl) q)
 .rename_i x y;rw[ae]at h;have e:=dr h.1;exact e▸by8.imp λW H Q q=>aB2 (λ_=>rfl) (λ_ _=>RV.strI<|by unfold ot;lia) (TEv.eq (λU s=>rfl) q)
 .cases h
def bG1{z:yL}(m:mEs Z es z=bY)(a:z.length<=1000)(h:PA X z<|TAv Γ<|oS F es):PE X (.List z pos) (TFv Γ<|DV.evL F<|.disp es):=by refine(by7 h).imp λW H Q q=>AG q λC U s l b E R Y q=>⟨C,U,s,l,b,E,R,Y,λg h i b c d e f=>⟨e.length▸ay4 Y m▸aN5 a,λp a=>AB (f.same<|(af9.refl i).new a) λJ R2=>q p g h _ (b.trans J c) c d zh ?_ (Off.new f a) (RVL.mono J _ _ d e) R2⟩⟩;cases e:H p with|none=>rfl|some o=>exact ij a<|b.st p<|by lia
def CompF.eq(c:CompF Γ X m E)(e:∀U s,m' U s=m U s):CompF Γ X m' E:=by have:=funext λU=>funext<|e U;simp_all
def zg(h:(a&&b)=bY):a=bY/\b=true:=by rw[ae]at h;exact h
def bI3{g:String}(G:CG Γ F n X J)(h:J.gl (g:Str)=bY):EvT Γ X (.Name (g) p) (om F<|.gl g):=by refine .val ?_;refine AI (G.gl h) λg1 Z a=>?_;cases e:F.con g with|none=>refineλUu s W H Q I q=>AG q λC U s d a E R z q=>?_;have z:(match F.con g with|some d=>DV.R.ok d s|none=>.B)=.ok d a:=z;simp_all|some d=>exact AR (G.con g d e) λv u a Y b c=>(ao2 g1 a Y Z).imp λW H Q q=>aB2 b c<|TEv.eq (λU s=>by show(match F.con g with|some d=>DV.R.ok d s|none=>.B)=DV.R.ok d s;rw[e]) q
def cf9(G:CG Γ F n X z)(h:z.var i x=bY):EvT Γ X (.Name x p) (om F<|.X i):=by
 refine .val ?_;refine AB (zg h) λh a=>AB (zg h) λh b=>AB (zg h) λY J=>?_;have c:(x==("__debug__"))=false:=by simpa using b
 have b:(x==("__classdict__"))=false:=by simpa using a
 exact(aB9 (G.N▸dr Y) (G.vis J) c b).imp λW H Q q=>bX5 i<|TEv.eq (λU s=>rfl) q
def bE0(G:CG Γ F n X z)(h:z.var i x=bY):PE X (.Name x p) (bm8 i):=AB (zg h) λh a=>AB (zg h) λh b=>AB (zg h) λY J=>aB9 (G.N▸dr Y) (G.vis J) (by simpa using b) (by simpa using a)
theorem az5:∀{b}{J:yL},bT5 Uu b J=bY->∀x∈J,shp x=bY
 |.nil,[],_,x,a=>by cases a|.nil,_::_,h,_,_=>ff h|.ex e b,[],h,_,_=>ff h|.ex e b,y::d,h,x,a=>by
  refine AB (zg h) λh c=>AB (zg h) λY z=>?_;rcases aD.mp a with rfl|a;.exact z
  .exact az5 c x a|.lam _ _ b,[],h,_,_=>ff h|.lam _ _ b,y::d,h,x,a=>by
  refine AB (zg h) λh c=>AB (zg h) λY z=>?_;rcases aD.mp a with rfl|a;.exact z
  .exact az5 c x a|.fn _ _,_,h,_,_=>ff h
theorem aP7:∀{es}{Y:yL},bT5 Uu es Y=bY->bv2 es=bY->∃J z E,Uu.lk J z E=bY|.nil,_,_,h=>by cases h|.ex e es,[],h,_=>ff h|.ex e es,y::ys,h,hl=>by obtain⟨h,h3⟩:=zg h;exact aP7 h3 hl|.lam J z es,[],h,_=>ff h|.lam J z es,y::ys,h,_=>by obtain⟨h,h3⟩:=zg h;obtain⟨Z,h2⟩:=zg h;exact⟨J,z,y,Z⟩|.fn _ _,_,h,_=>ff h
def aQ2(h:∀U s,m U s=.B):EvT Γ X E m:=by
 refine⟨λz s W H Q I q=>?_,λz s W H Q I q=>?_⟩;.refine AG q λC U s d a E R J q=>?_;simp_all
 .refine AG q λC U s d a E R J q=>?_;simp_all
inductive LK(Γ:Gm)(X:Cx)(m:og->n8->ol (List n9))(E:Expr)(k:Nat):Prop where|c(h:CompF Γ X m E):LK Γ X m E k|f(hk:1<=k)(h:PE X E<|TFv Γ m):LK Γ X m E k|s(hk:k=2)(h:PE X E<|TLv Γ m):LK Γ X m E k
def bZ0(h:LK Γ X m E 0):CompF Γ X m E:=by cases h with|c h=>exact h|f a h=>lia|s a h=>lia
def bH0(G:CG Γ F n X z)(h:LK Γ X m E 1):PE X E<|TFv Γ m:=by cases h with|c h=>exact h.pe G.calm|f a h=>exact h|s a h=>lia
def cr3(G:CG Γ F n X z)(h:LK Γ X m E 2):PE X E<|TLv Γ m:=by cases h with|c h=>exact(h.pe G.calm).imp λW H Q q=>aL6 q|f a h=>exact h.imp λW H Q q=>aL6 q|s a h=>exact h
def biOk_inv(h:ck7 z b x J (mEs z es J) (mEs z es<|J.take 1)=bY):(∃k t a y Y,biK b=al (k,t)/\J=[a,.Name y Y]/\x=("isinstance")/\y=t/\z.gl x=bY/\z.gl y=bY/\mEs z es [a]=bY)\/∃a ys,J=a::ys/\biT b=al x/\z.gl x=bY/\mEs z es (a::ys)=true:=by unfold ck7 at h;cases hk:biK b with
 |none=>rw[hk]at h;cases J with|nil=>exact ff h|cons a ys=>obtain⟨h,h3⟩:=zg h;obtain⟨Z,Uu⟩:=zg h;exact .inr ⟨a,ys,rfl,dr Z,Uu,h3⟩
 |some p=>rw[hk]at h;cases J with|nil=>exact ff h|cons a ys=>cases ys with|nil=>exact ff h|cons b ys=>cases b with
    |Name y Y=>cases ys with|nil=>obtain⟨h,h5⟩:=zg h;obtain⟨h,h4⟩:=zg h;obtain⟨h,h3⟩:=zg h;obtain⟨Z,Uu⟩:=zg h;exact .inl ⟨p.1,p.2,a,y,Y,rfl,rfl,dr Z,dr h3,Uu,h4,h5⟩|cons _ _=>exact ff h
    |_=>exact ff h
mutual theorem sE:∀(e:pf)(E:Expr)(X:Cx)(z:Ck),CG Γ F n X z->mE z e E=bY->EvT Γ X E (om F e)
 |.X i,E,X,z,G,h=>by cases E with|Name x p=>exact cf9 G h|_=>exact ff h
 |.K c,E,X,z,G,h=>by cases E with|Constant v k p=>exact ce2 h|_=>exact ff h
 |.gl g,E,X,z,G,h=>by cases E with|Name x p=>refine AB (zg h) λUu J=>?_;have e:=dr Uu;subst e;exact bI3 G J|_=>exact ff h
 |.G d a b,E,X,z,G,h=>by cases E with|BinOp l o r i=>exact AB (zg h) λh g=>AB (zg h) λUu J=>have e:=dr Uu;e▸bF5 G d (sE a _ X z G J) (sE b _ X z G g)|_=>exact ff h
 |.not a,E,X,z,G,h=>by cases E with
  |UnaryOp o l p=>cases o with|Not=>exact bL5<|sE a _ X z G h|_=>exact ff h
  |_=>exact ff h
 |.Z d a b,E,X,z,G,h=>by cases E with
  |Compare l e f i=>cases e with
   |cons o c=>cases c with
    |nil=>cases f with
     |cons r c=>cases c with|nil=>refine AB (zg h) λh g=>AB (zg h) λUu J=>?_;cases dr Uu;exact bL7 G d (aM8 g) (sE a _ X z G J) (sE b _ X z G g)|_=>exact ff h
     |_=>exact ff h
    |_=>exact ff h
   |_=>exact ff h
  |_=>exact ff h
 |.isN a,E,X,z,G,h=>by cases E with
  |Compare l e f i=>cases e with
   |cons o b=>cases o with
    |Is=>cases b with
     |nil=>cases f with
      |cons r c=>cases r with
       |Constant v k d=>cases v with
        |none=>cases c with|nil=>exact bF1<|sE a _ X z G h|_=>exact ff h
        |_=>exact ff h
       |_=>exact ff h
      |_=>exact ff h
     |_=>exact ff h
    |_=>exact ff h
   |_=>exact ff h
  |_=>exact ff h
 |.notN a,E,X,z,G,h=>by cases E with
  |Compare l e f i=>cases e with
   |cons o b=>cases o with
    |IsNot=>cases b with
     |nil=>cases f with
      |cons r c=>cases r with
       |Constant v k d=>cases v with
        |none=>cases c with|nil=>exact bv0<|sE a _ X z G h|_=>exact ff h
        |_=>exact ff h
       |_=>exact ff h
      |_=>exact ff h
     |_=>exact ff h
    |_=>exact ff h
   |_=>exact ff h
  |_=>exact ff h
 |.and a b,E,X,z,G,h=>by cases E with
  |BoolOp d c p=>cases d with
   |And=>cases c with|nil=>exact ff h|cons l c=>cases c with|nil=>exact ff h|cons r c=>cases c with|nil=>exact AB (zg h) λUu J=>bE5 (sE a _ X z G Uu) (sE b _ X z G J)|cons e c=>exact AB (zg h) λUu J=>bJ6 (sE a _ X z G Uu) (sE b _ X z G J)
   |_=>exact ff h
  |_=>exact ff h
 |.or a b,E,X,z,G,h=>by cases E with
  |BoolOp d c p=>cases d with
   |Or=>cases c with|nil=>exact ff h|cons l c=>cases c with|nil=>exact ff h|cons r c=>cases c with|nil=>exact AB (zg h) λUu J=>bV7 (sE a _ X z G Uu) (sE b _ X z G J)|cons e c=>exact AB (zg h) λUu J=>cc1 (sE a _ X z G Uu) (sE b _ X z G J)
   |_=>exact ff h
  |_=>exact ff h
 |.ite c a b,E,X,z,G,h=>by cases E with|IfExp d l r i=>exact AB (zg h) λh g=>AB (zg h) λUu J=>bG9 (sE c _ X z G Uu) (sE a _ X z G J) (sE b _ X z G g)|_=>exact ff h
 |.tp r,E,X,z,G,h=>by cases E with|Tuple j k p=>exact AB (zg h) λUu J=>bN0 Uu (dr J) (ap3<|sEs r _ X z G Uu)|_=>exact ff h
 |.J r,E,X,z,G,h=>by cases E with|List j p=>exact AB (zg h) λUu J=>bR7 Uu (dr J) (ap3<|sEs r _ X z G Uu)|_=>exact ff h
 |.dc .nil .nil,E,X,z,G,h=>by cases E with
  |Dict a b p=>cases a with
   |nil=>cases b with|nil=>exact .val<|bv4.imp λW H Q q=>bY4<|TEv.eq (λU s=>rfl) q|_=>exact ff h
   |cons x a=>cases x with|none=>exact ff h|some x=>cases a with
     |nil=>cases b with|nil=>exact ff h|cons y b=>cases b with|nil=>exact ff h|_=>exact ff h
     |_=>exact ff h
  |_=>exact ff h
 |.dc (.cons k .nil) (.cons v .nil),E,X,z,G,h=>by cases E with
  |Dict a b p=>cases a with
   |nil=>cases b with|nil=>exact ff h|_=>exact ff h
   |cons x a=>cases x with|none=>exact ff h|some x=>cases a with
     |nil=>cases b with|nil=>exact ff h|cons y b=>cases b with|nil=>exact AB (zg h) λUu J=>AB (zg Uu) λUu _=>AB (zg Uu) λUu _=>AB (zg J) λJ _=>AB (zg J) λJ _=>.val<|(bT1 (bq7 (sE k _ X z G Uu).1 (sE v _ X z G J).1 bL8) rfl rfl (by nofun) (by show 1<=15;decide)).imp λW H Q q=>cg4<|TEv.eq (λU s=>rfl) q|_=>exact ff h
     |_=>exact ff h
  |_=>exact ff h
 |.dc .nil<|.cons _ _,E,X,z,G,h=>aQ2 λ_ _=>rfl|.dc (.cons _ .nil) .nil,E,X,z,G,h=>aQ2 λ_ _=>rfl|.dc (.cons _ .nil) (.cons _<|.cons _ _),E,X,z,G,h=>aQ2 λ_ _=>rfl|.dc (.cons _<|.cons _ _) _,E,X,z,G,h=>aQ2 λ_ _=>rfl|.attr o f,E,X,z,G,h=>by cases E with|Attribute v x p=>refine AB (zg h) λh g=>AB (zg h) λUu J=>?_;cases dr Uu;exact .val<|(bv3 G J (sE o _ X z G g).1).imp λW H Q q=>TEv.eq (λU s=>rfl) q|_=>exact ff h
 |.new c d,E,X,z,G,h=>by cases E with
  |Call c j n p=>cases c with
   |Name x u=>cases n with|nil=>refine AB (zg h) λh g=>AB (zg h) λUu J=>?_;have e:=dr Uu;subst e;exact bM9 G J g<|sAs d _ X z G g|_=>exact ff h
   |_=>exact ff h
  |_=>exact ff h
 |.mcall o m d,E,X,z,G,h=>by cases E with
  |Call c j n p=>cases c with
   |Attribute v x w=>cases n with
    |nil=>cases v with|Name y m=>exact AB (zg h) λh Z=>AB (zg h) λh Y=>AB (zg h) λh g=>AB (zg h) λUu J=>have e:=dr Uu;e▸bb1 G (sE o _ X z G J).1 Z g (dr Y) (sAs d _ X z G Z)|_=>exact ff h
    |_=>exact ff h
   |_=>exact ff h
  |_=>exact ff h
 |.dicT,E,X,z,G,h=>by cases E with
  |Dict a b p=>cases a with
   |nil=>cases b with|nil=>exact .val<|bs2.imp λW H Q q=>bF7<|TEv.eq (λU s=>rfl) q|_=>exact ff h
   |_=>exact ff h
  |_=>exact ff h
 |.ix a b,E,X,z,G,h=>by cases E with|Subscript o i p=>exact AB (zg h) λUu J=>cc9 G (aM8 J) (sE a _ X z G Uu) (sE b _ X z G J)|_=>exact ff h
 |.slU a b,E,X,z,G,h=>by cases E with
  |Subscript o i p=>cases i with
   |Slice c b d e=>cases c with
    |none=>cases b with
     |some l=>cases d with|none=>exact AB (zg h) λUu J=>bJ2 G (sE a _ X z G Uu) (sE b _ X z G J)|_=>exact ff h
     |_=>exact ff h
    |_=>exact ff h
   |_=>exact ff h
  |_=>exact ff h
 |.call f d,E,X,z,G,h=>by cases E with
  |Call c j n p=>cases c with
   |Name x u=>cases n with|nil=>refine AB (zg h) λh g=>AB (zg h) λUu J=>?_;cases dr Uu;exact bt4 G J g<|sAs d _ X z G g|_=>exact ff h
   |_=>exact ff h
  |_=>exact ff h
 |.callC f d,E,X,z,G,h=>by cases E with
  |Call c j n p=>cases c with
   |Name x u=>cases j with
    |cons y e=>cases n with|nil=>refine AB (zg h) λh g=>AB (zg h) λh Y=>AB (zg h) λUu J=>?_;cases dr Uu;exact AJ (aP7 g Y) λid b c a=>AJ (G.lam id b c a) λ_ _ _ AA=>AN AA λ_ _ _ _ _ L=>.val<|(bd9 G J L.fn L.kd (az5 g) (ct0 d _ X z G g)).imp λW H Q q=>TEv.eq (λU s=>rfl) q|_=>exact ff h
    |_=>exact ff h
   |_=>exact ff h
  |_=>exact ff h
 |.callV i r,E,X,z,G,h=>by cases E with
  |Call c j n p=>cases c with
   |Name x u=>cases j with
    |cons y e=>cases n with|nil=>exact AB (zg h) λUu J=>.val<|bh8 G Uu (aA2 J) (ap3<|sEs r _ X z G J) (bE0 G Uu)|_=>exact ff h
    |_=>exact ff h
   |_=>exact ff h
  |_=>exact ff h
 |.bi b r,E,X,z,G,h=>by cases E with
  |Call c j n p=>cases c with
   |Name x u=>cases n with|nil=>
     have h:ck7 z b x j (mEs z r j) (mEs z r<|j.take 1)=true:=h;rcases biOk_inv h with⟨k,t,a,y,m,b,rfl,rfl,rfl,J,Y,Z⟩|⟨a,e,rfl,Uu,J,g⟩;.exact bO8 G b J Y<|sEs r _ X z G Z
     .exact ca1 G Uu J g<|ap3<|sEs r _ X z G g|_=>exact ff h
   |_=>exact ff h
  |_=>exact ff h
 |.mk k l,E,X,z,G,h=>by cases E with
  |ListComp e a a p=>refine AB (zg h) λUu J=>?_;have e:=dr Uu;subst e;exact((cf _ _).mp J).elim (λJ=>.val<|((bZ0<|sL l _ X z G 0 J).pe G.calm).imp λW H Q q=>aJ0<|TEv.eq (λU s=>rfl) q) λJ=>.val<|(bH0 G<|sL l _ X z G 1 (zg J).2).imp λW H Q q=>aJ0<|TEv.eq (λU s=>rfl) q|Call c j n p=>cases c with
   |Name x u=>cases j with
    |cons a b=>cases b with
     |nil=>cases n with|nil=>
       refine AB (zg h) λh Y=>AB (zg h) λJ g=>?_;rw[cf]at Y;rcases Y with Y|Y;.exact AB (zg Y) λZ f=>.val<|(cf8 G (dr Z) J g<|cr3 G<|sL l _ X z G 2 f).imp λW H Q q=>TEv.eq (λU s=>rfl) q
       .exact AB (zg Y) λZ f=>.val<|(bZ5 G (dr Z) J g<|bH0 G<|sL l _ X z G 1 f).imp λW H Q q=>TEv.eq (λU s=>rfl) q|_=>exact ff h
     |_=>exact ff h
    |_=>exact ff h
   |_=>exact ff h
  |_=>exact ff h
 |.mkD k l d,E,X,z,G,h=>by cases E with
  |Call c j n p=>cases c with
   |Name x u=>cases j with
    |cons a b=>cases b with
     |nil=>cases n with
      |cons kk a=>cases kk with|mk b c kp=>cases b with
        |some y=>cases a with|nil=>refine AB (zg h) λh b=>AB (zg h) λh f=>AB (zg h) λh Z=>AB (zg h) λh g=>AB (zg h) λUu J=>?_;have a:=dr J;subst a;refine AB (zg Uu) λe a=>?_;have e:=dr e;have a:=dr a;subst e a;exact .val<|(bV9 G g Z (bH0 G<|sL l _ X z G 1 f) (sE d _ X z G b).1).imp λW H Q q=>TEv.eq (λU s=>rfl) q|_=>exact ff h
        |_=>exact ff h
      |_=>exact ff h
     |_=>exact ff h
    |_=>exact ff h
   |_=>exact ff h
  |_=>exact ff h
 |.me m o r,E,X,z,G,h=>by cases E with
  |Call c j n p=>cases c with
   |Attribute v x w=>cases n with|nil=>exact AB (zg h) λh Z=>AB (zg h) λh Y=>AB (zg h) λh g=>AB (zg h) λUu J=>bp7 G (dr Uu) J g (sE o _ X z G Y).1 Z<|sEs r _ X z G Z|_=>exact ff h
   |_=>exact ff h
  |_=>exact ff h theorem sEs:∀(a:oK)(z:yL)(X:Cx)(J:Ck),CG Γ F n X J->mEs J a z=bY->PEs Γ F X a z
 |.nil,z,X,J,G,h=>by cases z with|nil=>exact trivial|_=>exact ff h
 |.cons e a,z,X,J,G,h=>by cases z with|cons x z=>exact AB (zg h) λh b=>AB (zg h) λY c=>⟨⟨c,sE e _ X J G Y⟩,sEs a _ X J G b⟩|_=>exact ff h theorem sFs:∀(a:oK)(J:yL)(X:Cx)(z:Ck),CG Γ F n X z->mFs z a J=bY->PF Γ X J (oS F a)
 |.nil,J,X,z,G,h=>by cases J with|nil=>exact(cc5).eq λ_ _=>rfl|_=>exact ff h
 |.cons e a,J,X,z,G,h=>by cases J with
  |cons x J=>cases x with
   |FormattedValue v c b p=>cases b with|none=>exact AB (zg h) λh c=>AB (zg h) λY b=>have d:=dr Y;d▸(bW5 (sE e _ X z G b).1<|sFs a _ X z G c).eq λ_ _=>rfl|_=>exact ff h
   |Constant v j p=>exact AB (zg h) λY b=>(ca0 (sE e _ X z G Y).1<|sFs a _ X z G b).eq λ_ _=>rfl|_=>exact ff h
  |_=>exact ff h theorem sAs:∀(a:oX)(z:yL)(X:Cx)(J:Ck),CG Γ F n X J->mAs J a z=bY->PA X z (TAv Γ<|oF F a)
 |.nil,z,X,J,G,h=>by cases z with|nil=>exact af0.imp λW H Q q=>av4<|TAv.eq (λU s=>rfl) q|_=>exact ff h
 |.ex e a,z,X,J,G,h=>by cases z with|cons x z=>exact AB (zg h) λh b=>AB (zg h) λY c=>(aO8 c (sE e _ X J G Y).1<|sAs a _ X J G b).imp λW H Q q=>TAv.eq (λU s=>rfl) q|_=>exact ff h
 |.lam _ _ _,z,X,J,G,h=>ff h|.fn _ _,z,X,J,G,h=>ff h theorem ct0:∀(b:oX)(z:yL)(X:Cx)(a:Ck),CG Γ F n X a->bT5 a b z=bY->PA X z (TAp Γ X.env.cells X.N<|oF F b)
 |.nil,z,X,a,G,h=>by cases z with|nil=>exact af0.imp λW H Q q=>bE2<|TAp.eq (λU s=>rfl) q|_=>exact ff h
 |.ex e b,z,X,a,G,h=>by cases z with|cons x z=>exact AB (zg h) λh d=>AB (zg h) λZ Y=>(zy (sE e _ X a G Z).1 (ct0 b _ X a G d) (ze Y)).imp λW H Q q=>ca3<|TAp.eq (λU s=>rfl) q|_=>exact ff h
 |.lam id c b,z,X,a,G,h=>by cases z with|cons x z=>
   refine AB (zg h) λh d=>AB (zg h) λZ Y=>AJ (G.lam id c _ Z) λc P c AA=>AN AA λbody c c J e L=>?_;have c:J.nm=none:=by cases q:J.nm with|none=>rfl|some p=>unfold lamText at e;rw[q]at e;cases e▸Y
   unfold lamText at e;rw[c]at e;dsimp only at e;subst e;exact(cf0 (G.N▸L) c<|ct0 b _ X a G d).imp λW H Q q=>TAp.eq (λU s=>rfl) q|_=>exact ff h
 |.fn _ _,z,X,a,G,h=>ff h theorem sI:∀(i:DV.I)(E tg:Expr)(X:Cx)(z:Ck),CG Γ F n X z->mI z tg i E=bY->PI X tg E (TIv Γ<|pH F i)
 |.seq e,E,tg,X,z,G,h=>AB (zg h) λJ d=>bT2 G (sE e _ X z G J).1|.keys e,E,tg,X,z,G,h=>ff h|.rg a,E,tg,X,z,G,h=>by cases E with
  |Call f g i p=>cases f with
   |Name x k=>cases g with
    |cons l b=>cases b with
     |nil=>cases i with|nil=>refine AB (zg h) λh Y=>AB (zg h) λh j=>AB (zg h) λJ d=>?_;have e:=dr J;subst e;exact bt0 G d Y (sE a _ X z G j).1|_=>exact ff h
     |_=>exact ff h
    |_=>exact ff h
   |_=>exact ff h
  |_=>exact ff h
 |.rng3 a b c,E,tg,X,z,G,h=>by cases E with
  |Call f g i p=>cases f with
   |Name x k=>cases g with
    |cons l c=>cases c with
     |cons r c=>cases c with
      |cons d c=>cases d with
       |Constant v k d=>cases c with
        |nil=>cases i with|nil=>refine AB (zg h) λh c=>AB (zg h) λh f=>AB (zg h) λh Z=>AB (zg h) λh g=>AB (zg h) λh Y=>AB (zg h) λh j=>AB (zg h) λJ d=>?_;have e:=dr J;have i:=dr f;have e3:=dr c;subst e i e3;exact by0 G d Y Z (sE a _ X z G j).1 (sE b _ X z G g).1|_=>exact ff h
        |_=>exact ff h
       |_=>exact ff h
      |_=>exact ff h
     |_=>exact ff h
    |_=>exact ff h
   |_=>exact ff h
  |_=>exact ff h theorem sL:∀(l:DV.L)(E:Expr)(X:Cx)(J:Ck),CG Γ F n X J->∀k,mL J k l E=bY->LK Γ X (DV.evL F l) E k
 |.comp tg it e d,E,X,J,G,k,h=>by cases E with
  |ListComp o q f p=>cases q with
   |cons g j=>cases g with|mk r m l z=>cases l with
     |nil=>cases j with|nil=>refine AB (zg h) λh t=>AB (zg h) λh Y=>AB (zg h) λh0 b=>?_;have Z:=dr h0;subst Z;have c:=bs1 (pos:=p) G b (sI it _ _ X J G Y) λn a s H ex=>(sE e _ _ _ ((G.comp b).2.2 n a s H ex).1 t).1;exact .c<|c.eq λU s=>rfl|_=>exact ff h
     |_=>exact ff h
   |_=>exact ff h
  |_=>exact ff h
 |.compIf tg it i e d,E,X,J,G,k,h=>by cases E with
  |ListComp o q f p=>cases q with
   |cons g j=>cases g with|mk r m l z=>cases l with
     |cons a a=>cases a with
      |nil=>cases j with|nil=>refine AB (zg h) λh d=>AB (zg h) λh t=>AB (zg h) λh Y=>AB (zg h) λh0 b=>?_;have Z:=dr h0;subst Z;have c:=bJ0 (pos:=p) G b (sI it _ _ X J G Y) (λn a s H ex=>(sE i _ _ _ ((G.comp b).2.2 n a s H ex).1 t).2) λn a s H ex=>(sE e _ _ _ ((G.comp b).2.2 n a s H ex).1 d).1;exact .c<|c.eq λU s=>rfl|_=>exact ff h
      |_=>exact ff h
     |_=>exact ff h
   |_=>exact ff h
  |_=>exact ff h
 |.disp a,E,X,J,G,k,h=>by cases E with|List b p=>exact AB (zg h) λh Y=>AB (zg h) λh0 b=>.f (dr h0) (bG1 b (dr Y) (ap3<|sEs a _ X J G b))|_=>exact ff h
 |.seq e,E,X,J,G,k,h=>AB (zg h) λh0 b=>.s (dr h0) ((sE e _ X J G b).1.imp λW H Q q=>bY2<|TLv.eq (λU s=>rfl) q)|.compK tg e b d,E,X,J,G,k,h=>ff h end
end
section
variable{Γ:Gm}{F:oy}{n:Nat}
def bw6(G:CG Γ F n X ck)(c:CompF Γ X m E)(hi:ck.N[i]?=al x)(k:ck.loc x=bY):PS X (.Assign [.Name x px] E pos) (bw9 (TFv Γ m) (aB8 i)):=by
 obtain⟨J,e,d,Y,a,f,j,h,q,g,s,t,rfl,l,h2,o,p,u⟩:=c.ex;refine AB (G.loc k) λl1 v=>?_;have r:X.N.Nodup:=G.N▸G.nd;have z:X.N[i]?=al x:=G.N▸hi;generalize c:((X.env.blockKind==.function&&X.env.kindOf x==al .local&&px.line==(Expr.ListComp J [⟨e,d,Y,0⟩] a f).pos.line&&!(a.names.any λ(n,k)=>n==x&&(k==.local||k==.cell))))=b;have Z:fR (.ListComp J [⟨e,d,Y,0⟩] a f) (al<|.Name x px) pos.line X.env=pure b:=by rw[<-c];rfl
 have imp:∀D W H,bw9 (TFv Γ m) (aB8 i) D W H->bw9 (tComp h q g s t) (aB8 i) D W H:=λD W H q=>u _ _ _ q;cases b with
 |true=>
  have a:=by simp only[ae]at c;exact gv c.1.1.2
  exact(aS2 j h r z a l h2 G.calm o p Z).imp imp|false=>exact(bz0 r z l1 (bf8 j h l h2 G.calm o p) Z v).imp imp
def bH8(G:CG Γ F n X J)(hi:J.N[i]?=al x)(Y:J.loc x=bY)(h:mE J e v=bY)(hk:noK e=bY):PS X (.Assign [.Name x px] v pos) (TSv Γ<|DV.ex F<|.A (.Y i) e):=by
 obtain⟨l1,Z⟩:=G.loc Y;have nd:X.N.Nodup:=by rw[G.N];exact G.nd
 have Uu:X.N[i]?=al x:=by rw[G.N];exact hi
 by_cases hc:aq0 v=bY;.exact(bz0 nd Uu l1 (sE e v X J G h).1 (aj8 hc) Z).imp λD W H q=>bf3<|TSv.eq (λU s=>rfl) q
 .have hs:=aM8 h;cases v with
  |ListComp elt gs sc p=>cases e with|mk k l=>
    obtain⟨h1,z⟩:=zg h;have e:=dr h1;subst e;have z:mL J 0 l (.ListComp elt gs sc p)=true:=by
     rcases(cf _ _).mp z with z|z;.exact z
     .have hk:(!isK l)=true:=hk;rw[(zg z).1]at hk;exact ff hk
    exact(bw6 G (bZ0<|sL l _ X J G 0 z) hi Y).imp λD W H q=>bs8<|TSv.eq (λU s=>rfl) q|_=>exact ff h
  |SetComp _ _ _ _=>cases hs|DictComp _ _ _ _ _=>cases hs|_=>exact ij rfl hc
def bs0{body:yM}(hT:TabsH T H)(nd:(T.map (·.1)).Nodup)(hm:(P,q)∈T)(go:∀(f:Addr)(H':Hp),bm3 H H'->(∀b,H b≠aT->H' b≠aT)->TabsH T H'->H f=aT->(∃Z pm c' J,H' f=al (ay8 f<|cX name q params body scope (af8 cells scope.names []) .none .none Z pm aT (.ref c') J)/\H' c'=al (qo c' q))->D0.nx (W.set ix<|al<|.ref f) H'):ct9 cells P name q params body scope pos ix D0 W H:=by
 obtain⟨ps,hP,ht,hc⟩:=hT _ hm;refine⟨ps,hP,ht,λhn c' f Z pm J n1 n2 ne=>?_,λcv e=>?_⟩
 .have cP:c'≠P:=λz=>by rw[z,hP]at n1;cases n1
  have fP:f≠P:=λz=>by rw[z,hP]at n2;cases n2
  have Y:∀b,b≠P->H b≠aT->∀o1 o2 o3,upd (upd (upd H P o1) c' o2) f o3 b=H b:=λb z1 z2 o1 o2 o3=>by rw[zb λz=>by subst z;exact z2 n2,zb λz=>by subst z;exact z2 n1,zb z1]
  refine go f _ (λb o d e=>?_) (λb hb=>?_) (λy hy=>?_) n2 ⟨Z,pm,c',J,zh,by rw[zb ne,zh]⟩;.rw[Y b (λz=>by subst z;rw[hP]at e;cases e;exact d _ rfl) (by rw[e];simp)];exact e
  .by_cases z:b=P;.subst z;rw[zb<|bH fP,zb<|bH cP,zh];simp
   .rw[Y b z hb];exact hb
  .by_cases z:y.1=P
   .have ey:=by
     have:∀(l:List<|Addr×Str),(l.map (·.1)).Nodup->y∈l->(P,q)∈l->y=(P,q):=by intro l;induction l with|nil=>intro _ h;simp at h|cons a l ih=>
       intro hn h1 h2;rw[aQ,cS]at hn;rcases aD.mp h1 with e1|h1<;>rcases aD.mp h2 with e2|h2;.rw[e1,e2]
       .exact ij (by rw[<-e1,z];exact bF h2) hn.1
       .exact ij (by rw[<-e2,<-z];exact bF (f:=(·.1)) h1) hn.1
       .exact ih hn.2 h1 h2
     exact this T nd hy hm
    subst ey;refine⟨_,by rw[zb<|bH fP,zb<|bH cP,zh],?_,λUu cv e=>?_⟩;.rw[eT];exact TriplesOk_snoc _ _ _ _ ht
    .rw[eT]at e;rcases codeAmong_add _ ht e with e'|e';.obtain⟨c2,e1,e2⟩:=hc Uu cv e';exact⟨c2,e1,by rw[Y c2 (λz=>by subst z;rw[hP]at e2;unfold qo at e2;cases e2) (by rw[e2];simp)];exact e2⟩
     .exact⟨c',e',by rw[zb ne,zh]⟩
   .obtain⟨qs,e1,e2,e3⟩:=hT y hy;refine⟨qs,by rw[Y y.1 z<|by rw[e1];simp];exact e1,e2,λUu cv e=>?_⟩;obtain⟨c2,e4,e5⟩:=e3 Uu cv e;exact⟨c2,e4,by rw[Y c2 (λz=>by subst z;rw[hP]at e5;unfold qo at e5;cases e5) (by rw[e5];simp)];exact e5⟩
 .obtain⟨c',e1,e2⟩:=hc pos cv e;refine⟨c',e1,λf Z pm J n=>go f _ (.of<|(af9.refl H).new n) (λb hb=>by
   by_cases z:b=f;.subst z;rw[zh];simp
   .rw[zb z];exact hb) (hT.new n) n ⟨Z,pm,c',J,zh,?_⟩⟩;rw[zb<|zu e2 n];exact e2
theorem bi2 env:∀l:List Arg,(l.all λy=>y.annotation.isNone)=bY->kI l env=[]|[],_=>by rfl|⟨x,al a,p⟩::l,h=>by simp at h|⟨x,aT,p⟩::l,h=>bi2 env l<|by simpa using h
def bp2(h:bQ9 params=bY)env:params.defaults=[]/\params.kw_defaults=[]/\annTrees params aT env=[]:=by
 unfold bQ9 at h;split at h;.refine⟨rfl,rfl,?_⟩;unfold annTrees;simp only[Option.toList,aY];rw[bi2 env _ h];rfl
 .cases h
def aK7{α:Type}{o}{f:α->Bool}(h:o.any f=bY):∃a,o=al a/\f a=true:=by cases o with|none=>exact ff h|some a=>exact⟨a,rfl,h⟩
def bu9{s}(h:cr9 s z=al d):s=.und d.1/\z=.cons (.ret<|.callC d.2.1<|.ex d.2.2.1<|.lam d.2.2.2.1 d.2.2.2.2 .nil) .nil:=by
 unfold cr9 at h;split at h;.cases h;exact⟨rfl,rfl⟩
 .cases h
def bs3{S:yM}(h:cu8 S=al q):S=.FunctionDef q.1 q.2.1 [.Return (al q.2.2.1) q.2.2.2.1] [] aT [] q.2.2.2.2.1 aT q.1 q.2.2.2.2.2.1::q.2.2.2.2.2.2:=by have z:∀{p},(aT)=al q->p:=λh=>nomatch h;cases S with
 |cons x xs=>cases x with
  |FunctionDef nm params body dl ret tp scope ts nm2 pos=>cases body with
   |cons b1 bs=>cases b1 with
    |Return v rp=>cases v with
     |some b=>cases bs with
      |nil=>cases dl with
       |nil=>cases ret with
        |none=>cases tp with
         |nil=>cases ts with|none=>
           have h:(if nm2=nm then al (nm,params,b,rp,scope,pos,xs)else aT)=al q:=h;by_cases e:nm2=nm;.rw[dO e]at h;cases h;rw[e]
           .rw[ef e]at h;exact z h|_=>exact z h
         |_=>exact z h
        |_=>exact z h
       |_=>exact z h
      |_=>exact z h
     |_=>exact z h
    |_=>exact z h
   |_=>exact z h
  |_=>exact z h
 |_=>exact z h
def bn3{S:yM}(h:ct5 nm S=al r):S=[.Return (al<|.Call (.Name r.1 r.2.1) [r.2.2.1,.Name nm r.2.2.2.1] [] r.2.2.2.2.1) r.2.2.2.2.2]:=by have z:∀{p},(aT)=al r->p:=λh=>nomatch h;cases S with
 |cons x xs=>cases x with
  |Return v rp2=>cases v with
   |some e=>cases e with
    |Call f as kw cp=>cases f with
     |Name g gp=>cases as with
      |cons a as1=>cases as1 with
       |cons y as2=>cases y with
        |Name x p2=>cases as2 with
         |nil=>cases kw with
          |nil=>cases xs with|nil=>
            have h:(if x=nm then al (g,gp,a,p2,cp,rp2)else aT)=al r:=h;by_cases e:x=nm;.rw[dO e]at h;cases h;rw[e]
            .rw[ef e]at h;exact z h|_=>exact z h
          |_=>exact z h
         |_=>exact z h
        |_=>exact z h
       |_=>exact z h
      |_=>exact z h
     |_=>exact z h
    |_=>exact z h
   |_=>exact z h
  |_=>exact z h
 |_=>exact z h
set_option tactic.hygienic true in def cg3{s}(G:CG Γ F n X ck)(a:bW4 ck s ss S=bY):PSs X S<|TSv Γ<|o4 F<|.cons s ss:=by
 obtain⟨⟨i,g,e,id,Y⟩,k,d⟩:=aK7 a;clear a;obtain⟨⟨Z,a,b,l,a,pos,a⟩,c,f⟩:=aK7 d;clear d;obtain⟨⟨o,m,a,o,r,a⟩,n,h⟩:=aK7 f;clear f;obtain⟨rfl,rfl⟩:=bu9 k;have n:=bn3 n;have c:=bs3 c;dsimp only at c n h⊢;subst n;subst c;clear k;refine AB (zg h) λh f=>AB (zg h) λh j=>AB (zg h) λh h9=>AB (zg h) λh k=>AB (zg h) λh a=>AB (zg h) λh h6=>AB (zg h) λh s=>AB (zg h) λh0 h2=>?_;have a:=dr a;subst a;have d:=dr h0;clear h0;refine AJ (G.lam id Y _ h6) λc P a AA=>AN AA λb5 a a J a L=>?_;obtain⟨c,h⟩:∃c,J.nm=al c:=by cases q:J.nm with|none=>unfold lamText at a;simp_all|some p=>simp_all
 obtain⟨q,q⟩:=c;unfold lamText at a;rw[h]at a;dsimp only at a;cases a;rw[<-G.N]at L d;refine AB (G.loc h2) λl1 a=>AI (bp2 f X.env) λa1 c f=>?_;have q:X.env.kindOf Z=al .local\/X.env.kindOf Z=al .cell:=l1;have t:mW X.env Z Z=J.qual:=by rw[L.q];unfold LamI.own mW;rw[h];rcases q with z|z<;>rw[z]<;>rfl
 have u:=ca8 (body:=[.Return (al b) l]) (pos:=pos) (G.N▸G.nd) d l1 L.code L.hd L.bm L.ck t a1 c f a;have l:PE X (.Name Z o) (bm8 i):=bE0 G s;refine AI (G.gl k) λg1 o a=>?_;rcases G.call g with a|⟨a,a,ps,t,v,w,f⟩
 .refineλe7 sh W H D I q=>AG q λC U s c x E R a q=>AE (aa1 a) λc1 c k a=>?_;have k:(match rL U i with|some U=>DV.R.ok (DV.Ct.next U) s|none=>.B)=.ok c1 c:=k;split at k;case h_2=>cases k
  cases k;refine AE (aa1 a) λc1 c k a=>AE (aa1 k) λd1 y k b=>AE (aa1 k) λl g k b=>?_;simp_all
 have a:=(sE e _ X ck G h9).1;have d:=zy a (zy l af0<|ze rfl) (ze j);have a:=aP3 (p:=m) (pos:=r) t G.room g1 v w f L.fn d o (ze j) (zr λz b=>by rw[aP.mp b];rfl).1;refine(zC u<|zC (aF2 a) az9).imp λD W H q=>AG q λC U s a x E R a q=>AE (aa1 a) λc1 c k a=>?_;have k:(match rL U i with|some U=>DV.R.ok (DV.Ct.next U) s|none=>.B)=.ok c1 c:=k;unfold rL at k;by_cases e:i<U.length;case neg=>simp_all
 rw[dO e]at k;cases k;refine AE (aa1 a) λc1 c k a=>AE (aa1 k) λd1 y k b=>?_;cases b;cases a;refine AE (aa1 k) λl g k b=>AE (aa1 b) λd2 a o b=>?_;split at b;case isFalse=>simp_all
 rename_i c;cases b;rw[ae]at c;refine AE (aa1 k) λx1 d m k=>AE (aa1 k) λy1 a b k=>?_;cases k;have b:(match oV (U.set i aT) Y with|some a=>(oF F .nil (U.set i aT) d).bind λl s=>DV.R.ok (DV.D.clo id a::l) s|none=>DV.R.B)=.ok y1 g:=b;cases g:oV (U.set i aT) Y with|none=>simp_all|some a=>
  rw[g]at b;cases b;refine bs0 R.tab L.nd L.tab λf H' b d tb j l=>AB (R.sameT b d tb) λa6 n=>?_;have b:RE Γ C H' s.length (U.set i aT) (W.set i<|al<|.ref f):=by
   have E0:=E.mono a6<|aj _;refine⟨by rw[bA,bA];exact E0.len,λj d k=>?_⟩;by_cases z:i=j;.simp_all
   .rw[aC z]at k;refine AO (E0.val j d k) λq1 v d d=>?_;simp_all
  refine AH (bf4 b g) λcap j d p=>?_;have k:=(aq1 g).1;have r:ai9 H' f J<|af8 X.env.cells J.scope.names []:=by unfold ai9;rw[h];dsimp only;exact L.p▸L.b▸L.s▸l
  refine⟨C,U.set i aT,s,x1,_,b,n,m,λh g l g1 l1 n s m=>?_⟩;have b:i<W.length:=E.len▸e;refine⟨.ref f,by rw[bq b],λH2 b=>AB (m.same b.same) λgs R2=>?_⟩;have t:=ab1 l1 a d;have u:∀m,x1.bnd m=bY->oa m a=bY->oa m [x1,.clo id a]=true:=λm e m=>by simp only[oa,e,du,f6];exact m
  have e:=u _ n t;have pv:PVL Γ X.env.cells X.N (W.set i<|al<|.ref f) g l [x1,.clo id a] [h,.ref f]:=by refine .cons (.inl s) (.cons (.inr ⟨id,a,rfl,f,J,rfl,L.lg,r.kp g1.w.kp,by rw[k,L.len],L.s▸L.cl,cap,RVL.mono g1 a cap d j,λi x v k n=>?_⟩) .nil);have f:i<Y.length:=L.len▸(ag.mp k).1;have d:Y[i]?=al Y[i]:=ar f;exact⟨L.s▸L.fr x (aF k),Y[i],L.at_ i _ x d k,p i _ v d n⟩
  exact⟨g,_,[x1,.clo id a],_,_,R2,pv.caught b L.kd e,e,o,λv e a o f g h i=>have d:Cells X.env.cells a:=b.cells.kp o.w.kp;q e (ad0 X.env.cells a) ((a6.trans g1<|aj _).trans (Gr.caught b o) l1) (au l1 f) (i.dropC d c.2) v g<|RV.dropC d _ v c.1 h⟩
mutual theorem sS:∀(a:rG)(S:Stmt)(X:Cx)(z:Ck),CG Γ F n X z->mS z a S=bY->PS X S (TSv Γ<|DV.ex F a)
 |.A tg e,S,X,z,G,h=>by cases S with
  |Assign g v p=>cases g with
   |cons t a=>cases a with
    |nil=>refine AB (zg h) λh d=>AB (zg h) λUu J=>?_;cases tg with
     |Y i=>have h:=Uu;cases t with|Name x a=>exact AB (zg h) λa1 a=>bH8 G (dr a1) a J d|_=>exact ff h
     |tp a=>refine AB (zg d) λa1 a=>?_;have h:=Uu;cases t with|Tuple b tk tp=>exact(bD7 (sE e _ X z G J).1 (bq8 G Uu) (show fR v (al<|.Tuple b tk tp) p.line X.env=pure ce from aj8 a) (aT1 a1) rfl).imp λD W H q=>bf3<|TSv.eq (λU s=>rfl) q|_=>exact ff h
    |_=>exact ff h
   |_=>exact ff h
  |_=>exact ff h
 |.setIx o i e,S,X,z,G,h=>by cases S with
  |Assign g v f=>cases g with
   |cons b a=>cases b with
    |Subscript j b c=>cases a with
     |nil=>
      refine AB (zg h) λh Y=>AB (zg h) λh d=>AB (zg h) λUu J=>have Z:=aM8 J;(bD7 (sE e _ X z G d).1 (bX8 (sE o _ X z G Uu).1 (sE i _ X z G J).1 (ca6<|au9 G.room) ?_) (show fR v (al<|.Subscript j b c) f.line X.env=pure ce from aj8 Y) aS9 ?_).imp λD W H q=>br7<|TSv.eq (λU s=>rfl) q;.intro w;cases b<;>first|rfl|cases Z
      .rfl|_=>exact ff h
    |_=>exact ff h
   |_=>exact ff h
  |_=>exact ff h
 |.aug i e,S,X,z,G,h=>by cases S with
  |AugAssign b a v p=>cases b with
   |Name x c=>cases a with|Add=>exact AB (zg h) λh d=>AB (zg h) λUu J=>AB (G.loc J) λl1 a=>(ce0 (G.N▸G.nd) (G.N▸dr Uu) l1 (sE e _ X z G d).1 bU0 a).imp λD W H q=>ci4<|TSv.eq (λU s=>rfl) q|_=>exact ff h
   |_=>exact ff h
  |_=>exact ff h
 |.ex e,S,X,z,G,h=>by cases S with|Expr v p=>exact AB (zg h) λUu J=>(aH8 (sE e _ X z G Uu).1<|aj8 J).imp λD W H q=>bH5<|TSv.eq (λU s=>rfl) q|_=>exact ff h
 |.ret e,S,X,z,G,h=>by cases S with
  |Return a p=>cases a with|some v=>exact(aF2 (sE e _ X z G h).1).imp λD W H q=>ci0<|TSv.eq (λU s=>rfl) q|_=>exact ff h
  |_=>exact ff h
 |.retN,S,X,z,G,h=>by cases S with
  |Return a p=>cases a with|none=>exact bL9.imp λD W H q=>bG4<|TSv.eq (λU s=>rfl) q|_=>exact ff h
  |_=>exact ff h
 |.ite c a b,S,X,z,G,h=>by cases S with|If t l r p=>exact AB (zg h) λh d=>AB (zg h) λUu J=>(ci9 (sE c _ X z G Uu).2 (sSs a _ X z G J) (sSs b _ X z G d)).imp λD W H q=>cs0<|TSv.eq (λU s=>rfl) q|_=>exact ff h
 |.whl c b,S,X,z,G,h=>by cases S with
  |While t l o p=>cases o with|nil=>exact AB (zg h) λUu J=>(aO5 (G.xe▸mw) (sE c _ X z G Uu).2<|sSs b _ X z G J).imp λD W H q=>bv6<|TSv.eq (λU s=>rfl) q|_=>exact ff h
  |_=>exact ff h
 |.fo tg it b,S,X,z,G,h=>by cases S with
  |For a a l o p=>cases o with|nil=>exact AB (zg h) λh d=>AB (zg h) λUu J=>(bC8 (G.xe▸mw) G.calm (sI it _ _ X z G J) (bq8 G Uu) (sSs b _ X z G d) (ax3<|bB3 J)).imp λD W H q=>cf3<|TSv.eq (λU s=>rfl) q|_=>exact ff h
  |_=>exact ff h
 |.setA o f e,S,X,z,G,h=>by cases S with
  |Assign g v p=>cases g with
   |cons a g=>cases a with
    |Attribute j x a=>cases g with|nil=>exact AB (zg h) λh Y=>AB (zg h) λh d=>AB (zg h) λUu J=>have a:=dr Uu;a▸(bn2 G (sE o _ X z G J).1 (sE e _ X z G d).1 Y).imp λD W H q=>TSv.eq (λU s=>rfl) q|_=>exact ff h
    |_=>exact ff h
   |_=>exact ff h
  |_=>exact ff h
 |.und _,S,X,z,G,h=>ff h|.raise,S,X,z,G,h=>bt3.imp λD W H q=>AG q λC U s c a E R a q=>by cases a theorem sSs:∀(a:pG)(S:yM)(X:Cx)(z:Ck),CG Γ F n X z->mSs z a S=bY->PSs X S (TSv Γ<|o4 F a)
 |.nil,S,X,z,G,h=>by cases S with|nil=>exact az9.imp λD W H q=>bK3 (m:=o4 F .nil) (λU s=>rfl) q|_=>exact ff h
 |.cons s a,S,X,z,G,h=>by cases S with|cons x b=>
   rcases(cf _ _).mp h with h|h;.exact cg3 G h
   exact AB (zg h) λUu J=>(zC (sS s _ X z G Uu) (sSs a _ X z G J)).imp λD W H q=>bz1<|TSv.eq (λU s=>rfl) q|_=>exact ff h end
end
noncomputable def cr2(b:Ck):List String->List Expr->Bool
 |[],a=>match a with|[]=>bY|_=>ce
 |c::d,a=>match a with|.Name x _::a=>decide (x=(c))&&b.gl x&&cr2 b d a|_=>ce
def mHT(a:Ck)(n:Str):DV.HT->Expr->Bool
 |.isi b,E=>match E with|.Call (.Name g _) [.Name x _,.Tuple c _ _] [] _=>decide (g=("isinstance"))&&a.gl g&&decide (x=n)&&cr2 a b c&&decide (b.length<=1000)|_=>ce
 |.Y c,E=>match E with|.Call (.Name g _) [.Name x _,.Name d _] [] _=>decide (g=("isinstance"))&&a.gl g&&decide (x=n)&&decide (d=(c))&&a.gl d|_=>ce
 |.not t,E=>match E with|.UnaryOp .Not e _=>mHT a n t e|_=>ce
 |.ve,_=>ce|.or _ _,_=>ce
def mHd(a:Ck)(n:Str):pM->List Stmt->Bool
 |.ret t,S=>match S with|[.Return (al e) _]=>mHT a n t e|_=>ce
 |.iff _ _ _,_=>ce|.nob _,_=>ce|.noe,_=>ce|.rnn,_=>ce|.iffN _ _,_=>ce|.aoN _ _,_=>ce|.sup _ _,_=>ce|.kin _ _,_=>ce
structure CH(X:Cx)(ck:Ck):Prop where
 N:X.N=ck.N
 gl:∀{x:Str},ck.gl x=bY->Gl X x/\(x==("__debug__":Str))=ce/\x≠"__name__"bi:∀x∈bNames,X.mg x=aT
def CG.ch(G:CG Γ F n X h):CH X h:=⟨G.N,G.gl,G.bi⟩
structure XC(F:oy)(K:ac)(mg:yD):Prop where
 at_:∀c:String,F.xc c=bY->∃Cc,mg (c:Str)=al (.ref Cc)/\ExcCls K Cc/\excI K Cc=bY
 cls:∀c:String,F.xt c=bY->∃Cc,mg (c:Str)=al (.ref Cc)sub:∀(c d:String)(Cc D:Addr),F.xc c=bY->F.xt d=bY->mg (c:Str)=al (.ref Cc)->mg (d:Str)=al (.ref D)->bz K (.ref Cc) (.ref D)=al (oA c d)exm:∀(c d:String)(Cc D:Addr),F.xc c=bY->F.xt d=bY->mg (c:Str)=al (.ref Cc)->mg (d:Str)=al (.ref D)->cu K (.ref Cc) (.ref D)=al (oA c d)ve0:∀c:String,F.xc c=bY->mg ("ValueError":Str)=aT
 ve1:∀(c:String)(Cc:Addr),F.xc c=bY->mg (c:Str)=al (.ref Cc)->bz K (.ref Cc) (.type "ValueError")=al bY
theorem aC3:∀{h:List Addr}{a:yH},Vals (h.map V.ref) a->a=h.map Value.ref|[],_,.nil=>rfl|d::h,_,.cons r t=>by have e:=aC3 t;subst e;cases(r);rfl
def cx6(K:ac)(a Cc:Addr):List V->Hp->VK->Prop:=λc H Q=>(∃y b,c=[.ref a,y]/\((∃D,y=.ref D/\bz K (.ref Cc) (.ref D)=al b)\/∃(p:Addr)(d:List Addr),y=.ref p/\H p=al (.tp<|d.map V.ref)/\j9 K (.ref Cc) (d.map Value.ref)=al b)/\Q (.T b) H)\/c=[.ref a,.ty "ValueError"]/\bz K (.ref Cc) (.type "ValueError")=al bY/\Q (.T bY) H
section
variable{Γ:Gm}{F:oy}{n:Nat}{X:Cx}{ck:Ck}{a Cc:Addr}{oe:Obj}
def aO4(Y:eO X.K (.ref a) (.ref Cc) (λh=>XAt h a Cc))(c:oe.cls=.ref Cc):ae4 (X.hnd a oe) (.builtin "isinstance") (cx6 X.K a Cc):=by
 intro Z s W H b b Q I r h;rcases h with h|⟨rfl,b,q⟩;case inr=>obtain⟨u,J,rfl,e,d⟩:=bm1 r;cases(e);cases(d);have f:XAt s.heap a Cc:=⟨oe,(I.pin (a,oe)<|am ..).1,c⟩;exact bW Y I.kIn f b (λz=>nomatch z) λtk=>⟨.T bY,H,I.tok _,rfl,q⟩
 obtain⟨y,b,rfl,g,q⟩:=h;obtain⟨u,J,rfl,e,d⟩:=bm1 r;cases(e);have f:XAt s.heap a Cc:=⟨oe,(I.pin (a,oe)<|am ..).1,c⟩;rcases g with⟨D,rfl,e⟩|⟨p,a,rfl,a,e⟩;.cases(d);exact bW Y I.kIn f e (λz=>nomatch z) λtk=>⟨.T b,H,I.tok _,rfl,q⟩
 .cases(d);refine AO (I.hok p _ a) λz a a AA=>AH AA λob c d AA=>AF AA λnn g=>?_;have h:=aC3 a;subst h;obtain⟨a,a,a,a⟩:=ob;cases d;cases g;exact PySem.W.kia_tup Y I.kIn f c e (λz=>nomatch z) λtk=>⟨.T b,H,I.tok _,rfl,q⟩
def tHv(i:Nat)(a:Addr)(b:Bool):TE:=λW H Q=>W[i]?=al (al<|.ref a)/\∀H',af9 H H'->Q (.T b) H'
def tHt(i:Nat)(a:Addr)(b:Bool):TT:=λW H Q=>W[i]?=al (al<|.ref a)/\∀H',af9 H H'->Q b H'
def bs9(h:H p=aT):af9 H<|upd H p o:=λb u e=>zb (zu e h)▸e
theorem bC2(G:CH X ck)(g:XC F X.K X.mg):∀{f}{b:yL},cr2 ck f b=bY->f.all F.xt=bY->∃J:List Addr,J.length=f.length/\PA (X.hnd a oe) b (λW H Q=>Q (J.map V.ref) H)/\(∀e∈b,shp e=bY)/\∀c,F.xc c=bY->X.mg (c)=al (.ref Cc)->j9 X.K (.ref Cc) (J.map Value.ref)=al (f.any<|oA c)
 |[],b,h,_=>by cases b with|nil=>exact⟨[],rfl,af0.imp λW H Q q=>q,by nofun,λc _ _=>rfl⟩|cons _ _=>exact ff h
 |d::f,b,h,hc=>by cases b with|nil=>exact ff h|cons e b=>cases e with
   |Name x p=>
    refine AB (zg h) λh b=>AB (zg h) λh1 h2=>?_;have i:=dr h1;subst i;rw[dk,ae]at hc;refine AF (g.cls d hc.1) λD j=>AI (G.gl h2) λg1 Z c=>AZ (bC2 G g b hc.2) λJ c l b m=>⟨D::J,by simp[c],?_,λe n=>?_,λc k Y=>?_⟩;.have h0:PE (X.hnd a oe) (.Name (d) p) (tC<|.ref D):=ao2 g1 j rfl Z;exact(zy h0 l rfl).imp λW H Q q=>q
    .rcases aD.mp n with z|z;.subst z;rfl
     .exact b e z
    .have i:=g.sub c d Cc D k hc.1 Y j;have a:=m c k Y;rw[aQ];show(match bz X.K (.ref Cc) (.ref D)with|some bY=>al bY|some ce=>j9 X.K (.ref Cc) (J.map Value.ref)|none=>aT)=_;rw[i];cases b:oA c d with|true=>simp[b]|false=>simp only[fY,b];exact a
   |_=>exact ff h
theorem cd9(G:CH X ck)(n:XC F X.K X.mg)(J:F.xc c=bY)(r:X.mg (c:Str)=al (.ref Cc))(u:eO X.K (.ref a) (.ref Cc) (λh=>XAt h a Cc))(j:oe.cls=.ref Cc)(hi:ck.N[i]?=al nm)(v:Vis X.env.scope nm)(w:(nm==("__debug__":Str))=ce)(Y:(nm==("__classdict__":Str))=ce):∀{t:DV.HT}{E:Expr},mHT ck nm t E=bY->t.ok F.xt=bY->PE (X.hnd a oe) E (tHv i a<|t.val c)/\PT (X.hnd a oe) E (tHt i a<|t.val c)
 |.isi q,E,h,f=>by cases E with
  |Call g e o p=>cases g with
   |Name g t=>cases e with|nil=>exact ff h|cons x e=>cases x with
     |Name x l=>cases e with|nil=>exact ff h|cons y e=>cases y with
       |Tuple d k m=>cases e with|cons _ _=>exact ff h|nil=>cases o with|cons _ _=>exact ff h|nil=>refine AB (zg h) λh A=>AB (zg h) λh B=>AB (zg h) λh C=>AB (zg h) λh1 Z=>?_;have F:=dr h1;have I:=dr C;have e:=dr A;subst F I;refine AI (G.gl Z) λg1 K L=>AZ (bC2 (a:=a) (Cc:=Cc) (oe:=oe) G n B f) λds f b g g=>?_;have z:PE (X.hnd a oe) (.Name x l) (bm8 i):=aB9 (X:=X.hnd a oe) (by show X.N[i]?=_;exact G.N▸hi) v w Y;have M:PA (X.hnd a oe) [.Name x l,.Tuple d k m] _:=zy z (zy (bz2 b) af0 rfl) rfl;have b:PE (X.hnd a oe) (.Call (.Name "isinstance" t) [.Name x l,.Tuple d k m] [] p) (tHv i a<|q.any<|oA c):=(jr (aO4 u j) (show Gl (X.hnd a oe) "isinstance"from g1) (G.bi _<|by decide) jg M L K rfl rfl).imp λW H Q q=>⟨.ref a,q.1,by rw[av,f];exact au e<|by decide,λp d=>.inl ⟨.ref p,_,rfl,.inr ⟨p,ds,rfl,zh,g c J r⟩,q.2 _<|bs9 d⟩⟩;exact⟨b,(bc2 b).imp λW H Q q=>⟨q.1,λH' s=>⟨_,rfl,q.2 H' s⟩⟩⟩
       |_=>exact ff h
     |_=>exact ff h
   |_=>exact ff h
  |_=>exact ff h
 |.Y d,E,h,f=>by cases E with
  |Call g e o p=>cases g with
   |Name g t=>cases e with|nil=>exact ff h|cons x e=>cases x with
     |Name x l=>cases e with|nil=>exact ff h|cons y e=>cases y with
       |Name y m=>cases e with|cons _ _=>exact ff h|nil=>cases o with|cons _ _=>exact ff h|nil=>refine AB (zg h) λh A=>AB (zg h) λh B=>AB (zg h) λh C=>AB (zg h) λh1 Z=>?_;have F:=dr h1;have I:=dr C;have b:=dr B;subst F I b;refine AI (G.gl Z) λg1 K L=>AI (G.gl A) λk1 b e=>AF (n.cls d f) λD e=>?_;have z:PE (X.hnd a oe) (.Name x l) (bm8 i):=aB9 (X:=X.hnd a oe) (by show X.N[i]?=_;exact G.N▸hi) v w Y;have g:PE (X.hnd a oe) (.Name (d:Str) m) (tC<|.ref D):=ao2 (X:=X.hnd a oe) k1 e rfl b;have M:PA (X.hnd a oe) [.Name x l,.Name (d:Str) m] _:=zy z (zy g af0 rfl) rfl;have b:PE (X.hnd a oe) (.Call (.Name "isinstance" t) [.Name x l,.Name (d:Str) m] [] p) (tHv i a<|oA c d):=(jr (aO4 u j) (show Gl (X.hnd a oe) "isinstance"from g1) (G.bi _<|by decide) jg M L K rfl rfl).imp λW H Q q=>⟨.ref a,q.1,.inl ⟨.ref D,_,rfl,.inl ⟨D,rfl,n.sub c d Cc D J f r e⟩,q.2 _<|af9.refl _⟩⟩;exact⟨b,(bc2 b).imp λW H Q q=>⟨q.1,λH' s=>⟨_,rfl,q.2 H' s⟩⟩⟩
       |_=>exact ff h
     |_=>exact ff h
   |_=>exact ff h
  |_=>exact ff h
 |.ve,E,h,f=>ff h|.not t,E,h,f=>by cases E with
  |UnaryOp o l p=>cases o with|Not=>exact AB (cd9 G n J r u j hi v w Y (t:=t) (E:=l) h f) λh1 Z=>⟨(bC7 h1).imp λW H Q q=>⟨q.1,λH' s=>⟨_,rfl,q.2 H' s⟩⟩,(bC6 Z).imp λW H Q q=>⟨q.1,q.2⟩⟩|_=>exact ff h
  |_=>exact ff h
 |.or _ _,E,h,f=>ff h
end
def tHd(i:Nat)(a:Addr)(o:VK->Hp->Prop):TS:=λD W H=>W[i]?=al (al<|.ref a)/\∀H',af9 H H'->o D.rt H'
noncomputable def vV:n9->V|.T b=>.T b|_=>.N
def mX(d:Ck):rM->List Stmt->Bool
 |.no,_=>bY|.kind,_=>ce|.alt a b,S=>mX d a S&&mX d b S|.rais c,S=>match S with|.Raise (al<|.Call (.Name x _) [.Constant (.str _) _ _] [] _) aT _::_=>decide (x=(c))&&d.gl x|_=>ce
 |.call f b,S=>match S with|.Expr (.Call (.Name x _) (e::a) [] _) _::_=>decide (x=(f))&&d.gl x&&mAs d b (e::a)|_=>ce
 |.lenc f b,S=>match S with|.Return (al<|.Call (.Name t _) [.Call (.Name x _) (e::a) [] _] [] _) _::_=>decide (t=("len"))&&(d.gl t&&(decide (x=(f))&&(d.gl x&&mAs d b (e::a))))|_=>ce
 |.mcall o m b,S=>match S with|.Expr (.Call (.Attribute (.Name y f) x g) (e::a) [] c) _::_=>decide (x=(m))&&(mE d o (.Name y f)&&(mAs d b (e::a)&&((g.endLine==c.line)&&decide (a.length<28))))|_=>ce
 |.iteT c a r,S=>match S with|.If t l [] _::rest=>mE d c t&&mX d a l&&mX d r rest|_=>ce
 |.iteE _ _ _,_=>ce|.seq s b,S=>match S with|x::rest=>mS d s x&&mX d b rest|_=>ce
 |.forX tg it b x,S=>match S with|.For a c l [] _::_=>mTg d tg a&&mI d a it c&&mSs d b l&&mX d x l|_=>ce
 |.whlX c b x,S=>match S with|.While t l [] _::_=>mE d c t&&mSs d b l&&mX d x l|_=>ce
noncomputable def noL:rM->Bool|.alt a b=>noL a&&noL b|.iteT _ a r=>noL a&&noL r|.iteE _ a r=>noL a&&noL r|.seq _ b=>noL b|.forX _ _ _ _=>ce|.whlX _ _ _=>ce|_=>bY
noncomputable def noR:rM->Bool|.alt a b=>noR a&&noR b|.rais _=>ce|.iteT _ a r=>noR a&&noR r|.iteE _ a r=>noR a&&noR r|.seq _ b=>noR b|.forX _ _ _ x=>noR x|.whlX _ _ x=>noR x|_=>bY
def av7(Γ:Gm)(mg:yD)(C:Nat->Addr)(s:n8)(H:Hp)(c:String)(b:n8)(E:XK):Prop:=∀d H' a e,Gr C s H d b H'->s.length<=b.length->Rp Γ d H' b->mg (c)=al (.ref e)->E (.ref a) (al e) H'
def TXv(Γ:Gm)(mg:yD)(m:og->n8->Option (String×n8))(E:XK):TS:=λ_ W H=>∃C U s c a,RE Γ C H s.length U W/\Rp Γ C H s/\m U s=al (c,a)/\av7 Γ mg C s H c a E
def spX(Γ:Gm)(mg:yD)(x:List n9->n8->Option (String×n8)):Sp:=λb H _ E=>∃C s l c a,Rp Γ C H s/\RVL Γ C H l b/\oa s.length l=bY/\x l s=al (c,a)/\av7 Γ mg C s H c a E
theorem av7.trans(h:av7 Γ mg C s H c s' E)(g:Gr C s H C1 s1 z)(l:s.length<=s1.length):av7 Γ mg C1 s1 z c s' E:=λb H' a c d J p m=>h b H' a c (g.trans d l) (au l J) p m
theorem PA.nox(h:PA X.nox e t):PA X e t:=λa J s W H Q I b=>bD (h a J s W H Q (I.wish _) b) (λ_ _⟨v,H',a,r,q⟩=>⟨v,H',a.unwish,r,q⟩) λ_ _ z=>bo z
theorem PS.nox{st}(h:PS X.nox st t):PS X st t:=λJ s W H D I a=>bD (h J s W H D (I.wish _) a) (λ_ _ q=>q.unwish) λ_ _ z=>bo z
def XOk(Γ:Gm)(prog:aH)(w:World)(K:ac)(mg:yD)(base:Heap)(F:oy)(n:Nat):Prop:=(∀f:String,(∀l s,F.xcall f l s=aT)\/∃a b ps,FnOk prog w K mg base (CX1 prog w) n a b ps (spX Γ mg<|F.xcall f)/\mg (f:Str)=al (.ref a)/\bR K (.ref a)=bY/\Binds K b ps [])/\∀c m:String,(∀l s,F.xm c m l s=aT)\/∃d a b ps,Γ.cls c=al d/\Cls K d/\Meth K d (m:Str) a/\FnOk prog w K mg base (CX1 prog w) n a b ps (spX Γ mg<|F.xm c m)/\Binds K b ps []
section
variable{Γ:Gm}{F:oy}{n:Nat}{X:Cx}{ck:Ck}{a Cc:Addr}{oe:Obj}
def cp9(G:CG Γ F n X ck)(d:XC F X.K X.mg)(z:F.xc c=bY)(e:X.mg (c:Str)=al (.ref Cc))(Y:eO X.K (.ref a) (.ref Cc) (λh=>XAt h a Cc))(b:oe.cls=.ref Cc)(hi:ck.N[i]?=al nm)(f:Vis X.env.scope nm)(g:(nm==("__debug__":Str))=ce)(J:(nm==("__classdict__":Str))=ce):∀{t:pM}{S:yM},mHd ck nm t S=bY->t.ok F.xt=bY->PSs (X.hnd a oe) S (tHd i a<|λR H=>R (vV<|t.vD c) H)
 |.ret t,S,h,a=>by cases S with|nil=>exact ff h|cons s S=>cases s with
   |Return c p=>cases c with|none=>exact ff h|some v=>cases S with|cons _ _=>exact ff h|nil=>exact(bF8<|aF2 (cd9 G.ch d z e Y b hi f g J h a).1).imp λD W H q=>q
   |_=>exact ff h
 |.iff _ _ _,S,h,a=>ff h|.sup _ _,S,h,a=>ff h|.aoN _ _,S,h,a=>ff h|.iffN _ _,S,h,a=>ff h|.nob _,S,h,a=>ff h|.noe,S,h,a=>ff h|.rnn,S,h,a=>ff h
set_option tactic.hygienic true in def bz7(G:CG Γ F n X.nox ck)(a:XOk Γ X.prog X.w X.K X.mg X.base F n)(g:qj (CX1 X.prog X.w) X E){f:String}{es:yL}(b:ck.gl (f:Str)=bY)(m:mAs ck J (e::es)=bY):∃t,PE X (.Call (.Name (f) p) (e::es) [] pos) t/\∀D W H Q,TXv Γ X.mg (oM F<|.call f J) E D W H->t W H Q:=by
 refine AI (G.gl b) λg1 Z b=>?_;rcases a.1 f with b|⟨a,a,ps,i,j,k,n⟩
 .refine⟨λ_ _ _=>False,λ_ _ _ _ _ _ z=>z.elim,λD W H Q q=>AG q λC U s c d Y R h q=>?_⟩;change(match oF F J U s with|.ok l a=>F.xcall f l a|_=>aT)=_ at h;split at h;.rw[b]at h;cases h
  .cases h
 .have hs:=jI m;have a:=(sAs J _ X.nox ck G m).nox;refine⟨_,aX6 i G.room g1 j k n .nil g a Z (ze<|hs e<|am ..) (zr λx a=>hs x<|ah _ a).1,λD W H Q q=>AG q λC U s c d Y R h q=>?_⟩;change(match oF F J U s with|.ok l a=>F.xcall f l a|_=>aT)=_ at h;split at h;.rename_i l a e1;refine⟨C,U,s,l,a,Y,R,e1,λb e g g1 i j k m=>?_⟩;show spX Γ X.mg (F.xcall f) (b++[]) g Q E;rw[aY];exact⟨e,a,l,c,d,m,k,j,h,q.trans g1 i⟩
  .cases h
set_option tactic.hygienic true in def cf6(G:CG Γ F n X.nox ck)(h:XOk Γ X.prog X.w X.K X.mg X.base F n)(k:qj (CX1 X.prog X.w) X E){b:pf}{m:String}{Y:oX}{e:Expr}{es:yL}{y:Str}{d a pos:Pos}(n:mE ck b (.Name y d)=bY)(f:mAs ck Y (e::es)=bY)(o:(a.endLine==pos.line)=bY)(c:es.length<28):PE X (.Call (.Attribute (.Name y d) (m:Str) a) (e::es) [] pos) λW H _=>∃D,TXv Γ X.mg (oM F<|.mcall b m Y) E D W H:=by
 refineλa0 sh W H Q I q=>AJ q λD C U AA=>AK AA λs t u g R J q=>?_;change(match(om F b U s).bind λx s=>(rK x s).bind λc s=>(oF F Y U s).bind λl s=>.ok (c,x::l) s with|.ok p a=>F.xm p.1 m p.2 a|_=>aT)=_ at J;split at J;case h_2=>cases J
 rename_i p i a;refine AE (aa1 a) λx a p a=>AE (aa1 a) λc j e2 a1=>AE (aa1 a1) λl r v r=>?_;cases r;obtain⟨r,fs,rfl,w,rfl⟩:=aP9 e2;rcases h.2 c m with a|⟨a,a,a,ps,A,a,h,c,B⟩;.simp_all
 have z:=jI f;have D:j8 ((e::es).length+([]:List fD).length) (cT pos<|a9 (e::es) X.env) (fC pos<|di [] X.env)=true:=by show((cT pos<|a9 (e::es) X.env).all (λx=>!x.1)&&(fC pos<|di [] X.env).all (λx=>x.1.isSome)&&decide ((e::es).length+([]:List fD).length+(if([]:List fD).isEmpty then 0 else 1)<30))=bY;rw[(zr z).2];simp only[du,ae,iF];exact⟨rfl,by grind⟩
 refine AF (aD2 (x:=y) (px:=d) (m:=(m:Str)) D o) λpl d=>have m:=(sE b _ X.nox ck G n).1;have b:PA X (e::es) (TAv Γ<|oF F Y):=(sAs Y _ X.nox ck G f).nox;bb8 (X:=X) (pl:=pl) (PE.nox m) a h c G.room B .nil k b (ze<|z e<|am ..) (zr λe a=>z e<|ah _ a).1 d a0 sh W H Q I ⟨C,U,s,.ref r,j,g,R,p,λa b a c a d e f=>?_⟩;obtain⟨k,k,m,⟨n,o⟩,Z,o,p⟩:=f.obj r _ w;cases A▸n;have n:X.K=Γ.K:=G.K;rw[<-n]at Z;exact⟨b r,k,m,e.refE,o,aL2 h Z,b,U,j,l,i,g.mono c a,f,v,λb g b b f h j R2=>⟨g,i,.ref r::l,t,u,R2,.cons (RV.mono b _ _ d e) (by simp_all),by rw[oa,h,zm f _ d];rfl,J,q.trans (c.trans b a) (au a f)⟩⟩
set_option tactic.hygienic true in def ca4{mI:og->n8->ol pq}{mx}(h:TXv Γ mg (λU s=>match mI U s with|.ok q f=>rN (λs=>oZ f s q.src) (λd U s=>match oJ U tg d with|some U=>mb U s|none=>.B) (λd U s=>match oJ U tg d with|some U=>mx U s|none=>aT) q.its U f|_=>aT) E D0 W H):cs4 (TIv Γ mI) (gOf Γ.K tg) (λD W H=>TSv Γ mb D W H\/TXv Γ mg mx E D W H) D W H:=by
 refine AG h λC U s c p a R b k=>?_;dsimp only at b;split at b;case h_2=>grind
 rename_i q f e1;refine⟨C,U,s,q,f,a,R,e1,λJ j r u l v n o=>⟨λi m h H'=>∃e b t,Gr j f r e t H'/\Rp Γ e H' t/\RE Γ e H' t.length b h/\i<=q.its.length/\m=q.its.length-i/\rN (λs=>oZ f s q.src) (λd U s=>match oJ U tg d with|some U=>mb U s|none=>.B) (λd U s=>match oJ U tg d with|some U=>mx U s|none=>aT) (q.its.drop i) b t=al (c,p),⟨q.its.length,?_⟩,?_⟩⟩;.exact⟨j,U,f,Gr.refl _ _ _,n,a.mono u l,cy _,by simp,by simp_all⟩
 .rintro i m h H'⟨e,b,t,g,R',E',hil,rfl,hc⟩;have z:=g.le;rcases lA i q.its.length with a|m
  .have hd:=ar a;rw[cN a]at hc;unfold rN at hc;split at hc;case isFalse=>lia
   rename_i d;refine AB ((o e H' t g z R' d i).1 a) λa2 d=>.inr ⟨a2,_,λh o n=>⟨q.its.length-(i+1),by omega,n⟩,λx o h=>AB (d x o h) λsm d=>AB (R'.same sm) λg2 R2=>?_⟩;have h:=d _ hd;have bd:=zm z _<|ah6 v hd;cases d:oJ b tg q.its[i]with|none=>simp_all|some i=>
    rw[d]at hc;refine bq0 (E'.mono g2<|aj _) h bd d λb n=>?_;have q:∀{d}{b},mb i t=.ok d b->(∀d h,Gr e t o d b h->t.length<=b.length->Rp Γ d h b->Gr j f r d b h):=λ_ d h Z f Y=>(g.trans g2 z).trans Z z;split at hc;.rename_i U1 b hs;exact .inl ⟨e,i,t,.next U1,b,n,R2,hs,λd h Z f Y o j=>⟨d,U1,b,q hs d h Z f Y,Y,j,a,rfl,hc⟩⟩
    .rename_i U1 b hs;exact .inl ⟨e,i,t,.cont U1,b,n,R2,hs,λd h Z f Y o j=>⟨d,U1,b,q hs d h Z f Y,Y,j,a,rfl,hc⟩⟩
    .grind
    .exact .inr ⟨e,i,t,c,p,n,R2,hc,k.trans (u.trans (g.trans g2 z) l) (au l z)⟩
  .cases fN m▸hc
set_option tactic.hygienic true in def bw8{mx}(h:TXv Γ mg (DV.whlX mc mb mx) E D0 W H):be9 (TTv Γ mc) (λD W H=>TSv Γ mb D W H\/TXv Γ mg mx E D W H) D W H:=by
 refine AG h λC U s c e J R z q=>?_;unfold DV.whlX at z;split at z;case isFalse=>cases z
 rename_i a;generalize a.choose=n at z;refine⟨λn W H=>∃C U s,RE Γ C H s.length U W/\Rp Γ C H s/\DV.qc mc mb mx n U s=al (c,e)/\av7 Γ mg C s H c e E,⟨n,C,U,s,J,R,z,q⟩,?_⟩;clear J R z q a;rintro n W H⟨C,U,s,J,R,z,q⟩;cases n with|zero=>cases z|succ n=>
  unfold DV.qc at z;split at z;case h_2=>cases z
  rename_i d a;refine⟨C,U,s,bY,d,J,R,a,λf a b a g=>?_⟩;show if bY=bY then _ else _;rw[dO rfl];refine⟨_,λh H' w=>⟨n,dE n,w⟩,?_⟩;split at z;.rename_i U1 s2 e2;exact .inl ⟨f,U,d,.next U1,s2,J.mono b a,g,e2,λh j i Y R2 k Z=>⟨h,U1,s2,Z,R2,z,q.trans (b.trans i a) (au a Y)⟩⟩
  .rename_i U1 s2 e2;exact .inl ⟨f,U,d,.cont U1,s2,J.mono b a,g,e2,λh j i Y R2 k Z=>⟨h,U1,s2,Z,R2,z,q.trans (b.trans i a) (au a Y)⟩⟩
  .cases z
  .exact .inr ⟨f,U,d,c,e,J.mono b a,g,z,q.trans b a⟩
set_option tactic.hygienic true in theorem ax1(G:CG Γ F n X.nox ck)(xc:XC F X.K X.mg)(XO:XOk Γ X.prog X.w X.K X.mg X.base F n)(hp:qj (CX1 X.prog X.w) X E):∀(b:rM)(S:yM),(noR b=bY\/aT0 X E)->(noL b=bY\/ka (model X.prog X.w) X.A X.env X.xe)->mX ck b S=bY->PSs X S (TXv Γ X.mg (oM F b) E)
 |.no,S,_,_,h=>λJ s W H D I q=>AG q λ_ _ _ _ _ _ _ z _=>by cases z|.kind,S,_,_,h=>λJ s W H D I q=>AG q λ_ _ _ _ _ _ _ z _=>by cases z|.alt a b,S,hT,Y,h=>λJ s W H D I q=>by refine AB (zg h) λZ Uu=>AG q λC U s0 c s' Ev R z q=>?_;have z:(match oM F a U s0 with|some r=>al r|none=>oM F b U s0)=al (c,s'):=z;cases e:oM F a U s0 with|some r=>rw[e]at z;exact ax1 G xc XO hp a S (hT.imp_left λz=>(zg z).1) (Y.imp_left λz=>(zg z).1) Z J s W H D I ⟨C,U,s0,c,s',Ev,R,e.trans z,q⟩|none=>rw[e]at z;exact ax1 G xc XO hp b S (hT.imp_left λz=>(zg z).2) (Y.imp_left λz=>(zg z).2) Uu J s W H D I ⟨C,U,s0,c,s',Ev,R,z,q⟩
 |.rais c,S,hT,_,h=>by have hT:aT0 X E:=hT.elim (λz=>by cases z) id;cases hx:F.xc c with|false=>refineλJ s W H D I q=>AG q λ_ _ s _ _ _ _ z _=>?_;change(if F.xc c=bY then al (c,s)else aT)=_ at z;simp_all|true=>cases S with|nil=>exact ff h|cons st S=>cases st with
    |Raise v k p=>cases v with|none=>exact ff h|some v=>cases v with
      |Call g xs kw pc=>cases g with
       |Name x pn=>cases xs with|nil=>exact ff h|cons y xs=>cases y with
         |Constant cv j py=>cases cv with
          |str t=>cases xs with|cons _ _=>exact ff h|nil=>cases kw with|cons _ _=>exact ff h|nil=>cases k with|some _=>exact ff h|none=>refine AB (zg h) λZ Uu=>?_;have e:=dr Z;subst e;refine AI (G.gl Uu) λg1 g2 g3=>AH (xc.at_ c hx) λCc hC hE _=>(zC (bq5 hT hE g1 hC G.room.hd g2) qp).imp λD W H q a=>AG q λC U s c' s' Ev R hm q=>?_;change(if F.xc c=bY then al (c,s)else aT)=_ at hm;rw[hx,dO rfl]at hm;cases hm;exact q C H a Cc (Gr.refl C s H) (aj _) R hC
          |_=>exact ff h
         |_=>exact ff h
       |_=>exact ff h
      |_=>exact ff h
    |_=>exact ff h
 |.lenc f as,S,_,_,h=>by cases S with|nil=>exact ff h|cons st S=>cases st with
   |Return v p=>cases v with|none=>exact ff h|some v=>cases v with
     |Call g xs kw pc=>cases g with
      |Name t0 pt=>cases xs with|nil=>exact ff h|cons y ys=>cases ys with
        |cons _ _=>cases y with|Call g2 xs2 kw2 pc2=>(cases g2 with|Name x pn=>(cases xs2 with|nil=>exact ff h|cons _ _=>(cases kw2 with|nil=>exact ff h|cons _ _=>exact ff h))|_=>exact ff h)|_=>exact ff h
        |nil=>cases y with
         |Call g2 xs2 kw2 pc2=>cases g2 with
          |Name x pn=>cases xs2 with|nil=>exact ff h|cons e es=>cases kw2 with|cons _ _=>exact ff h|nil=>cases kw with|cons _ _=>exact ff h|nil=>refine AB (zg h) λZ h=>AB (zg h) λUu h=>AB (zg h) λh3 h=>AB (zg h) λh4 h5=>?_;have e1:=dr Z;have e2:=dr h3;subst e1 e2;exact AI (G.gl Uu) λg1 g2 g3=>AD (bz7 G XO hp h4 h5) λt ht hq=>(zC (aF2<|jr (X:=X) ak8 g1 (G.bi _<|by decide) (by decide+kernel) (zy ht af0<|ze rfl) g3 g2 (ze rfl) rfl) qp).imp λD W H q=>hq D W H _ q
          |_=>exact ff h
         |_=>exact ff h
      |_=>exact ff h
     |_=>exact ff h
   |_=>exact ff h
 |.mcall o m as,S,_,_,h=>by cases S with|nil=>exact ff h|cons st S=>cases st with
   |Expr v p=>cases v with
    |Call g xs kw pc=>cases g with
     |Attribute v x ap=>cases v with
      |Name y py=>cases xs with|nil=>exact ff h|cons e es=>cases kw with|cons _ _=>exact ff h|nil=>exact AB (zg h) λZ h=>AB (zg h) λUu h=>AB (zg h) λh3 h=>AB (zg h) λh4 h5=>have e:=dr Z;e▸(zC (aH8<|cf6 G XO hp Uu h3 h4<|dr h5) qp).imp λD W H q=>⟨_,q⟩
      |_=>exact ff h
     |_=>exact ff h
    |_=>exact ff h
   |_=>exact ff h
 |.call f as,S,_,_,h=>by cases S with|nil=>exact ff h|cons st S=>cases st with
   |Expr v p=>cases v with
    |Call g xs kw pc=>cases g with
     |Name x pn=>cases xs with|nil=>exact ff h|cons y xs=>cases kw with|cons _ _=>exact ff h|nil=>refine AB (zg h) λh h3=>AB (zg h) λZ Uu=>?_;have e:=dr Z;subst e;exact AD (bz7 G XO hp Uu h3) λt ht hq=>(zC (aH8 ht<|aj8 rfl) qp).imp λD W H q=>hq D W H _ q
     |_=>exact ff h
    |_=>exact ff h
   |_=>exact ff h
 |.iteT c a r,S,hT,Y,h=>by cases S with|nil=>exact ff h|cons st S=>cases st with
   |If t l o p=>cases o with|cons _ _=>exact ff h|nil=>
     refine AB (zg h) λh h3=>AB (zg h) λZ Uu=>have a2:noR a=bY\/aT0 X E:=hT.elim (λz=>.inl (zg z).1) .inr;have a1:noR r=bY\/aT0 X E:=hT.elim (λz=>.inl (zg z).2) .inr;have a3:noL a=bY\/_:=Y.elim (λz=>.inl (zg z).1) .inr;have a0:noL r=bY\/_:=Y.elim (λz=>.inl (zg z).2) .inr;(zC (ci9 (sE c _ X.nox ck G Z).2.nox (ax1 G xc XO hp a _ a2 a3 Uu) az9) (ax1 G xc XO hp r _ a1 a0 h3)).imp λD W H q=>AG q λC U s c' s' Ev R hm q=>?_;change(match om F c U s with|.ok (.T b) s1=>if b then oM F a U s1 else oM F r U s1|_=>aT)=_ at hm;split at hm;.rename_i b s1 e1;refine⟨C,U,s,b,s1,Ev,R,e1,λC1 H1 g1 l1 R1=>?_⟩;cases b with|true=>exact⟨C1,U,s1,c',s',Ev.mono g1 l1,R1,hm,q.trans g1 l1⟩|false=>exact⟨C1,U,s1,c',s',Ev.mono g1 l1,R1,hm,q.trans g1 l1⟩
     grind|_=>exact ff h
 |.iteE _ _ _,S,_,_,h=>ff h|.seq st b,S,hT,Y,h=>by cases S with|nil=>exact ff h|cons x S=>
   refine AB (zg h) λZ Uu=>(zC (sS st _ X.nox ck G Z).nox<|ax1 G xc XO hp b _ hT Y Uu).imp λD W H q=>AG q λC U s c' s' Ev R hm q=>?_;change(match DV.ex F st U s with|.ok (.next U1) s1=>oM F b U1 s1|_=>aT)=_ at hm;split at hm;.rename_i U1 s1 e1;exact⟨C,U,s,.next U1,s1,Ev,R,e1,λC1 H1 g1 l1 R1 W1 a4=>⟨C1,U1,s1,c',s',a4,R1,hm,q.trans g1 l1⟩⟩
   grind|.forX tg it b x,S,hT,Y,h=>by have Y:ka (model X.prog X.w) X.A X.env X.xe:=Y.elim (λz=>by cases z) id;cases S with|nil=>exact ff h|cons st S=>cases st with
   |For tgt iter l o p=>cases o with|cons _ _=>exact ff h|nil=>exact AB (zg h) λh h4=>AB (zg h) λh h3=>AB (zg h) λZ Uu=>have hb:PSs X l<|λD W H=>TSv Γ (o4 F b) D W H\/TXv Γ X.mg (oM F x) E D W H:=λJ s W H D I q=>q.elim (((sSs b _ X.nox ck G h3).nox J s W H D I)) ((ax1 G xc XO hp x _ hT (.inr Y) h4 J s W H D I));have hi:PI X tgt iter<|TIv Γ<|pH F it:=(sI it _ _ X.nox ck G Uu).nox;have hg:PG X tgt<|gOf Γ.K tg:=(bq8 G Z).nox;(zC (bC8 Y G.calm hi hg hb<|ax3<|bB3 Uu) qp).imp λD W H q=>ca4 (mI:=pH F it) (mb:=o4 F b) (mx:=oM F x) (tg:=tg) (q:TXv Γ X.mg _ E D W H)
   |_=>exact ff h
 |.whlX c b x,S,hT,Y,h=>by have Y:ka (model X.prog X.w) X.A X.env X.xe:=Y.elim (λz=>by cases z) id;cases S with|nil=>exact ff h|cons st S=>cases st with
   |While t l o p=>cases o with|cons _ _=>exact ff h|nil=>exact AB (zg h) λh h3=>AB (zg h) λZ Uu=>have hb:PSs X l<|λD W H=>TSv Γ (o4 F b) D W H\/TXv Γ X.mg (oM F x) E D W H:=λJ s W H D I q=>q.elim (((sSs b _ X.nox ck G Uu).nox J s W H D I)) ((ax1 G xc XO hp x _ hT (.inr Y) h3 J s W H D I));(zC (aO5 Y (sE c _ X.nox ck G Z).2.nox hb) qp).imp λD W H q=>bw8 (mc:=om F c) (mb:=o4 F b) (mx:=oM F x) (q:TXv Γ X.mg _ E D W H)
   |_=>exact ff h
def bN8(hx:X.xe=λ_ _=>False)(h:PSs X tb t):PS X (.Try tb (h₀::hs) [] [] p) t:=by
 refineλJ s W H D I q=>lX<|bD (h J s W H D I q) (λf s1 z=>?_) (λe s1 z=>?_);.cases f with|next=>exact dR z|_=>exact z
 simp_all
def EH(Cc:Addr)(v:VK->Hp->Prop)(D:Ends):XK:=λ_ o H'=>o=al Cc/\∀H'',af9 H' H''->v D.rt H''
def bO7{Z:yM}(a4:X.ex=[])(a6:X.stack=X.env::X.outer)(b1:X.env.frame=al X.env.locals)(hc:cu X.K (.ref Cc) (.ref D')=al bY)(hg:Gl X x)(hm:X.mg x=al (.ref D'))(hd:(x==("__debug__":Str))=ce)(hN:X.N.Nodup)(hi:X.N[i]?=al nm)(hl:X.env.scope.names.lookup nm=al .local)(a3:∀(pn:yA)(Ww:yB)(E:XK),qj (CX1 X.prog X.w) {X with pn:=pn,xe:=Ww} E->PSs {X with pn:=pn,xe:=Ww} tb (TXv Γ X.mg m E))(b0:∀a oe,oe.cls=.ref Cc->PSs (X.hnd a oe) (b₀::Z) (tHd i a b)):PS X (.Try tb (.ExceptHandler (al<|.Name x np) (al nm) (b₀::Z) a2::hs) [] [] p) (λD W H=>TXv Γ X.mg m (EH Cc b D) D W H):=by
 intro Uu s W H D I q;let Ww:Value->af->Prop:=λe s₁=>wpAny (model X.prog X.w) X.A (lO e X.env) (λ_ s₂=>wpAny (model X.prog X.w) X.A (lU e aT) (λ_ s₃=>wpAny (model X.prog X.w) X.A (handleBy e X.env<|.ExceptHandler (al<|.Name x np) (al nm) (b₀::Z) a2::hs) (SP X Uu D) X.xe s₃) X.xe s₂) X.xe s₁;have a5:({X with pn:=X.pn++Uu,xe:=Ww}:Cx).Ok:=⟨I.ok.mod,I.ok.kind,I.ok.glob,I.ok.blt,I.ok.above,I.ok.inj,I.ok.has,I.ok.cab,I.ok.hd,I.ok.frames,I.ok.stk,I.ok.exf,I.ok.bs,I.ok.bsz,I.ok.noex,I.ok.exfs,I.ok.funs,I.ok.frf⟩;have I':Inv {X with pn:=X.pn++Uu,xe:=Ww} [] W H s:=⟨a5,I.os,I.bare,I.base,I.loc,I.cell,I.free,I.freeC,λp hp=>I.pin p<|by simp_all,I.hok,I.len⟩;have Y:∀{a1:yA}{W':St}{H':Hp}{s':af},Inv {X with pn:=X.pn++Uu,xe:=Ww} a1 W' H' s'->Inv X Uu W' H' s':=λJ=>⟨I.ok,J.os,J.bare,J.base,J.loc,J.cell,J.free,J.freeC,λp hp=>J.pin p<|bn _ hp,J.hok,J.len⟩;have hp:qj (CX1 X.prog X.w) {X with pn:=X.pn++Uu,xe:=Ww}<|EH Cc b D:=λa1 W' H' s' e b3 J h=>by
  obtain⟨a,Cc',b2,rfl,T,eC,hq⟩:=CX1.tr J a4 h;cases eC;refine AJ T.tr λa0 oe vs AA=>AK AA λT0 oT ts h1 h2 h3 AA=>AW AA λh4 h5 h6 a8 h7=>?_;have hn:i<W'.length:=by rw[J.len];exact(ag.mp hi).1
  exact aS0 ⟨Y T.inv,T.n0,T.nH,λp hp=>T.np p<|bn _ hp,a0,oe,vs,T0,oT,ts,h1,h2,h3,h4,h5,h6,λp hp=>a8 p<|bn _ hp,h7⟩ a4 a6 b1 hc hg hm hd hN hi hl (b0 a) ⟨by rw[bq hn],hq⟩
 refine lX<|bD (a3 _ Ww _ hp [] s W H D I' q) (λf s1 z=>?_) (λe s1 z=>z);cases f with|next=>exact AE z λW1 H1 J z=>dR ⟨W1,H1,Y J,z⟩|brk=>exact AE z λW1 H1 J z=>⟨W1,H1,Y J,z⟩|cont=>exact AE z λW1 H1 J z=>⟨W1,H1,Y J,z⟩|ret u=>exact AS z λv W1 H1 J r z=>⟨v,W1,H1,Y J,r,z⟩
end
section
variable{F:oy}{X:Cx}{ck:Ck}{a Cc:Addr}{oe:Obj}
end
section
variable{Γ:Gm}
def aI1(R:Rp Γ C H s)(g:Gr C s H C1 s1 z)(ho:rh s s1=bY)(hi:i<s.length)(e:s1[i]?=al o):o.bnd s.length=true:=by have:=aG.mp ho i<|bC.mpr hi;rw[e,cf]at this;exact this.elim (λh=>R.wf i o (dr h).symm) λh=>h
def qH{s1:n8}(e:(s1.take k)[i]?=al o):i<k/\s1[i]?=al o:=by
 rw[List.getElem?_take]at e;split at e;.exact⟨‹_›,e⟩
 .cases e
def aR3(R:Rp Γ C H s)(g:Gr C s H C1 s1 h)(R1:Rp Γ C1 h s1)(ho:rh s s1=bY):Gr C s H C1 (s1.take s.length) h/\Rp Γ C1 h (s1.take s.length):=by
 have Uu:(s1.take s.length).length=s.length:=by rw[bQ];have:=g.le;lia
 refine⟨⟨g.w,by rw[Uu];exact aj _,λi Z Y=>by rw[Uu]at Y;lia,λi o J e e'=>g.kd i o J e (qH e').2,g.st,g.fz,g.fr⟩,λi j o J e e' m m' z=>R1.inj i j o J (qH e).2 (qH e').2 m m' z,λi o e=>R1.obj i o (qH e).2,λi o e=>?_,R1.tab⟩;rw[Uu];exact aI1 R g ho (qH e).1 (qH e).2
set_option tactic.hygienic true in def qJ(R:Rp Γ C H s)(g:Gr C s H C1 s1 J)(R1:Rp Γ C1 J s1)(hb:v0.bnd s1.length=bY)(r:RV Γ C1 J v0 v)(h:pI s v0 s1=.ok d s'):∃C',Gr C s H C' s' J/\s.length<=s'.length/\d.bnd s'.length=bY/\RV Γ C' J d v/\Rp Γ C' J s':=by
 have all:d=v0->s'=s1->∃C',Gr C s H C' s' J/\s.length<=s'.length/\d.bnd s'.length=bY/\RV Γ C' J d v/\Rp Γ C' J s':=λe1 e2=>by subst e1;subst e2;exact⟨C1,g,g.le,hb,r,R1⟩
 unfold pI at h;split at h;case isFalse=>cases h;exact all rfl rfl
 rename_i ho;refine AB (aR3 R g R1 ho) λgt Rt=>?_;have Y:(s1.take s.length).length=s.length:=by rw[bQ];have:=g.le;omega
 have tk:d=v0->s'=s1.take s.length->v0.bnd s.length=bY->∃C',Gr C s H C' s' J/\s.length<=s'.length/\d.bnd s'.length=bY/\RV Γ C' J d v/\Rp Γ C' J s':=λe1 e2 b=>by subst e1;exact e2▸⟨C1,gt,by rw[Y];exact aj _,by rw[Y];exact b,r,Rt⟩
 split at h
 .rename_i k;split at h;.cases h;exact tk rfl rfl<|gc ‹_›
  .rename_i hk;split at h
   .rename_i o eo;split at h
    .rename_i Z;cases h;have gw:Gw C1 s.length J (λi=>if i=s.length then C1 k else C1 i) J:=⟨λi hi=>ef<|aI hi,Kp.refl _⟩;have key:∀i Uu,(s1.take s.length++[o])[i]?=al Uu->(i<s.length/\s1[i]?=al Uu)\/(i=s.length/\Uu=o):=λi Uu e=>by
      rcases ia i s.length with h|h|h;.exact .inl<|qH<|aB (by rw[Y];exact h)▸e
      .subst h;rw[aw<|by rw[Y];exact aj _,Y,lC]at e;exact .inr ⟨rfl,(ay e).symm⟩
      .rw[b9<|by rw[aO,Y];simp;lia]at e;cases e
     have z:(s1.take s.length++[o]).length=s.length+1:=by rw[aO,Y];rfl
     refine⟨λi=>if i=s.length then C1 k else C1 i,⟨⟨λi hi=>?_,g.w.kp⟩,by rw[z];lia,λi h1 h2=>?_,λi oo Uu e e'=>?_,g.st,g.fz,g.fr⟩,by rw[z];omega,z▸gc (dE _),?_,⟨λi j oi oj a1 a0 mi mj e=>?_,λi Uu e=>?_,λi Uu e=>?_,R1.tab⟩⟩;.exact ef (aI hi)▸g.w.map i hi
     .rw[z]at h2;rw[dO<|by lia];exact g.new k (by lia) (ag.mp eo).1
     .rcases key i Uu e' with⟨_,e2⟩|⟨hi,_⟩;.exact g.kd i oo Uu e e2
      simp_all
     .rw[r.refE];unfold RV;lia
     .rcases key i oi a1 with⟨hi,ei⟩|⟨hi,zi⟩<;>rcases key j oj a0 with⟨hj,ej⟩|⟨hj,zj⟩;.rw[ef<|aI hi,ef<|aI hj]at e;exact R1.inj i j oi oj ei ej mi mj e
      .rw[ef<|aI hi,dO hj]at e;subst zj;have:=R1.inj i k oi _ ei eo mi mj e;lia
      .rw[ef<|aI hj,dO hi]at e;subst zi;have:=R1.inj k j _ oj eo ej mi mj e;lia
      .rw[hi,hj]
     .rcases key i Uu e with⟨hi,e⟩|⟨hi,rfl⟩;.exact ef (aI hi)▸(R1.obj i Uu e).mono gw (aI1 R g ho hi e) λ_ u hu=>hu
      .exact dO hi▸(R1.obj k _ eo).mono gw Z λ_ u hu=>hu
     .rw[z];rcases key i Uu e with⟨hi,e⟩|⟨_,rfl⟩;.exact qi (dL _) _<|aI1 R g ho hi e
      .exact qi (dL _) _ Z
    .cases h;exact all rfl rfl
   simp_all
 .split at h;.cases h;exact tk rfl rfl ‹_›
  .cases h;exact all rfl rfl
structure LamGood(J:LamI)(L:pO):Prop where
 sc:LamScope (J.ps++J.fr) J.ps J.fr J.scope
 ps:J.ps.length=L.ps
 fr:J.fr.length=L.cs
 m:mE (ck0 (J.ps++J.fr) J.scope) L.body J.body=bY
 pa:lamArgs J.params=al J.ps
 bind:∀(clos:yC)(doc pm:Value)(c':Addr)(ctv:Value)(us:yH),us.length=J.ps.length->eY (cB "<lambda>" J.qual J.params J.body J.scope clos pm (.ref c') ctv) ⟨us,[]⟩=pure (J.ps.zip us)/\∀(nm:Str)(rp:Pos),eY (cX nm J.qual J.params [.Return (al J.body) rp] J.scope clos .none .none doc pm aT (.ref c') ctv) ⟨us,[]⟩=pure (J.ps.zip us)
structure LkAt(Γ:Gm)(cds:yG)(f:Str)(sc:Scope)(N:yI)(fd:bS)(id:String)(caps:List Nat)(params:bK)(body:Expr)(scope:Scope)(c P:Addr)(J:LamI):Prop where
 code:fd.code=.ref c
 cd:(c,P)∈cds
 ck:lamCheck scope sc=bY
 fre:∀x,scope.names.lookup x=al .free->sc.names.lookup x=al .cell
 cel:∀y∈sc.names,y.2=.cell->sc.names.lookup y.1=al .cell
 df:∀env,mV params env=([],[])lg:Γ.lg id J
 q:J.qual=f++".<locals>."++J.own
 p:J.params=params
 b:J.body=body
 s:J.scope=scope
 len:J.fr.length=caps.length
 at_:∀(i j:Nat)(x:Str),caps[i]?=al j->J.fr[i]?=al x->N[j]?=al x
 fr:∀x∈J.fr,scope.names.lookup x=al .free
 tab:(P,J.qual)∈Γ.T
def bm9(Γ:Gm)(cds:yG)(f:Str)(sc:Scope)(N:yI)(fd:bS)(lk:String->List Nat->Expr->Bool):Prop:=∀id caps E,lk id caps E=bY->∃c P params body scope pos J,E=lamText J params body scope pos/\LkAt Γ cds f sc N fd id caps params body scope c P J
def GoodB(Γ:Gm)(cds:yG)(mg:yD)(f:String)(pc vc:Nat)(m:Ck->List Stmt->Bool):Prop:=∃st N ps a fd lk,DefAt Γ.K mg (f) st ps a fd/\FnScope N ps (defScope st)/\ps.length=pc/\N.length=pc+vc/\m ⟨N,defScope st,lk⟩ (defBody st)=bY/\bm9 Γ cds (f) (defScope st) N fd lk
def Good(Γ:Gm)(cds:yG)(mg:yD)(f:String)(d:oY):Prop:=GoodB Γ cds mg f d.ps d.vs λck S=>mSs ck d.body S
def mHk(ck:Ck)(nm:Str)(h:pM)(S:yM):Bool:=match h.kn with|some _=>ce|none=>mHd ck nm h S
def cj9(h:pM)(c:String):VK->Hp->Prop:=match h.kn with|some (_,.ls)=>λR H=>∀p,H p=aT->R (.ref p) (upd H p<|.J [.str ⟨(pJ c).toArray⟩])|some (_,.pl)=>λR H=>R (.str ⟨(pJ c).toArray⟩) H|some (_,.eq t)=>λR H=>R (.T<|decide<|pJ c=t) H|none=>λR H=>R (vV<|h.vD c) H
def mT0(ck:Ck)(d:rO)(S:yM):Bool:=match S with|st::rest=>(match st with|.Try tb hs [] [] _=>(match hs with|[eh]=>(match eh with|.ExceptHandler (al en) (al nm) hb _=>(match en,hb with|.Name x _,b::su=>mSs ck d.body tb&&(mX ck d.xb tb&&(noR d.xb&&(noL d.xb&&(d.h.supOk d.c&&(decide (x=((d.h.cls d.c)))&&(ck.gl x&&(decide (ck.N[d.i]?=al nm)&&((ck.sc.names.lookup nm==al .local)&&(!(nm==("__debug__"))&&(!(nm==("__classdict__"))&&(mHk ck nm d.h (b::su)&&mSs ck d.tl rest)))))))))))|_,_=>ce)|.ExceptHandler (al en) aT hb _=>ce|_=>ce)|_=>ce)|_=>ce)|_=>ce
def cl3(ck:Ck):pG->List Stmt->Option (List Stmt)|.nil,S=>al S|.cons s ss,S=>match S with|x::xs=>(match mS ck s x with|true=>cl3 ck ss xs|false=>aT)|[]=>aT
def mT(ck:Ck)(d:rO)(S:yM):Bool:=match cl3 ck d.pre S with|some S1=>mT0 ck d S1|none=>ce
def GoodX(Γ:Gm)(c m:String)(d:pP):Prop:=∃st N ps a fd Cc,(Γ.cls c=al Cc/\Cls Γ.K Cc)/\Meth Γ.K Cc (m:Str) a/\Fun Γ.K (m:Str) ((c++"."++m:String):Str) st a fd/\Binds Γ.K fd ps []/\FnScope N ps (defScope st)/\ps.length=d.ps/\N.length=d.ps+d.vs/\mX ⟨N,defScope st,λ_ _ _=>ce⟩ d.body (defBody st)=bY
def GoodM(Γ:Gm)(c m:String)(d:oY):Prop:=∃st N ps a fd Cc,(Γ.cls c=al Cc/\Cls Γ.K Cc)/\Meth Γ.K Cc (m:Str) a/\Fun Γ.K (m:Str) ((c++"."++m:String):Str) st a fd/\Binds Γ.K fd ps []/\FnScope N ps (defScope st)/\ps.length=d.ps/\N.length=d.ps+d.vs/\mSs ⟨N,defScope st,λ_ _ _=>ce⟩ d.body (defBody st)=bY
structure PrOk(Γ:Gm)(cds:yG)(P:ou)(mg:yD)(w:World):Prop where
 df:∀f d,P.df f=al d->Good Γ cds mg f d
 con:∀x d,P.con x=al d->∃v u,mg (x:Str)=al u/\RelV v u/\(∀m,d.bnd m=bY)/\∀C H,RV Γ C H d v
 bi:∀x∈bNames,mg x=aT
 fa:∀(f:String)(a:Addr),Γ.fa f=al a->mg (f:Str)=al (.ref a)/\∃oc od fd sl,Γ.K.lookup a=al ⟨oc,od,.func fd,sl⟩lg:∀id J,Γ.lg id J->∃L,P.lm id=al L/\LamGood J L
 nd:(Γ.T.map (·.1)).Nodup
 xf:∀f d,P.xf f=al d->GoodB Γ cds mg f d.ps d.vs λck S=>mX ck d.body S
 tf:∀f d,P.tf f=al d->GoodB Γ cds mg f d.ps d.vs λck S=>mT ck d S
 xc:∀c:String,P.xc c=bY->∃Cc,mg (c:Str)=al (.ref Cc)/\ExcCls Γ.K Cc/\excI Γ.K Cc=bY
 xt:∀c:String,P.xt c=bY->∃Cc,mg (c:Str)=al (.ref Cc)xs:∀(c d:String)(Cc D:Addr),P.xc c=bY->P.xt d=bY->mg (c:Str)=al (.ref Cc)->mg (d:Str)=al (.ref D)->bz Γ.K (.ref Cc) (.ref D)=al (oA c d)xm:∀(c d:String)(Cc D:Addr),P.xc c=bY->P.xt d=bY->mg (c:Str)=al (.ref Cc)->mg (d:Str)=al (.ref D)->cu Γ.K (.ref Cc) (.ref D)=al (oA c d)xe:∀(c:String)(Cc:Addr),P.xc c=bY->mg (c:Str)=al (.ref Cc)->cu Γ.K (.ref Cc) (.ref Cc)=al bY
 v0:∀c:String,P.xc c=bY->mg ("ValueError":Str)=aT
 v1:∀(c:String)(Cc:Addr),P.xc c=bY->mg (c:Str)=al (.ref Cc)->bz Γ.K (.ref Cc) (.type "ValueError")=al bY
 cdc:∀(c:String)kvs,P.cdc c=al kvs->∃a,mg (c:Str)=al (.ref a)/\∀(prog:aH)(h:Heap),Γ.K.In h->StrTab prog w h a (strD kvs)mt:∀c m d,P.mt c m=al d->GoodM Γ c m d
 mx:∀c m d,P.mx c m=al d->GoodX Γ c m d
 att:∀(c:String)(f:List Nat)(Cc:Addr),P.att c f=bY->Γ.cls c=al Cc->NoAttr Γ.K Cc ⟨f.toArray⟩nwc:∀(c:String)(Cc:Addr),Γ.cls c=al Cc->mg (c:Str)=al (.ref Cc)/\dS Γ.K Cc=bY/\bR Γ.K (.ref Cc)=bY
def jA(Γ:Gm)(prog:aH)(w:World)(mg:yD)(base:Heap)(F:oy)(n:Nat):Prop:=(∀f:String,(∀l s,F.call f l s=.B)\/∃a fd ps,FnOk prog w Γ.K mg base CX0 n a fd ps (spV Γ<|F.call f)/\mg (f)=al (.ref a)/\bR Γ.K (.ref a)=bY/\Binds Γ.K fd ps [])/\(∀id J f cap clos,Γ.lg id J->cap.length=J.fr.length->ClOk prog w Γ.K mg base n (λH=>CloAt H f J cap clos) f (spL Γ (F.lam id) cap))/\ObOk Γ prog w Γ.K mg base F n
def ay6(r:RVL Γ C H l vs)(b:oa n l=bY)(hN:N.length=l.length+k):RE Γ C H n (l.map al++az k aT) (ah5 N vs):=by
 have h:=r.length;refine⟨?_,λi d e=>?_⟩;.unfold ah5;simp[h,hN]
 .by_cases hi:i<l.length
  .rw[aB<|by simpa using hi,aK]at e;have e':l[i]?=al d:=by rw[ar hi]at e⊢;exact ay e
   obtain⟨v,e1,e2⟩:=r.get e';refine⟨ah6 b e',v,?_,e2⟩;unfold ah5;rw[aB<|by rw[av,h];exact hi,aK,e1];rfl
  .rw[aw<|by simpa using lN hi]at e;rw[ir]at e;split at e<;>cases e
def bD2(Uu:PrOk Γ z P mg w)n:∀c kvs,(oh P n).cdc c=al kvs->∃a,mg (c)=al (.ref a)/\∀h:Heap,Γ.K.In h->StrTab prog w h a (strD kvs):=by
 have:(oh P n).cdc=P.cdc:=by cases n<;>rfl
 rw[this];exactλc kvs e=>AD (Uu.cdc c kvs e) λa Y J=>⟨a,Y,J prog⟩
def bc8(hP:PrOk Γ Z P mg w)(hb:∀y∈Z,bL base y.1 y.2/\BM mg base)n(h:jA Γ prog w mg base (oh P n) (n+31)){f:String}{st}(hS:FnScope N ps<|defScope st)(hL:bm9 Γ Z (f:Str) (defScope st) N fd lk)Y(a4:∀id Uu E,lk id Uu E=bY->fd.code=Y)A a0 sh H E(hr:Room (n+31) (A.deeper<|gm (f:Str) (defScope st) sh.heap.objs.size a Y)):CG Γ (oh P n) (n+31) (as7 CX0 prog w Γ.K mg base N (f:Str) (defScope st) a Y A a0 sh H E).nox ⟨N,defScope st,lk⟩:=by
 refine⟨rfl,rfl,hS.nd,rfl,rfl,?_,hr,λx k e=>.inl e,λ_ _=>rfl,hP.bi,h.1,?_,λid Uu E' hlk=>?_,h.2.1,hP.fa,bD2 hP n,h.2.2⟩;.show oC+1<=n+31;unfold oC;lia
 .have:(oh P n).con=P.con:=by cases n<;>rfl
  exact this▸hP.con
 .refine AJ (hL id Uu E' hlk) λc Pa params AA=>AN AA λbody scope pos J eE L=>AB (hb _ L.cd) λa5 a6=>AD (hP.lg id J L.lg) λL' _ lg=>⟨c,Pa,params,body,scope,pos,J,eE,⟨?_,a5,a6,L.ck,L.df _,L.lg,L.q,L.p,L.b,L.s,L.len,L.at_,L.fr,λx hx=>?_,L.tab,hP.nd,λ_=>rfl,λx c hx=>?_,lg.sc,lg.pa,λa1 pm c' a3 us a2=>(lg.bind a1 .none pm c' a3 us a2).1⟩⟩;.show Y=.ref c;exact a4 id Uu E' hlk▸L.code
  .exact z5<|L.fre x hx
  .rcases zE (aL hx)with z|z;.exact .inl<|L.cel (x,.cell) z rfl
   simp_all
def aD8:bm9 Γ z f sc N J<|λ_ _ _=>ce:=λ_ _ _ h=>by cases h
set_option tactic.hygienic true in def bz3{a0:yG}{P:ou}{prog:aH}{w:World}{mg:yD}{base:Heap}(hP:PrOk Γ a0 P mg w)(hb:∀y∈a0,bL base y.1 y.2/\BM mg base)(n:Nat)(a1:jA Γ prog w mg base (oh P n) (n+31)){f:String}{x:Str}{d:oY}{st:Stmt}{N ps:yI}{a:Addr}{fd:bS}{lk:String->List Nat->Expr->Bool}(hD:Fun Γ.K x (f:Str) st a fd)(hS:FnScope N ps<|defScope st)(h1:ps.length=d.ps)(h2:N.length=d.ps+d.vs)(hm:mSs ⟨N,defScope st,lk⟩ d.body (defBody st)=bY)(hL:bm9 Γ a0 (f:Str) (defScope st) N fd lk):FnOk prog w Γ.K mg base CX0 (n+1+31) a fd ps<|spV Γ<|pp (oh P n) d:=by
 have Z:∀vs H Q E,spV Γ (pp (oh P n) d) vs H Q E->vs.length=ps.length:=λvs H Q E q=>by
  refine AG q λC s l d' s' R r b AA=>AB AA λhc k=>?_;unfold pp at hc;split at hc;.rw[r.length,h1];assumption
  .exact fb hc
 have body:∀(Uu:Value),(∀id z E,lk id z E=bY->fd.code=Uu)->∀(A:aU)(Y:List Env)(sh:af)(H:Hp)(vs:List V)(Q:VK)(E:XK),Room (n+31) (A.deeper<|gm (f:Str) (defScope st) sh.heap.objs.size a Uu)->spV Γ (pp (oh P n) d) vs H Q E->∃t,PSs (as7 CX0 prog w Γ.K mg base N (f:Str) (defScope st) a Uu A Y sh H E).nox (defBody st) t/\t {nx:=λ_ H'=>Q .N H',rt:=Q} (ah5 N vs) H:=by
  refineλUu a3 A Y sh H vs Q E hr q=>have G:=bc8 hP hb n a1 hS hL (a:=a) Uu a3 A Y sh H E hr;⟨_,sSs d.body (defBody st) _ ⟨N,defScope st,lk⟩ G hm,AG q λC s l d' s' R r b AA=>AB AA λhc k=>?_⟩;unfold pp at hc;split at hc;case isFalse=>exact fb hc
  rename_i Z;refine AE (aa1 hc) λc s1 e1 hc=>⟨C,l.map al++az d.vs aT,s,c,s1,ay6 r b<|by rw[h2,Z],R,e1,λC1 H1 g1 l1 R1=>?_⟩;cases c with|ret v0=>exactλv hb rv=>AQ (qJ R g1 R1 hb rv hc) λC' g' l' b' r' R'=>k v C' H1 g' l' b' r' R'|next U=>exactλW' _=>AQ (qJ (v0:=.N) R g1 R1 rfl RV.nonI hc) λC' g' l' b' r' R'=>k .N C' H1 g' l' b' r' R'|cont U=>exact fb hc|brk U=>exact fb hc
 by_cases hl:∃id z E,lk id z E=bY;.exact AJ hl λid z E hlk=>AJ (hL id z E hlk) λc Pa params AA=>AN AA λa2 scope pos J eE L=>hD.okC L.code hS Z<|body _ λ_ _ _ _=>L.code
 .exact hD.ok hS Z<|λUu=>body Uu λid z E h=>ij ⟨id,z,E,h⟩ hl
def bU3(Z:PrOk Γ h P mg w)(hb:∀y∈h,bL base y.1 y.2/\BM mg base)n(J:jA Γ prog w mg base (oh P n) (n+31))(e:P.df f=al d){st}(hD:DefAt Γ.K mg (f:Str) st ps a Uu)(hS:FnScope N ps<|defScope st)(h1:ps.length=d.ps)(Y:N.length=d.ps+d.vs)(hm:mSs ⟨N,defScope st,lk⟩ d.body (defBody st)=bY)(hL:bm9 Γ h (f:Str) (defScope st) N Uu lk):FnOk prog w Γ.K mg base CX0 (n+1+31) a Uu ps<|spV Γ<|(oh P<|n+1).call f:=by
 have z:(oh P<|n+1).call f=pp (oh P n) d:=by funext l s;simp only[oh,e];rfl
 exact z▸bz3 Z hb n J hD.fn hS h1 Y hm hL
def cq7(Z:PrOk Γ Y P mg w)(hb:∀y∈Y,bL base y.1 y.2/\BM mg base)n(J:jA Γ prog w mg base (oh P n) (n+31)):ObOk Γ prog w Γ.K mg base (oh P<|n+1) (n+1+31):=by
 refine⟨Z.att,λc m=>?_,λc=>?_⟩;.cases e:P.mt c m with|none=>exact .inl λl s=>by simp only[oh,e]|some d=>
   refine AJ (Z.mt c m d e) λst N ps AA=>AK AA λa fd Cc hc hm hD AA=>AW AA λUu hS h1 h2 a0=>?_;have z:(oh P<|n+1).mcall c m=pp (oh P n) d:=by funext l s;simp only[oh,e]
   refine .inr ⟨Cc,a,fd,ps,hc.1,hc.2,hm,?_,Uu⟩;exact z▸bz3 Z hb n J hD hS h1 h2 a0 aD8
 .rcases J.2.2.mc c "__init__"with h|⟨Cc,a,fd,ps,hc,hcl,hm,hF,Uu⟩;.exact .inl h
  .exact AI (Z.nwc c Cc hc) λm1 m2 m3=>.inr ⟨n+31,Cc,a,fd,ps,by lia,⟨hc,hcl⟩,m1,⟨m2,hm.at_,hm.fn,m3⟩,hF,Uu⟩
def Fun.okX{K}{st}(F:Fun K x qual st f Uu)(S:FnScope N ps<|defScope st)(len:∀vs H Q E,sp vs H Q E->vs.length=ps.length)(J:∀(z:Value),Uu.code=z->∀(A:aU)(h:List Env)(s:af)(H:Hp)(vs:List V)(Q:VK)(E:XK),Room k (A.deeper<|gm qual (defScope st) s.heap.objs.size f z)->sp vs H Q E->∃t,PSs (as7 Z P w K mg base N qual (defScope st) f z A h s H E) (defBody st) t/\t {nx:=λ_ H'=>Q .N H',rt:=Q} (ah5 N vs) H):FnOk P w K mg base Z (k+1) f Uu ps sp:=by obtain⟨oc,od,kV,a0,pm,an,z,ct,a1,rfl,lk,hc⟩:=F.ex;exact bM7 lk hc S len<|J z rfl
def bZ8(z:PrOk Γ Y P mg w)n:XC (oh P n) Γ.K mg:=by
 have e:(oh P n).xc=P.xc:=by cases n<;>rfl
 have e':(oh P n).xt=P.xt:=by cases n<;>rfl
 exact⟨λc h=>z.xc c<|by rw[e]at h;exact h,λc h=>z.xt c<|by rw[e']at h;exact h,λc d Cc D Uu J=>z.xs c d Cc D (by rw[e]at Uu;exact Uu) (by rw[e']at J;exact J),λc d Cc D Uu J=>z.xm c d Cc D (by rw[e]at Uu;exact Uu) (by rw[e']at J;exact J),λc h=>z.v0 c<|by rw[e]at h;exact h,λc Cc h=>z.v1 c Cc<|by rw[e]at h;exact h⟩
set_option tactic.hygienic true in def aW9{z:yG}{P:ou}{prog:aH}{w:World}{mg:yD}{base:Heap}(hP:PrOk Γ z P mg w)(hb:∀y∈z,bL base y.1 y.2/\BM mg base)(n:Nat)(J:jA Γ prog w mg base (oh P n) (n+31))(XO:XOk Γ prog w Γ.K mg base (oh P n) (n+31)){f:String}{x:Str}{d:pP}{st:Stmt}{N ps:yI}{a:Addr}{fd:bS}{lk:String->List Nat->Expr->Bool}(hD:Fun Γ.K x (f:Str) st a fd)(hS:FnScope N ps<|defScope st)(h1:ps.length=d.ps)(h2:N.length=d.ps+d.vs)(hm:mX ⟨N,defScope st,lk⟩ d.body (defBody st)=bY)(hL:bm9 Γ z (f:Str) (defScope st) N fd lk):FnOk prog w Γ.K mg base (CX1 prog w) (n+1+31) a fd ps<|spX Γ mg λl s=>if l.length=d.ps then oM (oh P n) d.body (l.map al++az d.vs aT) s else aT:=by
 refine hD.okX hS (λvs H Q E q=>?_) λUu Z A h sh H vs Q E hr q=>?_
 .refine AG q λC s l c s' R r b AA=>AB AA λhc k=>?_;dsimp only at hc;split at hc;.rw[r.length,h1];assumption
  .cases hc
 .have G:=bc8 hP hb n J hS hL (a:=a) Uu (λ_ _ _ _=>Z) A h sh H E hr;refine AG q λC s l c s' R r b AA=>AB AA λhc k=>?_;dsimp only at hc;split at hc;case isFalse=>cases hc
  rename_i Y;exact⟨_,ax1 (X:=as7 (CX1 prog w) prog w Γ.K mg base N (f:Str) (defScope st) a Uu A h sh H E) G (bZ8 hP n) XO cn9 d.body (defBody st) (.inr co4) (.inr PassesOwn.leaving) hm,C,l.map al++az d.vs aT,s,c,s',ay6 r b<|by rw[h2,Y],R,hc,k⟩
def bT8(Z:PrOk Γ h P mg w)(hb:∀y∈h,bL base y.1 y.2/\BM mg base)n(J:jA Γ prog w mg base (oh P n) (n+31))(XO:XOk Γ prog w Γ.K mg base (oh P n) (n+31))(e:P.xf f=al d){st}(hD:DefAt Γ.K mg (f:Str) st ps a Uu)(hS:FnScope N ps<|defScope st)(h1:ps.length=d.ps)(Y:N.length=d.ps+d.vs)(hm:mX ⟨N,defScope st,lk⟩ d.body (defBody st)=bY)(hL:bm9 Γ h (f:Str) (defScope st) N Uu lk):FnOk prog w Γ.K mg base (CX1 prog w) (n+1+31) a Uu ps<|spX Γ mg<|(oh P<|n+1).xcall f:=by
 have z:(oh P<|n+1).xcall f=λl s=>if l.length=d.ps then oM (oh P n) d.body (l.map al++az d.vs aT) s else none:=by funext l s;simp only[oh,e]
 exact z▸aW9 Z hb n J XO hD.fn hS h1 Y hm hL
def cd6{S:yM}(k:h.kn=aT)(m:mHd z nm h S=bY):h.out c s s'=pI s (h.vD c) s':=by cases h with|noe=>exact ff m|_=>simp only[DV.Hd.out,k]
def bd6 c:(pJ c).length<=1000:=by
 unfold pJ DV.cw4;split;.rw[bE];cases e:DV.bg1[List.findIdx id<|DV.bc6.map<|oA c]? with|none=>exact cy _|some x=>have h:=aF e;exact(by decide:∀x∈DV.bg1,x.length<=1000) x h
 .decide
def co8(hP:PrOk Γ J P X.mg w)(G:CG Γ (oh P n) (n+31) X Y)(xc:XC (oh P n) X.K X.mg)(z:(oh P n).xc c=bY)(Uu:X.mg (c:Str)=al (.ref Cc))(kx:eO X.K (.ref a) (.ref Cc) (λh=>XAt h a Cc))(hcl:oe.cls=.ref Cc)(hi:Y.N[i]?=al nm)(hv:Vis X.env.scope nm)(hd:(nm==("__debug__":Str))=ce)(Z:(nm==("__classdict__":Str))=ce)(m:mHk Y nm t S=bY)(o:t.ok (oh P n).xt=bY)(k:t.kok (oh P n).kd=bY):PSs (X.hnd a oe) S<|tHd i a<|cj9 t c:=by unfold mHk at m;unfold DV.Hd.kok at k;cases q:t.kn with|none=>rw[q]at m;have:=cp9 G xc z Uu kx hcl hi hv hd Z m o;unfold cj9;rw[q];exact this|some y=>rw[q]at m;exact ff m
def cm7:∀{h}{S:yM},mHd z nm h S=bY->(h.vD c).bnd n=bY/\RV Γ C H (h.vD c) (vV<|h.vD c)|.ret t,S,_=>⟨rfl,RV.blI⟩|.iff _ _ _,S,m=>ff m|.nob b,S,_=>⟨rfl,RV.blI⟩|.noe,S,_=>⟨rfl,RV.nonI⟩|.rnn,S,_=>⟨rfl,RV.nonI⟩|.iffN _ _,S,m=>ff m|.aoN _ _,S,m=>ff m|.sup _ _,S,m=>ff m|.kin _ _,S,m=>ff m
theorem bB5(G:CG Γ F n X z):∀{pre}{S S1:yM},cl3 z pre S=al S1->PSs X S1 t->PSs X S (cn8 (TSv Γ<|o4 F pre) t)|.nil,S,S1,h,h1=>by cases h;refine h1.imp λD W H q=>AG q λC U s c s' E R e q=>?_;cases e;exact q.here R W E|.cons s ss,S,S1,h,h1=>by cases S with|nil=>exact ij h<|by nofun|cons x xs=>have h:(match mS z s x with|true=>cl3 z ss xs|false=>aT)=al S1:=h;cases hm:mS z s x with|false=>simp_all|true=>rw[hm]at h;exact(zC (sS s _ X z G hm) (bB5 G h h1)).imp λD W H q=>bz1<|TSv.eq (λU s=>rfl) q
set_option tactic.hygienic true in def cj3(hP:PrOk Γ a8 P mg w)(hb:∀y∈a8,bL base y.1 y.2/\BM mg base)n(b1:jA Γ prog w mg base (oh P n) (n+31))(XO:XOk Γ prog w Γ.K mg base (oh P n) (n+31))(e0:P.df f=aT)(e:P.tf f=al d){st:Stmt}{N ps:yI}{a:Addr}{fd:bS}{lk:String->List Nat->Expr->Bool}(hD:DefAt Γ.K mg (f:Str) st ps a fd)(hS:FnScope N ps<|defScope st)(h1:ps.length=d.ps)(h2:N.length=d.ps+d.vs)(z:mT ⟨N,defScope st,lk⟩ d (defBody st)=bY)(hL:bm9 Γ a8 (f:Str) (defScope st) N fd lk):FnOk prog w Γ.K mg base CX0 (n+1+31) a fd ps<|spV Γ<|(oh P<|n+1).call f:=by
 refine hD.fn.okX hS (λvs H Q E q=>?_) λZ c3 A Uu sh H vs Q E hr q=>?_
 .refine AG q λC s l d' s' R r b AA=>AB AA λhc k=>?_;simp only[oh,e0,e]at hc;split at hc;.rw[r.length,h1];assumption
  .exact fb hc
 have G:=bc8 hP hb n b1 hS hL (a:=a) Z (λ_ _ _ _=>c3) A Uu sh H E hr;have xc:=bZ8 hP n;refine AG q λC s l d' s' R r b AA=>AB AA λhc k=>?_;simp only[oh,e0,e]at hc;split at hc;case isFalse=>exact fb hc
 rename_i a2;have E0:=ay6 r b (k:=d.vs) (N:=N) (by rw[h2,a2]);unfold mT at z;split at z;case h_2=>simp_all
 rename_i S1 b3;unfold DV.bP6 at hc;split at hc;case h_2=>exact fb hc
 rename_i U0 s0 ep;suffices key:∃t,PSs (as7 CX0 prog w Γ.K mg base N (f:Str) (defScope st) a Z A Uu sh H E).nox S1 t/\∀C0 W0 H0,Gr C s H C0 s0 H0->s.length<=s0.length->Rp Γ C0 H0 s0->RE Γ C0 H0 s0.length U0 W0->t {nx:=λ_ H'=>Q .N H',rt:=Q} W0 H0 by exact AD key λt ht kt=>⟨_,(bB5 (X:=(as7 CX0 prog w Γ.K mg base N (f:Str) (defScope st) a Z A Uu sh H E).nox) G b3 ht).nox,⟨C,l.map al++az d.vs aT,s,.next U0,s0,E0,R,ep,λC1 H1 g1 l1 R1 W1 E1=>kt C1 W1 H1 g1 l1 R1 E1⟩⟩
 unfold mT0 at z;split at z;case h_2=>simp_all
 rename_i e3 rest;split at z;case h_2=>simp_all
 rename_i tb hs tp;split at z;case h_2=>simp_all
 rename_i eh;have run:mSs ⟨N,defScope st,lk⟩ d.body tb=bY->mSs ⟨N,defScope st,lk⟩ d.tl rest=bY->((o4 (oh P n) d.body U0 s0).bind λc s1=>match c with
  |.ret v=>pI s v s1|.next U=>(o4 (oh P n) d.tl U s1).bind λc s2=>match c with|.ret v=>pI s v s2|.next _=>pI s .N s2|_=>.B
  |_=>.B)=.ok d' s'->∃t,PSs (as7 CX0 prog w Γ.K mg base N (f:Str) (defScope st) a Z A Uu sh H E).nox (.Try tb [eh] [] [] tp::rest) t/\∀C0 W0 H0,Gr C s H C0 s0 H0->s.length<=s0.length->Rp Γ C0 H0 s0->RE Γ C0 H0 s0.length U0 W0->t {nx:=λ_ H'=>Q .N H',rt:=Q} W0 H0:=λm1 a5 hc=>by refine⟨_,(zC (bN8 (X:=(as7 CX0 prog w Γ.K mg base N (f:Str) (defScope st) a Z A Uu sh H E).nox) rfl<|sSs d.body tb _ ⟨N,defScope st,lk⟩ G m1) (sSs d.tl rest _ ⟨N,defScope st,lk⟩ G a5)),λC0 W0 H0 g0 l0 R0 Ea=>AE (aa1 hc) λc s1 e1 hc=>⟨C0,U0,s0,c,s1,Ea,R0,e1,λC1 H1 g1 l1 R1=>?_⟩⟩;replace g1:=g0.trans g1 l0;replace l1:=au l0 l1;cases c with
  |ret v0=>exactλv hb rv=>AQ (qJ R g1 R1 hb rv hc) λC' g' l' b' r' R'=>k v C' H1 g' l' b' r' R'|next U=>refineλW' E1=>AE (aa1 hc) λc s2 e2 hc=>⟨C1,U,s1,c,s2,E1,R1,e2,λC2 H2 g2 l2 R2=>?_⟩;cases c with|ret v0=>exactλv hb rv=>AQ (qJ R (g1.trans g2 l1) R2 hb rv hc) λC' g' l' b' r' R'=>k v C' H2 g' l' b' r' R'|next U=>exactλW' _=>AQ (qJ (v0:=.N) R (g1.trans g2 l1) R2 rfl RV.nonI hc) λC' g' l' b' r' R'=>k .N C' H2 g' l' b' r' R'|cont U=>exact fb hc|brk U=>exact fb hc
  |cont U=>exact fb hc|brk U=>exact fb hc
 split at z
 .rename_i en nm d1 hp;split at z;case h_2=>simp_all
  rename_i x np b0 su;refine AB (zg z) λm1 z=>AB (zg z) λm2 z=>AB (zg z) λm3 z=>AB (zg z) λd0 z=>AB (zg z) λd2 z=>AB (zg z) λm4 z=>AB (zg z) λm5 z=>AB (zg z) λm6 z=>AB (zg z) λm7 z=>AB (zg z) λm8 z=>AB (zg z) λm9 z=>AB (zg z) λY a5=>?_;have ex:=dr m4;have ei:=dr m6;subst ex;unfold DV.bn7 at hc;split at hc
  .rename_i c s1 hx;split at hc;case isFalse=>exact fb hc
   rename_i a6;refine AU a6 λa4 a1 hok c1=>?_;unfold DV.Tf.tk at a4;refine AH (xc.at_ _ a1) λCc hC hE hI=>AI (G.gl m5) λg1 g2 g3=>?_;have a3:(defScope st).names.lookup nm=al .local:=gv m7;have c5:(nm==("__debug__":Str))=false:=by simpa using m8
   have c2:(nm==("__classdict__":Str))=false:=by simpa using m9
   have kx:∀a',eO Γ.K (.ref a') (.ref Cc) (λh=>XAt h a' Cc):=λa'=>bO0 hE hI;obtain⟨D',hD',hexm⟩:∃D',mg ((d.h.cls d.c:String):Str)=al (.ref D')/\cu Γ.K (.ref Cc) (.ref D')=al true:=by
    have c0:(oh P n).xc=P.xc:=by cases n<;>rfl
    cases hh:d.h with
    |sup x' h'=>unfold mHk at Y;rw[hh]at Y;cases hq:(DV.Hd.sup x' h').kn with|none=>rw[hq]at Y;exact ff Y|some _=>simp_all
    |_=>rw[hh]at a4;have ec:c=d.c:=gv a4;exact ec▸⟨Cc,hC,hP.xe _ Cc (c0▸a1) hC⟩
   refine⟨_,(zC (bO7 (X:=(as7 CX0 prog w Γ.K mg base N (f:Str) (defScope st) a Z A Uu sh H E).nox) (Γ:=Γ) (Cc:=Cc) (m:=oM (oh P n) d.xb) (b:=cj9 d.h c) (D':=D') (i:=d.i) rfl rfl rfl hexm g1 hD' g2 hS.nd ei a3 (λpn Ww E1 b5=>?_) λa' oe hcl=>co8 hP G xc a1 hC (kx a') hcl ei (.inl a3) c5 c2 Y hok c1) qp),λC0 W0 H0 g0 l0 R0 Ea=>?_⟩;.have G':CG Γ (oh P n) (n+31) ({(as7 CX0 prog w Γ.K mg base N (f:Str) (defScope st) a Z A Uu sh H E).nox with pn:=pn,xe:=Ww}:Cx).nox ⟨N,defScope st,lk⟩:=⟨G.K,G.N,G.nd,rfl,G.calm,G.deep,G.room,G.sc,G.fn,G.bi,G.call,G.con,λid b4 E' hlk=>AJ (G.lam id b4 E' hlk) λc Pa params AA=>AN AA λbody scope pos J eE L=>⟨c,Pa,params,body,scope,pos,J,eE,⟨L.code,L.hd,L.bm,L.ck,L.df,L.lg,L.q,L.p,L.b,L.s,L.len,L.at_,L.fr,L.cl,L.tab,L.nd,L.fn,L.kd,L.gs,L.gp,L.gb⟩⟩,G.cl,G.fa,G.cdc,G.ob⟩;exact ax1 (X:={(as7 CX0 prog w Γ.K mg base N (f:Str) (defScope st) a Z A Uu sh H E).nox with pn:=pn,xe:=Ww}) G' xc XO b5 d.xb tb (.inl m3) (.inl d0) m2
   .refine⟨C0,U0,s0,c,s1,Ea,R0,hx,λC' H' a' Cc' g' l' R' a0=>?_⟩;replace g':=g0.trans g' l0;replace l':=au l0 l';have a0:mg (c:Str)=al (.ref Cc'):=a0;cases hC▸a0;refine⟨rfl,λb6 same=>AB (R'.same same) λgs Rs=>?_⟩;unfold cj9;cases hq:d.h.kn with|none=>unfold mHk at Y;rw[hq]at Y;have Y:mHd ⟨N,defScope st,lk⟩ nm d.h (b0::su)=true:=Y;rw[cd6 hq Y]at hc;have vr:=cm7 (Γ:=Γ) (c:=c) (C:=C') (H:=b6) (n:=s1.length) Y;exact AQ (qJ (v0:=d.h.vD c) R (g'.trans gs l') Rs vr.1 vr.2 hc) λC2 c4 l2 b2 r2 R2=>k _ C2 b6 c4 l2 b2 r2 R2|some y=>unfold mHk at Y;simp_all
  .exact run m1 a5 hc
 all_goals simp_all
set_option tactic.hygienic true in def bO6(hP:PrOk Γ b2 P mg w)n(Z:jA Γ prog w mg base (oh P n) (n+31))id J f cap Uu(b6:Γ.lg id J)(a3:cap.length=J.fr.length):ClOk prog w Γ.K mg base (n+1+31) (λH=>CloAt H f J cap Uu) f<|spL Γ ((oh P<|n+1).lam id) cap:=by
 refine AD (hP.lg id J b6) λL eL LG=>?_;have a1:∀vs H Q E,spL Γ ((oh P<|n+1).lam id) cap vs H Q E->vs.length=J.ps.length:=λvs H Q E q=>by
  refine AJ q λC s cs AA=>AK AA λl d s' R r rc AA=>AU AA λb bc hc k=>?_;simp only[oh,eL]at hc;split at hc;.rename_i hh;exact r.length▸LG.ps▸hh.1
  .exact fb hc
 have main:∀(A:aU)(Y:List Env)(sh:af)(H:Hp)(cd:Value)(vs:List V)(Q:VK),Room (n+31) (A.deeper<|dN J.qual J.scope sh.heap.objs.size f cd<|aX (sh.heap.objs.size+1) J.scope.names Uu)->Cells Uu H->(∀b o,Γ.K.lookup b=al o->H b=aT)->spL Γ ((oh P<|n+1).lam id) cap vs H Q E0->∃t,PE (aG6 prog w Γ.K mg base (J.ps++J.fr) J.qual J.scope f cd Uu A Y sh H) J.body t/\t (vs.map al++cap.map al) (ad0 Uu H) λv H'=>(∀b,isC Uu b=bY->H' b=aT)->Q v (Put Uu H H'):=by
  intro A Y sh H cd vs Q hr z hK q;have G:CG Γ (oh P n) (n+31) (aG6 prog w Γ.K mg base (J.ps++J.fr) J.qual J.scope f cd Uu A Y sh H) (ck0 (J.ps++J.fr) J.scope):=by
   refine⟨rfl,rfl,LG.sc.nd,rfl,rfl,?_,hr,λx k e=>.inl e,λx e=>?_,hP.bi,Z.1,?_,λ_ _ _ h=>(by cases h),Z.2.1,hP.fa,bD2 hP n,Z.2.2⟩;.unfold oC;lia
   .show(J.scope.names.lookup x==al .cell)=bY;lia
   .have:(oh P n).con=P.con:=by cases n<;>rfl
    exact this▸hP.con
  refine⟨_,(sE L.body J.body _ (ck0 (J.ps++J.fr) J.scope) G LG.m).1,AJ q λC s cs AA=>AK AA λl d s' R r rc AA=>AU AA λb bc hc k=>?_⟩;simp only[oh,eL]at hc;split at hc;case isFalse=>exact fb hc
  rename_i hh;refine AI hh λh1 h2 h3=>?_;rw[ae,ae]at h3;obtain⟨⟨b5,b4⟩,b3⟩:=h3;refine AE (aa1 hc) λv0 s1 e1 hc=>have RD:=R.dropC z b3;have a6:=(RVL.dropC z l vs b5 r).append<|RVL.dropC z cs cap b4 rc;⟨C,l.map al++cs.map al,s,v0,s1,⟨by simp[r.length,rc.length],λi x ei=>?_⟩,RD,e1,λv C1 H1 g1 l1 b1 r1 R1 a2=>?_⟩
  .rw[<-aS,aK]at ei;have a8:(l++cs)[i]?=al x:=by simp_all
   refine AD (a6.get a8) λu e3 e4=>⟨ah6 (qI b bc) a8,u,?_,e4⟩;rw[<-aS,aK,e3];rfl
  .exact AQ (qJ RD g1 R1 b1 r1 hc) λC' g' l' b' r' R'=>have gp:=Gr.put z a2 hK R' g';AB (R'.same<|bl8 (H:=H) a2) λgs Rs=>k v C' _ gp l' b' (RV.mono gs d v b' r') Rs
 unfold CloAt;cases q:J.nm with|none=>exact bM5 LG.sc a1 a3 (λpm c' a0 us a4=>(LG.bind Uu .none pm c' a0 us a4).1) (λA Y sh H cd vs Q hr a5 hK q=>AK a5 λpm c' a0 _ _ z _=>main A Y sh H cd vs Q hr z hK q)|some p=>exact bI1 LG.sc a1 a3 (λb0 pm c' a0 us a4=>(LG.bind Uu b0 pm c' a0 us a4).2 _ _) (λA Y sh H cd vs Q hr a5 hK q=>AN a5 λb0 pm c' a0 _ AA=>AI AA λ_ z _=>AD (main A Y sh H cd vs Q hr z hK q) λt h1 h2=>⟨_,zC (aF2 h1) az9,h2⟩)
theorem aM0(Uu:PrOk Γ a1 P mg w)(hb:∀y∈a1,bL base y.1 y.2/\BM mg base):∀n:Nat,jA Γ prog w mg base (oh P n) (n+31)/\XOk Γ prog w Γ.K mg base (oh P n) (n+31)
 |0=>⟨⟨λf=>.inl λl s=>rfl,λid J f cap a0 _ _=>⟨λA a3 s H us vs Q _ _ _ _ q=>AJ q λC s cs AA=>AK AA λl d s' R r rc AA=>AU AA λb bc hc k=>by cases hc⟩,Uu.att,λ_ _=>.inl λ_ _=>rfl,λ_=>.inl λ_ _=>rfl⟩,λf=>.inl λl s=>rfl,λ_ _=>.inl λ_ _=>rfl⟩|n+1=>by
  refine AB (aM0 Uu hb n) λih XO=>⟨⟨λf=>?_,(bO6 Uu n ih),cq7 Uu hb n ih⟩,λf=>?_,λc m=>?_⟩;.cases e:P.df f with
   |none=>cases e2:P.tf f with|none=>exact .inl λl s=>by simp only[oh,e,e2]|some d=>exact AJ (Uu.tf f d e2) λst N ps AA=>AK AA λa fd lk hD hS Z AA=>AI AA λY hm hL=>.inr ⟨a,fd,ps,cj3 Uu hb n ih XO e e2 hD hS Z Y hm hL,hD.mg,hD.fn.kp,hD.bi⟩
   |some d=>exact AJ (Uu.df f d e) λst N ps AA=>AK AA λa fd lk hD hS Z AA=>AI AA λY hm hL=>.inr ⟨a,fd,ps,bU3 Uu hb n ih e hD hS Z Y hm hL,hD.mg,hD.fn.kp,hD.bi⟩
  .cases e:P.xf f with|none=>exact .inl λl s=>by simp only[oh,e]|some d=>exact AJ (Uu.xf f d e) λst N ps AA=>AK AA λa fd lk hD hS Z AA=>AI AA λY hm hL=>.inr ⟨a,fd,ps,bT8 Uu hb n ih XO e hD hS Z Y hm hL,hD.mg,hD.fn.kp,hD.bi⟩
  .cases e:P.mx c m with|none=>exact .inl λl s=>by simp only[oh,e]|some d=>
    refine AJ (Uu.mx c m d e) λst N ps AA=>AK AA λa fd Cc hc a5 hD AA=>AW AA λa4 hS Z Y a2=>.inr ⟨Cc,a,fd,ps,hc.1,hc.2,a5,?_,a4⟩;have z:(oh P<|n+1).xm c m=λl s=>if l.length=d.ps then oM (oh P n) d.body (l.map al++az d.vs aT) s else none:=by funext l s;simp only[oh,e]
    exact z▸aW9 Uu hb n ih XO hD hS Z Y a2 aD8
def bK8(z:PrOk Γ h P mg w)(hb:∀y∈h,bL base y.1 y.2/\BM mg base)n:jA Γ prog w mg base (oh P n) (n+31):=(aM0 z hb n).1
def spT(Γ:Gm):Sp:=λvs H Q _=>∃(a:Addr)(ns:List Int),vs=[.ref a]/\SqF Γ.K H a (ns.map V.int)/\ns.length<=63/\TabsH Γ.T H/\∀H',Q (.T bY) H'
theorem aM2:∀ns:List Int,RVL Γ C H (ns.map DV.D.int) (ns.map V.int)|[]=>.nil|n::ns=>.cons RV.intI<|aM2 ns
theorem aG2:∀ns:List Int,oa m (ns.map DV.D.int)=bY|[]=>rfl|n::ns=>by rw[aQ];rw[oa,aG2 ns];rfl
def cg6(h:∀ns:List Int,ns.length<=63->∃s',(oh P k).call "law" [.ref 0] [.ro<|ns.map DV.D.int]=.ok (.T bY) s')vs H Q E(q:spT Γ vs H Q E):spV Γ ((oh P k).call "law") vs H Q E:=by
 obtain⟨a,ns,rfl,J,z,hT,Uu⟩:=q;obtain⟨s',hs⟩:=h ns z;refine⟨λ_=>a,[.ro<|ns.map DV.D.int],[.ref 0],.T bY,s',⟨λi j o Y e e' m m' _=>?_,λi o e=>?_,λi o e=>?_,hT⟩,.cons RV.refI .nil,?_,hs,λv C' H' g l b r R=>?_⟩;.cases i with|zero=>cases e;cases m|succ i=>cases e
 .cases i with|zero=>cases e;exact⟨_,J,aM2 ns⟩|succ i=>cases e
 .cases i with|zero=>cases e;unfold on;exact aG2 ns|succ i=>cases e
 .unfold oa oq oa;rfl
 .rw[r.blE];exact Uu H'
theorem aM6:∀{tbl:List<|String×oY},(∀p∈tbl,Good Γ z mg p.1 p.2)->∀f d,tbl.lookup f=al d->Good Γ z mg f d|[],_,f,d,h=>by cases h|(g,e)::tbl,H,f,d,h=>by rw[bj]at h;cases q:f==g with|true=>simp_all|false=>rw[q]at h;exact aM6 (λp hp=>H p<|ah _ hp) f d h
def bo9(Γ:Gm)(mg:yD)(x:String)(d:n9):Prop:=∃v u,mg (x)=al u/\RelV v u/\(∀m,d.bnd m=bY)/\∀C H,RV Γ C H d v
theorem bc7:∀{tbl:List<|String×n9},(∀p∈tbl,bo9 Γ mg p.1 p.2)->∀f d,tbl.lookup f=al d->bo9 Γ mg f d|[],_,f,d,h=>by cases h|(g,e)::tbl,H,f,d,h=>by rw[bj]at h;cases q:f==g with|true=>simp_all|false=>rw[q]at h;exact bc7 (λp hp=>H p<|ah _ hp) f d h
def ar6(h:mg (x:Str)=al (.int i t)):bo9 Γ mg x<|.int i:=⟨.int i,_,h,⟨t,rfl⟩,λ_=>rfl,λ_ _=>RV.intI⟩
inductive ConV(Γ:Gm):n9->Value->Prop where|int(i:Int)(t:Tok):ConV Γ (.int i) (.int i t)|str(x:List Nat)(t:Tok)(h:x.length<=1000):ConV Γ (.str x) (.str ⟨x.toArray⟩ t)
inductive ConL(Γ:Gm):List n9->List Value->Prop where|nil:ConL Γ [] []|cons{d v l vs}(a:ConV Γ d v)(b:ConL Γ l vs):ConL Γ (d::l) (v::vs)
def bQ1{its:yH}(h:mg (x:Str)=al (.ref a))(hk:Γ.K.lookup a=al o)(hc:o.cls=.type "tuple")(hd:o.data=.seq its.toArray n)(hz:its.length<=1000)(Z:ConL Γ l its)(hi:autoParam (oz l=ce) Zq4._auto_1):bo9 Γ mg x<|.tp l:=by
 have key:∃J,Vals J its/\(∀m,oa m l=bY)/\∀C H,RVL Γ C H l J:=by clear hd hz hi;induction Z with|nil=>exact⟨[],.nil,λ_=>rfl,λ_ _=>.nil⟩|cons a b ih=>refine AH ih λJ Y Uu h3=>?_;cases a with|int i t=>exact⟨.int i::J,.cons ⟨t,rfl⟩ Y,λm=>by rw[oa,Uu];rfl,λC H=>.cons RV.intI<|h3 C H⟩|str x t h=>exact⟨.str ⟨x.toArray⟩::J,.cons ⟨t,rfl⟩ Y,λm=>by rw[oa,Uu];rfl,λC H=>.cons (RV.strI<|by unfold ot;omega) (h3 C H)⟩
 refine AH key λJ Y Uu h3=>⟨.ref a,_,h,rfl,λm=>by unfold oq;simp_all,λC H=>RV.tupC (.inr ⟨o,its.toArray,n,hk,hc,hd,?_,Y⟩) (λz=>by lia) (h3 C H)⟩;exact aJ▸aN5 hz
end
def aW4{K:ac}{mg mb:yD}{vs:yH}{tabs:yG}(KX:K.In J.heap)(a5:J.heap.Ns aV mg)(hb:J.heap.Ns iB mb)(c3:∀x:Str,x≠"__name__"->mb x=bM x)(b0:J.heap.NoLimit)(hg:J.gens=#[])(c4:BM mg J.heap)(hT:mZ tabs J.heap)(c1:ng K=bY)(ha:J.heap.get? a=al {cls:=.type "list",data:=.seq vs.toArray})(hi:mF vs ns)(hl:ns.length<=a7)(hr:Room k kg)(F:∀base:Heap,K.In base->base.Ns aV mg->BM mg base->(∀q∈tabs,bL base q.1 q.2)->FnOk P w K mg base CX0 k fa fd [x] sp)(a2:∀(s:af)(u:Value),mD s fd ⟨[u],[]⟩ [(x,u)])(e4:∀H:Hp,(∀q∈tabs,H q.2=al (.tbl #[]))->SqL K H a (ns.map V.int)->(∀u,H a=al u->(∃o xs,u=.frz o (.J xs))\/∃ps,u=.tbl ps)->sp [.ref a] H (λv _=>v=.T bY) E0):fy (model P w) kg (.call (.ref fa) ⟨[.ref a],[]⟩) (λr s'=>r=.ok (.ret<|.bool bY)/\OldK J.heap s'.heap/\s'.os=J.os/\gB s'.gens) J:=by
 have rv:=aB7 hi;have a8:=hi.length;have Uu:∀b,b∈tabs.map (·.2)->J.heap.get? b=al (fJ #[]):=λb h=>by obtain⟨q,hq,rfl⟩:=ao.mp h;exact(hT q hq).2
 have a0:∀H:Hp,(∀b u,H b=al u->(b=a/\∃o xs,u=.frz o (.J xs))\/(b∈tabs.map (·.2)/\u=.tbl #[]))->(∀q∈tabs,H q.2=al (.tbl #[]))->SqL K H a (ns.map V.int)->HOk P w H J.heap->(H a≠aT->K.lookup a=aT)->fy (model P w) kg (.call (.ref fa) ⟨[.ref a],[]⟩) (λr s'=>r=.ok (.ret<|.bool bY)/\OldK J.heap s'.heap/\s'.os=J.os/\gB s'.gens) J:=by
  intro H hO d0 hS hok hK;have un:∀b o,J.heap.get? b=al o->o.cls≠.type "list"->(∀vs,o.data≠.fields vs)->H b=none:=λb o e n1 n2=>by cases q:H b with|none=>rfl|some u=>
    rcases hO b u q with⟨z,_⟩|⟨z,_⟩;.rw[z,ha]at e;cases e;exact ij rfl n1
    .rw[Uu b z]at e;cases e;exact ij rfl<|n2 #[]
  have Z:∀{b:Addr}{m:yD},J.heap.Ns b m->(bn0 J.heap H).Ns b m:=λ{b m}⟨o,es,ep,e,d,r⟩=>by refine⟨o,es,ep,an2 e ?_,d,r⟩;cases q:H b with|none=>rfl|some u=>
    rcases hO b u q with⟨z,_⟩|⟨z,_⟩;.rw[z,ha]at e;cases e;cases d
    .rw[Uu b z]at e;cases e;cases d
  have c0:K.In<|bn0 J.heap H:=λb o e=>an2 (KX b o e) (by cases q:H b with|none=>rfl|some u=>
    rcases hO b u q with⟨z,_⟩|⟨z,_⟩;.subst z;rw[hK<|by rw[q];simp]at e;cases e
    .have e2:=KX b o e;rw[Uu b z]at e2;have h2:=aG.mp c1 (b,o)<|PySem.W.mem_of_lookupK e;have e3:o=fJ #[]:=(ay e2).symm;subst e3;exact ij (show ce=bY from h2) bB);have hM:Mod K mg<|bn0 J.heap H:=⟨c0,Z a5,⟨mb,Z hb,c3⟩,let⟨mc,h1,h2⟩:=b0;⟨mc,Z h1,h2⟩⟩;have d1:BM mg<|bn0 J.heap H:=by obtain⟨bm,ob,b1,b2,b3,b4,b5,b6⟩:=c4;exact⟨bm,ob,b1,b2,an2 b3<|un bm ob b3 (by rw[b4];nofun) (by rw[b6];nofun),b4,b5,b6⟩
  have c2:∀q∈tabs,bL (bn0 J.heap H) q.1 q.2:=λq hq=>by obtain⟨o,d2,a6,tf,a4,tg,c5,text,tt,e1,r1,r2⟩:=(hT q hq).1;refine⟨o,d2,a6,tf,a4,tg,c5,text,tt,an2 e1 ?_,r1,r2⟩;cases q2:H q.1 with|none=>rfl|some u=>
    rcases hO _ u q2 with⟨z,_⟩|⟨z,_⟩;.rw[z,ha]at e1;cases e1;exact ij r1<|by simp
    .rw[Uu _ z]at e1;cases e1;exact ij r1<|by simp
  have e0:Env0 P w K mg (bn0 J.heap H) kg [] J H:=⟨rfl,hM,λb o e=>bI9 e,nI<|aZ1 _ _,trivial,λb hb=>ij (show b∈([]:List Addr)from hb) (by simp),hok,.of_eq hg⟩;refine fB ((F _ c0 (Z a5) d1 c2).run kg [] J H ⟨[.ref a],[]⟩ [.ref a] [.ref a] _ _ hr e0 (a2 J<|.ref a) (.cons rfl .nil) (e4 H d0 hS<|λu e=>(hO a u e).elim (λz=>.inl z.2) (λz=>.inr ⟨_,z.2⟩))) λr s' h=>?_;cases r with|error e=>exact bo h|ok fl=>cases fl with|next=>exact bo h|brk=>exact bo h|cont=>exact bo h|ret u=>
    obtain⟨v,H',os,bare,a3,a1,r',q⟩:=h;have q':v=.T true:=q;subst q';obtain rfl:u=Value.bool true:=r';have key:∀b o,J.heap.get? b=al o->asItWas J.heap s'.heap b o/\∃o',s'.heap.get? b=al o':=λb o e=>by cases q:H b with|none=>have z:=a3.keep b o e q (by intro z;exact ij (show b∈([]:List Addr)from z) (by simp)) (by simp);exact⟨.inl z,o,z⟩|some u=>
      rcases hO b u q with⟨_,ob,xs,z⟩|⟨z,z2⟩;.subst z;have z2:=a3.frzs b ob _ q;obtain⟨e1,_⟩:=hok b _ q;obtain⟨e2,_⟩:=a1 b _ z2;rw[e]at e1;cases e1;exact⟨.inl e2,_,e2⟩
      .subst z2;obtain⟨more,z3⟩:=a3.tbls b _ q;have g:s'.heap.get? b=al {cls:=.none,data:=.fields<|#[]++more}:=a1 b _ z3;have e1:=Uu b z;rw[e]at e1;cases e1;obtain⟨p,hp,ep⟩:=ao.mp z;refine⟨.inr<|.inl ⟨?_,rfl,#[],more,rfl,g⟩,_,g⟩;have t:=((hT p hp).1.tab (hT p hp).2).isCodeTable;rw[ep]at t;exact t
    exact⟨rfl,⟨λb o e=>(key b o e).1,λb o e=>(key b o e).2⟩,os,bare⟩
 have tbl:∀b,b∈tabs.map (·.2)->b≠a:=λb h z=>by have e:=Uu b h;rw[z,ha]at e;cases e
 cases hk:K.lookup a with|some o=>
  have e:=KX a o hk;rw[ha]at e;cases e;refine a0 (λb=>if b∈tabs.map (·.2)then al<|.tbl #[]else aT) (λb u z=>?_) (λq hq=>dO<|bF hq) (.inr ⟨_,vs.toArray,_,hk,rfl,rfl,rfl,by rw[aJ,a8];exact hl,by simpa using rv⟩) (λb u z=>?_) λz=>?_
  .by_cases hb:b∈tabs.map (·.2);.have Y:=(dO hb).symm.trans z;cases Y;exact .inr ⟨hb,rfl⟩
   .have Y:=(ef hb).symm.trans z;cases Y
  .by_cases hb:b∈tabs.map (·.2);.have Y:=(dO hb).symm.trans z;cases Y;exact Uu b hb
   .have Y:=(ef hb).symm.trans z;cases Y
  .exact ij (ef λy=>tbl a y rfl) z|none=>
  refine a0 (λb=>if b=a then al<|.frz {cls:=.type "list",data:=.seq vs.toArray}<|.J (ns.map V.int)else if b∈tabs.map (·.2)then al<|.tbl #[]else aT) (λb u z=>?_) (λq hq=>?_) (.inl<|.inr ⟨{cls:=.type "list",data:=.seq vs.toArray},dO rfl⟩) (λb u z=>?_) λ_=>hk
  .by_cases hb:b=a;.have Y:=(dO hb).symm.trans z;cases Y;exact .inl ⟨hb,_,_,rfl⟩
   .have Y:=(ef hb).symm.trans z;by_cases hc:b∈tabs.map (·.2);.rw[dO hc]at Y;cases Y;exact .inr ⟨hc,rfl⟩
    .rw[ef hc]at Y;cases Y
  .have hm:q.2∈tabs.map (·.2):=bF hq;show(if _ then _ else if _ then _ else _)=_;rw[ef<|tbl _ hm,dO hm]
  .by_cases hb:b=a;.have Y:=(dO hb).symm.trans z;cases Y;subst hb;exact⟨ha,by rw[av];exact hl,vs,_,rv,ha⟩
   .have Y:=(ef hb).symm.trans z;by_cases hc:b∈tabs.map (·.2);.rw[dO hc]at Y;cases Y;exact Uu b hc
    .rw[ef hc]at Y;cases Y
def aX2{l:dP}{loose:yI}{K:Params->ac}{sp:ac->Sp}names (hn:l.most=al n)(a3:n<=a7)(a2:d.params.defaults=[])(hr:Room k kg)(hY:∀(w:World)(h:Heap),YP w h->(K w.params).In h/\∀P∈ts,h.get? P=al (fJ #[]))(a0:∀w:World,ch9 (K w.params) names ts=bY)(a1:∀w:World,ng (K w.params)=bY)(F:∀(w:World)(mg:yD)(fa:Addr)(h:Heap),(K w.params).In h->h.Ns aV mg->mg d.name=al (.ref fa)->∃fd:bS,(∀(s:af)(u:Value),mD s fd ⟨[u],[]⟩ [(x,u)])/\∀base:Heap,(K w.params).In base->base.Ns aV mg->BM mg base->bN1 (K w.params) names base->FnOk l.prog w (K w.params) mg base CX0 k fa fd [x] (sp<|K w.params))(a6:∀(K:ac)(H:Hp)(a:Addr)(ns:List Int),ns.length<=n->bL1 K names H->SqL K H a (ns.map V.int)->(∀u,H a=al u->(∃o xs,u=.frz o (.J xs))\/∃ps,u=.tbl ps)->sp K [.ref a] H (λv _=>v=.T bY) E0):nq q loose XP YP l.row.toRowW d []<|λf vs=>mH f vs:=by
 refine Att.attach_call hn a2 λw s₀ s₁ mg mb fa o pm cd b0 a vs ns G Y ho hd a8 a5 Z Uu J hg=>AB (hY w _ Y) λKX a4=>AD (F w mg fa _ KX G.T.g a5) λfd hb hF=>?_;have hT:mZ ((aD7 (K w.params) names).map (·.2)) s₁.heap:=λp hp=>by obtain⟨y,hy,rfl⟩:=ao.mp hp;refine AB (au8.mp hy) λh1 h2=>?_;have z:=aG.mp (a0 w) y.1 h1;rw[h2]at z;have z':(lQ (K w.params) y.2.1 y.2.2&&ts.contains y.2.2)=true:=z;rw[ae]at z';exact⟨PySem.W.codeHd_of_K KX z'.1,a4 _<|by simpa using z'.2⟩
 have hm:∀x∈names,∀c P,bI (K w.params) x=al (c,P)->(c,P)∈(aD7 (K w.params) names).map (·.2):=λx hx c P e=>ao.mpr ⟨(x,c,P),au8.mpr ⟨hx,e⟩,rfl⟩;refine aW4 (tabs:=(aD7 (K w.params) names).map (·.2)) KX G.T.g G.T.b G.T.builtins G.T.nolimit hg ?_ hT (a1 w) Z Uu (au J a3) hr (λbase k1 k2 k3 k4=>hF base k1 k2 k3 λx hx c P e=>k4 _<|hm x hx c P e) hb λH hO hS hF=>a6 (K w.params) H a ns J (λx hx c P e=>hO _<|hm x hx c P e) hS hF;exact AR G.T.bmain λbm ob h1 h2 h3 AA=>AI AA λh4 h5 h6=>⟨bm,ob,h1,h2,h3,h4,h5,h6⟩
def spB(names:yI)(K:ac):Sp:=λvs H Q _=>∃(a:Addr)(ns:List Int),vs=[.ref a]/\SqF K H a (ns.map V.int)/\ns.length<=63/\bL1 K names H/\∀H',Q (.T bY) H'
def cc3{K}{ns:List Int}(Uu:ns.length<=63)(Y:bL1 K names H)(J:SqL K H a<|ns.map V.int)(hF:∀u,H a=al u->(∃o Z,u=.frz o (.J Z))\/∃ps,u=.tbl ps):spB names K [.ref a] H (λv _=>v=.T bY) E0:=by
 refine⟨a,ns,rfl,⟨J,λH' k=>?_⟩,Uu,Y,λ_=>rfl⟩;rcases J with(h|⟨o,h⟩)|h;.rcases hF _ h with⟨_,_,z⟩|⟨_,z⟩<;>cases z
 .exact .inl<|.inr ⟨o,k _ _ h rfl⟩
 .exact .inr h
def cx8(P:ou):String->LamI->Prop:=λid J=>∃L,P.lm id=al L/\LamGood J L
noncomputable def sfx(x:Str):Str:=if x="letter_table"then"least_fee"else"<lambda>"
def bK0(names:yI)(K:ac):List<|Addr×Str:=names.map λx=>(((bI K x).getD (0,0)).2,x++".<locals>."++sfx x)
noncomputable def bS6(names:yI)(K:ac):List<|Addr×Addr:=names.map λx=>(bI K x).getD (0,0)
noncomputable def cn0(K:ac)(f:String):Option Addr:=match bJ K aV (f)with|some<|al<|.ref a=>(match K.lookup a with|some ⟨_,_,.func _,_⟩=>al a|_=>aT)|_=>aT
set_option tactic.hygienic true in def aM4{K}(h:cn0 K f=al a):bJ K aV (f)=al (al<|.ref a)/\∃oc od z sl,K.lookup a=al ⟨oc,od,.func z,sl⟩:=by
 unfold cn0 at h;split at h
 .rename_i J e;split at h;.rename_i oc od z sl e2;cases h;exact⟨e,_,_,_,_,e2⟩
  .cases h
 .cases h
noncomputable def aI6(P:ou)(K:ac)(c:String):Option Addr:=match P.mt c "__init__"with|some _=>(match bJ K aV (c)with|some<|al<|.ref Cc=>al Cc|_=>aT)|none=>aT
abbrev aJ3(names:yI)(P:ou)(K:ac):Gm:=⟨K,cn0 K,cx8 P,bK0 names K,aI6 P K⟩
def cm4{K}{mg:yD}(X:K.In h)(G:h.Ns aV mg):∀f a,(aJ3 names P K).fa f=al a->mg (f)=al (.ref a)/\∃oc od z sl,(aJ3 names P K).K.lookup a=al ⟨oc,od,.func z,sl⟩:=λf a e=>⟨b7 X G (aM4 e).1,(aM4 e).2⟩
def br4{K}(ht:∀x∈names,(bI K x).isSome=bY)(q:spB names K vs H Q E):spT (aJ3 names P K) vs H Q E:=by refine AR q λa ns e h z AA=>AB AA λJ Uu=>⟨a,ns,e,h,z,TabsH.init λp hp=>?_,Uu⟩;simp only[bK0,cD]at hp;obtain⟨x,hx,rfl⟩:=ao.mp hp;exact J x hx _ _<|aw6<|ht x hx
def bB6{K}(ht:∀x∈names,(bI K x).isSome=bY)(bm:BM mg base)(hc:bN1 K names base):∀y∈bS6 names K,bL base y.1 y.2/\BM mg base:=λy hy=>by obtain⟨x,hx,rfl⟩:=ao.mp hy;exact⟨hc x hx _ _<|aw6<|ht x hx,bm⟩
def ar3{ps:yI}(h:lamArgs p=al ps):∃args,p=⟨[],args,aT,[],[],aT,[]⟩/\args.map (·.arg)=ps:=by
 unfold lamArgs at h;split at h;.exact⟨_,rfl,ay h⟩
 .cases h
def aX0(ps:yI):Prop:=∀params,lamArgs params=al ps->∀qual body scope(clos:yC)doc pm c' ctv(us:yH),us.length=ps.length->eY (cB "<lambda>" qual params body scope clos pm (.ref c') ctv) ⟨us,[]⟩=pure (ps.zip us)/\∀nm rp,eY (cX nm qual params [.Return (al body) rp] scope clos .none .none doc pm aT (.ref c') ctv) ⟨us,[]⟩=pure (ps.zip us)
noncomputable def bf1(ps fr:yI)(sc:Scope):Bool:=decide (sc.kind=.function)&&!sc.isCoroutine&&!sc.isGenerator&&decide ((ps++fr).Nodup)&&(ps.all λx=>decide (sc.names.lookup x=al .local)||decide (sc.names.lookup x=al .cell))&&(fr.all λx=>decide<|sc.names.lookup x=al .free)&&(sc.names.all λy=>!decide (y.2=.cell)||decide (sc.names.lookup y.1=al .cell))
def ba1(h:bf1 ps fr sc=bY):LamScope (ps++fr) ps fr sc:=by unfold bf1 at h;simp only[ae,iF,fL,aG,cf]at h;obtain⟨⟨⟨⟨⟨⟨h1,Uu⟩,h3⟩,Y⟩,Z⟩,J⟩,h7⟩:=h;exact⟨h1,Uu,h3,Y,rfl,Z,J,λy hy e=>by
  rcases h7 y hy with z|z;.rw[e]at z;simp at z
  .exact z⟩
noncomputable def bW1(scope sc:Scope):Bool:=scope.names.all λy=>!decide (scope.names.lookup y.1=al .free)||decide (sc.names.lookup y.1=al .cell)
def bq3(h:bW1 scope sc=bY):∀x,scope.names.lookup x=al .free->sc.names.lookup x=al .cell:=λx hx=>by
 have:=aG.mp h (x,.free)<|aL hx;simp only[cf,fL,decide_eq_false_iff_not,iF]at this;rcases this with z|z;.exact ij hx z
 .exact z
def lkB(sc:Scope)(N:yI)(caps:List Nat)(params:bK)(body:Expr)(scope:Scope)(t:pO×List Str×List Str):Bool:=decide (lamArgs params=al t.2.1)&&decide (caps.map (λj=>N[j]?)=t.2.2.map al)&&lamCheck scope sc&&bW1 scope sc&&bf1 t.2.1 t.2.2 scope&&decide (t.2.1.length=t.1.ps)&&decide (t.2.2.length=t.1.cs)&&mE (ck0 (t.2.1++t.2.2) scope) t.1.body body
def lkG(f:Str)(sc:Scope)(N:yI)(tab:List<|String×pO×List Str×List Str)(id:String)(caps:List Nat)(E:Expr):Bool:=match tab.lookup id,E with|some t,.Lambda params body scope _=>decide (sfx f="<lambda>")&&lkB sc N caps params body scope t|some t,.NamedExpr (.Name nm _) (.Lambda params body scope p1) p2=>decide (sfx f=nm)&&decide (p1=p2)&&lkB sc N caps params body scope t|_,_=>ce
set_option tactic.hygienic true in def bK5{K}(hf:f∈names)(Uu:fd.code=.ref ((bI K f).getD (0,0)).1)(a1:∀y∈sc.names,y.2=.cell->sc.names.lookup y.1=al .cell)(Z:∀Y t,tab.lookup Y=al t->P.lm Y=al t.1/\aX0 t.2.1):bm9 (aJ3 names P K) (bS6 names K) f sc N fd<|lkG f sc N tab:=by
 intro Y z E h;have J:∀t params body scope nm,tab.lookup Y=al t->lkB sc N z params body scope t=bY->(match nm with|none=>"<lambda>"|some p=>p.1)=sfx f->LkAt (aJ3 names P K) (bS6 names K) f sc N fd Y z params body scope ((bI K f).getD (0,0)).1 ((bI K f).getD (0,0)).2 ⟨f++".<locals>."++sfx f,params,body,scope,t.2.1,t.2.2,nm⟩:=λt params body scope nm e h hs=>by
  obtain⟨L,ps,fr⟩:=t;unfold lkB at h;simp only[ae,iF]at h;obtain⟨⟨⟨⟨⟨⟨⟨h1,h2⟩,h3⟩,h4⟩,h5⟩,h6⟩,h7⟩,h8⟩:=h;obtain⟨hL,hB⟩:=Z Y _ e;obtain⟨args,rfl,a3⟩:=ar3 h1;have a0:=by have:=congrArg jW h2;simpa using this.symm
  have S:=ba1 h5;refine⟨Uu,ao.mpr ⟨f,hf,rfl⟩,h3,bq3 h4,a1,λenv=>rfl,⟨L,hL,⟨S,h6,h7,h8,h1,λa4 a6 pm c' a5 us a2=>hB _ h1 _ _ _ _ _ _ _ _ _ a2⟩⟩,?_,rfl,rfl,rfl,a0,λi j x e1 e2=>?_,S.frs,ao.mpr ⟨f,hf,rfl⟩⟩;.skip;unfold LamI.own;rw[<-hs]<;>rfl
  .have e3:(z.map<|λj=>N[j]?)[i]?=al (N[j]?):=by rw[aK,e1];rfl
   rw[h2,aK,e2]at e3;exact(ay e3).symm
 unfold lkG at h;split at h;case h_3=>cases h
 .rename_i t params body scope pos e;rw[ae]at h;exact⟨_,_,params,body,scope,pos,_,rfl,J t params body scope aT e h.2 (dr h.1).symm⟩
 .rename_i t nm rp params body scope p1 p2 e;rw[ae,ae]at h;have ep:=dr h.1.2;subst ep;exact⟨_,_,params,body,scope,p1,_,rfl,J t params body scope (al (nm,rp)) e h.2 (dr h.1.1).symm⟩
def ba3{K}:bm9 (aJ3 names P K) (bS6 names K) f sc N z<|λ_ _ _=>ce:=λ_ _ _ h=>by cases h
def co0{K}:∀z J,(aJ3 names P K).lg z J->∃L,P.lm z=al L/\LamGood J L:=λ_ _ h=>h
def cs6{P:ou}{tab:List<|String×pO×List Str×List Str}(h:∀p∈tab,P.lm p.1=al p.2.1/\aX0 p.2.2.1):∀z t,tab.lookup z=al t->P.lm z=al t.1/\aX0 t.2.1:=by induction tab with|nil=>intro z t e;cases e|cons y l ih=>intro z t e;rw[bj]at e;cases q:z==y.1 with|true=>rw[q]at e;cases e;rw[gv q];exact h y<|am ..|false=>rw[q]at e;exact ih (λp hp=>h p<|ah _ hp) z t e
def ck3(K:ac)(n:Str)(st:Stmt):Prop:=∃(f:Addr)(od an:yJ)(sl:yF)(oc kV dc pm cd ct:Value),bJ K aV n=al (al<|.ref f)/\K.lookup f=al ⟨oc,od,.func<|cU n n (defArgs st) (defBody st) (defScope st) .none kV dc pm an cd ct,sl⟩/\fF K cd n=bY/\bR K (.ref f)=bY
def cu2(n:Str)(st:Stmt)(ps:yI):Prop:=∀kV doc pm(an:yJ)cdv ct(us:yH),us.length=ps.length->eY (cU n n (defArgs st) (defBody st) (defScope st) .none kV doc pm an cdv ct) ⟨us,[]⟩=pure (ps.zip us)
def bd0{Q:List Value->Prop}(h:Q [])(us:yH)(z:us.length=0):Q us:=by simp_all
def bdS{Q:List Value->Prop}(h:∀a us,us.length=k->Q (a::us))(us:yH)(z:us.length=k+1):Q us:=by cases us with|nil=>cases z|cons a us=>exact h a us<|Nat.succ.inj z
def bd1{Q:List Value->Prop}(h:∀a,Q [a]):∀us:List Value,us.length=1->Q us:=bdS λa=>bd0<|h a
def bd2{Q:List Value->Prop}(h:∀a b,Q [a,b]):∀us:List Value,us.length=2->Q us:=bdS λa=>bd1<|h a
def bd3{Q:List Value->Prop}(h:∀a b c,Q [a,b,c]):∀us:List Value,us.length=3->Q us:=bdS λa=>bd2<|h a
def DTB(names:yI)(P:ou)(n:String)(pc vc:Nat)(m:Ck->List Stmt->Bool)(st:Stmt):Prop:=∃N ps,FnScope N ps (defScope st)/\ps.length=pc/\N.length=pc+vc/\cu2 n st ps/\(m ⟨N,defScope st,λ_ _ _=>ce⟩ (defBody st)=bY\/((n:Str)∈names/\∃tab,m ⟨N,defScope st,lkG n (defScope st) N tab⟩ (defBody st)=bY/\(∀y∈(defScope st).names,y.2=.cell->(defScope st).names.lookup y.1=al .cell)/\∀p∈tab,P.lm p.1=al p.2.1/\aX0 p.2.2.1))
def DT(names:yI)(P:ou)(n:String)(d:oY)(st:Stmt):Prop:=DTB names P n d.ps d.vs (λck S=>mSs ck d.body S) st
def aw4{names:yI}{P:ou}{K:ac}{h:Heap}{mg:yD}{n:String}{J Y:Nat}{m:Ck->List Stmt->Bool}{st:Stmt}(X:K.In h)(G:h.Ns aV mg)(hT:∀x∈names,(bI K x).isSome=bY)(hD:ck3 K n st)(hd:DTB names P n J Y m st):GoodB (aJ3 names P K) (bS6 names K) mg n J Y m:=by
 refine AJ hD λf od an AA=>Aa AA λsl oc AA=>AG AA λkV dc pm cd ct a l c k=>AR hd λN ps Z Uu h3 AA=>AB AA λh4 z=>?_;have F:=aO2 (st:=st) l c k;have D:DefAt K mg n st ps f _:=⟨F,b7 X G a,F.binds h4⟩;rcases z with z|⟨hn,tab,z,h6,h7⟩;.exact⟨_,_,_,_,_,_,D,Z,Uu,h3,z,ba3⟩
 .exact⟨_,_,_,_,_,_,D,Z,Uu,h3,z,bK5 hn (PySem.W.law_code X G (aw6<|hT _ hn) (b7 X G a) (X _ _ l) rfl) h6<|cs6 h7⟩
def good_of{K}{mg}{n:String}{st}(X:K.In h)(G:h.Ns aV mg)(hT:∀x∈names,(bI K x).isSome=bY)(hD:ck3 K n st)(hd:DT names P n d st):Good (aJ3 names P K) (bS6 names K) mg n d:=aw4 X G hT hD hd
theorem aH3{α:Type}{Q:String->α->Prop}:∀{tbl:List<|String×α},(∀p∈tbl,Q p.1 p.2)->∀f d,tbl.lookup f=al d->Q f d|[],_,f,d,h=>by cases h|(g,e)::tbl,H,f,d,h=>by rw[bj]at h;cases q:f==g with|true=>simp_all|false=>rw[q]at h;exact aH3 (λp hp=>H p<|ah _ hp) f d h
def cw2(K:ac)(c:String):Bool:=match bJ K aV (c)with|some<|al<|.ref Cc=>cm1 K Cc&&(excI K Cc&&(cu K (.ref Cc) (.ref Cc)==al bY&&(bz K (.ref Cc) (.type "ValueError")==al bY&&bJ K aV ("ValueError")==al aT)))|_=>ce
noncomputable def cv1(K:ac)(c:String):Bool:=match bJ K aV (c)with|some<|al<|.ref _=>bY|_=>ce
noncomputable def cw5(K:ac)(c d:String):Bool:=match bJ K aV<|c,bJ K aV (d)with|some<|al<|.ref Cc,al<|al<|.ref D=>bz K (.ref Cc) (.ref D)==al (oA c d)&&cu K (.ref Cc) (.ref D)==al (oA c d)|_,_=>ce
def bP3(K:ac)(cs ts:List String):Bool:=cs.all (cw2 K)&&(ts.all (cv1 K)&&cs.all λc=>ts.all λd=>cw5 K c d)
set_option tactic.hygienic true in def ap1{K:ac}{mg:yD}(X:K.In h)(G:h.Ns aV mg)(hx:bP3 K cs ts=bY):(∀c:String,cs.contains c=bY->∃Cc,mg (c:Str)=al (.ref Cc)/\ExcCls K Cc/\excI K Cc=bY)/\(∀c:String,ts.contains c=bY->∃Cc,mg (c:Str)=al (.ref Cc))/\(∀(c d:String)(Cc D:Addr),cs.contains c=bY->ts.contains d=bY->mg (c:Str)=al (.ref Cc)->mg (d:Str)=al (.ref D)->bz K (.ref Cc) (.ref D)=al (oA c d))/\(∀(c d:String)(Cc D:Addr),cs.contains c=bY->ts.contains d=bY->mg (c:Str)=al (.ref Cc)->mg (d:Str)=al (.ref D)->cu K (.ref Cc) (.ref D)=al (oA c d))/\(∀(c:String)(Cc:Addr),cs.contains c=bY->mg (c:Str)=al (.ref Cc)->cu K (.ref Cc) (.ref Cc)=al bY)/\(∀c:String,cs.contains c=bY->mg ("ValueError":Str)=aT)/\∀(c:String)(Cc:Addr),cs.contains c=bY->mg (c:Str)=al (.ref Cc)->bz K (.ref Cc) (.type "ValueError")=al true:=by
 unfold bP3 at hx;simp only[ae]at hx;obtain⟨h1,h2,h3⟩:=hx;have one:∀c:String,cs.contains c=bY->∃Cc,mg (c:Str)=al (.ref Cc)/\ExcCls K Cc/\excI K Cc=bY/\cu K (.ref Cc) (.ref Cc)=al bY/\bz K (.ref Cc) (.type "ValueError")=al bY/\mg ("ValueError":Str)=none:=λc hc=>by
  have q:=aG.mp h1 c<|da.mp hc;unfold cw2 at q;split at q;.rename_i Cc e;rw[ae,ae,ae,ae]at q;exact⟨Cc,b7 X G e,bM1 q.1,q.2.1,gv q.2.2.1,gv q.2.2.2.1,kX X G<|gv q.2.2.2.2⟩
  .cases q
 have two:∀(c d:String)(Cc D:Addr),cs.contains c=bY->ts.contains d=bY->mg (c:Str)=al (.ref Cc)->mg (d:Str)=al (.ref D)->bz K (.ref Cc) (.ref D)=al (oA c d)/\cu K (.ref Cc) (.ref D)=al (oA c d):=λc d Cc D hc hd mc Z=>by
  have q:=aG.mp (aG.mp h3 c<|da.mp hc) d<|da.mp hd;unfold cw5 at q;split at q;.rename_i z D' e1 e2;have Uu:=b7 X G e1;have Y:=b7 X G e2;rw[mc]at Uu;cases Uu;rw[Z]at Y;cases Y;rw[ae]at q;exact⟨gv q.1,gv q.2⟩
  .cases q
 refine⟨λc hc=>?_,λc hc=>?_,λc d Cc D a b e f=>(two c d Cc D a b e f).1,λc d Cc D a b e f=>(two c d Cc D a b e f).2,λc Cc hc J=>?_,λc hc=>?_,λc Cc hc J=>?_⟩;.obtain⟨Cc,a,b,e,_⟩:=one c hc;exact⟨Cc,a,b,e⟩
 .have q:=aG.mp h2 c<|da.mp hc;unfold cv1 at q;split at q;.rename_i Cc e;exact⟨Cc,b7 X G e⟩
  .cases q
 .obtain⟨z,a,_,_,b,_⟩:=one c hc;rw[J]at a;cases a;exact b
 .obtain⟨z,_,_,_,_,_,b⟩:=one c hc;exact b
 .obtain⟨z,a,_,_,_,b,_⟩:=one c hc;rw[J]at a;cases a;exact b
def cs9(K:ac)(c m:String)(st:Stmt):Prop:=∃(f Cc:Addr)(od an:yJ)(sl:yF)(oc kV dc pm cd ct:Value),bJ K aV (c)=al (al<|.ref Cc)/\bu K (.ref Cc) (m)=al (al<|.ref f)/\K.lookup f=al ⟨oc,od,.func<|cU (m) ((c++"."++m:String)) (defArgs st) (defBody st) (defScope st) .none kV dc pm an cd ct,sl⟩/\fF K cd ((c++"."++m:String))=bY/\bR K (.ref f)=bY/\iG K (.ref f)=bY
def cg8(x q:Str)(st:Stmt)(ps:yI):Prop:=∀kV doc pm(an:yJ)cdv ct(us:yH),us.length=ps.length->eY (cU x q (defArgs st) (defBody st) (defScope st) .none kV doc pm an cdv ct) ⟨us,[]⟩=pure (ps.zip us)
def DTM(c m:String)(d:oY)(st:Stmt):Prop:=∃N ps,FnScope N ps (defScope st)/\ps.length=d.ps/\N.length=d.ps+d.vs/\cg8 (m) ((c++"."++m:String)) st ps/\mSs ⟨N,defScope st,λ_ _ _=>ce⟩ d.body (defBody st)=bY
noncomputable def cv6(K:ac)(Cc:Addr)(f:List Nat):Bool:=match bu K (.ref Cc) ⟨f.toArray⟩with|some aT=>bY|_=>ce
noncomputable def saB(K:ac)(Cc:Addr):Bool:=match bu K (.ref Cc) "__setattr__"with|some<|al<|.builtin x=>x=="object.__setattr__"|_=>ce
def bP2(K:ac)(c:String)(fs:List<|List Nat):Bool:=match bJ K aV (c)with|some<|al<|.ref Cc=>eJ K Cc Str.empty&&(fx K Cc&&(gY K Cc&&(saB K Cc&&(dS K Cc&&(bR K (.ref Cc)&&fs.all (cv6 K Cc))))))|_=>ce
set_option tactic.hygienic true in def aw7{K}(h:bP2 K c fs=bY):∃Cc,bJ K aV (c)=al (al<|.ref Cc)/\Cls K Cc/\dS K Cc=bY/\bR K (.ref Cc)=bY/\∀f∈fs,NoAttr K Cc ⟨f.toArray⟩:=by
 unfold bP2 at h;split at h
 .rename_i Cc e;simp only[ae]at h;refine AV h λh1 Y h3 z Z AA=>AB AA λUu h7=>⟨Cc,e,⟨h1,Y,h3,?_⟩,Z,Uu,λf J=>?_⟩
  .unfold saB at z;split at z;.rename_i x e2;rw[e2,gv z]
   .cases z
  .have:=aG.mp h7 f J;unfold cv6 at this;split at this;.rename_i e2;exact e2
   simp_all
 .cases h
theorem z0{α β:Type}[BEq α][LawfulBEq α]:∀{tbl:List<|α×β}{a}{b},tbl.lookup a=al b->(a,b)∈tbl|[],_,_,h=>by cases h|(g,e)::tbl,a,b,h=>by rw[bj]at h;cases q:a==g with|true=>simp_all|false=>rw[q]at h;exact ah _<|z0 h
set_option tactic.hygienic true in def bX0{K}{mg:yD}{mtb:List<|(String×String)×oY×Stmt}{obt:List<|String×List (List Nat)}(X:K.In h)(G:h.Ns aV mg)(e1:∀c m,P.mt c m=(mtb.lookup (c,m)).map (·.1))(e2:∀c f,P.att c f=(obt.lookup c).any λl=>l.contains f)(hO:(obt.all λp=>bP2 K p.1 p.2)=bY)(hc:(mtb.all λp=>(obt.lookup p.1.1).isSome&&(mtb.lookup (p.1.1,"__init__")).isSome)=bY)(hM:∀p∈mtb,cs9 K p.1.1 p.1.2 p.2.2)(hT:∀p∈mtb,DTM p.1.1 p.1.2 p.2.1 p.2.2):(∀c m d,P.mt c m=al d->GoodM (aJ3 names P K) c m d)/\(∀(c:String)(f:List Nat)(Cc:Addr),P.att c f=bY->(aJ3 names P K).cls c=al Cc->NoAttr K Cc ⟨f.toArray⟩)/\∀(c:String)(Cc:Addr),(aJ3 names P K).cls c=al Cc->mg (c:Str)=al (.ref Cc)/\dS K Cc=bY/\bR K (.ref Cc)=true:=by
 have ns:∀{c:String}{Cc:Addr},(aJ3 names P K).cls c=al Cc->bJ K aV (c:Str)=al (al<|.ref Cc)/\(P.mt c "__init__").isSome=true:=λ{c Cc}e=>by have e:aI6 P K c=al Cc:=e;unfold aI6 at e;grind
 have at_:∀{c:String}{l:List<|List Nat},obt.lookup c=al l->bP2 K c l=true:=λ{c l}e=>aG.mp hO _<|z0 e;have ob:∀{c m:String}{p:oY×Stmt},mtb.lookup (c,m)=al p->∃l,obt.lookup c=al l:=λ{c m p}e=>by have:=aG.mp hc _<|z0 e;rw[ae]at this;exact cw.mp this.1
 refine⟨λc m d e=>?_,λc f Cc e q=>?_,λc Cc q=>?_⟩
 .rw[e1]at e;obtain⟨p,hp,rfl⟩:=bp.mp e;refine AF (ob hp) λl J=>AH (aw7<|at_ J) λCc z n2 _=>AJ (hM _<|z0 hp) λf Uu od AA=>AJ AA λan sl oc AA=>AG AA λkV dc pm cd ct a1 a2 a3 AA=>AI AA λa4 a5 Z=>?_;rw[z]at a1;cases a1;refine AR (hT _<|z0 hp) λN ps b1 b2 b3 AA=>AB AA λb4 b5=>?_;have F:=aO2 (st:=p.2) a3 a4 a5;have hi:=aG.mp hc _<|z0 hp;rw[ae]at hi;have hcl:aI6 P K c=al Cc:=by unfold aI6;grind
  exact⟨p.2,N,ps,f,_,Cc,⟨hcl,n2⟩,⟨a2,Z,a5⟩,F,F.binds b4,b1,b2,b3,b5⟩
 .rw[e2]at e;cases J:obt.lookup c with|none=>simp_all|some l=>rw[J]at e;refine AQ (aw7<|at_ J) λUu z _ _ _ n5=>?_;simp_all
 .refine AB (ns q) λn0 hi=>?_;rw[e1]at hi;refine AF (cw.mp hi) λd hd=>AD (bp.mp hd) λp hp _=>AF (ob hp) λl J=>AQ (aw7<|at_ J) λUu z _ n3 n4 _=>?_;cases n0▸z;exact⟨b7 X G n0,n3,n4⟩
def DTX(c m:String)(d:pP)(st:Stmt):Prop:=∃N ps,FnScope N ps (defScope st)/\ps.length=d.ps/\N.length=d.ps+d.vs/\cg8 (m) ((c++"."++m:String)) st ps/\mX ⟨N,defScope st,λ_ _ _=>ce⟩ d.body (defBody st)=bY
def bI5{K}{mtb:List<|(String×String)×oY×Stmt}{mxb:List<|(String×String)×pP×Stmt}{obt:List<|String×List (List Nat)}(e1:∀c m,P.mt c m=(mtb.lookup (c,m)).map (·.1))(Z:∀c m,P.mx c m=(mxb.lookup (c,m)).map (·.1))(hO:(obt.all λp=>bP2 K p.1 p.2)=bY)(hc:(mxb.all λp=>(obt.lookup p.1.1).isSome&&(mtb.lookup (p.1.1,"__init__")).isSome)=bY)(hM:∀p∈mxb,cs9 K p.1.1 p.1.2 p.2.2)(hT:∀p∈mxb,DTX p.1.1 p.1.2 p.2.1 p.2.2):∀c m d,P.mx c m=al d->GoodX (aJ3 names P K) c m d:=λc m d e=>by
 have at_:∀{c:String}{l:List<|List Nat},obt.lookup c=al l->bP2 K c l=true:=λ{c l}e=>aG.mp hO _<|z0 e;rw[Z]at e;obtain⟨p,hp,rfl⟩:=bp.mp e;have hi:=aG.mp hc _<|z0 hp;rw[ae]at hi;refine AF (cw.mp hi.1) λl J=>AH (aw7<|at_ J) λCc z n2 _=>AJ (hM _<|z0 hp) λf Cc' od AA=>AJ AA λan sl oc AA=>AG AA λkV dc pm cd ct a1 a2 a3 AA=>AI AA λa4 a5 Uu=>?_;cases z▸a1;refine AR (hT _<|z0 hp) λN ps b1 b2 b3 AA=>AB AA λb4 b5=>?_;have F:=aO2 (st:=p.2) a3 a4 a5;have hcl:aI6 P K c=al Cc:=by unfold aI6;refine AF (cw.mp hi.2) λY h=>?_;simp_all
 exact⟨p.2,N,ps,f,_,Cc,⟨hcl,n2⟩,⟨a2,Uu,a5⟩,F,F.binds b4,b1,b2,b3,b5⟩
end L2
end
noncomputable section
namespace DV
noncomputable def ac8:Df:=⟨"letters_of",1,0,(.cons (.ret<|.slU (.gl "LETTERS") (.ix (.X 0) (.K<|.int 0))) .nil)⟩
noncomputable def ac1:Df:=⟨"rooms_of",1,0,(.cons (.ret<|.ix (.X 0) (.K<|.int 1)) .nil)⟩
noncomputable def jN:Df:=⟨"begins_of",1,0,(.cons (.ret<|.ix (.X 0) (.K<|.int 2)) .nil)⟩
noncomputable def ac2:Df:=⟨"doors_of",1,0,(.cons (.ret<|.ix (.X 0) (.K<|.int 4)) .nil)⟩
noncomputable def ad3:Df:=⟨"grid",2,2,(.cons (.A (.Y 2) (.J .nil)) (.cons (.fo (.Y 3) (.rg<|.X 0) (.cons (.ex<|.me .append (.X 2) (.cons (.mk .tuple<|.comp (.Y 0) (.rg<|.X 0) (.callV 1<|.cons (.X 2) (.cons (.X 0) .nil)) [aT,al 1,al 3]) .nil)) .nil)) (.cons (.ret<|.mk .tuple<|.seq<|.X 2) .nil)))⟩
noncomputable def ad8:Df:=⟨"least",1,0,(.cons (.ret<|.mkD .min (.compIf (.Y 0) (.seq<|.X 0) (.notN<|.X 0) (.X 0) [aT]) (.K .N)) .nil)⟩
noncomputable def ae0:Df:=⟨"added",2,0,(.cons (.ite (.or (.isN<|.X 0) (.isN<|.X 1)) (.cons (.ret<|.K .N) .nil) .nil) (.cons (.ret<|.G .add (.X 0) (.X 1)) .nil))⟩
noncomputable def ae1:Df:=⟨"plain",1,0,(.cons (.ret<|.callC "grid"<|.ex (.X 0) (.lam "plain.0" [] .nil)) .nil)⟩
noncomputable def ac0:Lm:=⟨"plain.0",2,0,(.ite (.Z .eq (.X 0) (.X 1)) (.K<|.int 0) (.K .N))⟩
noncomputable def ac9:Df:=⟨"product",2,1,(.cons (.A (.Y 2) (.bi .len<|.cons (.X 0) .nil)) (.cons (.ret<|.callC "grid"<|.ex (.X 2) (.lam "product.0" [2,0,1] .nil)) .nil))⟩
noncomputable def ab2:Lm:=⟨"product.0",2,3,(.call "least"<|.ex (.mk .list<|.comp (.Y 0) (.rg<|.X 2) (.call "added"<|.ex (.ix (.ix (.X 1) (.X 2)) (.X 0)) (.ex (.ix (.ix (.X 3) (.X 0)) (.X 4)) .nil)) [aT,al 3,al 0,al 4,al 1]) .nil)⟩
noncomputable def aa9:Df:=⟨"letter_table",2,1,(.cons (.und 2) (.cons (.ret<|.callC "grid"<|.ex (.call "rooms_of"<|.ex (.X 0) .nil) (.lam "letter_table.least_fee" [0,1] .nil)) .nil))⟩
noncomputable def aa6:Lm:=⟨"letter_table.least_fee",2,2,(.call "least"<|.ex (.mk .list<|.compIf (.tp [0,1,2,3]) (.seq<|.call "doors_of"<|.ex (.X 2) .nil) (.Z .eq (.tp<|.cons (.X 0) (.cons (.X 1) (.cons (.X 2) .nil))) (.tp<|.cons (.X 4) (.cons (.X 5) (.cons (.X 6) .nil)))) (.X 3) [aT,aT,aT,aT,al 0,al 3,al 1]) .nil)⟩
noncomputable def ab3:Df:=⟨"word_table",2,3,(.cons (.A (.Y 2) (.dc .nil .nil)) (.cons (.A (.Y 3) (.call "plain"<|.ex (.call "rooms_of"<|.ex (.X 0) .nil) .nil)) (.cons (.fo (.Y 4) (.seq<|.X 1) (.cons (.ite (.Z .notin (.X 4) (.X 2)) (.cons (.setIx (.X 2) (.X 4) (.call "letter_table"<|.ex (.X 0) (.ex (.X 4) .nil))) .nil) .nil) (.cons (.A (.Y 3) (.call "product"<|.ex (.X 3) (.ex (.ix (.X 2) (.X 4)) .nil))) .nil))) (.cons (.ret<|.X 3) .nil))))⟩
noncomputable def zO:Df:=⟨"at_begins_and_ends",2,2,.nil⟩
noncomputable def ad5:Df:=⟨"sign_of",1,0,(.cons (.ite (.isN<|.X 0) (.cons (.ret<|.gl "NONE") .nil) .nil) (.cons (.ret<|.ite (.Z .eq (.X 0) (.K<|.int 0)) (.gl "FREE") (.gl "SOME")) .nil))⟩
noncomputable def ad7:Df:=⟨"reading",1,0,(.cons (.ret<|.callC "grid"<|.ex (.bi .len<|.cons (.X 0) .nil) (.lam "reading.0" [0] .nil)) .nil)⟩
noncomputable def ac4:Lm:=⟨"reading.0",2,1,(.call "sign_of"<|.ex (.ix (.ix (.X 2) (.X 0)) (.X 1)) .nil)⟩
noncomputable def qV:Lm:=⟨"plain_signs.0",2,0,(.ite (.Z .eq (.X 0) (.X 1)) (.gl "FREE") (.gl "NONE"))⟩
noncomputable def ap9:Df:=⟨"_law_box",2,4,(.cons (.A (.Y 2) (.K<|.int 0)) (.cons (.ite (.Z .lt (.X 1) (.bi .len<|.cons (.X 0) .nil)) (.cons (.A (.Y 2) (.bi .abs<|.cons (.ix (.X 0) (.X 1)) .nil)) .nil) .nil) (.cons (.ite (.Z .ge (.X 2) (.G .pow (.K<|.int 10) (.K<|.int 18))) (.cons (.ret<|.J<|.cons (.X 2) .nil) .nil) .nil) (.cons (.A (.Y 3) (.K<|.int 0)) (.cons (.fo (.Y 4) (.rg<|.K<|.int 128) (.cons (.A (.Y 5) (.G .mod (.G .mul (.G .add (.G .add (.G .add (.G .mod (.X 2) (.K<|.int 2147483647)) (.G .mul (.K<|.int 7919) (.X 1))) (.G .mul (.K<|.int 104729) (.X 4))) (.K<|.int 97)) (.K<|.int 48271)) (.K<|.int 2147483647))) (.cons (.A (.Y 3) (.G .add (.G .mul (.X 3) (.K<|.int 2147483647)) (.G .mod (.G .add (.G .add (.G .mul (.X 5) (.X 5)) (.G .mul (.K<|.int 31) (.X 4))) (.G .fdiv (.X 2) (.K<|.int 2147483647))) (.K<|.int 2147483647)))) .nil))) (.cons (.ret<|.J<|.cons (.X 3) .nil) .nil))))))⟩
noncomputable def af3:Df:=⟨"_law_draw",2,1,(.cons (.A (.Y 2) (.G .mod (.ix (.X 0) (.K<|.int 0)) (.X 1))) (.cons (.setIx (.X 0) (.K<|.int 0) (.G .fdiv (.ix (.X 0) (.K<|.int 0)) (.X 1))) (.cons (.ret<|.X 2) .nil)))⟩
noncomputable def aa7:Df:=⟨"sign_product",2,1,(.cons (.A (.Y 2) (.bi .len<|.cons (.X 0) .nil)) (.cons (.ret<|.callC "grid"<|.ex (.X 2) (.lam "sign_product.0" [2,0,1] .nil)) .nil))⟩
noncomputable def aa2:Lm:=⟨"sign_product.0",2,3,(.mk .min<|.comp (.Y 0) (.rg<|.X 2) (.bi .max2<|.cons (.ix (.ix (.X 1) (.X 2)) (.X 0)) (.cons (.ix (.ix (.X 3) (.X 0)) (.X 4)) .nil)) [aT,al 3,al 0,al 4,al 1])⟩
noncomputable def ab4:Df:=⟨"_law_product",2,4,(.cons (.A (.Y 2) (.J .nil)) (.cons (.fo (.Y 3) (.seq<|.X 0) (.cons (.A (.Y 4) (.mk .list<|.comp (.Y 0) (.seq<|.X 3) (.K<|.int 3) [aT])) (.cons (.fo (.Y 5) (.rg<|.bi .len<|.cons (.X 3) .nil) (.cons (.ite (.Z .lt (.ix (.X 3) (.X 5)) (.K<|.int 3)) (.cons (.A (.Y 4) (.mk .list<|.comp (.Y 0) (.rg<|.bi .len<|.cons (.X 3) .nil) (.bi .min2<|.cons (.ix (.X 1) (.X 0)) (.cons (.bi .max2<|.cons (.ix (.X 2) (.X 3)) (.cons (.ix (.ix (.X 4) (.X 3)) (.X 0)) .nil)) .nil)) [aT,al 4,al 3,al 5,al 1])) .nil) .nil) .nil)) (.cons (.ex<|.me .append (.X 2) (.cons (.mk .tuple<|.seq<|.X 4) .nil)) .nil)))) (.cons (.ret<|.mk .tuple<|.seq<|.X 2) .nil)))⟩
noncomputable def ab7:Df:=⟨"is_steady",1,0,(.cons (.ret<|.Z .eq (.call "sign_product"<|.ex (.X 0) (.ex (.X 0) .nil)) (.X 0)) .nil)⟩
noncomputable def ab9:Df:=⟨"round_of",1,0,(.cons (.ite (.or (.Z .eq (.X 0) (.gl "FREE")) (.Z .eq (.X 0) (.gl "NONE"))) (.cons (.ret<|.X 0) .nil) .nil) (.cons (.ret<|.gl "UNBOUND") .nil))⟩
noncomputable def ab8:Df:=⟨"sharpened",1,2,(.cons (.ite (.not<|.call "is_steady"<|.ex (.X 0) .nil) (.cons .raise .nil) .nil) (.cons (.A (.Y 1) (.bi .len<|.cons (.X 0) .nil)) (.cons (.A (.Y 2) (.mk .list<|.comp (.Y 0) (.rg<|.X 1) (.call "round_of"<|.ex (.ix (.ix (.X 1) (.X 0)) (.X 0)) .nil) [aT,al 0])) (.cons (.ret<|.callC "grid"<|.ex (.X 1) (.lam "sharpened.0" [1,0,2] .nil)) .nil))))⟩
noncomputable def ab0:Lm:=⟨"sharpened.0",2,3,(.mk .min<|.comp (.Y 0) (.rg<|.X 2) (.bi .max3<|.cons (.ix (.ix (.X 1) (.X 2)) (.X 0)) (.cons (.ix (.X 3) (.X 0)) (.cons (.ix (.ix (.X 1) (.X 0)) (.X 4)) .nil))) [aT,al 3,al 0,al 4,al 1])⟩
noncomputable def jB:Df:=⟨"steady_power",1,2,(.cons (.A (.Y 1) (.K<|.int 1)) (.cons (.A (.Y 2) (.X 0)) (.cons (.whl (.not<|.call "is_steady"<|.ex (.X 2) .nil) (.cons (.aug 1<|.K<|.int 1) (.cons (.A (.Y 2) (.call "sign_product"<|.ex (.X 2) (.ex (.X 0) .nil))) .nil))) (.cons (.ret<|.tp<|.cons (.X 1) (.cons (.X 2) .nil)) .nil))))⟩
noncomputable def ac5:Df:=⟨"word_signs",2,0,(.cons (.ret<|.call "reading"<|.ex (.call "word_table"<|.ex (.X 0) (.ex (.X 1) .nil)) .nil) .nil)⟩
noncomputable def ab6:Df:=⟨"_law_letter_signs",2,6,(.cons (.A (.Y 2) (.ix (.X 0) (.K<|.int 1))) (.cons (.A (.Y 3) (.mk .list<|.comp (.Y 0) (.rg<|.X 2) (.mk .list<|.comp (.Y 0) (.rg<|.X 1) (.K<|.int 3) [aT]) [aT,al 2])) (.cons (.fo (.tp [4,5,6,7]) (.seq<|.ix (.X 0) (.K<|.int 4)) (.cons (.ite (.Z .eq (.X 5) (.X 1)) (.cons (.setIx (.ix (.X 3) (.X 4)) (.X 6) (.bi .min2<|.cons (.ix (.ix (.X 3) (.X 4)) (.X 6)) (.cons (.bi .int<|.cons (.Z .gt (.X 7) (.K<|.int 0)) .nil) .nil))) .nil) .nil) .nil)) (.cons (.ret<|.mk .tuple<|.comp (.Y 0) (.seq<|.X 3) (.mk .tuple<|.seq<|.X 0) [aT]) .nil))))⟩
noncomputable def qU:Df:=⟨"is_letter_step",2,0,(.cons (.ret<|.and (.call "is_tuple_of"<|.ex (.X 0) (.ex (.K<|.int 2) .nil)) (.and (.Z .eq (.ix (.X 0) (.K<|.int 0)) (.K<|.str [108,101,116,116,101,114])) (.call "is_letter"<|.ex (.ix (.X 0) (.K<|.int 1)) (.ex (.X 1) .nil)))) .nil)⟩
noncomputable def jy:Df:=⟨"is_pair_step",2,0,(.cons (.ret<|.and (.call "is_tuple_of"<|.ex (.X 0) (.ex (.K<|.int 3) .nil)) (.and (.Z .eq (.ix (.X 0) (.K<|.int 0)) (.K<|.str [112,97,105,114])) (.and (.call "is_ahead"<|.ex (.ix (.X 0) (.K<|.int 1)) (.ex (.X 1) .nil)) (.call "is_ahead"<|.ex (.ix (.X 0) (.K<|.int 2)) (.ex (.X 1) .nil))))) .nil)⟩
noncomputable def ji:Df:=⟨"is_sharp_step",2,0,(.cons (.ret<|.and (.call "is_tuple_of"<|.ex (.X 0) (.ex (.K<|.int 2) .nil)) (.and (.Z .eq (.ix (.X 0) (.K<|.int 0)) (.K<|.str [115,104,97,114,112])) (.call "is_ahead"<|.ex (.ix (.X 0) (.K<|.int 1)) (.ex (.X 1) .nil)))) .nil)⟩
noncomputable def ad4:Df:=⟨"_law_sharp",1,8,(.cons (.A (.Y 1) (.bi .len<|.cons (.X 0) .nil)) (.cons (.A (.Y 2) (.J .nil)) (.cons (.fo (.Y 3) (.rg<|.X 1) (.cons (.A (.Y 4) (.J .nil)) (.cons (.fo (.Y 5) (.rg<|.X 1) (.cons (.A (.Y 6) (.K<|.int 3)) (.cons (.fo (.Y 7) (.rg<|.X 1) (.cons (.A (.Y 8) (.ix (.ix (.X 0) (.X 7)) (.X 7))) (.cons (.ite (.Z .eq (.X 8) (.K<|.int 1)) (.cons (.A (.Y 8) (.K<|.int 2)) .nil) .nil) (.cons (.A (.Y 6) (.bi .min2<|.cons (.X 6) (.cons (.bi .max3<|.cons (.ix (.ix (.X 0) (.X 3)) (.X 7)) (.cons (.X 8) (.cons (.ix (.ix (.X 0) (.X 7)) (.X 5)) .nil))) .nil))) .nil)))) (.cons (.ex<|.me .append (.X 4) (.cons (.X 6) .nil)) .nil)))) (.cons (.ex<|.me .append (.X 2) (.cons (.mk .tuple<|.seq<|.X 4) .nil)) .nil)))) (.cons (.ret<|.mk .tuple<|.seq<|.X 2) .nil))))⟩
noncomputable def clA:As:=.ex (.tp<|.cons (.K<|.str [108,101,116,116,101,114]) (.cons (.X 2) .nil)) (.ex (.call "word_signs"<|.ex (.X 0) (.ex (.X 2) .nil)) .nil)
def ck5:Ss:=.cons (.ex<|.mcall (.X 1) "take" clA) .nil
def clF:S:=.fo (.Y 2) (.seq<|.call "letters_of"<|.ex (.X 0) .nil) ck5
noncomputable def ah0:List Nat:=[115,116,101,112,115]
def clC:E:=.Z .lt (.X 3) (.bi .len<|.cons (.attr (.X 1) ah0) .nil)
noncomputable def clS:E:=.mcall (.X 1) "take_sharp"<|.ex (.X 3) .nil
noncomputable def clP:E:=.mcall (.X 1) "take_pairs"<|.ex (.X 3) .nil
def clB:Ss:=.cons (.ex clS) (.cons (.ex clP) (.cons (.aug 3<|.K<|.int 1) .nil))
abbrev au3:Ss:=.cons (.A (.Y 1) (.new "ClosedSet" .nil)) (.cons clF<|.cons (.A (.Y 3) (.K<|.int 0)) (.cons (.whl clC clB) (.cons (.ret<|.mk .tuple<|.seq<|.attr (.X 1) ah0) .nil)))
def af2:Df:=⟨"closed",1,3,au3⟩
noncomputable def smT:Ss:=(.cons (.A (.Y 8) (.call "_law_draw"<|.ex (.X 0) (.ex (.X 3) .nil))) (.cons (.A (.Y 9) (.call "_law_draw"<|.ex (.X 0) (.ex (.X 3) .nil))) (.cons (.A (.Y 10) (.ix (.K<|.str [97,98,99]) (.call "_law_draw"<|.ex (.X 0) (.ex (.X 2) .nil)))) (.cons (.ex<|.me .append (.X 6) (.cons (.tp<|.cons (.X 8) (.cons (.X 10) (.cons (.X 9) (.cons (.call "_law_draw"<|.ex (.X 0) (.ex (.X 4) .nil)) .nil)))) .nil)) .nil))))
abbrev aE2:Ss:=.cons (.A (.Y 2) (.G .add (.K<|.int 1) (.call "_law_draw"<|.ex (.X 0) (.ex (.K<|.int 3) .nil)))) (.cons (.A (.Y 3) (.G .add (.K<|.int 1) (.call "_law_draw"<|.ex (.X 0) (.ex (.X 1) .nil)))) (.cons (.A (.Y 4) (.G .add (.K<|.int 2) (.G .mul (.K<|.int 2) (.call "_law_draw"<|.ex (.X 0) (.ex (.K<|.int 2) .nil))))) (.cons (.A (.Y 5) (.G .add (.K<|.int 1) (.call "_law_draw"<|.ex (.X 0) (.ex (.G .add (.G .mul (.K<|.int 2) (.X 3)) (.K<|.int 3)) .nil)))) (.cons (.A (.Y 6) (.J .nil)) (.cons (.fo (.Y 7) (.rg<|.X 5) smT) (.cons (.ret<|.tp<|.cons (.X 2) (.cons (.X 3) (.cons (.tp<|.cons (.K<|.int 0) .nil) (.cons (.tp<|.cons (.G .sub (.X 3) (.K<|.int 1)) .nil) (.cons (.mk .tuple<|.seq<|.X 6) .nil))))) .nil))))))
def ag4:Df:=⟨"_law_small",2,9,aE2⟩
noncomputable def mdT:Ss:=(.cons (.ite (.Z .eq (.ix (.X 3) (.K<|.int 0)) (.K<|.str [108,101,116,116,101,114])) (.cons (.ex<|.me .append (.X 2) (.cons (.call "_law_letter_signs"<|.ex (.X 0) (.ex (.ix (.X 3) (.K<|.int 1)) .nil)) .nil)) .nil) (.cons (.ite (.Z .eq (.ix (.X 3) (.K<|.int 0)) (.K<|.str [112,97,105,114])) (.cons (.ex<|.me .append (.X 2) (.cons (.call "_law_product"<|.ex (.ix (.X 2) (.ix (.X 3) (.K<|.int 1))) (.ex (.ix (.X 2) (.ix (.X 3) (.K<|.int 2))) .nil)) .nil)) .nil) (.cons (.A (.Y 4) (.ix (.X 2) (.ix (.X 3) (.K<|.int 1)))) (.cons (.ite (.or (.Z .ne (.ix (.X 3) (.K<|.int 0)) (.K<|.str [115,104,97,114,112])) (.Z .ne (.call "_law_product"<|.ex (.X 4) (.ex (.X 4) .nil)) (.X 4))) (.cons (.ret<|.K .N) .nil) .nil) (.cons (.ex<|.me .append (.X 2) (.cons (.call "_law_sharp"<|.ex (.X 4) .nil) .nil)) .nil)))) .nil)) .nil)
abbrev aP6:Ss:=.cons (.A (.Y 2) (.J .nil)) (.cons (.fo (.Y 3) (.seq<|.X 1) mdT) (.cons (.ret<|.X 2) .nil))
def al4:Df:=⟨"_law_made",2,3,aP6⟩
noncomputable def cl7:E:=.mk .all<|.comp (.Y 0) (.seq<|.X 1) (.Z .isin (.X 0) (.X 1)) [aT,al 3]
abbrev bb7:Ss:=.cons (.A (.Y 1) (.call "_law_closed"<|.ex (.X 0) (.ex (.K<|.int 80) .nil))) (.cons (.ite (.Z .gt (.bi .len<|.cons (.X 1) .nil) (.K<|.int 80)) (.cons (.ret<|.call "_law_refused"<|.ex (.X 0) .nil) .nil) .nil) (.cons (.A (.Y 2) (.call "closed"<|.ex (.X 0) .nil)) (.cons (.ite (.or (.not<|.bi .isTup<|.cons (.X 2) .nil) (.Z .ne (.bi .len<|.cons (.X 2) .nil) (.bi .len<|.cons (.X 1) .nil))) (.cons (.ret<|.K<|.T ce) .nil) .nil) (.cons (.A (.Y 3) (.call "_law_made"<|.ex (.X 0) (.ex (.X 2) .nil))) (.cons (.ret<|.and (.notN<|.X 3) cl7) .nil)))))
def aH5:Df:=⟨"_law_one",1,3,bb7⟩
noncomputable def cf4:E:=.ite (.and (.Z .eq (.X 1) (.K<|.int 0)) (.Z .eq (.call "_law_draw"<|.ex (.X 2) (.ex (.K<|.int 4) .nil)) (.K<|.int 3))) (.K<|.int 5) (.K<|.int 3)
def cn6:Ss:=(.cons (.A (.Y 2) (.call "_law_box"<|.ex (.X 0) (.ex (.X 1) .nil))) (.cons (.A (.Y 3) (.call "_law_small"<|.ex (.X 2) (.ex cf4 .nil))) (.cons (.ite (.not<|.call "_law_one"<|.ex (.X 3) .nil) (.cons (.ret<|.K<|.T ce) .nil) .nil) (.cons (.ite (.Z .gt (.ix (.X 3) (.K<|.int 1)) (.K<|.int 3)) (.cons (.ret<|.K<|.T bY) .nil) .nil) .nil))))
abbrev ar0:Ss:=.cons (.fo (.Y 1) (.rng3 (.K<|.int 0) (.G .add (.bi .min2<|.cons (.K<|.int 2) (.cons (.bi .len<|.cons (.X 0) .nil) .nil)) (.K<|.int 1)) (2)) cn6) (.cons (.ret<|.K<|.T bY) .nil)
def ae2:Df:=⟨"law",1,3,ar0⟩
noncomputable def ap6:List Nat:=[116,97,98,108,101,115]
noncomputable def am2:List Nat:=[115,101,101,110]
abbrev zW:Ss:=.cons (.setA (.X 0) ah0<|.J .nil) (.cons (.setA (.X 0) ap6<|.J .nil) (.cons (.setA (.X 0) am2 .dicT) .nil))
def aa8:Df:=⟨"ClosedSet.__init__",1,0,zW⟩
abbrev qv:Ss:=.cons (.ite (.Z .isin (.X 2) (.attr (.X 0) am2)) (.cons .retN .nil) .nil) (.cons (.ite (.Z .eq (.bi .len<|.cons (.attr (.X 0) ah0) .nil) (.gl "MOST_TABLES")) (.cons .raise .nil) .nil) (.cons (.ex<|.me .append (.attr (.X 0) ah0) (.cons (.X 1) .nil)) (.cons (.ex<|.me .append (.attr (.X 0) ap6) (.cons (.X 2) .nil)) (.cons (.setIx (.attr (.X 0) am2) (.X 2) (.K<|.T bY)) .nil))))
def aa3:Df:=⟨"ClosedSet.take",3,0,qv⟩
def shC:E:=.call "is_steady"<|.ex (.ix (.attr (.X 0) ap6) (.X 1)) .nil
def shA:As:=.ex (.tp<|.cons (.K<|.str [115,104,97,114,112]) (.cons (.X 1) .nil)) (.ex (.call "sharpened"<|.ex (.ix (.attr (.X 0) ap6) (.X 1)) .nil) .nil)
abbrev zS:Ss:=.cons (.ite shC (.cons (.ex<|.mcall (.X 0) "take" shA) .nil) .nil) .nil
def aa4:Df:=⟨"ClosedSet.take_sharp",2,0,zS⟩
noncomputable def aa5:Df:=⟨"ClosedSet.take_pairs",2,1,(.cons (.fo (.Y 2) (.rg<|.G .add (.X 1) (.K<|.int 1)) (.cons (.ex<|.mcall (.X 0) "take"<|.ex (.tp<|.cons (.K<|.str [112,97,105,114]) (.cons (.X 1) (.cons (.X 2) .nil))) (.ex (.call "sign_product"<|.ex (.ix (.attr (.X 0) [116,97,98,108,101,115]) (.X 1)) (.ex (.ix (.attr (.X 0) [116,97,98,108,101,115]) (.X 2)) .nil)) .nil)) (.cons (.ex<|.mcall (.X 0) "take"<|.ex (.tp<|.cons (.K<|.str [112,97,105,114]) (.cons (.X 2) (.cons (.X 1) .nil))) (.ex (.call "sign_product"<|.ex (.ix (.attr (.X 0) [116,97,98,108,101,115]) (.X 2)) (.ex (.ix (.attr (.X 0) [116,97,98,108,101,115]) (.X 1)) .nil)) .nil)) .nil))) .nil)⟩
noncomputable def lcI:S:=.fo (.Y 4) (.seq<|.slU (.K<|.str [97,98,99]) (.ix (.X 0) (.K<|.int 0))) (.cons (.A (.Y 5) (.call "_law_letter_signs"<|.ex (.X 0) (.ex (.X 4) .nil))) (.cons (.ite (.Z .notin (.X 5) (.X 2)) (.cons (.ex<|.me .append (.X 2) (.cons (.X 5) .nil)) (.cons (.ex<|.me .append (.X 3) (.cons (.X 5) .nil)) .nil)) .nil) .nil))
noncomputable def lcC:E:=.and (.Z .lt (.X 6) (.bi .len<|.cons (.X 2) .nil)) (.Z .le (.bi .len<|.cons (.X 2) .nil) (.X 1))
noncomputable def lcL:L:=.comp (.Y 0) (.seq<|.X 3) (.call "_law_product"<|.ex (.X 1) (.ex (.X 0) .nil)) [aT,al 7]
noncomputable def lcT:E:=.Z .eq (.call "_law_product"<|.ex (.X 7) (.ex (.X 7) .nil)) (.X 7)
noncomputable def lcM:L:=.comp (.Y 0) (.seq<|.slU (.X 2) (.G .add (.X 6) (.K<|.int 1))) (.call "_law_product"<|.ex (.X 0) (.ex (.X 1) .nil)) [aT,al 9]
def lcS:Ss:=.cons (.A (.Y 9) (.call "_law_sharp"<|.ex (.X 7) .nil)) (.cons (.ite (.Z .notin (.X 9) (.X 3)) (.cons (.ex<|.me .append (.X 3) (.cons (.X 9) .nil)) (.cons (.A (.Y 8) (.G .add (.G .add (.X 8) (.J<|.cons (.X 9) .nil)) (.mk .list lcM))) .nil)) .nil) .nil)
noncomputable def bz9:Ss:=.cons (.ite (.Z .notin (.X 10) (.X 2)) (.cons (.ex<|.me .append (.X 2) (.cons (.X 10) .nil)) .nil) .nil) .nil
def lcF:S:=.fo (.Y 10) (.seq<|.X 8) bz9
def lcB:Ss:=.cons (.A (.Y 7) (.ix (.X 2) (.X 6))) (.cons (.A (.Y 8) (.mk .list lcL)) (.cons (.ite lcT lcS .nil) (.cons lcF<|.cons (.A (.Y 6) (.G .add (.X 6) (.K<|.int 1))) .nil)))
abbrev ak7:Ss:=.cons (.A (.Y 2) (.J .nil)) (.cons (.A (.Y 3) (.J .nil)) (.cons lcI<|.cons (.A (.Y 6) (.K<|.int 0)) (.cons (.whl lcC lcB) (.cons (.ret<|.X 2) .nil))))
def ae3:Df:=⟨"_law_closed",2,9,ak7⟩
noncomputable def cw8:Df:=⟨"_law_on",3,5,(.cons (.A (.Y 3) (.mk .list<|.comp (.Y 0) (.seq<|.X 2) (.K .N) [aT])) (.cons (.fo (.tp [4,5,6,7]) (.seq<|.ix (.X 0) (.K<|.int 4)) (.cons (.ite (.and (.Z .eq (.X 5) (.X 1)) (.notN<|.ix (.X 2) (.X 4))) (.cons (.ite (.or (.isN<|.ix (.X 3) (.X 6)) (.Z .lt (.G .add (.ix (.X 2) (.X 4)) (.X 7)) (.ix (.X 3) (.X 6)))) (.cons (.setIx (.X 3) (.X 6) (.G .add (.ix (.X 2) (.X 4)) (.X 7))) .nil) .nil) .nil) .nil) .nil)) (.cons (.ret<|.X 3) .nil)))⟩
class Has(P:Pr)(d:Df):Prop where eq:P.df d.name=al d
class HasM(P:Pr)(c m:String)(d:Df):Prop where at_:P.mt c m=al d
class HasA(P:Pr)(c:String)(f:List Nat):Prop where at_:P.att c f=bY
class HasL(P:Pr)(d:Lm):Prop where eq:P.lm d.id=al d
class HasC(P:Pr)(x:String)(v:D):Prop where eq:P.con x=al v
def fin(s:Sto)(c:Ct)(s':Sto):R D:=match c with|.ret v=>ac3 s v s'|.next _=>ac3 s .N s'|_=>.B
@[simp]theorem ja s v s':fin s (.ret v) s'=ac3 s v s':=rfl
@[simp]theorem fin_next s U s':fin s (.next U) s'=ac3 s .N s':=rfl
def zl d[h:Has P d](z:l.length=d.ps):(aa0 P<|n+1).call d.name l s=(exs (aa0 P n) d.body (l.map al++az d.vs aT) s).bind (fin s):=by simp only[aa0,h.eq,z];rfl
def ak5 d[h:HasL P d](z:l.length=d.ps)(hc:cs.length=d.cs)(hn:(D.nclL l&&D.nclL cs&&s.all O.ncl)=bY):(aa0 P<|n+1).lam d.id cs l s=(ev (aa0 P n) d.body (l.map al++cs.map al) s).bind (ac3 s):=by simp only[aa0,h.eq,z,hc,hn,and_self,if_true]
def qD d[h:HasM P c m d](z:l.length=d.ps):(aa0 P<|n+1).mcall c m l s=(exs (aa0 P n) d.body (l.map al++az d.vs aT) s).bind λc s'=>fin s c s':=by simp only[aa0,h.at_,bt2,z];rfl
def aK3[h:HasA P c f]:(aa0 P n).att c f=true:=by
 have:(aa0 P n).att=P.att:=by cases n<;>rfl
 exact this▸h.at_
def bi4[h:HasC P x v]:(aa0 P n).con x=al v:=by cases n<;>exact h.eq
def aj2 s t:ag1 s (s++t)=true:=by unfold ag1;rw[aG];intro i hi;rw[bC]at hi;rw[aB hi];simp
def aS5 s:ag1 s s=true:=by have:=aj2 s [];rwa[aY]at this
def bb4 s t r o(h:o.bnd s.length=bY):ag1 s (s.set r o++t)=true:=by
 unfold ag1;rw[aG];intro i hi;rw[bC]at hi;rw[aB<|by rw[bA];exact hi];by_cases e:r=i;.subst e;rw[bq hi];simp[h]
 .rw[aC e];simp
def zz(h:∀n,d.bnd n=bY)(hr:∀r,d≠.ref r):ac3 s d (s++t)=.ok d s:=by unfold ac3;rw[aj2,dO rfl];simp_all
def zq(h:∀n,d.bnd n=bY)(hr:∀r,d≠.ref r):ac3 s d s=.ok d s:=by have:=zz (s:=s) (t:=[]) h hr;rwa[aY]at this
def aG1(h:∀n,d.bnd n=bY)(hr:∀r,d≠.ref r)(ho:o.bnd s.length=bY):ac3 s d (s.set r o++t)=.ok d (s.set r o):=by unfold ac3;rw[bb4 s t r o ho,dO rfl];simp_all
def aR5(h:∀n,d.bnd n=bY)(hr:∀r,d≠.ref r)(ho:o.bnd s.length=bY):ac3 s d (s.set r o)=.ok d (s.set r o):=by have:=aG1 (t:=[]) (r:=r) h hr ho;rwa[aY]at this
def aB5{u:Sto}(ho:o.bnd s.length=bY):ac3 s (.ref<|s.length+t.length) (s++(t++o::u))=.ok (.ref s.length) (s++[o]):=by unfold ac3;rw[aj2,dO rfl];simp_all
@[simp]theorem zH:ac3 s (.int i) s=.ok (.int i) s:=zq (λ_=>rfl) (by nofun)
@[simp]theorem bp9:ac3 s (.T i) s=.ok (.T i) s:=zq (λ_=>rfl) (by nofun)
@[simp]theorem ap8:ac3 s .N s=.ok .N s:=zq (λ_=>rfl) (by nofun)
@[simp]theorem ce6:ac3 s (.str x) s=.ok (.str x) s:=zq (λ_=>rfl) (by nofun)
set_option tactic.hygienic true in theorem jh:∀{n}{U}{s},al0 c g n U s≠.B->al0 c g (n+1) U s=al0 c g n U s|0,_,_,h=>ij rfl h|n+1,U,s,h=>by rw[show al0 c g (n+1+1) U s=tru (c U s) (λb s=>if b then(g U s).bind λz s=>match z with|.next U=>al0 c g (n+1) U s|.cont U=>al0 c g (n+1) U s|.brk U=>.ok (.next U) s|.ret d=>.ok (.ret d) s else .ok (.next U) s)from rfl];have e:al0 c g (n+1) U s=tru (c U s) (λb s=>if b then(g U s).bind λz s=>match z with|.next U=>al0 c g n U s|.cont U=>al0 c g n U s|.brk U=>.ok (.next U) s|.ret d=>.ok (.ret d) s else .ok (.next U) s):=rfl;rw[e]at h⊢;unfold tru at h⊢;cases hc:c U s with|exc _ _=>rfl|B=>rfl|ok d s1=>rw[hc]at h;cases d with
   |T b=>cases b with|false=>rfl|true=>simp only[R.bind_ok]at h⊢;cases hg:g U s1 with|exc _ _=>rfl|B=>rfl|ok z s2=>rw[hg]at h;simp only[R.bind_ok]at h⊢;cases z with|next U'=>exact jh h|cont U'=>exact jh h|_=>rfl
   |_=>rfl
theorem jj(h:al0 c g n U s≠.B):∀k,al0 c g (n+k) U s=al0 c g n U s|0=>rfl|k+1=>by have e:=jj h k;rw[<-dY,jh<|e▸h,e]
def bW6(h:al0 c g n U s=.ok r t):whl c g U s=.ok r t:=by
 have hb:al0 c g n U s≠.B:=by lia
 have hx:∃n,al0 c g n U s≠.B:=⟨n,hb⟩;unfold whl;rw[dif_pos hx];have J:=jj hx.choose_spec n;have z:=jj hb hx.choose;rw[<-J,lD,z,h]
def aO9(hc:c U s=.ok (.T bY) s1)(z:g U s1=.ok (.next U') s'):whl c g U s=whl c g U' s':=by
 have key:∀n,al0 c g (n+1) U s=al0 c g n U' s':=λn=>by show tru (c U s) _=_;simp_all
 unfold whl;by_cases hx:∃n,al0 c g n U' s'≠.B;.have hy:∃n,al0 c g n U s≠.B:=⟨hx.choose+1,by rw[key];exact hx.choose_spec⟩;rw[dif_pos hx,dif_pos hy];have J:=jj hy.choose_spec<|hx.choose+1;have h:=jj (by rw[key];exact hx.choose_spec) hy.choose;rw[<-J,lD,h,key]
 .have hy:¬∃n,al0 c g n U s≠.B:=λ⟨n,hn⟩=>by cases n with|zero=>exact hn rfl|succ n=>simp_all
  rw[dif_neg hx,dif_neg hy]
def bj3(hc:c U s=.ok (.T ce) s1):whl c g U s=.ok (.next U) s1:=bW6 (n:=1)<|by show tru (c U s) _=_;rw[hc,qF];rfl
theorem jK(P:Nat->Env->Sto->Prop):∀l k U s,P k U s->(∀j U s,j<=l.length->P (k+j) U s->ok s=bY)->(∀j d U s,l[j]?=al d->P (k+j) U s->∃U' s',(g d U s=.ok (.next U') s'\/g d U s=.ok (.cont U') s')/\P (k+j+1) U' s')->∃U' s',am6 ok g l U s=.ok (.next U') s'/\P (k+l.length) U' s'|[],k,U,s,h,o,_=>⟨U,s,by show(if ok s then _ else _)=_;rw[dO<|o 0 U s (aj _) h],h⟩|d::l,k,U,s,h,o,t=>by have ho:=o 0 U s (cy _) h;refine AE (t 0 d U s rfl h) λU1 s1 z J=>AE (jK P l (k+1) U1 s1 J (λj U' s' hj hp=>o (j+1) U' s' (by simp_all) (by grind)) λj d' U' s' hj hp=>by have:=t (j+1) d' U' s' (by simp_all) (by grind);rwa[show k+(j+1)+1=k+1+j+1 by lia]at this) λU2 s2 e Uu=>⟨U2,s2,?_,by grind⟩;show(if ok s then _ else _)=_;rw[dO ho];rcases z with z|z<;>(simp_all)
noncomputable def Nx(Q:Env->Sto->Prop):R Ct->Prop|.ok (.next U) s=>Q U s|.ok (.cont U) s=>Q U s|_=>False
@[simp]theorem bh1 Q U s:Nx Q (.ok (.next U) s)=Q U s:=rfl
@[simp]theorem cr1 Q U s:Nx Q (.ok (.cont U) s)=Q U s:=rfl
def bQ7(e:r=.ok (.next U) s)(h:Q U s):Nx Q r:=by simp_all
def Nx.out:∀{r},Nx Q r->∃U s,(r=.ok (.next U) s\/r=.ok (.cont U) s)/\Q U s|.ok (.next U) s,h=>⟨U,s,.inl rfl,h⟩|.ok (.cont U) s,h=>⟨U,s,.inr rfl,h⟩|.ok (.ret _) _,h=>h.elim|.ok (.brk _) _,h=>h.elim|.exc _ _,h=>h.elim|.B,h=>h.elim
noncomputable def Tst(A B:Sto->Prop):R D->Prop|.ok (.T ce) s=>A s|.ok (.T bY) s=>B s|_=>False
@[simp]theorem cu3 A B b s:Tst A B (.ok (.T b) s)=if b then B s else A s:=by cases b<;>rfl
def ai2{Ww:R α->Prop}(P:Nat->Env->Sto->Prop)(h:P 0 U s)(o:∀(j:Nat)(U:Env)(s:Sto),j<=l.length->P j U s->ok s=bY)(step:∀(j:Nat)(d:D)(U:Env)(s:Sto),l[j]?=al d->P j U s->Nx (P<|j+1) (g d U s))(z:∀U' s',P l.length U' s'->Ww (f (.next U') s')):Ww<|(am6 ok g l U s).bind f:=AE (jK P l 0 U s h (λj U s hj hp=>o j U s hj<|by simp_all) (λj d U s hj hp=>by rw[cb]at hp⊢;exact(step j d U s hj hp).out)) λU' s' e q=>by simp_all
def an4{x:R α}(P:Nat->Env->Sto->Prop)(h:P 0 U s)(o:∀(j:Nat)(U:Env)(s:Sto),j<=l.length->P j U s->ok s=bY)(step:∀(j:Nat)(d:D)(U:Env)(s:Sto),l[j]?=al d->P j U s->Nx (P<|j+1) (g d U s))(z:∀U' s',P l.length U' s'->f (.next U') s'=x):(am6 ok g l U s).bind f=x:=ai2 (Ww:=(·=x)) P h o step z
section
variable{F:Fns}{U:Env}{s:Sto}
@[simp]theorem zN i:ev F (.X i) U s=aI7 U i s:=rfl
@[simp]theorem ev_cst c:ev F (.K c) U s=.ok c.d s:=rfl
@[simp]theorem ev_bin op a b:ev F (.G op a b) U s=(ev F a U s).bind λx s=>(ev F b U s).bind λy s=>am4 op x y s:=rfl
@[simp]theorem ev_not a:ev F (.not a) U s=tru (ev F a U s) λb s=>.ok (.T<|!b) s:=rfl
@[simp]theorem ev_cmp op a b:ev F (.Z op a b) U s=(ev F a U s).bind λx s=>(ev F b U s).bind λy s=>qQ op x y s:=rfl
@[simp]theorem ev_isN a:ev F (.isN a) U s=(ev F a U s).bind λx s=>.ok (.T<|decide<|x=.N) s:=rfl
@[simp]theorem ev_notN a:ev F (.notN a) U s=(ev F a U s).bind λx s=>.ok (.T<|!decide (x=.N)) s:=rfl
@[simp]theorem ev_and a b:ev F (.and a b) U s=tru (ev F a U s) λc s=>if c then tru (ev F b U s) λc s=>.ok (.T c) s else .ok (.T ce) s:=rfl
@[simp]theorem ev_or a b:ev F (.or a b) U s=tru (ev F a U s) λc s=>if c then .ok (.T bY) s else tru (ev F b U s) λc s=>.ok (.T c) s:=rfl
@[simp]theorem ev_ite c a b:ev F (.ite c a b) U s=tru (ev F c U s) λk s=>if k then ev F a U s else ev F b U s:=rfl
@[simp]theorem ev_tup es:ev F (.tp es) U s=(evs F es U s).bind λl s=>.ok (.tp l) s:=rfl
@[simp]theorem ev_lst es:ev F (.J es) U s=(evs F es U s).bind λl s=>ag2 (.J l) s:=rfl
@[simp]theorem ev_ix a b:ev F (.ix a b) U s=(ev F a U s).bind λx s=>(ev F b U s).bind λy s=>ixM x y s:=rfl
@[simp]theorem ev_call f h:ev F (.call f h) U s=(af7 F h U s).bind λl s=>F.call f l s:=rfl
@[simp]theorem jq f h:ev F (.callC f h) U s=(af7 F h U s).bind λl s=>(F.call f l s).bind λd s'=>if(d.ncl&&s'.all O.ncl)=bY then .ok d s' else .B:=rfl
@[simp]theorem ev_bi b es:ev F (.bi b es) U s=(evs F es U s).bind λl s=>bi b l s:=rfl
@[simp]theorem ev_mk k it:ev F (.mk k it) U s=(evL F it U s).bind λq s=>mk k q s:=rfl
@[simp]theorem ev_mkD k it d:ev F (.mkD k it d) U s=(evL F it U s).bind λq s=>(ev F d U s).bind λd s=>mkD k q d s:=rfl
@[simp]theorem zU:mkq x s s r=r:=dO rfl
def bH9(h:s[a]?=al (.J l))(g:t[a]?=al (.J m)):mkq (.ref a) s t r=r:=dO<|show s[a]?.map O.kd=t[a]?.map O.kd by rw[h,g];rfl
@[simp]theorem ev_meth m o es:ev F (.me m o es) U s=(ev F o U s).bind λx s=>(evs F es U s).bind λl t=>mkq x s t<|meth m x l t:=rfl
@[simp]theorem qe:evs F .nil U s=.ok [] s:=rfl
@[simp]theorem qa e es:evs F (.cons e es) U s=(ev F e U s).bind λd s=>(evs F es U s).bind λl s=>.ok (d::l) s:=rfl
@[simp]theorem qP:af7 F .nil U s=.ok [] s:=rfl
@[simp]theorem evas_ex e h:af7 F (.ex e h) U s=(ev F e U s).bind λd s=>(af7 F h U s).bind λl s=>.ok (d::l) s:=rfl
@[simp]theorem cq1 f h:af7 F (.fn f h) U s=(af7 F h U s).bind λl s=>.ok (.fn f::l) s:=rfl
@[simp]theorem evI_seq e:evI F (.seq e) U s=(ev F e U s).bind λd s=>at2 d s:=rfl
@[simp]theorem ck4 es:evL F (.disp es) U s=evs F es U s:=rfl
@[simp]theorem evL_seq e:evL F (.seq e) U s=(ev F e U s).bind λd s=>bl1 d s:=rfl
def bL6(x:D):M Sq:=λs=>match x with|.int i=>if-Ww62<=i/\i<Ww62 then .ok ⟨ag6 0 i,[]⟩ s else .B|_=>.B
@[simp]theorem qN a:evI F (.rg a) U s=(ev F a U s).bind λx s=>bL6 x s:=rfl
def zP(h0:-Ww62<=i)(h:i<Ww62):bL6 (.int i) s=.ok ⟨ag6 0 i,[]⟩ s:=by unfold bL6;simp only[h0,h,and_self,if_true]
def nxt(F:Fns)(ss:Ss)(c:Ct)(s:Sto):R Ct:=match c with|.next U=>exs F ss U s|c=>.ok c s
@[simp]theorem zd h U s:nxt F h (.next U) s=exs F h U s:=rfl
@[simp]theorem je h d s:nxt F h (.ret d) s=.ok (.ret d) s:=rfl
@[simp]theorem nxt_cont h U s:nxt F h (.cont U) s=.ok (.cont U) s:=rfl
@[simp]theorem zw:exs F .nil U s=.ok (.next U) s:=rfl
@[simp]theorem za st h:exs F (.cons st h) U s=(ex F st U s).bind (nxt F h):=rfl
noncomputable def cp2(U:Option Env)(s:Sto):R Ct:=match U with|some U=>.ok (.next U) s|none=>.B
@[simp]theorem qE U s:cp2 (al U) s=.ok (.next U) s:=rfl
@[simp]theorem ex_asg tg e:ex F (.A tg e) U s=(ev F e U s).bind λd s=>cp2 (jc U tg d) s:=rfl
@[simp]theorem ex_setIx o i e:ex F (.setIx o i e) U s=(ev F e U s).bind λd s=>(ev F o U s).bind λx s=>(ev F i U s).bind λy s=>(setIx x y d s).bind λ_ s=>.ok (.next U) s:=rfl
@[simp]theorem ex_ex e:ex F (.ex e) U s=(ev F e U s).bind λ_ s=>.ok (.next U) s:=rfl
@[simp]theorem ex_ret e:ex F (.ret e) U s=(ev F e U s).bind λd s=>.ok (.ret d) s:=rfl
@[simp]theorem bi8:ex F .retN U s=.ok (.ret .N) s:=rfl
@[simp]theorem jx c a b:ex F (.ite c a b) U s=tru (ev F c U s) λk s=>if k then exs F a U s else exs F b U s:=rfl
@[simp]theorem ex_whl c b:ex F (.whl c b) U s=whl (ev F c) (exs F b) U s:=rfl
def turn(F:Fns)(tg:Tg)(b:Ss)(d:D)(U:Env)(s:Sto):R Ct:=match jc U tg d with|some U=>exs F b U s|none=>.B
@[simp]theorem ex_for tg it b:ex F (.fo tg it b) U s=(evI F it U s).bind λq a=>am6 (λs=>chk a s q.src) (turn F tg b) q.its U a:=rfl
@[simp]theorem ex_und i:ex F (.und i) U s=cp2 (ai6 U i) s:=rfl
@[simp]theorem zG i d:jc U (.Y i) d=at1 U i d:=rfl
@[simp]theorem bindT_tup is l:jc U (.tp is) (.tp l)=aq6 U is l:=rfl
@[simp]theorem setVs_nil:aq6 U [] []=al U:=rfl
@[simp]theorem setVs_cons i is d l:aq6 U (i::is) (d::l)=(at1 U i d).bind λU=>aq6 U is l:=rfl
@[simp]theorem zM d(U:Env):aI7 (al d::U) 0 s=.ok d s:=rfl
@[simp]theorem zX x(U:Env)i:aI7 (x::U) (i+1) s=aI7 U i s:=by unfold aI7;rw[List.getElem?_cons_succ]
@[simp]theorem qG d x(U:Env):at1 (x::U) 0 d=al (al d::U):=rfl
@[simp]theorem setV_s d x(U:Env)i:at1 (x::U) (i+1) d=(at1 U i d).map (x::·):=by
 unfold at1;by_cases h:i<U.length;.rw[dO<|by simpa using h,dO h];rfl
 .rw[ef<|by simpa using h,ef h];rfl
@[simp]theorem unsetV_0 x(U:Env):ai6 (x::U) 0=al (aT::U):=rfl
@[simp]theorem unsetV_s x(U:Env)i:ai6 (x::U) (i+1)=(ai6 U i).map (x::·):=by
 unfold ai6;by_cases h:i<U.length;.rw[dO<|by simpa using h,dO h];rfl
 .rw[ef<|by simpa using h,ef h];rfl
@[simp]theorem Cn_int i:(Cn.int i).d=.int i:=rfl
@[simp]theorem Cn_bl i:(Cn.T i).d=.T i:=rfl
@[simp]theorem Cn_str i:(Cn.str i).d=.str i:=rfl
@[simp]theorem Cn_non:Cn.N.d=.N:=rfl
@[simp]theorem add_int a b:am4 .add (.int a) (.int b) s=.ok (.int<|a+b) s:=rfl
@[simp]theorem sub_int a b:am4 .sub (.int a) (.int b) s=.ok (.int<|a-b) s:=rfl
def aN1(J:s[a]?=al (.J l))(z:s[b]?=al (.J m))(h:l.length+m.length<=LIM):am4 .add (.ref a) (.ref b) s=.ok (.ref s.length) (s++[.J<|l++m]):=by show(match s[a]?,s[b]? with|some<|.J l,al<|.J m=>(if l.length+m.length<=LIM then ag2 (.J<|l++m) s else .B)|_,_=>.B)=_;exact J▸z▸dO h
def ag5(h:mulOk a b=bY):am4 .mul (.int a) (.int b) s=.ok (.int<|a*b) s:=by show(if mulOk a b then _ else _:M D) s=_;rw[dO h];rfl
def aq4(h:a.natAbs<2^64):mulOk a b=true:=by unfold mulOk;simp[h]
def bg0(h:b.natAbs<2^64):mulOk a b=true:=by unfold mulOk;simp[h]
def bj8(h:0<b):am4 .mod (.int a) (.int b) s=.ok (.int<|a%b) s:=by show(if 0<b then _ else _:M D) s=_;rw[dO h];rfl
def bL3:(10)^200<=(DIVL:Int):=by decide+kernel
def aP2(h:0<b)(z:b<10^200):am4 .fdiv (.int a) (.int b) s=.ok (.int<|a/b) s:=by show(if 0<b/\b<(DIVL)then _ else _:M D) s=_;rw[dO ⟨h,Int.lt_of_lt_of_le z bL3⟩];rfl
def bk8(h:0<=b/\b<=1000000/\a.natAbs<2^64):am4 .pow (.int a) (.int b) s=.ok (.int<|a^b.toNat) s:=by show(if _ then _ else _:M D) s=_;rw[dO h];rfl
@[simp]theorem lt_int a b:qQ .lt (.int a) (.int b) s=.ok (.T<|decide<|a<b) s:=rfl
@[simp]theorem le_int a b:qQ .le (.int a) (.int b) s=.ok (.T<|decide<|a<=b) s:=rfl
@[simp]theorem gt_int a b:qQ .gt (.int a) (.int b) s=.ok (.T<|decide<|b<a) s:=rfl
@[simp]theorem ge_int a b:qQ .ge (.int a) (.int b) s=.ok (.T<|decide<|b<=a) s:=rfl
@[simp]theorem eq_int a b:qQ .eq (.int a) (.int b) s=.ok (.T<|decide<|a=b) s:=rfl
@[simp]theorem ne_int a b:qQ .ne (.int a) (.int b) s=.ok (.T<|!decide (a=b)) s:=rfl
@[simp]theorem alloc_eq o:ag2 o s=.ok (.ref s.length) (s++[o]):=rfl
@[simp]theorem bi3 l:bi .len [.tp l] s=.ok (.int l.length) s:=rfl
@[simp]theorem bR8 l:bi .len [.str l] s=.ok (.int l.length) s:=rfl
def jH(h:s[r]?=al (.J l)):bi .len [.ref r] s=.ok (.int l.length) s:=by show bE8 (.ref r) s=_;unfold bE8;simp only[h]
def bB0(h:s[r]?=al (.ro l)):bi .len [.ref r] s=.ok (.int l.length) s:=by show bE8 (.ref r) s=_;unfold bE8;simp only[h]
@[simp]theorem cq3 i:bi .abs [.int i] s=.ok (.int<|if i<0 then-i else i) s:=rfl
@[simp]theorem aQ1 a b:bi .min2 [.int a,.int b] s=.ok (.int<|if b<a then b else a) s:=rfl
@[simp]theorem bo6 a b:bi .max2 [.int a,.int b] s=.ok (.int<|if b>a then b else a) s:=rfl
@[simp]theorem bZ1 a:bi .isInt [.int a] s=.ok (.T bY) s:=rfl
@[simp]theorem bT7 a:bi .isBool [.int a] s=.ok (.T ce) s:=rfl
@[simp]theorem bh3 l:bi .isTup [.tp l] s=.ok (.T bY) s:=rfl
def cp1{j:Nat}(h:s[r]?=al (.ro l))(a:l[j]?=al d):ixM (.ref r) (.int<|j) s=.ok d s:=by have z:=(ag.mp a).1;have e:=(ag.mp a).2;simp[ixM,h,ixn,z,e]
def ao3{j:Nat}(h:s[r]?=al (.J l))(a:l[j]?=al d):ixM (.ref r) (.int<|j) s=.ok d s:=by have z:=(ag.mp a).1;have e:=(ag.mp a).2;simp[ixM,h,ixn,z,e]
def ix_tup{j:Nat}(a:l[j]?=al d):ixM (.tp l) (.int<|j) s=.ok d s:=by have h:=(ag.mp a).1;have e:=(ag.mp a).2;simp[ixM,ixn,h,e]
def bN6{j:Nat}(h:s[r]?=al (.J l))(z:j<l.length):setIx (.ref r) (.int<|j) v s=.ok () (s.set r<|.J<|l.set j v):=by simp[setIx,h,ixn,z]
def zD(h:s[r]?=al (.J l))(z:l.length<LIM):meth .append (.ref r) [v] s=.ok .N (s.set r<|.J<|l++[v]):=by show(match s[r]? with|some<|.J l=>(if l.length<LIM then R.ok D.N<|s.set r<|.J<|l++[v]else .B)|_=>.B)=_;exact h▸dO z
end
def aI3 s t b:∃a,ac3 s (.T b) t=.ok (.T b) a:=by
 unfold ac3;by_cases h:ag1 s t=bY;.exact dO h▸⟨_,rfl⟩
 .exact ef h▸⟨_,rfl⟩
def Yes(r:R D):Prop:=∃a,r=.ok (.T bY) a
def aD6 s t:Yes<|ac3 s (.T bY) t:=aI3 s t bY
def ai7{j:Nat}(h:(ag6 a b)[j]?=al d):(j)<b-a/\d=.int (a+j):=by have a:=(ag.mp h).1;simp only[ag6,av,hJ]at a;unfold ag6 at h;simp_all
def cq5(P:Pr)(k:Nat):Prop:=∀a:List Int,a.length<=63->Yes ((aa0 P k).call "law" [.ref 0] [.ro<|a.map D.int])
noncomputable def qA:Option Int->D|none=>.N|some i=>.int i
@[simp]theorem ai0:qA aT=.N:=rfl
@[simp]theorem jm i:qA (al i)=.int i:=rfl
@[simp]theorem qS p n:(qA p).bnd n=true:=by cases p<;>rfl
def az6 p r:qA p≠.ref r:=by cases p<;>nofun
@[simp]theorem aT5:ac3 s (qA p) s=.ok (qA p) s:=zq (qS p) (az6 p)
noncomputable def cy5(b:Nat×Nat):O:=.J [.int b.1,.int b.2]
@[simp]theorem cl1 b n:(cy5 b).bnd n=true:=rfl
noncomputable def tkW(c:Nat):Nat->Nat->Nat->Nat->Nat×Nat|0,a,b,_=>(b,a)|n+1,a,b,d=>if d<c then tkW c n ((a*48271+7919)%2147483647) (b*1073741789+(a*48271+7919)%2147483647/8*69621%1073741789) (d*1073741789)else(b,a)
def tk(b:Nat×Nat)(a:Nat):Nat×(Nat×Nat):=if 0<b.1 then(b.1%a,(b.1/a,b.2))else let r:=tkW a 12 b.2 0 1;(r.1%a,(b.1,r.2))
def bI2{t:Sto}(h:r<s.length):(s++t).set r o=s.set r o++t:=by simp_all
def jE{t:Sto}{r:Nat}(h:s[r]?=al o):(s++t)[r]?=al o:=aB (ag.mp h).1▸h
def zZ{s:Sto}(h:r<s.length):(s.set r o)[r]?=al o:=bq h
def bd(b:Nat×Nat):Nat×(Nat×Nat):=let a:=tk b 3;let b:=tk a.2 13;let c:=tk b.2 1000000000;let d:=tk c.2 1000000000000000000000000000000;let i:=tk d.2 4;([a.1,b.1,c.1,d.1].getD i.1 0,i.2)
section
variable{F:Fns}{U:Env}{s:Sto}
def zV(F:Fns)(tg:Tg)(e:E)(d:D)(U:Env)(s:Sto):R<|Option D×Env:=match jc U tg d with|some U=>(ev F e U s).bind λv s=>.ok (al v,U) s|none=>.B
def bj4(F:Fns)(tg:Tg)(c e:E)(d:D)(U:Env)(s:Sto):R<|Option D×Env:=match jc U tg d with|some U=>tru (ev F c U s) λk s=>if k then(ev F e U s).bind λv s=>.ok (al v,U) s else .ok (aT,U) s|none=>.B
@[simp]theorem qw tg it e h:evL F (.comp tg it e h) U s=(evI F it U s).bind λq a=>if q.its.length<=LIM then qu (λs=>chk a s q.src) (zV F tg e) q.its (zI U h) a else .B:=rfl
@[simp]theorem av2 tg it c e h:evL F (.compIf tg it c e h) U s=(evI F it U s).bind λq a=>if q.its.length<=LIM then qu (λs=>chk a s q.src) (bj4 F tg c e) q.its (zI U h) a else .B:=rfl
@[simp]theorem ct8 a hi:ev F (.slU a hi) U s=(ev F a U s).bind λx s=>(ev F hi U s).bind λy s=>match y with|.int i=>slM x aT (al i) s|_=>.B:=rfl
end
theorem ah7(P:Env->Sto->Prop)f:∀l U s,P U s->(∀U s,P U s->ok s=bY)->(∀d∈l,∀U s,P U s->∃b a,g d U s=.ok (f d,b) a/\P b a)->∃b a,qu ok g l U s=.ok (l.filterMap f) a/\P b a|[],U,s,h,o,_=>⟨U,s,by unfold qu;rw[dO<|o U s h];rfl,h⟩|d::l,U,s,h,o,a=>by refine AE (a d (am ..) U s h) λU1 b c J=>AE (ah7 P f l U1 b J o λx b=>a x<|ah _ b) λU2 a b z=>⟨U2,a,?_,z⟩;unfold qu;rw[dO<|o U s h,c];simp only[R.bind_ok];rw[b,bw];cases f d<;>rfl
def aj7{k:Int}(h:k<=1000):k<=10^90:=fK h<|by decide
def zt(h:∀d∈l,∀n,d.bnd n=bY)n:D.bndL n l=true:=by induction l with|nil=>rfl|cons d l a=>rw[D.bndL,h d<|am ..,a λx a=>h x<|ah _ a];rfl
def bX7{k:Nat}(h:k<3)s:ixM (.str [97,98,99]) (.int<|k) s=.ok (.str [97+k]) s:=by match k,h with|0,_=>rfl|1,_=>rfl|2,_=>rfl
def bJ4(h:a.length+b.length<=LIM):am4 .add (.str a) (.str b) s=.ok (.str<|a++b) s:=by show(if a.length+b.length<=LIM then _ else _:M D) s=_;rw[dO h];rfl
def Lts(L:Nat)(w:List Nat):Prop:=∀c∈w,97<=c/\c<97+L
noncomputable def ch3(L:Nat)(d:D):Bool:=match d with|.str w=>decide (w.length<=200)&&w.all λc=>decide<|97<=c/\c<97+L|_=>ce
def qY[HasC P x v]{n}{U}{s}:ev (aa0 P n) (.gl x) U s=.ok v s:=by show(match(aa0 P n).con x with|some d=>R.ok d s|none=>.B)=_;rw[bi4 (v:=v)]
noncomputable abbrev aB0:List D:=[.str [97],.str [98],.str [99]]
def bR6{L:Nat}(h:L<=3)s:slM (.tp aB0) aT (al<|L) s=.ok (.tp<|aB0.take L) s:=by match L,h with|0,_=>rfl|1,_=>rfl|2,_=>rfl|3,_=>rfl
def aW3[Has P ac8][HasC P "LETTERS"<|.tp aB0]n{L:Nat}(h:L<=3)l s:(aa0 P<|n+1).call "letters_of" [.tp<|.int L::l] s=.ok (.tp<|aB0.take L) s:=by refine(zl ac8 rfl).trans ?_;have z:ixM (.tp<|.int L::l) (.int<|(0:Nat)) s=.ok (.int L) s:=ix_tup rfl;simp[ac8,qY (v:=.tp aB0)];rw[show(0)=((0:Nat):Int)from rfl,z];simp only[R.bind_ok];rw[bR6 h];simp;match L,h with|0,_=>exact zq (λ_=>rfl) (by nofun)|1,_=>exact zq (λ_=>rfl) (by nofun)|2,_=>exact zq (λ_=>rfl) (by nofun)|3,_=>exact zq (λ_=>rfl) (by nofun)
noncomputable def NR(Q:Env->Sto->Prop)(Z:D->Sto->Prop):R Ct->Prop|.ok (.next U) s=>Q U s|.ok (.cont U) s=>Q U s|.ok (.ret d) s=>Z d s|_=>False
def bM8(e:r=.ok (.next U) s)(h:Q U s):NR Q Z r:=e▸h
def bY5(e:r=.ok (.ret d) s)(h:Z d s):NR Q Z r:=e▸h
set_option tactic.hygienic true in theorem for_ret(P:Nat->Env->Sto->Prop)Z:∀l k U s,P k U s->(∀j U s,j<=l.length->P (k+j) U s->ok s=bY)->(∀j d U s,l[j]?=al d->P (k+j) U s->NR (P<|k+j+1) Z (g d U s))->(∃U' s',am6 ok g l U s=.ok (.next U') s'/\P (k+l.length) U' s')\/∃d s',am6 ok g l U s=.ok (.ret d) s'/\Z d s'
 |[],k,U,s,h,o,_=>.inl ⟨U,s,by show(if ok s then _ else _)=_;rw[dO<|o 0 U s (aj _) h],h⟩|d::l,k,U,s,h,o,t=>by
  have ho:=o 0 U s (cy _) h;have h0:=t 0 d U s rfl h;have e:am6 ok g (d::l) U s=(g d U s).bind λc s=>match c with|.next U=>am6 ok g l U s|.cont U=>am6 ok g l U s|.brk U=>.ok (.next U) s|.ret d=>.ok (.ret d) s:=by show(if ok s then _ else _)=_;rw[dO ho]<;>rfl
  have go:∀U1 s1,P (k+0+1) U1 s1->(∃U' s',am6 ok g l U1 s1=.ok (.next U') s'/\P (k+(d::l).length) U' s')\/∃d s',am6 ok g l U1 s1=.ok (.ret d) s'/\Z d s':=λU1 s1 z=>by
   have:=for_ret P Z l (k+1) U1 s1 z (λj U' s' hj hp=>o (j+1) U' s' (by simpa using hj) (by rwa[show k+(j+1)=k+1+j by omega])) λj d' U' s' hj hp=>by have:=t (j+1) d' U' s' (by simpa using hj) (by rwa[show k+(j+1)=k+1+j by omega]);rwa[show k+(j+1)+1=k+1+j+1 by omega]at this
   rwa[aR,show k+(l.length+1)=k+1+l.length by omega]
  rw[e];cases hg:g d U s with|B=>rw[hg]at h0;exact h0.elim|exc a b=>rw[hg]at h0;exact h0.elim|ok c s1=>rw[hg]at h0;cases c with|next U1=>exact go U1 s1 h0|cont U1=>exact go U1 s1 h0|brk U1=>exact h0.elim|ret v=>exact .inr ⟨v,s1,rfl,h0⟩
def aT4{Ww:R α->Prop}(P:Nat->Env->Sto->Prop)Z(h:P 0 U s)(o:∀(j:Nat)(U:Env)(s:Sto),j<=l.length->P j U s->ok s=bY)(step:∀(j:Nat)(d:D)(U:Env)(s:Sto),l[j]?=al d->P j U s->NR (P<|j+1) Z (g d U s))(z:∀U' s',P l.length U' s'->Ww (f (.next U') s'))(hz:∀d s',Z d s'->Ww (f (.ret d) s')):Ww<|(am6 ok g l U s).bind f:=by
 rcases for_ret P Z l 0 U s h (λj U s hj hp=>o j U s hj<|by rwa[cb]at hp) (λj d U s hj hp=>by rw[cb]at hp⊢;exact step j d U s hj hp)with⟨U',s',e,q⟩|⟨d,s',e,q⟩;.rw[e];rw[cb]at q;exact z U' s' q
 .rw[e];exact hz d s' q
structure Dr where
 a:Nat
 l:Nat
 b:Nat
 t:Nat
noncomputable def Dr.d(x:Dr):D:=.tp [.int x.a,.str [x.l],.int x.b,.int x.t]
structure Mc where
 L:Nat
 R:Nat
 bg:List Nat
 en:List Nat
 ds:List Dr
noncomputable def cj8(l:List Nat):List D:=l.map λ(k:Nat)=>D.int<|k
noncomputable def sg(w:List Nat):List D:=w.map λc=>.str [c]
def Mc.ps(m:Mc):List D:=[.int m.L,.int m.R,.tp<|cj8 m.bg,.tp<|cj8 m.en,.tp<|m.ds.map Dr.d]
noncomputable def Mc.d(m:Mc):D:=.tp m.ps
structure Dr.Ok(m:Mc)(x:Dr):Prop where
 a:x.a<m.R
 l:97<=x.l/\x.l<97+m.L
 b:x.b<m.R
 t:x.t<4
structure Mc.Ok(m:Mc):Prop where
 L1:1<=m.L
 L3:m.L<=3
 R1:1<=m.R
 R5:m.R<=5
 bg:(∀k∈m.bg,k<m.R)/\m.bg.Pairwise (·<·)en:(∀k∈m.en,k<m.R)/\m.en.Pairwise (·<·)ds:(∀x∈m.ds,x.Ok m)/\m.ds.length<=75
def aO7:∀d∈cj8 l,∀n,d.bnd n=true:=λd a n=>by obtain⟨c,_,rfl⟩:=ao.mp a;rfl
def bc3{l:List Dr}:∀d∈l.map Dr.d,∀n,d.bnd n=true:=λd a n=>by obtain⟨c,_,rfl⟩:=ao.mp a;rfl
def bJ8{m:Mc}:∀d∈m.ps,∀n,d.bnd n=true:=λd a n=>by
 simp only[Mc.ps,aD,eP,or_false]at a;rcases a with rfl|rfl|rfl|rfl|rfl;.rfl
 .rfl
 .exact zt aO7 n
 .exact zt aO7 n
 .exact zt bc3 n
def bU7(m:Mc)n:m.d.bnd n=true:=zt bJ8 n
section
variable{P:Pr}
def as9(j:Nat)(h:l[j]?=al d):ixM (.tp l) (.int<|j) s=.ok d s:=ix_tup h
def ixL(m:Mc)s:ixM m.d (.int 0) s=.ok (.int m.L) s:=as9 0 rfl
def ixR(m:Mc)s:ixM m.d (.int 1) s=.ok (.int m.R) s:=as9 1 rfl
def ixD(m:Mc)s:ixM m.d (.int 4) s=.ok (.tp<|m.ds.map Dr.d) s:=as9 4 rfl
def ao0[Has P ac1]n(m:Mc)s:(aa0 P<|n+1).call "rooms_of" [m.d] s=.ok (.int m.R) s:=by refine(zl ac1 rfl).trans ?_;simp[ac1,ixR]
def bh9(h:∀d∈l,∀n,d.bnd n=bY):ac3 s (.tp l) s=.ok (.tp l) s:=zq (λn=>zt h n) (by nofun)
def aI0[Has P ac2]n(m:Mc)s:(aa0 P<|n+1).call "doors_of" [m.d] s=.ok (.tp<|m.ds.map Dr.d) s:=by refine(zl ac2 rfl).trans ?_;simp[ac2,ixD,bh9 bc3]
def bg6(h:a<b):ag6 a b=.int a::ag6 (a+1) b:=by
 unfold ag6;obtain⟨n,c⟩:∃n,(b-a).toNat=n+1:=⟨(b-a).toNat-1,by lia⟩;rw[c,show(b-(a+1)).toNat=n by omega,cK,aQ,cD];congr 1;.simp
 .apply dw;grind
@[simp]theorem cl9 a b s:qQ .ne (.str [a]) (.str [b]) s=.ok (.T<|!decide (a=b)) s:=by
 show(match eqv s DEEP (.str [a]) (.str [b])with|some r=>R.ok (D.T<|!r) s|none=>.B)=_;have:eqv s DEEP (.str [a]) (.str [b])=al ([a]==[b]):=rfl;rw[this];have e:([a]==[b])=decide (a=b):=by rw[fj];simp
 rw[e]
@[simp]theorem be1 a b s:qQ .eq (.str [a]) (.str [b]) s=.ok (.T<|decide<|a=b) s:=by
 show(match eqv s DEEP (.str [a]) (.str [b])with|some r=>R.ok (D.T r) s|none=>.B)=_;have:eqv s DEEP (.str [a]) (.str [b])=al ([a]==[b]):=rfl;rw[this];have e:([a]==[b])=decide (a=b):=by rw[fj];simp
 rw[e]
end
def good_of{L}(h:w.length<=200)(a:Lts L w):ch3 L (.str w)=true:=by unfold ch3;simp only[h,decide_true,du,aG,iF];exact a
theorem bA8:∀bs:List Bool,aj9 (bs.map D.T)=al bs|[]=>rfl|b::bs=>by simp[aj9,bA8 bs]
noncomputable def boxO(N:Int):O:=.J [.int N]
def bA6{s:Sto}(h:∃N,s[r]?=al (boxO N)):r<s.length:=AF h λb a=>(ag.mp a).1
def ax5{s:Sto}(h:r<s.length):∃z,(s.set r<|boxO b)[r]?=al (boxO z):=⟨b,zZ h⟩
def aj6[Has P af3]n{s}{r}(hs:∃N,s[r]?=al (boxO N))z(h0:0<z)(h:z<=10^90):∃(k:Nat)(N:Int),(k:Int)<z/\(aa0 P<|n+1).call "_law_draw" [.ref r,.int z] s=.ok (.int k) (s.set r<|boxO N):=by
 obtain⟨N,hN⟩:=hs;have Y:(aa0 P<|n+1).call "_law_draw" [.ref r,.int z] s=_:=zl af3 rfl;have Uu:z<10^200:=by
  have:(10:Int)^90<10^200:=by decide+kernel
  lia
 have h1:=mz N (show z≠0 by lia);have Z:=kY N h0;refine⟨(N%z).toNat,N/z,by lia,?_⟩;rw[Y];have J:s[r]?=al (.J [.int N]):=hN;simp-implicitDefEqProofs[af3,ixM,J,ixn,bj8 h0,aP2 h0 Uu,setIx];rw[show max (N%z) 0=N%z by lia];exact aR5 (λ_=>rfl) (by nofun) rfl
def ct2(s:Sto)(x:R D):Prop:=∃N,x=.ok (.ref s.length) (s++[boxO N])
def cg1[Has P ap9]n(ns:List Int)(k:Nat){s:Sto}{r:Nat}(hs:s[r]?=al (.ro<|ns.map D.int)):∃N:Int,(aa0 P<|n+1).call "_law_box" [.ref r,.int k] s=.ok (.ref s.length) (s++[boxO N]):=by
 have e0:(aa0 P<|n+1).call "_law_box" [.ref r,.int k] s=_:=zl ap9 (n:=n) rfl;have h:bi .len [.ref r] s=.ok (.int ns.length) s:=by rw[bB0 hs,av]
 have Y:∀a:Int,mulOk 7919 a=true:=λa=>aq4 (by decide);have m2:∀a:Int,mulOk a 48271=true:=λa=>bg0 (by decide);have m3:∀a:Int,mulOk 104729 a=true:=λa=>aq4 (by decide);have m4:∀a:Int,mulOk a 2147483647=true:=λa=>bg0 (by decide);have m5:∀a:Int,mulOk 31 a=true:=λa=>aq4 (by decide);have Z:∀a:Int,mulOk (a%2147483647) (a%2147483647)=true:=λa=>aq4<|by have h1:=mz a (show(2147483647:Int)≠0 by decide);have h2:=kY a (show(0:Int)<2147483647 by decide);lia
 have Uu:∀N:Int,ac3 s (.ref s.length) (s++[.J [.int N]])=.ok (.ref s.length) (s++[boxO N]):=λN=>by have:=aB5 (s:=s) (t:=[]) (u:=[]) (o:=boxO N) rfl;simp only[fi,lB,gu]at this;exact this
 have z:∀c:Int,ct2 s<|(exs (aa0 P n) (.cons (.ite (.Z .ge (.X 2) (.G .pow (.K<|.int 10) (.K<|.int 18))) (.cons (.ret<|.J<|.cons (.X 2) .nil) .nil) .nil) (.cons (.A (.Y 3) (.K<|.int 0)) (.cons (.fo (.Y 4) (.rg<|.K<|.int 128) (.cons (.A (.Y 5) (.G .mod (.G .mul (.G .add (.G .add (.G .add (.G .mod (.X 2) (.K<|.int 2147483647)) (.G .mul (.K<|.int 7919) (.X 1))) (.G .mul (.K<|.int 104729) (.X 4))) (.K<|.int 97)) (.K<|.int 48271)) (.K<|.int 2147483647))) (.cons (.A (.Y 3) (.G .add (.G .mul (.X 3) (.K<|.int 2147483647)) (.G .mod (.G .add (.G .add (.G .mul (.X 5) (.X 5)) (.G .mul (.K<|.int 31) (.X 4))) (.G .fdiv (.X 2) (.K<|.int 2147483647))) (.K<|.int 2147483647)))) .nil))) (.cons (.ret<|.J<|.cons (.X 3) .nil) .nil))))
   [al<|.ref r,al<|.int k,al<|.int c,aT,aT,aT] s).bind<|fin s:=by
  intro c;by_cases hc:(10:Int)^18<=c;.have J:(1000000000000000000:Int)<=c:=hc;exact⟨c,by simp-implicitDefEqProofs[bk8,J,Uu]⟩
  .have J:¬(1000000000000000000:Int)<=c:=hc;simp[bk8,J];rw[zP (by decide) (by decide)];simp only[R.bind_ok];refine ai2 (Ww:=ct2 s) (λj U t=>t=s/\∃(N:Int)(x y:Option D),U=[al<|.ref r,al<|.int k,al<|.int c,al<|.int N,x,y]) ⟨rfl,0,_,_,rfl⟩ (λ_ _ _ _ _=>rfl) ?_ ?_
   .rintro j d U t hj⟨rfl,N,x,y,rfl⟩;obtain⟨_,rfl⟩:=ai7 hj;conv=>arg 2;simp[turn,ag5<|Y _,ag5<|m2 _,ag5<|m3 _,ag5<|m4 _,ag5<|m5 _,ag5<|Z _,bj8,aP2]
    exact⟨rfl,_,_,_,rfl⟩
   .rintro U t⟨rfl,N,x,y,rfl⟩;exact⟨N,by simp[Uu]⟩
 rw[e0];by_cases hk:k<ns.length;.have hx:ixM (.ref r) (.int k) s=.ok (.int<|ns.getD k 0) s:=cp1 hs (by simp[hk]);obtain⟨N,e⟩:=z<|if ns.getD k 0<0 then-ns.getD k 0 else ns.getD k 0;refine⟨N,?_⟩;rw[<-e];simp[ap9,h,hk,hx]
 .obtain⟨N,e⟩:=z 0;refine⟨N,?_⟩;rw[<-e];simp[ap9,h,hk]
def two{l:List D}(h:l.length=2):∃a b,l=[a,b]:=by match l,h with|[a,b],_=>exact⟨a,b,rfl⟩
def aA3[Has P af3]n{s t:Sto}{r}(hr:r<s.length)b z(h0:0<z)(h:z<=10^90):∃(k:Nat)(J:Int),(k:Int)<z/\(aa0 P<|n+1).call "_law_draw" [.ref r,.int z] (s.set r (boxO b)++t)=.ok (.int k) (s.set r (boxO J)++t):=AE (aj6 (P:=P) n ⟨b,jE<|zZ hr⟩ z h0 h) λk J Y a=>⟨k,J,Y,by rw[a,bI2<|by rw[bA];exact hr,iQ]⟩
def bH6{s t:Sto}(h:l.length<LIM):meth .append (.ref s.length) [v] (s.set r (boxO b)++(.J l::t))=.ok .N (s.set r (boxO b)++(.J (l++[v])::t)):=by rw[zD (by simp_all) h];simp_all
noncomputable def row(m:Nat)(f:Nat->Int):List D:=(aq m).map λj=>.int<|f j
def gd(m:Nat)(f:Nat->Nat->Int):D:=.tp<|(aq m).map λi=>.tp<|row m<|f i
def jF(h:j<m):(row m f)[j]?=al (.int<|f j):=by unfold row;rw[aK,bV h];rfl
@[simp]theorem bm0:(row m f).length=m:=by unfold row;simp
def bO2 n:D.bndL n (row m f)=true:=zt (λd a n=>by obtain⟨j,_,rfl⟩:=ao.mp a;rfl) n
def ba6(h:∀j,j<m->f j=g j):row m f=row m g:=by unfold row;exact dw λj hj=>by rw[h j<|bC.mp hj]
def jz n:(gd m f).bnd n=true:=zt (λd a n=>by obtain⟨j,_,rfl⟩:=ao.mp a;exact bO2 n) n
def at6(h:i<m)s:ixM (gd m f) (.int<|i) s=.ok (.tp<|row m<|f i) s:=ix_tup<|by rw[aK,bV h];rfl
def qC(h:j<m)s:ixM (.tp<|row m f) (.int<|j) s=.ok (.int<|f j) s:=ix_tup<|jF h
def bZ6 s:at2 (gd m f) s=.ok ⟨(aq m).map λi=>.tp<|row m<|f i,[]⟩ s:=rfl
def aI5 s:at2 (.tp l) s=.ok ⟨l,[]⟩ s:=rfl
def bp6(h:∀i j,i<m->j<m->f i j=g i j):gd m f=gd m g:=by unfold gd;congr 1;exact dw λi a=>by rw[ba6 λj b=>h i j (bC.mp a) b]
def az2(P:Env->Sto->Prop)f l U s(h:P U s)(o:∀U s,P U s->ok s=bY)(st:∀d∈l,∀U s,P U s->∃U' a,g d U s=.ok (al<|f d,U') a/\P U' a):∃U' a,qu ok g l U s=.ok (l.map f) a/\P U' a:=by refine AE (ah7 P (λd=>al<|f d) l U s h o st) λU' a e p=>⟨U',a,?_,p⟩;simp_all
def qR(P:Env->Sto->Prop)f(n:Nat)U s(h:P U s)(o:∀U s,P U s->ok s=bY)(st:∀j,j<n->∀U s,P U s->∃U' a,g (.int (j:Int)) U s=.ok (al<|f j,U') a/\P U' a):∃U' a,qu ok g (ag6 0<|n) U s=.ok ((aq n).map f) a/\P U' a:=by refine AE (az2 (g:=g) P (λd=>match d with|.int i=>f i.toNat|d=>d) (ag6 0<|n) U s h o λd a U s c=>by refine AF (gi a) λj a=>?_;obtain⟨z,rfl⟩:=ai7 a;simp_all) λU' a e p=>⟨U',a,?_,p⟩;rw[e];congr 1;unfold ag6;simp_all
def zB(n:Nat):(ag6 0<|n).length=n:=by simp[ag6]
def jd{n:Nat}(h:(ag6 0 (n:Int))[j]?=al d):j<n/\d=.int (j):=by obtain⟨z,rfl⟩:=ai7 h;lia
def bd7:(row m f).map (λ_=>D.int i)=row m λ_=>i:=by unfold row;rw[cD];rfl
def aJ5{t:Sto}(h:l.length<LIM):meth .append (.ref s.length) [v] (s++.J l::t)=.ok .N (s++.J (l++[v])::t):=by rw[zD (by rw[aw<|aj _];simp) h,cI _ _<|aj _];simp
def ax7{s t:Sto}{o:O}:(s++x::(t++[o]))[s.length+(t.length+1)]?=al o:=by rw[show(s++x::(t++[o]))=(s++x::t)++[o]by simp,aw<|by simp];simp
noncomputable def prN(f g:Nat->Nat->Int)(i j:Nat):Nat->Int|0=>3|k+1=>if f i k<3 then(let b:=(if g k j>f i k then g k j else f i k);if b<prN f g i j k then b else prN f g i j k)else prN f g i j k
def pr(m:Nat)(f g:Nat->Nat->Int)(i j:Nat):Int:=prN f g i j m
def qB[Has P ab4]n{m}(Z:m<=5)f g s:(aa0 P<|n+1).call "_law_product" [gd m f,gd m g] s=.ok (gd m<|pr m f g) s:=by
 have Y:(aa0 P<|n+1).call "_law_product" [gd m f,gd m g] s=_:=zl ab4 rfl;rw[Y];conv=>lhs;simp only[ab4]
 simp[];refine an4 (λi U t=>∃T x y z,U=[al<|gd m f,al<|gd m g,al<|.ref s.length,x,y,z]/\t=s++.J ((aq i).map λi=>.tp<|row m<|pr m f g i)::T) ⟨[],aT,aT,aT,rfl,rfl⟩ (λ_ _ _ _ _=>rfl) ?_ ?_
 .rintro i d U t hi⟨T,x,y,z,rfl,rfl⟩;have J:=by have:=(ag.mp hi).1;simpa using this
  have a:d=.tp (row m<|f i):=by simp_all
  subst a;conv=>arg 2;simp-implicitDefEqProofs[turn,aI5]
  rw[dO<|by unfold LIM;lia];refine AE (az2 (ok:=λa=>chk (s++.J ((aq i).map λi=>.tp<|row m<|pr m f g i)::T) a []) (g:=zV (aa0 P n) (.Y 0) (.K<|.int 3)) (λU u=>u=s++.J ((aq i).map λi=>.tp<|row m<|pr m f g i)::T/\∃x,U=[x]) (λ_=>.int 3) (row m<|f i) (zI [al<|gd m f,al<|gd m g,al<|.ref s.length,al<|.tp<|row m<|f i,y,z] [aT]) _ ⟨rfl,aT,rfl⟩ (λ_ _ _=>rfl) (by rintro d _ U u⟨rfl,x,rfl⟩;exact⟨_,_,rfl,rfl,_,rfl⟩)) λU1 a b e=>?_;obtain⟨rfl,_⟩:=e;rw[bd7]at b;rw[b];simp-implicitDefEqProofs[mk];rw[zP (by unfold Ww62;lia) (by unfold Ww62;lia)];simp only[R.bind_ok];refine ai2 (λk U t=>∃(T:Sto)(p:Nat)(z:Option D),U=[al<|gd m f,al<|gd m g,al<|.ref s.length,al<|.tp<|row m<|f i,al<|.ref p,z]/\t=s++.J ((aq i).map λi=>.tp<|row m<|pr m f g i)::T/\t[p]?=al (.J<|row m λj=>prN f g i j k)) ⟨T++[.J<|row m λ_=>3],s.length+(T.length+1),z,rfl,rfl,ax7⟩ (λ_ _ _ _ _=>rfl) ?_ ?_
  .rintro k d U t hk⟨T,p,z,rfl,rfl,hp⟩;obtain⟨h,rfl⟩:=jd hk;by_cases c:f i k<3
   .conv=>arg 2;simp-implicitDefEqProofs[turn,qC h,c]
    rw[zP (by unfold Ww62;lia) (by unfold Ww62;lia)];simp only[R.bind_ok];rw[dO<|by rw[zB];unfold LIM;lia];refine AE (qR (ok:=λa=>chk (s++.J ((aq i).map λi=>.tp<|row m<|pr m f g i)::T) a []) (g:=zV (aa0 P n) (.Y 0) (.bi .min2<|.cons (.ix (.X 1) (.X 0)) (.cons (.bi .max2<|.cons (.ix (.X 2) (.X 3)) (.cons (.ix (.ix (.X 4) (.X 3)) (.X 0)) .nil)) .nil))) (λU u=>u=s++.J ((aq i).map λi=>.tp<|row m<|pr m f g i)::T/\∃x,U=[x,al<|.ref p,al<|.tp<|row m<|f i,al<|.int k,al<|gd m g]) (λj=>.int<|prN f g i j<|k+1) m (zI [al<|gd m f,al<|gd m g,al<|.ref s.length,al<|.tp<|row m<|f i,al<|.ref p,al<|.int (k:Int)] [aT,al 4,al 3,al 5,al 1]) _ ⟨rfl,aT,rfl⟩ (λ_ _ _=>rfl) (by rintro j a U u⟨rfl,x,rfl⟩;refine⟨[al<|.int j,al<|.ref p,al<|.tp<|row m<|f i,al<|.int k,al<|gd m g],_,?_,rfl,_,rfl⟩;simp-implicitDefEqProofs[zV,qC h,at6 h,qC a,ao3 hp<|jF a,prN,c])) λU1 a b e=>?_;obtain⟨rfl,_⟩:=e;rw[b];simp-implicitDefEqProofs[mk];rfl
   .refine bQ7 (U:=[al<|gd m f,al<|gd m g,al<|.ref s.length,al<|.tp<|row m<|f i,al<|.ref p,al<|.int k]) ?_ ⟨T,p,_,rfl,rfl,?_⟩;.simp-implicitDefEqProofs[turn,qC h,c]
    .rw[hp];simp[prN,c]
  .rintro U t⟨T,p,z,rfl,rfl,hp⟩;rw[zB]at hp;simp-implicitDefEqProofs[bl1,hp,mk];rw[aJ5<|by unfold LIM;simp;lia];simp-implicitDefEqProofs;rw[dX,aS];rfl
 .rintro U t⟨T,x,y,z,rfl,rfl⟩;have a:(s++.J ((aq m).map λi=>D.tp<|row m<|pr m f g i)::T:Sto)[s.length]?=al (.J<|(aq m).map λi=>D.tp<|row m<|pr m f g i):=by simp_all
  simp-implicitDefEqProofs[bl1,a,mk];exact zz (d:=gd m<|pr m f g) jz<|by nofun
def McB(s:Sto)(r:Nat)(x:R D):Prop:=∃(m:Mc)(b:Int),m.Ok/\x=.ok m.d (s.set r<|boxO b)
def aj1(m:Nat)(f:Nat->Nat->Int):Sto:=(aq m).map λi=>.J<|row m<|f i
@[simp]theorem bm2:(aj1 m f).length=m:=by unfold aj1;simp
def ah2(h:i<m):(aj1 m f)[i]?=al (.J<|row m<|f i):=by unfold aj1;rw[aK,bV h];rfl
def bI6:(row m f).set b (.int v)=row m λj=>if j=b then v else f j:=by
 apply ib;intro j;by_cases a:j<m
 .rw[jF a];by_cases e:j=b;.simp_all
  .rw[aC<|λz=>e z.symm,jF a,ef e]
 simp_all
def bl7:(aj1 m f).set a (.J<|(row m<|f a).set b<|.int v)=aj1 m λi j=>if i=a/\j=b then v else f i j:=by
 apply ib;intro i;by_cases b:i<m
 .rw[ah2 b];by_cases e:i=a;.subst e;rw[bq<|by simp_all,bI6];simp
  .rw[aC<|λz=>e z.symm,ah2 b];simp[e]
 simp_all
noncomputable def aJ2(p m:Nat):List D:=(aq m).map λi=>.ref<|p+i
def bn1(h:i<m):(aJ2 p m)[i]?=al (.ref<|p+i):=by unfold aJ2;rw[aK,bV h];rfl
def bc9(P:Nat->Env->Sto->Prop)f n (o:∀k U s,P k U s->ok s=bY)(st:∀j,j<n->∀U s,P j U s->∃b a,g (.int (j:Int)) U s=.ok (al<|f j,b) a/\P (j+1) b a):∀k U s,k<=n->P k U s->∃b a,qu ok g (ag6 (k) (n)) U s=.ok ((List.range' k<|n-k).map f) a/\P n b a:=by
 intro k;induction h:n-k generalizing k with|zero=>
  intro U s b a;have e:k=n:=by lia
  subst e;refine⟨U,s,?_,a⟩;rw[show ag6 (k) (k)=[]by simp[ag6]];unfold qu;grind|succ d c=>refineλU s b a=>AE (st k (by omega) U s a) λU1 b d J=>AE (c (k+1) (by omega) U1 b (by lia) J) λU2 b c z=>⟨U2,b,?_,z⟩;rw[bg6<|by omega,List.range'_succ,aQ];unfold qu;rw[dO<|o _ _ _ a,d];simp_all
noncomputable def sgF(a:List Dr)(c i j:Nat):Nat->Int|0=>3|k+1=>match a[k]? with|some x=>if x.l=c/\i=x.a/\j=x.b then(if(if 0<x.t then(1)else 0)<sgF a c i j k then(if 0<x.t then(1)else 0)else sgF a c i j k)else sgF a c i j k|none=>sgF a c i j k
theorem bB2 h c i j:∀k,0<=sgF h c i j k/\sgF h c i j k<=3
 |0=>by unfold sgF;decide|k+1=>by
  have:=bB2 h c i j k;unfold sgF;split
  .repeat' split
   all_goals omega
  .exact this
def sgM(m:Mc)(c i j:Nat):Int:=sgF m.ds c i j m.ds.length
def cg9:bi .int [.T b] s=.ok (.int<|if b then 1 else 0) s:=rfl
def jb[Has P ab6]n{m}(hm:m.Ok)c s:(aa0 P<|n+1).call "_law_letter_signs" [m.d,.str [c]] s=.ok (gd m.R<|sgM m c) s:=by
 have e0:(aa0 P<|n+1).call "_law_letter_signs" [m.d,.str [c]] s=_:=zl ab6 rfl;have hR:=hm.R5;rw[e0];simp-implicitDefEqProofs[ab6,ixR];rw[zP (by unfold Ww62;lia) (by unfold Ww62;lia)];simp only[R.bind_ok];rw[dO<|by rw[zB];unfold LIM;lia];obtain⟨U1,s1,e1,Uu⟩:=bc9 (ok:=λs1=>chk s s1 []) (g:=zV (aa0 P n) (.Y 0) (.mk .list<|.comp (.Y 0) (.rg<|.X 1) (.K<|.int 3) [aT])) (λk U u=>u=s++(aq k).map (λ_=>O.J<|row m.R λ_=>3)/\∃x,U=[x,al<|.int m.R]) (λi=>.ref<|s.length+i) m.R (λ_ _ _ _=>rfl) (by rintro j hj U u⟨rfl,x,rfl⟩;refine⟨[al<|.int j,al<|.int m.R],_,?_,rfl,_,rfl⟩;simp-implicitDefEqProofs[zV];rw[zP (by unfold Ww62;lia) (by unfold Ww62;lia)];simp only[R.bind_ok];rw[dO<|by rw[zB];unfold LIM;lia];obtain⟨U1,s1,e1,Uu⟩:=qR (ok:=λs1=>chk (s++(aq j).map (λ_=>O.J<|row m.R λ_=>3)) s1 []) (g:=zV (aa0 P n) (.Y 0) (.K<|.int 3)) (λU u=>u=s++(aq j).map (λ_=>O.J<|row m.R λ_=>3)/\∃x,U=[x]) (λ_=>.int 3) m.R (zI [al<|.int<|j,al<|.int m.R] [aT]) _ ⟨rfl,aT,rfl⟩ (λ_ _ _=>rfl) (by rintro i _ U u⟨rfl,x,rfl⟩;exact⟨_,_,rfl,rfl,_,rfl⟩);obtain⟨rfl,_⟩:=Uu;rw[e1];simp-implicitDefEqProofs[mk,dX];rfl) 0 (zI [al m.d,al<|.str [c],al<|.int m.R,aT,aT,aT,aT,aT] [aT,al 2]) s (cy _) ⟨by simp,aT,rfl⟩;obtain⟨rfl,_⟩:=Uu;rw[show((0:Nat):Int)=0 from rfl]at e1;rw[e1];have el:(aq m.R).map (λ_=>O.J<|row m.R λ_=>3)=aj1 m.R (λi j=>sgF m.ds c i j 0):=rfl;rw[el,lE,<-List.range_eq_range'];simp-implicitDefEqProofs[mk,aI5];refine an4 (λk U t=>∃x y z w,U=[al m.d,al<|.str [c],al<|.int m.R,al<|.ref<|s.length+m.R,x,y,z,w]/\t=s++(aj1 m.R (λi j=>sgF m.ds c i j k)++[.J<|aJ2 s.length m.R])) ⟨aT,aT,aT,aT,rfl,rfl⟩ (λ_ _ _ _ _=>rfl) ?_ ?_
 .rintro k d U t hk⟨x,y,z,w,rfl,rfl⟩;rw[aK]at hk;obtain⟨v,hv,rfl⟩:∃v,m.ds[k]?=al v/\Dr.d v=d:=by cases e:m.ds[k]? with|none=>rw[e]at hk;cases hk|some v=>rw[e]at hk;exact⟨v,rfl,ay hk⟩
  have Y:=hm.ds.1 v<|aF hv;have ha:=Y.a;have hb:=Y.b;refine bQ7 (U:=[al m.d,al<|.str [c],al<|.int m.R,al<|.ref<|s.length+m.R,al<|.int v.a,al<|.str [v.l],al<|.int v.b,al<|.int v.t]) (s:=s++(aj1 m.R (λi j=>sgF m.ds c i j<|k+1)++[.J<|aJ2 s.length m.R])) ?_ ⟨_,_,_,_,rfl,rfl⟩;have e3:(s++(aj1 m.R (λi j=>sgF m.ds c i j k)++[.J<|aJ2 s.length m.R]))[s.length+m.R]?=al (.J<|aJ2 s.length m.R):=by rw[aw<|by lia,bU,aw<|by simp];simp
  have Z:(s++(aj1 m.R (λi j=>sgF m.ds c i j k)++[.J<|aJ2 s.length m.R]))[s.length+v.a]?=al (.J<|row m.R λj=>sgF m.ds c v.a j k):=by rw[aw<|by lia,bU,aB<|by simpa using ha,ah2 ha]
  have e5:=ao3 e3<|bn1 ha;have e6:=ao3 Z<|jF hb;by_cases hl:v.l=c
  .simp-implicitDefEqProofs only[turn,Dr.d,bindT_tup,setVs_cons,setVs_nil,setV_s,qG,bX,lY,za,zw,jx,ev_cmp,zN,zM,zX,R.bind_ok,be1,hl,decide_true,qF,if_true,ex_setIx,ev_bi,qa,qe,ev_ix,e5,e6,ev_cst,Cn_int,gt_int,cg9,aQ1];rw[bN6 Z<|by rw[bm0];exact hb];simp-implicitDefEqProofs only[R.bind_ok,zd,zw];congr 1;rw[cI _ _<|by lia,bU,List.set_append_left _ _<|by simpa using ha];congr 2;rw[bl7 (f:=λi j=>sgF m.ds c i j k)];congr 1;funext i j;rw[sgF,hv];by_cases h2:i=v.a/\j=v.b;.obtain⟨rfl,rfl⟩:=h2;simp[hl]
   .simp[hl,h2]
  .simp-implicitDefEqProofs only[turn,Dr.d,bindT_tup,setVs_cons,setVs_nil,setV_s,qG,bX,lY,za,zw,jx,ev_cmp,zN,zM,zX,R.bind_ok,be1,hl,decide_false,qF,if_false,bG,zd];congr 3;congr 1;funext i j;rw[sgF,hv];simp[hl]
 .rintro U t⟨x,y,z,w,rfl,rfl⟩;rw[av];have e3:(s++(aj1 m.R (sgM m c)++[.J<|aJ2 s.length m.R]))[s.length+m.R]?=al (.J<|aJ2 s.length m.R):=by rw[aw<|by lia,bU,aw<|by simp];simp
  show(nxt _ _ _<|s++(aj1 m.R (sgM m c)++[.J<|aJ2 s.length m.R])).bind _=_;simp-implicitDefEqProofs[at2,e3];rw[dO<|by unfold aJ2 LIM;simp;omega];generalize hS:s++(aj1 m.R (sgM m c)++[.J<|aJ2 s.length m.R])=S;obtain⟨U1,s1,e1,Uu⟩:=az2 (ok:=λs1=>chk S s1 [s.length+m.R]) (g:=zV (aa0 P n) (.Y 0) (.mk .tuple<|.seq<|.X 0)) (λU u=>u=S/\∃x,U=[x]) (λd=>match d with|.ref p=>.tp<|row m.R<|sgM m c<|p-s.length|d=>d) (aJ2 s.length m.R) (zI [al m.d,al<|.str [c],al<|.int m.R,al<|.ref<|s.length+m.R,x,y,z,w] [aT]) S ⟨rfl,aT,rfl⟩ (λ_ u h=>by obtain⟨rfl,_⟩:=h;simp[chk]) (by
   rintro d hd U u⟨rfl,x,rfl⟩;obtain⟨i,hi,rfl⟩:=ao.mp hd;have J:=bC.mp hi;have Z:u[s.length+i]?=al (.J<|row m.R<|sgM m c i):=by rw[<-hS,aw<|by lia,bU,aB<|by simpa using J,ah2 J]
   refine⟨[al<|.ref<|s.length+i],u,?_,rfl,_,rfl⟩;simp-implicitDefEqProofs[zV,bl1,Z,mk]);obtain⟨rfl,_⟩:=Uu;rw[e1];simp-implicitDefEqProofs[mk];rw[<-hS];have:(aJ2 s.length m.R).map (λd=>match d with|.ref p=>D.tp<|row m.R<|sgM m c<|p-s.length|d=>d)=(aq m.R).map λi=>.tp<|row m.R<|sgM m c i:=by unfold aJ2;rw[cD];exact dw λi _=>by simp
  rw[this];exact zz (d:=gd m.R<|sgM m c) jz<|by nofun
def ix_str{j:Nat}(a:l[j]?=al c):ixM (.str l) (.int<|j) s=.ok (.str [c]) s:=by have h:=(ag.mp a).1;have e:=(ag.mp a).2;simp[ixM,ixn,h,e]
def bQ4 s n a b:eqv s n (.int a) (.int b)=al (a==b):=by cases n<;>rfl
noncomputable def shN(f:Nat->Nat->Int)(i j:Nat):Nat->Int|0=>3|k+1=>let b:=max (max (f i k) (if f k k=1 then 2 else f k k)) (f k j);if b<shN f i j k then b else shN f i j k
def sh(m:Nat)(f:Nat->Nat->Int)(i j:Nat):Int:=shN f i j m
def ay0:bi .max3 [.int a,.int b,.int c] s=.ok (.int<|max (max a b) c) s:=rfl
def be5:bi .len [gd m f] s=.ok (.int m) s:=by show R.ok (D.int ((aq m).map λi=>D.tp<|row m<|f i).length) s=_;simp
def by4{s:Sto}(h:l.length<LIM):meth .append (.ref s.length) [v] (s++[.J l])=.ok .N (s++[.J<|l++[v]]):=aJ5 h
def aL4[Has P ad4]n{m}(hR:m<=5)f s:(aa0 P<|n+1).call "_law_sharp" [gd m f] s=.ok (gd m<|sh m f) s:=by
 have e0:(aa0 P<|n+1).call "_law_sharp" [gd m f] s=_:=zl ad4 rfl;rw[e0];simp-implicitDefEqProofs[ad4,be5];rw[zP (by unfold Ww62;lia) (by unfold Ww62;lia)];simp only[R.bind_ok];refine an4 (λi U t=>∃(T:Sto)(x y z u v w:Option D),U=[al<|gd m f,al<|.int m,al<|.ref s.length,x,y,z,u,v,w]/\t=s++.J ((aq i).map λi=>.tp<|row m<|sh m f i)::T) ⟨[],aT,aT,aT,aT,aT,aT,rfl,rfl⟩ (λ_ _ _ _ _=>rfl) ?_ ?_
 .rintro i d U t hi⟨T,x,y,z,u,v,w,rfl,rfl⟩;have qq:=jd hi;have J:=qq.1;have hd:=qq.2;rw[hd];simp-implicitDefEqProofs only[turn,zG,setV_s,qG,bX,za,ex_asg,ev_lst,qe,R.bind_ok,alloc_eq,qE,zd,ex_for,qN,zN,zM,zX,be,aO];rw[zP (by unfold Ww62;omega) (by unfold Ww62;omega)];simp only[R.bind_ok];generalize Z:(aq i).map (λi=>D.tp<|row m<|sh m f i)=X;have a0:X.length=i:=by rw[<-Z];simp
  refine ai2 (λj U t=>∃z u v w,U=[al<|gd m f,al<|.int m,al<|.ref s.length,al<|.int i,al<|.ref<|s.length+(T.length+1),z,u,v,w]/\t=s++.J X::(T++[.J<|(aq j).map λj=>.int<|sh m f i j])) ⟨z,u,v,w,rfl,rfl⟩ (λ_ _ _ _ _=>rfl) ?_ ?_
  .rintro j d U t hj⟨z,u,v,w,rfl,rfl⟩;have Uu:=(jd hj).1;rw[(jd hj).2];simp-implicitDefEqProofs only[turn,zG,setV_s,qG,bX,za,ex_asg,ev_cst,Cn_int,R.bind_ok,qE,zd,ex_for,qN,zN,zM,zX];rw[zP (by unfold Ww62;lia) (by unfold Ww62;lia)];simp only[R.bind_ok];refine ai2 (Ww:=Nx _) (λk U t=>∃(v w:Option D),U=[al<|gd m f,al<|.int m,al<|.ref s.length,al<|.int i,al<|.ref<|s.length+(T.length+1),al<|.int j,al<|.int<|shN f i j k,v,w]/\t=s++.J X::(T++[.J<|(aq j).map λj=>.int<|sh m f i j])) ⟨v,w,rfl,rfl⟩ (λ_ _ _ _ _=>rfl) ?_ ?_
   .rintro k d U t hk⟨v,w,rfl,rfl⟩;have h:=(jd hk).1;rw[(jd hk).2];refine bQ7 (U:=[al<|gd m f,al<|.int m,al<|.ref s.length,al<|.int i,al<|.ref<|s.length+(T.length+1),al<|.int j,al<|.int<|shN f i j<|k+1,al<|.int k,al<|.int<|if f k k=1 then 2 else f k k]) (s:=s++.J X::(T++[.J<|(aq j).map λj=>.int<|sh m f i j])) ?_ ⟨_,_,rfl,rfl⟩;by_cases h1:f k k=1;.simp-implicitDefEqProofs[turn,at6 h,at6 J,qC h,qC Uu,h1,ay0,shN]
    .simp-implicitDefEqProofs[turn,at6 h,at6 J,qC h,qC Uu,h1,ay0,shN]
   .rintro U t⟨v,w,rfl,rfl⟩;rw[zB];have Y:(s++.J X::(T++[O.J<|(aq j).map λj=>D.int<|sh m f i j]))[s.length+(T.length+1)]?=al (.J<|(aq j).map λj=>.int<|sh m f i j):=ax7;simp-implicitDefEqProofs only[zd,za,zw,ex_ex,ev_meth,zU,qa,qe,zN,zM,zX,R.bind_ok];rw[zD Y<|by unfold LIM;simp;lia];simp-implicitDefEqProofs only[R.bind_ok,zd,zw,bh1];refine⟨_,_,_,_,rfl,?_⟩;rw[cI _ _<|by lia,bU,List.set_cons_succ,cI _ _<|aj _,lC,List.set_cons_zero,dX,aS];rfl
  .rintro U t⟨z,u,v,w,rfl,rfl⟩;rw[zB];have Y:(s++.J X::(T++[O.J<|(aq m).map λj=>D.int<|sh m f i j]))[s.length+(T.length+1)]?=al (.J<|(aq m).map λj=>.int<|sh m f i j):=ax7;simp-implicitDefEqProofs only[zd,za,zw,ex_ex,ev_meth,zU,qa,qe,zN,zM,zX,R.bind_ok,ev_mk,evL_seq,bl1,Y,mk];rw[aJ5<|by unfold LIM;lia];simp-implicitDefEqProofs only[R.bind_ok,zd,zw,bh1];refine⟨T++[O.J<|bN (λj=>D.int<|sh m f i j) (aq m)],_,_,_,_,_,_,rfl,?_⟩;rw[dX,aS,Z];rfl
 .rintro U t⟨T,x,y,z,u,v,w,rfl,rfl⟩;rw[zB];have h0:(s++.J ((aq m).map λi=>D.tp<|row m<|sh m f i)::T:Sto)[s.length]?=al (.J<|(aq m).map λi=>D.tp<|row m<|sh m f i):=by rw[aw<|aj _];simp
  simp-implicitDefEqProofs[bl1,h0,mk];exact zz (d:=gd m<|sh m f) jz<|by nofun
theorem aY9{m:Nat}{f g:Nat->Int}:∀l:List Nat,eqL (eqv s n) (l.map λj=>.int<|f j) (l.map λj=>.int<|g j)=al (l.all λj=>f j==g j)|[]=>rfl|a::l=>by rw[aQ,aQ];unfold eqL;rw[bQ4,aY9 (m:=m) l];simp
theorem bC5{f g:Nat->Nat->Int}:∀l:List Nat,eqL (eqv s<|n+1) (l.map λi=>.tp<|row m<|f i) (l.map λi=>.tp<|row m<|g i)=al (l.all λi=>(aq m).all λj=>f i j==g i j)|[]=>rfl|a::l=>by rw[aQ,aQ];unfold eqL;rw[show eqv s (n+1) (.tp<|row m<|f a) (.tp<|row m<|g a)=eqL (eqv s n) (row m<|f a) (row m<|g a)from rfl,row,row,aY9 (m:=m),bC5 l];simp
def EqG(m:Nat)(f g:Nat->Nat->Int):Prop:=∀i j,i<m->j<m->f i j=g i j
def bg7:∃b,eqv s DEEP (gd m f) (gd m g)=al b/\(b=bY↔EqG m f g):=by refine⟨_,bC5<|aq m,?_⟩;simp[aG];exact⟨λh i j a b=>h i a j b,λh i a j b=>h i j a b⟩
def cf5:∃b,qQ .eq (gd m f) (gd m g) s=.ok (.T b) s/\(b=bY↔EqG m f g):=AD bg7 λb e h=>⟨b,by show(match eqv s DEEP (gd m f) (gd m g)with|some r=>R.ok (D.T r) s|none=>.B)=_;rw[e],h⟩
def cl8:∃b,qQ .ne (gd m f) (gd m g) s=.ok (.T<|!b) s/\(b=bY↔EqG m f g):=AD bg7 λb e h=>⟨b,by show(match eqv s DEEP (gd m f) (gd m g)with|some r=>R.ok (D.T<|!r) s|none=>.B)=_;rw[e],h⟩
inductive Stp where|let_(c:Nat)|pair(i j:Nat)|sharp(i:Nat)
noncomputable abbrev Stp.ctorIdx(x:Stp):Nat:=Stp.casesOn x (λ_=>0) (λ_ _=>1) (λ_=>2)
noncomputable def Stp.d:Stp->D|.let_ c=>.tp [.str [108,101,116,116,101,114],.str [c]]|.pair i j=>.tp [.str [112,97,105,114],.int i,.int j]|.sharp i=>.tp [.str [115,104,97,114,112],.int i]
theorem Stp.bnd(x:Stp)n:x.d.bnd n=true:=by cases x<;>rfl
def zx(h:∀d∈l,d.ncl=bY):D.nclL l=true:=by induction l with|nil=>rfl|cons d l ih=>unfold D.nclL;rw[h d<|am ..,ih λx hx=>h x<|ah _ hx];rfl
def bx6:D.nclL (cj8 l)=true:=zx λd a=>by obtain⟨x,_,rfl⟩:=ao.mp a;rfl
def bw1{l:List Int}:D.nclL (l.map D.int)=true:=zx λd a=>by obtain⟨x,_,rfl⟩:=ao.mp a;rfl
def bg9:D.nclL (row m f)=true:=zx λd a=>by obtain⟨x,_,rfl⟩:=ao.mp a;rfl
def ar1:(gd m f).ncl=true:=zx λd a=>by obtain⟨x,_,rfl⟩:=ao.mp a;exact bg9
def bP4{s:Sto}(h:s.all O.ncl=bY)(ho:o.ncl=bY):(s.set r o).all O.ncl=true:=by
 rw[aG]at h⊢;intro x hx;rcases gU hx with h1|h1;.exact h x h1
 .rw[h1];exact ho
inductive Mks(m:Mc):List Stp->List (Nat->Nat->Int)->Prop where|nil:Mks m [] []|let_{l fs}(c:Nat):Mks m l fs->97<=c->c<97+m.L->Mks m (l++[.let_ c]) (fs++[sgM m c])|pair{l fs}(i j:Nat)(f g:Nat->Nat->Int):Mks m l fs->fs[i]?=al f->fs[j]?=al g->Mks m (l++[.pair i j]) (fs++[pr m.R f g])|sharp{l fs}(i:Nat)(f:Nat->Nat->Int):Mks m l fs->fs[i]?=al f->EqG m.R (pr m.R f f) f->Mks m (l++[.sharp i]) (fs++[sh m.R f])
def Mks.len(h:Mks m l fs):l.length=fs.length:=by induction h<;>simp_all
section
variable{s:Sto}{r:Nat}{b:Int}{A B Cc:List D}{T:Sto}
end
theorem bd4:∀k,prN f g i j k<=x↔3<=x\/∃l,l<k/\f i l<3/\f i l<=x/\g l j<=x
 |0=>by unfold prN;exact⟨.inl,λh=>h.elim id λ⟨l,z,_⟩=>ij z<|cM _⟩|k+1=>by
  have J:=bd4 (f:=f) (g:=g) (i:=i) (j:=j) (x:=x) k;have key:prN f g i j (k+1)<=x↔prN f g i j k<=x\/(f i k<3/\f i k<=x/\g k j<=x):=by
   conv=>lhs;unfold prN
   simp only;repeat' split
   all_goals omega
  rw[key,J];constructor
  .rintro((h|⟨l,h1,h2⟩)|h);.exact .inl h
   .exact .inr ⟨l,by lia,h2⟩
   .exact .inr ⟨k,by lia,h⟩
  .rintro(h|⟨l,h1,h2⟩);.exact .inl<|.inl h
   .by_cases e:l=k;.subst e;exact .inr h2
    .exact .inl<|.inr ⟨l,by lia,h2⟩
def ay3(a:x<3):pr m f g i j<=x↔∃l,l<m/\f i l<=x/\g l j<=x:=by
 unfold pr;rw[bd4];constructor
 .rintro(h|⟨l,J,_,z,h3⟩);.omega
  .exact⟨l,J,z,h3⟩
 .rintro⟨l,J,z,h3⟩;exact .inr ⟨l,J,by lia,z,h3⟩
def ch5:pr m f g i j<=3:=(bd4 _).mpr<|.inl<|cJ _
def bg8{b:Int}(c:a<=3)(c:b<=3)(h:∀x,x<3->(a<=x↔b<=x)):a=b:=by
 by_cases c:a<3;.have:=(h a c).mp<|cJ _;have:=(h b<|by lia).mpr<|cJ _;lia
 .by_cases h2:b<3;.have:=(h b h2).mpr<|cJ _;lia
  .lia
section
variable{m:Nat}{f:Nat->Nat->Int}{x:Int}
end
def bu4{l:List Stp}n:(D.tp<|l.map Stp.d).bnd n=true:=zt (λd a n=>by obtain⟨x,_,rfl⟩:=ao.mp a;exact x.bnd n) n
noncomputable def cr5(a c:Int)(vs:List Int):Stp->Int|.let_ _=>a|.pair i j=>vs.getD i 0+vs.getD j 0|.sharp i=>vs.getD i 0*c
def vl(a c:Int)(l:List Stp):List Int:=l.foldl (λb x=>b++[cr5 a c b x]) []
def aB1{α:Type}{l:List α}{x}(h:l[k]?=al x):l.take (k+1)=l.take k++[x]:=by rw[nh,h];rfl
section
variable{F:Fns}{U:Env}{s:Sto}
noncomputable def apV(F:Fns)(d:D)(l:List D)(s:Sto):R D:=match d with|.fn f=>F.call f l s|.clo id a=>F.lam id a l s|_=>.B
def bp3 es(h:U[i]?=al (al d)):ev F (.callV i es) U s=(evs F es U s).bind λl s=>apV F d l s:=by show(evs F es U s).bind (λl s=>match U[i]? with|some<|al<|.fn f=>F.call f l s|some<|al<|.clo id a=>F.lam id a l s|_=>.B)=_;rw[h];cases d<;>rfl
def jt J(h:ag9 U z=al cs):af7 F (.lam Uu z J) U s=(af7 F J U s).bind λl s=>.ok (.clo Uu cs::l) s:=by show(match ag9 U z with|some cs=>(af7 F J U s).bind λl s=>R.ok (D.clo Uu cs::l) s|none=>.B)=_;rw[h]
end
def qL{s:Sto}(h:s.all O.ncl=bY)(a:o.ncl=bY):(s++[o]).all O.ncl=true:=by rw[mB,h];simp[a]
noncomputable def Stp.t(c:Int):Stp->D|.sharp i=>.tp [.str [116,105,109,101,115],.int i,.int c]|x=>x.d
noncomputable def gdD(m:Nat)(Ww:Nat->Nat->D):D:=.tp<|(aq m).map λi=>.tp<|(aq m).map λj=>Ww i j
def bh4(h:∀i j n,(Ww i j).bnd n=bY)n:(gdD m Ww).bnd n=true:=by refine zt (λd a n=>?_) n;obtain⟨i,_,rfl⟩:=ao.mp a;refine zt (λd a n=>?_) n;obtain⟨j,_,rfl⟩:=ao.mp a;exact h i j n
def ak1[Has P ad3]n{m:Nat}(hm:m<=1000){d}{s}{Ww}(Uu:∀i j n,(Ww i j).bnd n=bY)(h:∀i j,i<m->j<m->apV (aa0 P n) d [.int i,.int j] (s++[.J<|(aq i).map λi=>.tp<|(aq m).map λj=>Ww i j])=.ok (Ww i j) (s++[.J<|(aq i).map λi=>.tp<|(aq m).map λj=>Ww i j])):(aa0 P<|n+1).call "grid" [.int m,d] s=.ok (gdD m Ww) s:=by
 have Y:(aa0 P<|n+1).call "grid" [.int m,d] s=_:=zl ad3 rfl;rw[Y,show(bN al [D.int m,d]++az ad3.vs aT)=[al<|D.int m,al d,aT,aT]from rfl];simp-implicitDefEqProofs only[ad3];simp-implicitDefEqProofs only[za,ex_asg,ev_lst,qe,R.bind_ok,alloc_eq,zG,setV_s,qG,bX,qE,zd,ex_for,qN,zN,zM,zX];rw[zP (by unfold Ww62;lia) (by unfold Ww62;lia)];simp only[R.bind_ok];rw[R.bind_assoc];refine an4 (λi U t=>∃(x:Option D),U=[al<|D.int m,al d,al<|.ref s.length,x]/\t=s++[.J<|(aq i).map λi=>.tp<|(aq m).map λj=>Ww i j]) ⟨aT,rfl,rfl⟩ (λ_ _ _ _ _=>rfl) ?_ ?_
 .rintro i dd U t hi⟨x,rfl,rfl⟩;have z:=(jd hi).1;rw[(jd hi).2];generalize J:s++[O.J<|(aq i).map λi=>D.tp<|(aq m).map λj=>Ww i j]=S;have e1:qu (λs1=>chk S s1 []) (zV (aa0 P n) (.Y 0) (.callV 1<|.cons (.X 2) (.cons (.X 0) .nil))) (ag6 0 (m:Int)) (zI [al<|D.int m,al d,al<|.ref s.length,al<|.int (i:Int)] [aT,al 1,al 3]) S=.ok ((aq m).map λj=>Ww i j) S:=by obtain⟨U1,s1,e1,Z⟩:=qR (ok:=λs1=>chk S s1 []) (g:=zV (aa0 P n) (.Y 0) (.callV 1<|.cons (.X 2) (.cons (.X 0) .nil))) (λU u=>u=S/\∃x,U=[x,al d,al<|.int i]) (λj=>Ww i j) m (zI [al<|D.int m,al d,al<|.ref s.length,al<|.int (i:Int)] [aT,al 1,al 3]) S ⟨rfl,aT,rfl⟩ (λ_ _ _=>rfl) (by rintro j hj U u⟨rfl,x,rfl⟩;refine⟨[al<|.int j,al d,al<|.int i],u,?_,rfl,_,rfl⟩;have hc:=h i j z hj;rw[J]at hc;unfold zV;simp-implicitDefEqProofs only[zG,qG];rw[bp3 (d:=d) _ rfl];simp-implicitDefEqProofs only[qa,qe,zN,zM,zX,R.bind_ok,hc]);obtain⟨rfl,_⟩:=Z;exact e1
  have e2:turn (aa0 P n) (.Y 3) (.cons (.ex<|.me .append (.X 2) (.cons (.mk .tuple<|.comp (.Y 0) (.rg<|.X 0) (.callV 1<|.cons (.X 2) (.cons (.X 0) .nil)) [aT,al 1,al 3]) .nil)) .nil) (.int i) [al<|D.int m,al d,al<|.ref s.length,x] S=.ok (.next [al<|D.int m,al d,al<|.ref s.length,al<|.int i]) (s++[.J<|(aq<|i+1).map λi=>.tp<|(aq m).map λj=>Ww i j]):=by unfold turn;simp-implicitDefEqProofs only[zG,setV_s,qG,bX,za,zw,ex_ex,ev_meth,zU,qa,qe,ev_mk,qw,qN,zN,zM,zX,R.bind_ok];rw[zP (by unfold Ww62;lia) (by unfold Ww62;lia)];simp only[R.bind_ok];rw[dO<|by rw[zB];unfold LIM;lia,e1,<-J];simp-implicitDefEqProofs only[R.bind_ok,mk];rw[by4<|by unfold LIM;simp;lia,dX,aS,zU];rfl
  rw[e2];show∃x,_;exact⟨al<|.int i,rfl,rfl⟩
 .rintro U t⟨x,rfl,rfl⟩;rw[zB];have h0:(s++[O.J<|(aq m).map λi=>D.tp<|(aq m).map λj=>Ww i j])[s.length]?=al (.J<|(aq m).map λi=>D.tp<|(aq m).map λj=>Ww i j):=by rw[aw<|aj _];simp
  simp-implicitDefEqProofs only[zd,za,zw,ex_ret,ev_mk,evL_seq,zN,zM,zX,R.bind_ok,bl1,h0,mk,je,ja];exact zz (d:=gdD m Ww) (bh4 Uu) (by nofun)
def InG(m:Nat)(f:Nat->Nat->Int):Prop:=∀i j,i<m->j<m->0<=f i j/\f i j<=3
def bD3(J:1<=m)(h:InG m f)(z:InG m g)(hi:i<m)(a:j<m):pr m f g i j<=x↔∃l,l<m/\f i l<=x/\g l j<=x:=by
 by_cases b:x<3;.exact ay3 b
 .refine⟨λ_=>⟨0,by lia,?_,?_⟩,λ_=>fK ch5<|by lia⟩;.have:=h i 0 hi (by omega);lia
  .have:=z 0 j (by omega) a;lia
def bx8(h:1<=m)(z:InG m f)(J:InG m g):EqG m (pr m f g) (L2.bi0 m f g):=λi j a b=>L2.aA4 λx=>by rw[bD3 h z J a b,L2.ay7 h]
theorem bB8:∀k,shN f i j k<=x↔3<=x\/∃l,l<k/\f i l<=x/\(if f l l=1 then 2 else f l l)<=x/\f l j<=x
 |0=>by unfold shN;exact⟨.inl,λh=>h.elim id λ⟨l,J,_⟩=>ij J<|cM _⟩|k+1=>by
  have Uu:=bB8 (f:=f) (i:=i) (j:=j) (x:=x) k;have key:shN f i j (k+1)<=x↔shN f i j k<=x\/(f i k<=x/\(if f k k=1 then 2 else f k k)<=x/\f k j<=x):=by
   conv=>lhs;unfold shN
   simp only;generalize(if f k k=1 then(2)else f k k)=z;split<;>omega
  rw[key,Uu];constructor
  .rintro((h|⟨l,h1,h2⟩)|h);.exact .inl h
   .exact .inr ⟨l,by lia,h2⟩
   .exact .inr ⟨k,by lia,h⟩
  .rintro(h|⟨l,h1,h2⟩);.exact .inl<|.inl h
   .by_cases e:l=k;.subst e;exact .inr h2
    .exact .inl<|.inr ⟨l,by lia,h2⟩
def bD5(h:0<=y)(a:y<=3):(if y=1 then 2 else y)=L2.rnd y:=by unfold L2.rnd;lia
def aM1(Z:1<=m)(J:InG m f):EqG m (sh m f) (L2.sharp m f):=λi j a b=>L2.aA4 λx=>by
 unfold sh;rw[bB8,L2.an3 Z];constructor
 .rintro(h|⟨l,z,Y,Uu,h3⟩)
  .refine⟨0,by lia,?_,?_,?_⟩;.have:=J i 0 a (by omega);lia
   .have:=J 0 0 (by omega) (by omega);have:=(L2.bz8 this.1 this.2).2;lia
   .have:=J 0 j (by omega) b;lia
  .exact⟨l,z,Y,bD5 (J l l z z).1 (J l l z z).2▸Uu,h3⟩
 .rintro⟨l,z,Y,Uu,h3⟩;exact .inr ⟨l,z,Y,bD5 (J l l z z).1 (J l l z z).2▸Uu,h3⟩
def cq2(J:1<=m)(h:InG m f)(z:InG m g):InG m<|pr m f g:=λi j a b=>bx8 J h z i j a b▸L2.bv5 J h z a b
def cq6(z:1<=m)(h:InG m f):InG m<|sh m f:=λi j a b=>aM1 z h i j a b▸L2.bu5 z h i j a b
theorem al8:∀l(a:Int),l.foldl min a<=x↔∃y∈a::l,y<=x
 |[],a=>by simp|b::l,a=>by
  rw[iV,al8 l];constructor
  .rintro⟨y,hy,hx⟩;rcases aD.mp hy with rfl|hy
   .by_cases h:a<=b;.exact⟨a,by simp,by lia⟩
    .exact⟨b,by simp,by lia⟩
   .exact⟨y,by simp[hy],hx⟩
  .rintro⟨y,hy,hx⟩;simp only[aD]at hy;rcases hy with rfl|rfl|hy;.exact⟨min y b,by simp,by lia⟩
   .exact⟨min a y,by simp,by lia⟩
   .exact⟨y,by simp[hy],hx⟩
def bJ9(h:minI l=al m):m<=x↔∃y∈l,y<=x:=by cases l with|nil=>cases h|cons a l=>exact ay (h)▸al8 l a
def aW2{l:List Nat}:qf (l.map λk=>D.int<|f k)=al (l.map f):=by induction l with|nil=>rfl|cons a l a=>rw[aQ];unfold qf;rw[a];rfl
def bD6(h:1<=m){f:Nat->Int}(c:∀x,v<=x↔∃k,k<m/\f k<=x)s:mk .min ((aq m).map λk=>D.int<|f k) s=.ok (.int v) s:=by
 obtain⟨w,a⟩:∃w,minI ((aq m).map f)=al w:=by obtain⟨b,rfl⟩:∃b,m=b+1:=⟨m-1,by lia⟩;exact cK▸⟨_,rfl⟩
 show(match(qf<|(aq m).map λk=>D.int<|f k).bind minI with|some m=>R.ok (D.int m) s|none=>.B)=_;rw[aW2];show(match minI ((aq m).map f)with|some m=>R.ok (D.int m) s|none=>.B)=_;rw[a];have:w=v:=L2.aA4 λx=>by
  rw[bJ9 a,c];constructor;.rintro⟨y,hy,hx⟩;obtain⟨k,a,rfl⟩:=ao.mp hy;exact⟨k,bC.mp a,hx⟩
  .rintro⟨k,a,hx⟩;exact⟨_,ao.mpr ⟨k,bC.mpr a,rfl⟩,hx⟩
 rw[this]
section
variable{P:Pr}[Has P ad3][Has P aa7][HasL P aa2]
def qZ n(Uu:1<=m)(Z:m<=5)(Y:InG m f)(hg:InG m g)(hs:s.all O.ncl=bY):
  (aa0 P<|n+3).call "sign_product" [gd m f,gd m g] s=.ok (gd m<|pr m f g) s:=by have e:(aa0 P<|n+3).call "sign_product" [gd m f,gd m g] s=_:=zl aa7 rfl;have J:=ak1 (P:=P) (n+1) (m:=m) (by lia) (d:=.clo "sign_product.0" [.int m,gd m f,gd m g]) (λ_ _ _=>rfl) (λi j b c=>by
  generalize hS:s++[O.J<|(aq i).map λi=>D.tp<|(aq m).map λj=>D.int<|pr m f g i j]=S;have h:S.all O.ncl=true:=by rw[<-hS];refine qL hs<|zx λd a=>?_;obtain⟨x,_,rfl⟩:=ao.mp a;exact zx λd a=>by obtain⟨x,_,rfl⟩:=ao.mp a;rfl
  refine(ak5 aa2 rfl rfl<|by rw[h];simp[D.nclL,D.ncl,ar1]).trans ?_;show(ev (aa0 P n) aa2.body [al<|.int i,al<|.int j,al<|.int m,al<|gd m f,al<|gd m g] S).bind (ac3 S)=_;simp-implicitDefEqProofs only[aa2,ev_mk,qw,qN,zN,zM,zX,R.bind_ok];rw[zP (by unfold Ww62;lia) (by unfold Ww62;lia)];simp only[R.bind_ok];rw[dO<|by rw[zB];unfold LIM;lia];refine AE (qR (ok:=λa=>chk S a []) (g:=zV (aa0 P n) (.Y 0) (.bi .max2<|.cons (.ix (.ix (.X 1) (.X 2)) (.X 0)) (.cons (.ix (.ix (.X 3) (.X 0)) (.X 4)) .nil))) (λU u=>u=S/\∃x,U=[x,al<|gd m f,al<|.int i,al<|gd m g,al<|.int j]) (λk=>.int<|if g k j>f i k then g k j else f i k) m (zI [al<|.int i,al<|.int j,al<|.int m,al<|gd m f,al<|gd m g] [aT,al 3,al 0,al 4,al 1]) S ⟨rfl,aT,rfl⟩ (λ_ _ _=>rfl) (by rintro k a U u⟨rfl,x,rfl⟩;refine⟨[al<|.int k,al<|gd m f,al<|.int i,al<|gd m g,al<|.int j],u,?_,rfl,_,rfl⟩;unfold zV;simp-implicitDefEqProofs only[zG,qG,ev_bi,qa,qe,ev_ix,zN,zM,zX,R.bind_ok,at6 b,at6 a,qC a,qC c,bo6])) λU1 a a h=>?_;obtain⟨rfl,_⟩:=h;rw[a];simp only[R.bind_ok];rw[bD6 (v:=pr m f g i j) Uu<|λx=>by
   rw[bD3 Uu Y hg b c];constructor;.rintro⟨l,z,h,h2⟩;exact⟨l,z,by split<;>omega⟩
   .rintro⟨l,z,h⟩;exact⟨l,z,by split at h<;>omega,by split at h<;>omega⟩];exact zH);rw[e,show(bN al [gd m f,gd m g]++az aa7.vs aT)=[al<|gd m f,al<|gd m g,aT]from rfl];simp-implicitDefEqProofs only[aa7,za,zw,ex_asg,ev_bi,qa,qe,zN,zM,zX,R.bind_ok,be5,zG,setV_s,qG,bX,qE,zd,ex_ret,jq,evas_ex];rw[jt (cs:=[.int m,gd m f,gd m g]) _ rfl];simp-implicitDefEqProofs only[qP,R.bind_ok,J];have e:gdD m (λi j=>.int<|pr m f g i j)=gd m (pr m f g):=rfl;rw[e,dO<|by rw[ar1,hs];rfl];simp-implicitDefEqProofs only[R.bind_ok,je,ja];exact zq jz<|by nofun
end
def bb0{s:Sto}:(s++[o])[s.length]?=al o:=by rw[aw<|aj _];simp
def cd7 a:(sg a).length=a.length:=av _
class HasX(P:Pr)(f:String)(d:Xf):Prop where at_:P.xf f=al d
class HasT(P:Pr)(f:String)(d:Tf):Prop where
 no:P.df f=aT
 at_:P.tf f=al d
class HasE(P:Pr)(c:String)(ts:List String):Prop where
 at_:P.xc c=bY
 ts:∀t∈ts,P.xt t=bY
def bh5 d[h:HasX P f d](z:l.length=d.ps):(aa0 P<|n+1).xcall f l s=xB (aa0 P n) d.body (l.map al++az d.vs aT) s:=by show(match P.xf f with|some d=>if l.length=d.ps then xB (aa0 P n) d.body (l.map al++az d.vs aT) s else aT|none=>aT)=_;exact h.at_▸dO z
def bT0 d[h:HasT P f d](z:l.length=d.ps):(aa0 P<|n+1).call f l s=bP6 (aa0 P n) d l s:=by have e:(aa0 P<|n+1).call f l s=match P.df f with|some d=>if l.length=d.ps then(exs (aa0 P n) d.body (l.map al++az d.vs aT) s).bind λc a=>match c with|.ret v=>ac3 s v a|.next _=>ac3 s .N a|_=>.B else .B|none=>match P.tf f with|some d=>if l.length=d.ps then bP6 (aa0 P n) d l s else .B|none=>.B:=rfl;rw[e,h.no];rw[h.at_];exact dO z
def bw7(h:d.pre=.nil):bP6 F d l s=bn7 F d s (l.map al++az d.vs aT) s:=by unfold bP6;rw[h];rfl
def bI0:(aa0 P n).xc=P.xc/\(aa0 P n).xt=P.xt:=by cases n<;>exact⟨rfl,rfl⟩
section
variable{α:Type}[DecidableEq α]
theorem aW0:∀{l m:List α},l.Nodup->(∀x∈l,x∈m)->l.length<=m.length|[],m,_,_=>cy _|a::l,m,h,k=>by obtain⟨J,z⟩:=cS.mp h;have ha:=k a<|am ..;have:=aW0 (m:=m.erase a) z λx hx=>(List.mem_erase_of_ne λe=>J<|by rw[<-e];exact hx).mpr<|k x<|ah _ hx;rw[List.length_erase_of_mem ha]at this;have:=List.length_pos_of_mem ha;rw[aR];lia
def cr8{l m:List α}(z:l.Nodup)(J:m.Nodup)(h:∀x,x∈l↔x∈m):l.length=m.length:=Nat.le_antisymm (aW0 z λx=>(h x).mp) (aW0 J λx=>(h x).mpr)
def ap5{x:α}(h:l.Nodup)(c:x∉l):(l++[x]).Nodup:=by rw[ly];exact⟨h,cS.mpr ⟨(λz=>nomatch z),gR⟩,λa a b b e=>c<|aP.mp b▸e▸a⟩
end
section
variable{α:Type}(L0:α->Prop)(mul:α->α->α)(shp:α->α)
variable{L0 mul shp}
end
end DV
end
noncomputable section
namespace DV
def aj4(ho:ag1 s t=bY)(h:t.length=s.length):ac3 s .N t=.ok .N t:=by unfold ac3;rw[dO ho];have:D.bnd s.length .N=true:=rfl;simp only[this,if_true];rw[<-h,fU]
def aA8(h:∀i,i<s.length->t[i]?=s[i]?\/∃o,t[i]?=al o/\o.bnd s.length=bY):ag1 s t=true:=by
 unfold ag1;rw[aG];intro i a;rcases h i (bC.mp a)with z|⟨o,a,b⟩;.rw[z];simp
 .rw[a];simp[b]
class HasMX(P:Pr)(c m:String)(d:Xf):Prop where at_:P.mx c m=al d
def aC4 d[h:HasMX P c m d](z:l.length=d.ps):(aa0 P<|n+1).xm c m l s=xB (aa0 P n) d.body (l.map al++az d.vs aT) s:=by show(match P.mx c m with|some d=>if l.length=d.ps then xB (aa0 P n) d.body (l.map al++az d.vs aT) s else aT|none=>aT)=_;exact h.at_▸dO z
def fldC(a b e:Nat):List<|D×D:=[(.str ah0,.ref a),(.str ap6,.ref b),(.str am2,.ref e)]
def aj5(h:s[o]?=al (.ins "ClosedSet"<|fldC a b e)):ar4 ah0 (.ref o) s=.ok (.ref a) s:=by unfold ar4;simp only[h];simp[look,fldC,am2]
def ay2(h:s[o]?=al (.ins "ClosedSet"<|fldC a b e)):ar4 ap6 (.ref o) s=.ok (.ref b) s:=by unfold ar4;simp only[h];simp[look,fldC,ah0,ap6]
def jL(h:s[o]?=al (.ins "ClosedSet"<|fldC a b e)):ar4 am2 (.ref o) s=.ok (.ref e) s:=by unfold ar4;simp only[h];simp[look,fldC,ah0,ap6,am2]
def al2(h:s[o]?=al (.ins "ClosedSet"<|fldC a b e)):bm6 (.ref o) s=.ok "ClosedSet" s:=by unfold bm6;simp only[h]
noncomputable def seeD(l:List D):List<|D×D:=l.map λd=>(d,.T bY)
theorem qy:∀{l},(d∈l->look d (seeD l)=al (.T bY))/\(d∉l->look d (seeD l)=aT)
 |[]=>⟨λh=>(nomatch h),λ_=>rfl⟩|a::l=>by
  have J:=qy (d:=d) (l:=l);have e:look d (seeD<|a::l)=if a=d then al (.T bY)else look d<|seeD l:=rfl;rw[e];constructor
  .intro h;by_cases z:a=d;.rw[dO z]
   .rw[ef z];rcases aD.mp h with w|w;.exact ij w.symm z
    .exact J.1 w
  .intro h;rw[ef λz=>h<|by rw[z];exact am ..];exact J.2 λw=>h<|ah _ w
def ju(h:s[r]?=al (.dit l))(a:k.keyT=bY):qQ .isin k (.ref r) s=.ok (.T (look k l).isSome) s:=by show(inM k (.ref r) s).bind _=_;unfold inM;simp_all
structure ClS(s:Sto)(o a b e:Nat)(st tb:List D):Prop where
 ins:s[o]?=al (.ins "ClosedSet"<|fldC a b e)stp:s[a]?=al (.J st)tab:s[b]?=al (.J tb)see:s[e]?=al (.dit<|seeD tb)ab:a≠b
 len:st.length=tb.length
 le:tb.length<=80
 bs:∀d∈st,∀n,d.bnd n=bY
 bt:∀d∈tb,∀n,d.bnd n=bY
def clU(s:Sto)(a b e:Nat)(st tb:List D):Sto:=((s.set a<|.J st).set b<|.J tb).set e<|.dit<|seeD tb
def ba9:(clU s a b e st tb).length=s.length:=by unfold clU;simp
def ClS.ne(h:ClS s o a b e st tb):o≠a/\o≠b/\o≠e/\a≠e/\b≠e:=by
 refine⟨λz=>?_,λz=>?_,λz=>?_,λz=>?_,λz=>?_⟩;.have:=h.ins;rw[z,h.stp]at this;lia
 .have:=h.ins;rw[z,h.tab]at this;lia
 .have:=h.ins;rw[z,h.see]at this;lia
 .have:=h.stp;rw[z,h.see]at this;lia
 .have:=h.tab;rw[z,h.see]at this;lia
def aN8(z:i≠a)(h:i≠b)(c:i≠e):(clU s a b e st tb)[i]?=s[i]?:=by unfold clU;rw[aC<|bH c,aC<|bH h,aC<|bH z]
def ClS.more(h:ClS s o a b e st tb)(c:J.length=z.length)(f:z.length<=80)(g:∀d∈J,∀n,d.bnd n=bY)(i:∀d∈z,∀n,d.bnd n=bY):ClS (clU s a b e J z) o a b e J z:=by
 refine AW h.ne λZ a b d e=>have j:=(ag.mp h.stp).1;have Y:=(ag.mp h.tab).1;have k:=(ag.mp h.see).1;⟨?_,?_,?_,?_,h.ab,c,f,g,i⟩;.rw[aN8 Z a b];exact h.ins
 .unfold clU;rw[aC<|bH d,aC<|bH h.ab];exact zZ j
 .unfold clU;rw[aC<|bH e];exact zZ<|by simp;exact Y
 .unfold clU;simp_all
def bK6(h:ClS s o a b e st tb)(f:∀d∈J,∀n,d.bnd n=bY)(g:∀d∈z,∀n,d.bnd n=bY):ag1 s (clU s a b e J z)=true:=aA8 λi c=>by
 refine AW h.ne λn1 c c Z Y=>?_;have d:=(ag.mp h.stp).1;have j:=(ag.mp h.tab).1;by_cases c:i=a;.subst c;refine .inr ⟨.J J,?_,zt f _⟩;unfold clU;rw[aC<|bH Z,aC<|bH h.ab];exact zZ d
 .by_cases h2:i=b;.subst h2;refine .inr ⟨.J z,?_,zt g _⟩;unfold clU;rw[aC<|bH Y];exact zZ<|by simp;exact j
  .by_cases h3:i=e;.subst h3;refine .inr ⟨.dit<|seeD z,by unfold clU;simp_all,?_⟩;show(D.bndL _ ((seeD z).map (·.1))&&D.bndL _ ((seeD z).map (·.2)))=bY;unfold seeD;rw[cD,cD,ae];exact⟨zt (λd a n=>by simp_all) _,zt (λd a n=>by obtain⟨x,b,rfl⟩:=ao.mp a;rfl) _⟩
   .exact .inl<|aN8 c h2 h3
def bF3(h:y∉tb):am5 y (.T bY) (seeD tb)=seeD (tb++[y]):=by unfold am5;rw[(qy).2 h];unfold seeD;rw[aS];rfl
def zJ o f:ev F (.attr o f) U s=(ev F o U s).bind λx s=>ar4 f x s:=rfl
def ae9:Xf:=⟨3,0,.seq (.ite (.Z .isin (.X 2) (.attr (.X 0) am2)) (.cons .retN .nil) .nil) (.iteT (.Z .eq (.bi .len<|.cons (.attr (.X 0) ah0) .nil) (.gl "MOST_TABLES")) (.rais "TooMuch") .no)⟩
def ao6:aa3.body=qv:=rfl
section
variable{P:Pr}[HasM P "ClosedSet" "take" aa3][HasC P "MOST_TABLES"<|.int 80]
def bG2 n(h:ClS s o a b e st tb)(hy:y∈tb)(hk:y.keyT=bY):(aa0 P<|n+1).mcall "ClosedSet" "take" [.ref o,x,y] s=.ok .N s:=by have q:=ju h.see hk;rw[(qy).1 hy]at q;rw[qD aa3 rfl,ao6,show(bN al [D.ref o,x,y]++az aa3.vs aT)=[al<|.ref o,al x,al y]from rfl];simp only[za,zw,jx,zN,ev_cmp,R.bind_ok,zM,zX,je,ja,qF,if_true,zJ,jL h.ins,q,fe,bi8];simp_all
def bu3 n(h:ClS s o a b e st tb)(hy:y∉tb)(hk:y.keyT=bY)(hx:∀n,x.bnd n=bY)(J:∀n,y.bnd n=bY)(hl:tb.length<80):(aa0 P<|n+1).mcall "ClosedSet" "take" [.ref o,x,y] s=.ok .N (clU s a b e (st++[x]) (tb++[y]))/\ClS (clU s a b e (st++[x]) (tb++[y])) o a b e (st++[x]) (tb++[y]):=by
 have f:∀d∈st++[x],∀n,d.bnd n=true:=λd c=>by
  rcases aZ.mp c with z|z;.exact h.bs d z
  .exact aP.mp z▸hx
 have g:∀d∈tb++[y],∀n,d.bnd n=true:=λd c=>by
  rcases aZ.mp c with z|z;.exact h.bt d z
  .exact aP.mp z▸J
 refine⟨?_,h.more (by simp[h.len]) (by simp;lia) f g⟩;refine AW h.ne λY i c j k=>?_;have q:=ju h.see hk;rw[(qy).2 hy]at q;have l:bi .len [.ref a] s=.ok (.int st.length) s:=jH h.stp;have c:decide ((st.length:Int)=80)=false:=gn (by rw[h.len];lia);have m:=zD (v:=x) h.stp (by rw[h.len];unfold LIM;lia);have d:(s.set a<|.J<|st++[x])[o]?=al (.ins "ClosedSet"<|fldC a b e):=by rw[aC<|bH Y];exact h.ins
 have n:(s.set a<|.J<|st++[x])[b]?=al (.J tb):=by rw[aC h.ab];exact h.tab
 have p:=zD (v:=y) n (by unfold LIM;omega);have n:((s.set a<|.J<|st++[x]).set b<|.J<|tb++[y])[o]?=al (.ins "ClosedSet"<|fldC a b e):=by rw[aC<|bH i];exact d
 have i:((s.set a<|.J<|st++[x]).set b<|.J<|tb++[y])[e]?=al (.dit<|seeD tb):=by rw[aC k,aC j];exact h.see
 have Z:pF (.ref e) y (.T bY) ((s.set a<|.J<|st++[x]).set b<|.J<|tb++[y])=.ok () (clU s a b e (st++[x]) (tb++[y])):=by unfold pF;simp only[i,hk,bF3 hy];rw[dO<|by simp[seeD];unfold LIM;omega];rfl
 rw[qD aa3 rfl,ao6,show(bN al [D.ref o,x,y]++az aa3.vs aT)=[al<|.ref o,al x,al y]from rfl];simp only[zU,za,zw,jx,ex_ex,ex_setIx,zN,ev_cst,ev_cmp,ev_bi,ev_meth,qe,qa,Cn_bl,R.bind_ok,zM,zX,zd,fin_next,eq_int,qF,if_false,Bool.false_eq_true,zJ,jL h.ins,q,fe,aj5 h.ins,l,qY (v:=.int 80),c,zU,m,ay2 d,p,jL n,Z];exact aj4 (bK6 h f g) ba9
end
section
variable{P:Pr}[HasMX P "ClosedSet" "take" ae9][HasC P "MOST_TABLES"<|.int 80]
def bV2[hE:HasE P "TooMuch" ts]n(h:ClS s o a b e st tb)(hy:y∉tb)(hk:y.keyT=bY)(Uu:tb.length=80):(aa0 P<|n+1).xm "ClosedSet" "take" [.ref o,x,y] s=al ("TooMuch",s):=by
 have q:=ju h.see hk;rw[(qy).2 hy]at q;have a:=jH h.stp;have b:decide ((st.length:Int)=80)=true:=gc (by rw[h.len];lia);have c:(aa0 P n).xc "TooMuch"=true:=bI0.1▸hE.at_;rw[aC4 ae9 rfl,show(bN al [D.ref o,x,y]++az ae9.vs aT)=[al<|.ref o,al x,al y]from rfl];have J:ex (aa0 P n) (.ite (.Z .isin (.X 2) (.attr (.X 0) am2)) (.cons .retN .nil) .nil) [al<|.ref o,al x,al y] s=.ok (.next [al<|.ref o,al x,al y]) s:=by simp only[za,zw,jx,zN,ev_cmp,R.bind_ok,zM,zX,qF,if_false,Bool.false_eq_true,zJ,jL h.ins,q,fe]
 have z:ev (aa0 P n) (.Z .eq (.bi .len<|.cons (.attr (.X 0) ah0) .nil) (.gl "MOST_TABLES")) [al<|.ref o,al x,al y] s=.ok (.T bY) s:=by simp only[zN,ev_cmp,ev_bi,qe,qa,R.bind_ok,zM,eq_int,zJ,aj5 h.ins,a,qY (v:=.int 80),b]
 show(match ex (aa0 P n) (.ite (.Z .isin (.X 2) (.attr (.X 0) am2)) (.cons .retN .nil) .nil) [al<|.ref o,al x,al y] s with|.ok (.next b) a=>xB (aa0 P n) (.iteT (.Z .eq (.bi .len<|.cons (.attr (.X 0) ah0) .nil) (.gl "MOST_TABLES")) (.rais "TooMuch") .no) b a|_=>aT)=_;rw[J];show(match ev (aa0 P n) (.Z .eq (.bi .len<|.cons (.attr (.X 0) ah0) .nil) (.gl "MOST_TABLES")) [al<|.ref o,al x,al y] s with|.ok (.T b) a=>if b then xB (aa0 P n) (.rais "TooMuch") [al<|.ref o,al x,al y] a else xB (aa0 P n) .no [al<|.ref o,al x,al y] a|_=>aT)=_;rw[z];show(if(aa0 P n).xc "TooMuch"=bY then al ("TooMuch",s)else aT)=_;rw[dO c]
end
def Stdy(m:Nat)(f:Nat->Nat->Int):Prop:=EqG m (pr m f f) f
section
variable{P:Pr}[Has P ad3][Has P aa7][HasL P aa2][Has P ab7]
def al6 n(Y:1<=m)(z:m<=5)(J:InG m f)(hs:s.all O.ncl=bY):∃b,(aa0 P<|n+4).call "is_steady" [gd m f] s=.ok (.T b) s/\(b=bY↔Stdy m f):=by have a:(aa0 P<|n+4).call "is_steady" [gd m f] s=_:=zl ab7 rfl;refine AD (cf5 (s:=s)) λb e h=>⟨b,?_,h⟩;rw[a,show(bN al [gd m f]++az ab7.vs aT)=[al<|gd m f]from rfl];simp only[ab7,za,ex_ret,ev_cmp,ev_call,evas_ex,qP,zN,zM,R.bind_ok,qZ n Y z J J hs,e,ja];exact bp9
variable[Has P ab9][Has P ab8][HasL P ab0][HasC P "FREE"<|.int 0][HasC P "UNBOUND"<|.int 2][HasC P "NONE"<|.int 3]
def aL0{x}{d}[HasC P x d]U s:ev (aa0 P n) (.gl x) U s=.ok d s:=by show(match(aa0 P n).con x with|some d=>R.ok d s|none=>.B)=_;rw[bi4 (v:=d)]
def aJ8 n x s:(aa0 P<|n+1).call "round_of" [.int x] s=.ok (.int<|L2.rnd x) s:=by
 have J:(aa0 P<|n+1).call "round_of" [.int x] s=_:=zl ab9 rfl;rw[J,show(bN al [D.int x]++az ab9.vs aT)=[al<|D.int x]from rfl];have a:=(aL0 (P:=P) (n:=n) (x:="FREE") (d:=.int 0));have h:=(aL0 (P:=P) (n:=n) (x:="NONE") (d:=.int 3));have z:=(aL0 (P:=P) (n:=n) (x:="UNBOUND") (d:=.int 2));by_cases b:x=0
 .have e:L2.rnd x=x:=by unfold L2.rnd;lia
  simp only[ab9,za,jx,ev_or,ev_cmp,zN,zM,R.bind_ok,a,eq_int,b,ja];simp_all
 .by_cases h3:x=3
  .have e:L2.rnd x=x:=by unfold L2.rnd;lia
   simp only[ab9,za,jx,ev_or,ev_cmp,a,h,ja];simp_all
  .have e:L2.rnd x=2:=by unfold L2.rnd;lia
   simp only[ab9,za,zw,jx,ev_or,ev_cmp,zN,zM,R.bind_ok,a,h,z,eq_int,b,h3,decide_false,bG,if_false,qF,zd,ex_ret,je,ja];simp_all
def aE8 n(J:1<=m)(Z:m<=5)(hf:InG m f)(a0:Stdy m f)(hs:s.all O.ncl=bY):(aa0 P<|n+5).call "sharpened" [gd m f] s=.ok (gd m<|sh m f) s:=by
 have e0:(aa0 P<|n+5).call "sharpened" [gd m f] s=_:=zl ab8 rfl;obtain⟨b,eb,hb⟩:=al6 (P:=P) n J Z hf hs;have Uu:=hb.mpr a0;subst Uu;have nL:(O.J<|row m λk=>L2.rnd<|f k k).ncl=true:=bg9;have h:=qL hs nL;have gL:∀t:Sto,(s++[O.J<|row m λk=>L2.rnd<|f k k]++t)[s.length]?=al (.J<|row m λk=>L2.rnd<|f k k):=λt=>by rw[be,aw<|aj _];simp
 have a1:=ak1 (P:=P) (n+3) (m:=m) (by omega) (d:=.clo "sharpened.0" [.int m,gd m f,.ref s.length]) (λ_ _ _=>rfl) (λi j hi hj=>by
  have g0:=gL [O.J<|(aq i).map λi=>D.tp<|(aq m).map λj=>D.int<|sh m f i j];generalize hS:s++[O.J<|row m λk=>L2.rnd<|f k k]++[O.J<|(aq i).map λi=>D.tp<|(aq m).map λj=>D.int<|sh m f i j]=S at g0;have nS:S.all O.ncl=true:=by rw[<-hS];refine qL h<|zx λd hd=>?_;obtain⟨x,_,rfl⟩:=ao.mp hd;unfold D.ncl;exact zx λd hd=>by obtain⟨x,_,rfl⟩:=ao.mp hd;rfl
  refine(ak5 ab0 rfl rfl<|by rw[nS];simp[D.nclL,D.ncl,ar1]).trans ?_;show(ev (aa0 P<|n+2) ab0.body [al<|.int i,al<|.int j,al<|.int m,al<|gd m f,al<|.ref s.length] S).bind (ac3 S)=_;simp-implicitDefEqProofs only[ab0,ev_mk,qw,qN,zN,zM,zX,R.bind_ok];rw[zP (by unfold Ww62;omega) (by unfold Ww62;omega)];simp only[R.bind_ok];rw[dO<|by rw[zB];unfold LIM;omega];have e1:qu (λs1=>chk S s1 []) (zV (aa0 P<|n+2) (.Y 0) (.bi .max3<|.cons (.ix (.ix (.X 1) (.X 2)) (.X 0)) (.cons (.ix (.X 3) (.X 0)) (.cons (.ix (.ix (.X 1) (.X 0)) (.X 4)) .nil)))) (ag6 0 (m:Int)) (zI [al<|.int i,al<|.int j,al<|.int m,al<|gd m f,al<|.ref s.length] [aT,al 3,al 0,al 4,al 1]) S=.ok ((aq m).map λk=>.int<|max (max (f i k) (L2.rnd<|f k k)) (f k j)) S:=by obtain⟨U1,s1,e1,z⟩:=qR (ok:=λs1=>chk S s1 []) (g:=zV (aa0 P<|n+2) (.Y 0) (.bi .max3<|.cons (.ix (.ix (.X 1) (.X 2)) (.X 0)) (.cons (.ix (.X 3) (.X 0)) (.cons (.ix (.ix (.X 1) (.X 0)) (.X 4)) .nil)))) (λU u=>u=S/\∃x,U=[x,al<|gd m f,al<|.int i,al<|.ref s.length,al<|.int j]) (λk=>.int<|max (max (f i k) (L2.rnd<|f k k)) (f k j)) m (zI [al<|.int i,al<|.int j,al<|.int m,al<|gd m f,al<|.ref s.length] [aT,al 3,al 0,al 4,al 1]) S ⟨rfl,aT,rfl⟩ (λ_ _ _=>rfl) (by rintro k hk U u⟨rfl,x,rfl⟩;refine⟨[al<|.int k,al<|gd m f,al<|.int i,al<|.ref s.length,al<|.int j],u,?_,rfl,_,rfl⟩;unfold zV;simp-implicitDefEqProofs only[zG,qG,ev_bi,qa,qe,ev_ix,zN,zM,zX,R.bind_ok,at6 hi,at6 hk,qC hk,qC hj,ao3 g0<|jF hk,ay0]);obtain⟨rfl,_⟩:=z;exact e1
  rw[e1];simp only[R.bind_ok];rw[bD6 (v:=sh m f i j) J<|λx=>by
   rw[aM1 J hf i j hi hj,L2.an3 J];constructor;.rintro⟨l,Y,z,h2,h3⟩;exact⟨l,Y,by lia⟩
   .rintro⟨l,Y,z⟩;exact⟨l,Y,by omega,by omega,by lia⟩];exact zH);have er:qu (λs1=>chk s s1 []) (zV (aa0 P<|n+4) (.Y 0) (.call "round_of"<|.ex (.ix (.ix (.X 1) (.X 0)) (.X 0)) .nil)) (ag6 0 (m:Int)) (zI [al<|gd m f,al<|.int m,aT] [aT,al 0]) s=.ok (row m λk=>L2.rnd<|f k k) s:=by obtain⟨U1,s1,e1,z⟩:=qR (ok:=λs1=>chk s s1 []) (g:=zV (aa0 P<|n+4) (.Y 0) (.call "round_of"<|.ex (.ix (.ix (.X 1) (.X 0)) (.X 0)) .nil)) (λU u=>u=s/\∃x,U=[x,al<|gd m f]) (λk=>.int<|L2.rnd<|f k k) m (zI [al<|gd m f,al<|.int m,aT] [aT,al 0]) s ⟨rfl,aT,rfl⟩ (λ_ _ _=>rfl) (by rintro k hk U u⟨rfl,x,rfl⟩;refine⟨[al<|.int k,al<|gd m f],u,?_,rfl,_,rfl⟩;unfold zV;simp-implicitDefEqProofs only[zG,qG,ev_call,evas_ex,qP,ev_ix,zN,zM,zX,R.bind_ok,at6 hk,qC hk,aJ8<|n+3]);obtain⟨rfl,_⟩:=z;exact e1
 rw[e0,show(bN al [gd m f]++az ab8.vs aT)=[al<|gd m f,aT,aT]from rfl];simp-implicitDefEqProofs only[ab8,za,zw,jx,ev_not,ev_call,evas_ex,qP,zN,zM,zX,R.bind_ok,eb,qF,eV,if_false,bG,zd,ex_asg,ev_bi,qa,qe,be5,zG,setV_s,qG,bX,qE,ev_mk,qw,qN];rw[zP (by unfold Ww62;lia) (by unfold Ww62;lia)];simp only[R.bind_ok];rw[dO<|by rw[zB];unfold LIM;lia,er];simp-implicitDefEqProofs only[R.bind_ok,mk,alloc_eq,qE,zd,zG,setV_s,qG,bX,za,zw,ex_ret,jq,evas_ex,zN,zM,zX];rw[jt (cs:=[.int m,gd m f,.ref s.length]) _ rfl];simp-implicitDefEqProofs only[qP,R.bind_ok,a1];have e:gdD m (λi j=>.int<|sh m f i j)=gd m (sh m f):=rfl;rw[e,dO<|by rw[ar1,h];rfl];simp-implicitDefEqProofs only[R.bind_ok,je,ja];exact zz jz<|by nofun
end
section
variable{P:Pr}[Has P ad3][Has P aa7][HasL P aa2][Has P ab7][Has P jB]
end
noncomputable def ah3(S:Int->Prop):Option Int->Prop|none=>∀c,¬S c|some c=>S c/\∀a,S a->c<=a
def ah3.congr{S}(h:ah3 S o)(e:∀c,S c↔z c):ah3 z o:=by cases o with|none=>exactλc a=>h c<|(e c).mpr a|some c=>exact⟨(e c).mp h.1,λJ a=>h.2 J<|(e J).mpr a⟩
noncomputable def minO:Option Int->Option Int->Option Int|none,x=>x|some a,aT=>al a|some a,al b=>if b<a then al b else al a
noncomputable def Wk(a:List Dr):List Nat->Nat->Nat->Int->Prop|[],p,q,c=>p=q/\c=0|x::w,p,q,c=>∃d∈a,d.a=p/\d.l=x/\∃b,Wk a w d.b q b/\c=(d.t)+b
noncomputable def Dr.turn(x:Dr):Dr:=⟨x.b,x.l,x.a,x.t⟩
def Mc.Wk(m:Mc)(w:List Nat)(c:Int):Prop:=∃p∈m.bg,∃q∈m.en,DV.Wk m.ds w p q c
def Mc.turn(m:Mc):Mc:=⟨m.L,m.R,m.en,m.bg,m.ds.map Dr.turn⟩
def aV6(row:List<|Option Int):List D:=row.map qA
def bo7 row:(aV6 row).length=row.length:=av ..
theorem av0:∀l:List Int,qf (l.map D.int)=al l|[]=>rfl|a::l=>by rw[aQ];unfold qf;rw[av0 l];rfl
theorem aE0:∀(l:List Int)a,(l.foldl min a=a\/l.foldl min a∈l)/\l.foldl min a<=a/\∀y∈l,l.foldl min a<=y
 |[],a=>⟨.inl rfl,cJ _,λy c=>by cases c⟩|b::l,a=>by
  refine AI (aE0 l<|min a b) λJ c d=>?_;rw[iV];refine⟨?_,by omega,λy c=>?_⟩
  .rcases J with h|h
   .rw[h];rcases nM a b with z|z;.left;omega
    .right;rw[show min a b=b by omega];exact am ..
   .exact .inr<|ah _ h
  .rcases aD.mp c with z|z;.rw[z];omega
   .exact d y z
def aU3 l:ah3 (λc=>c∈l) (minI l):=by cases l with|nil=>exactλc a=>by cases a|cons a l=>
  refine AI (aE0 l a) λUu J a=>⟨?_,λy b=>?_⟩
  .rcases Uu with h|h;.rw[h];exact am ..
   .exact ah _ h
  .rcases aD.mp b with z|z;.rw[z];exact J
   .exact a y z
def bK4 l s:mkD .min (l.map D.int) .N s=.ok (qA<|minI l) s:=by unfold mkD;simp only[av0];cases minI l<;>rfl
theorem al5{α β:Type}{f g:α->Option β}:∀{l:List α},(∀x∈l,f x=g x)->l.filterMap f=l.filterMap g|[],_=>rfl|a::l,h=>by rw[bw,bw,h a<|am ..,al5 λx a=>h x<|ah _ a]
def gdO(m:Nat)(f:Nat->Nat->Option Int):D:=gdD m λi j=>qA<|f i j
def an0 o:(qA o).ncl=true:=by cases o<;>rfl
def ay9 n:(gdO m f).bnd n=true:=bh4 (λi j n=>qS _ n) n
def ak2:(gdO m f).ncl=true:=by refine zx λd a=>?_;obtain⟨i,_,rfl⟩:=ao.mp a;refine zx λd a=>?_;obtain⟨j,_,rfl⟩:=ao.mp a;exact an0 _
def rowO(m:Nat)(f:Nat->Option Int):List D:=(aq m).map λj=>qA<|f j
def bv8(h:j<m):(rowO m f)[j]?=al (qA<|f j):=by unfold rowO;rw[aK,bV h];rfl
def aY4(h:i<m)s:ixM (gdO m f) (.int<|i) s=.ok (.tp<|rowO m<|f i) s:=ix_tup<|by rw[aK,bV h];rfl
def aH2(h:j<m)s:ixM (.tp<|rowO m f) (.int<|j) s=.ok (qA<|f j) s:=ix_tup<|bv8 h
def ba0:bi .len [gdO m f] s=.ok (.int m) s:=by unfold gdO gdD;simp_all
noncomputable def addO:Option Int->Option Int->Option Int|some a,al b=>al<|a+b|_,_=>aT
theorem ap2:∀l:List<|Option Int,(aV6 l).filterMap (λd=>if d=D.N then aT else al d)=(l.filterMap id).map D.int|[]=>rfl|o::l=>by have h:=ap2 l;unfold aV6 at h⊢;cases o with|none=>simp_all|some i=>simp_all
def aO0[Has P ad8]n{s}{q}{l}(hq:s[q]?=al (.J<|aV6 l))(Uu:l.length<=1000):(aa0 P<|n+1).call "least" [.ref q] s=.ok (qA<|minI<|l.filterMap id) s:=by
 have J:(aa0 P<|n+1).call "least" [.ref q] s=_:=zl ad8 rfl;rw[J,show(bN al [D.ref q]++az ad8.vs aT)=[al<|D.ref q]from rfl];have z:at2 (.ref q) s=.ok ⟨aV6 l,[q]⟩ s:=by simp only[at2,hq]
 obtain⟨a,a,b,rfl,_⟩:=ah7 (ok:=λa=>chk s a [q]) (g:=bj4 (aa0 P n) (.Y 0) (.notN<|.X 0) (.X 0)) (λU u=>u=s/\∃x,U=[x]) (λd=>if d=D.N then aT else al d) (aV6 l) [aT] s ⟨rfl,aT,rfl⟩ (λ_ u h=>by obtain⟨rfl,_⟩:=h;simp[chk]) (by rintro d a U u⟨rfl,x,rfl⟩;refine⟨[al d],u,?_,rfl,_,rfl⟩;unfold bj4;by_cases a:d=.N;all_goals simp_all);rw[ap2]at b;simp only[ad8];simp only[za,ex_ret,zN,ev_cst,ev_mkD,evI_seq,Cn_non,R.bind_ok,zM,je,ja,av2,z,dO<|show(aV6 l).length<=LIM by rw[bo7];unfold LIM;lia,show zI [al<|D.ref q] [aT]=[aT]from rfl,b,bK4];exact aT5
def bw3[Has P ae0]n a b s:(aa0 P<|n+1).call "added" [qA a,qA b] s=.ok (qA<|addO a b) s:=by have h:(aa0 P<|n+1).call "added" [qA a,qA b] s=_:=zl ae0 rfl;rw[h,show(bN al [qA a,qA b]++az ae0.vs aT)=[al<|qA a,al<|qA b]from rfl];simp only[ae0];cases a with|none=>simp only[za,zw,jx,ex_ret,zN,ev_cst,ev_or,ev_isN,Cn_non,R.bind_ok,zM,zX,je,ja,qF,if_true,decide_true,ai0,eq_self _];exact ap8|some a=>cases b with|none=>simp only[za,zw,jx,ex_ret,zN,ev_cst,ev_or,ev_isN,Cn_non,R.bind_ok,zM,zX,je,ja,qF,if_true,if_false,Bool.false_eq_true,decide_true,decide_false,ai0,jm,eq_self _,show(D.int a=D.N)=False from eq_false<|by nofun];exact ap8|some b=>simp only[za,zw,jx,ex_ret,zN,ev_cst,ev_bin,ev_or,ev_isN,Cn_non,R.bind_ok,zM,zX,zd,je,ja,add_int,qF,if_false,Bool.false_eq_true,decide_false,jm,show(D.int a=D.N)=False from eq_false<|by nofun,show(D.int b=D.N)=False from eq_false<|by nofun];exact zH
def prO(m:Nat)(f g:Nat->Nat->Option Int)(i j:Nat):Option Int:=minI<|((aq m).map λk=>addO (f i k) (g k j)).filterMap id
def an1{s:Sto}(a:s.all O.ncl=bY){Ww:Nat->Nat->D}(h:∀i j,(Ww i j).ncl=bY):(s++[O.J<|(aq i).map λi=>D.tp<|(aq m).map λj=>Ww i j]).all O.ncl=true:=by refine qL a<|zx λd a=>?_;obtain⟨x,_,rfl⟩:=ao.mp a;exact zx λd a=>by obtain⟨x,_,rfl⟩:=ao.mp a;exact h _ _
section
variable{P:Pr}[Has P ad3]
def bo8[Has P ae1][HasL P ac0]n{m:Nat}(Z:m<=5){s}(hs:s.all O.ncl=bY):(aa0 P<|n+3).call "plain" [.int m] s=.ok (gdO m λi j=>if i=j then al 0 else aT) s:=by have J:(aa0 P<|n+3).call "plain" [.int m] s=_:=zl ae1 rfl;have Y:=ak1 (P:=P) (n+1) (m:=m) (by lia) (d:=.clo "plain.0" []) (λ_ _ n=>qS _ n) (λi j a a=>by
  generalize z:s++[O.J<|(aq i).map λi=>D.tp<|(aq m).map λj=>qA<|if i=j then al 0 else aT]=S;have a:S.all O.ncl=true:=z▸an1 hs (λ_ _=>an0 _);refine(ak5 ac0 rfl rfl<|by rw[a];rfl).trans ?_;show(ev (aa0 P n) ac0.body [al<|.int i,al<|.int j] S).bind (ac3 S)=_;simp only[ac0];by_cases h:i=j;.simp_all
  .simp only[zN,ev_cst,ev_cmp,ev_ite,Cn_int,Cn_non,R.bind_ok,zM,zX,eq_int,qF,if_false,Bool.false_eq_true,decide_false,show((i)=(j:Int))=False from eq_false<|by lia,ef h,ai0];exact ap8);rw[J,show(bN al [D.int m]++az ae1.vs aT)=[al<|D.int m]from rfl];simp only[ae1];simp only[za,ex_ret,zN,evas_ex,R.bind_ok,zM,jq];rw[jt _ rfl];have e:gdD m (λi j=>qA<|if i=j then al 0 else aT)=gdO m (λi j=>if i=j then al 0 else aT):=rfl;simp only[qP,R.bind_ok,je,ja,Y,e,dO<|show((gdO m λi j=>if i=j then al 0 else aT).ncl&&s.all O.ncl)=bY by rw[ak2,hs];rfl];exact zq ay9<|by nofun
def ap4[Has P ad8][Has P ae0][Has P ac9][HasL P ab2]n{m}(hm:m<=5)f g{s}(hs:s.all O.ncl=bY):(aa0 P<|n+4).call "product" [gdO m f,gdO m g] s=.ok (gdO m<|prO m f g) s:=by have Z:(aa0 P<|n+4).call "product" [gdO m f,gdO m g] s=_:=zl ac9 rfl;have J:=ak1 (P:=P) (n+2) (m:=m) (by omega) (d:=.clo "product.0" [.int m,gdO m f,gdO m g]) (λ_ _ n=>qS _ n) (λi j d e=>by
  generalize Y:s++[O.J<|(aq i).map λi=>D.tp<|(aq m).map λj=>qA<|prO m f g i j]=S;have nS:S.all O.ncl=true:=Y▸an1 hs (λ_ _=>an0 _);refine(ak5 ab2 rfl rfl<|by rw[nS];simp[D.nclL,D.ncl,ak2]).trans ?_;show(ev (aa0 P<|n+1) ab2.body [al<|.int i,al<|.int j,al<|.int m,al<|gdO m f,al<|gdO m g] S).bind (ac3 S)=_;obtain⟨a,a,b,rfl,_⟩:=qR (ok:=λa=>chk S a []) (g:=zV (aa0 P<|n+1) (.Y 0) (.call "added"<|.ex (.ix (.ix (.X 1) (.X 2)) (.X 0)) (.ex (.ix (.ix (.X 3) (.X 0)) (.X 4)) .nil))) (λU u=>u=S/\∃x,U=[x,al<|gdO m f,al<|.int i,al<|gdO m g,al<|.int j]) (λk=>qA<|addO (f i k) (g k j)) m [aT,al<|gdO m f,al<|.int i,al<|gdO m g,al<|.int j] S ⟨rfl,aT,rfl⟩ (λ_ _ _=>rfl) (by rintro k c U u⟨rfl,x,rfl⟩;refine⟨[al<|.int k,al<|gdO m f,al<|.int i,al<|gdO m g,al<|.int j],u,?_,rfl,_,rfl⟩;unfold zV;simp only[zN,ev_ix,ev_call,qP,evas_ex,R.bind_ok,zG,qG,zM,zX,aY4 d,aY4 c,aH2 c,aH2 e,bw3 n]);have c:((aq m).map λk=>qA<|addO (f i k) (g k j))=aV6 ((aq m).map λk=>addO (f i k) (g k j)):=by unfold aV6;rw[cD];rfl
  rw[c]at b;have h:∀q(s:Sto),mk .list q s=.ok (.ref s.length) (s++[.J q]):=λ_ _=>rfl;have z:=aO0 (P:=P) n (s:=a++[O.J<|aV6<|(aq m).map λk=>addO (f i k) (g k j)]) (q:=a.length) (l:=(aq m).map λk=>addO (f i k) (g k j)) (by rw[aw<|aj _];simp) (by simp;lia);simp only[ab2];simp-implicitDefEqProofs only[zN,ev_call,ev_mk,qP,evas_ex,qN,R.bind_ok,zM,zX,qw,zP (s:=a) (i:=(m:Int)) (by unfold Ww62;lia) (by unfold Ww62;lia),dO<|show(ag6 0 (m:Int)).length<=LIM by rw[zB];unfold LIM;lia,show zI [al<|D.int (i:Int),al<|D.int (j:Int),al<|D.int (m:Int),al<|gdO m f,al<|gdO m g] [aT,al 3,al 0,al 4,al 1]=[aT,al<|gdO m f,al<|.int i,al<|gdO m g,al<|.int j]from rfl,b,h,z];exact zz (qS _) (az6 _));rw[Z,show(bN al [gdO m f,gdO m g]++az ac9.vs aT)=[al<|gdO m f,al<|gdO m g,aT]from rfl];simp-implicitDefEqProofs only[ac9];simp-implicitDefEqProofs only[za,ex_asg,ex_ret,zN,ev_bi,qe,qa,evas_ex,R.bind_ok,zG,setV_s,qG,zM,zX,Option.map_some,qE,zd,ba0,jq];rw[jt (cs:=[.int m,gdO m f,gdO m g]) _ rfl];have e:gdD m (λi j=>qA<|prO m f g i j)=gdO m (prO m f g):=rfl;simp-implicitDefEqProofs only[qP,R.bind_ok,je,ja,J,e,dO<|show((gdO m<|prO m f g).ncl&&s.all O.ncl)=bY by rw[ak2,hs];rfl];exact zq ay9<|by nofun
end
def ah3.low{S}(d:∀x∈l,S x)(J:∀c,S c->∃x∈l,x<=c):ah3 S<|minI l:=by have h:=aU3 l;cases e:minI l with|none=>exactλc a=>AD (J c a) λx b _=>(e▸h) x b|some i=>rw[e]at h;exact⟨d i h.1,λc a=>AD (J c a) λx b z=>fK (h.2 x b) z⟩
def aZ3{A B:Nat->Nat->Int->Prop}(J:∀i j,i<m->j<m->ah3 (A i j) (f i j))(n:∀i j,i<m->j<m->ah3 (B i j) (g i j))(hi:i<m)(o:j<m):ah3 (λc=>∃k,k<m/\∃a b,A i k a/\B k j b/\c=a+b) (prO m f g i j):=by
 refine ah3.low (λx hx=>?_) λc m=>?_;.refine AD (cO.mp hx) λo a e=>?_;obtain⟨k,c,rfl⟩:=ao.mp a;have c:=bC.mp c;have z:=J i k hi c;have h:=n k j c o;cases d:f i k with|none=>cases d▸e|some a=>cases l:g k j with|none=>cases d▸l▸e|some b=>rw[d]at z;rw[l]at h;cases d▸l▸e;exact⟨k,c,a,b,z.1,h.1,rfl⟩
 .obtain⟨k,c,a,b,ha,hb,rfl⟩:=m;have z:=J i k hi c;have h:=n k j c o;cases d:f i k with|none=>exact ij ha<|(d▸z) a|some e=>cases l:g k j with|none=>exact ij hb<|(l▸h) b|some f=>rw[d]at z;rw[l]at h;refine⟨e+f,cO.mpr ⟨al<|e+f,ao.mpr ⟨k,bC.mpr c,by rw[d,l];rfl⟩,rfl⟩,?_⟩;have:=z.2 a ha;have:=h.2 b hb;lia
def aG3(m:Mc)(w:List Nat)(f:Nat->Nat->Option Int):Prop:=∀i j,i<m.R->j<m.R->ah3 (Wk m.ds w i j) (f i j)
theorem bj2:∀{v w}{p q}{c},Wk z (v++w) p q c↔∃k a b,Wk z v p k a/\Wk z w k q b/\c=a+b
 |[],w,p,q,c=>by
  constructor;.exactλh=>⟨p,0,c,⟨rfl,rfl⟩,h,by lia⟩
  .rintro⟨k,a,b,⟨rfl,rfl⟩,h,e⟩;simp_all|x::v,w,p,q,c=>by
  constructor;.rintro⟨d,hd,Z,J,c',h3,e⟩;exact AS (bj2.mp h3) λk a b c Y f=>⟨k,a+d.t,b,⟨d,hd,Z,J,a,c,by lia⟩,Y,by lia⟩
  .rintro⟨k,a,b,⟨d,hd,Z,J,a',c,e⟩,Y,f⟩;exact⟨d,hd,Z,J,a'+b,bj2.mpr ⟨k,a',b,c,Y,rfl⟩,by lia⟩
theorem ch1{m:Mc}(z:m.Ok):∀{w}{p q}{c},p<m.R->Wk m.ds w p q c->q<m.R|[],p,q,c,a,h=>by obtain⟨rfl,_⟩:=h;exact a|x::w,p,q,c,a,h=>AZ h λd a _ _ AA=>AD AA λJ b _=>ch1 z (z.ds.1 d a).b b
def aG3.nil:aG3 m [] λi j=>if i=j then al 0 else none:=λi j a a=>by
 show ah3 (Wk m.ds [] i j) (if i=j then al 0 else aT);by_cases h:i=j;.exact dO h▸⟨⟨h,rfl⟩,λc a=>by have:=a.2;lia⟩
 .exact ef h▸λc a=>h a.1
def aG3.mul(l:m.Ok)(h:aG3 m v f)(h':aG3 m w g):aG3 m (v++w) (prO m.R f g):=λi j d c=>(aZ3 h h' d c).congr λc=>by
 rw[bj2];constructor;.rintro⟨k,_,a,b,z,J,e⟩;exact⟨k,a,b,z,J,e⟩
 .rintro⟨k,a,b,z,J,e⟩;exact⟨k,ch1 l d z,a,b,z,J,e⟩
def ltF(a:List Dr)(c i j:Nat):Option Int:=minI<|a.filterMap λd=>if d.a=i/\d.l=c/\d.b=j then al (d.t)else aT
def al3:Wk J [x] p q c↔∃d∈J,d.l=x/\d.a=p/\d.b=q/\c=d.t:=by
 constructor;.rintro⟨d,hd,z,h,Y,⟨h3,Uu⟩,e⟩;exact⟨d,hd,h,z,h3,by lia⟩
 .rintro⟨d,hd,z,h,h3,e⟩;exact⟨d,hd,h,z,0,⟨h3,rfl⟩,by lia⟩
set_option tactic.hygienic true in def aG3.letter c:aG3 m [c]<|ltF m.ds c:=λi j a a=>by
 refine ah3.low (λx a=>?_) λx a=>?_
 .refine AD (cO.mp a) λd b e=>?_;split at e;.rename_i h;cases e;exact al3.mpr ⟨d,b,h.2.1,h.1,h.2.2,rfl⟩
  .cases e
 .exact AQ (al3.mp a) λd b J z a e=>⟨x,cO.mpr ⟨d,b,by rw[dO ⟨z,J,a⟩,e]⟩,cJ _⟩
def bh6{a b i j:Nat}:qQ .eq (.tp [.int<|a,.str [l],.int<|b]) (.tp [.int<|i,.str [c],.int<|j]) s=.ok (.T<|decide<|a=i/\l=c/\b=j) s:=by have:eqv s DEEP (.tp [.int<|a,.str [l],.int<|b]) (.tp [.int<|i,.str [c],.int<|j])=al (((a)==(i:Int))&&(([l]==[c])&&(((b)==(j:Int))&&bY))):=rfl;show(match eqv s DEEP (.tp [.int<|a,.str [l],.int<|b]) (.tp [.int<|i,.str [c],.int<|j])with|some r=>R.ok (D.T r) s|none=>.B)=_;rw[this];show R.ok (D.T _) s=_;congr 2;lia
section
variable{P:Pr}[Has P ad3][Has P ad8][Has P ac1][Has P ac2][Has P aa9][HasL P aa6]
def ch6{m:Mc}:m.d.ncl=true:=by unfold Mc.d Mc.ps D.ncl;simp only[D.nclL,D.ncl,bx6,f6];exact zx λd a=>by obtain⟨x,_,rfl⟩:=ao.mp a;rfl
def aq7 n{m:Mc}(Z:m.Ok)c(hs:s.all O.ncl=bY):(aa0 P<|n+4).call "letter_table" [m.d,.str [c]] s=.ok (gdO m.R<|ltF m.ds c) s:=by have p:(aa0 P<|n+4).call "letter_table" [m.d,.str [c]] s=_:=zl aa9 rfl;have a:=Z.R5;have q:=Z.ds.2;have r:=ak1 (P:=P) (n+2) (m:=m.R) (by lia) (d:=.clo "letter_table.least_fee" [m.d,.str [c]]) (λ_ _ n=>qS _ n) (λi j a a=>by
  generalize a:s++[O.J<|(aq i).map λi=>D.tp<|(aq m.R).map λj=>qA<|ltF m.ds c i j]=S;have b:S.all O.ncl=true:=a▸an1 hs (λ_ _=>an0 _);refine(ak5 aa6 rfl rfl<|by rw[b];simp[D.nclL,D.ncl,ch6]).trans ?_;show(ev (aa0 P<|n+1) aa6.body [al<|.int i,al<|.int j,al m.d,al<|.str [c]] S).bind (ac3 S)=_;obtain⟨a,e,f,rfl,_⟩:=ah7 (ok:=λe=>chk S e []) (g:=bj4 (aa0 P<|n+1) (.tp [0,1,2,3]) (.Z .eq (.tp<|.cons (.X 0) (.cons (.X 1) (.cons (.X 2) .nil))) (.tp<|.cons (.X 4) (.cons (.X 5) (.cons (.X 6) .nil)))) (.X 3)) (λU u=>u=S/\∃g h k o,U=[g,h,k,o,al<|.int (i:Int),al<|.str [c],al<|.int (j:Int)]) (λd=>match d with|.tp [.int a,.str [l],.int b,.int t]=>if a=i/\l=c/\b=j then al (.int t)else aT|_=>aT) (m.ds.map Dr.d) [aT,aT,aT,aT,al<|.int (i:Int),al<|.str [c],al<|.int (j:Int)] S ⟨rfl,aT,aT,aT,aT,rfl⟩ (λ_ _ _=>rfl) (by
   rintro d hd U u⟨rfl,g,h,k,o,rfl⟩;obtain⟨x,_,rfl⟩:=ao.mp hd;refine⟨[al<|.int x.a,al<|.str [x.l],al<|.int x.b,al<|.int x.t,al<|.int i,al<|.str [c],al<|.int j],u,?_,rfl,_,_,_,_,rfl⟩;unfold bj4 Dr.d;by_cases h:x.a=i/\x.l=c/\x.b=j;.simp only[zN,ev_cmp,ev_tup,qe,qa,R.bind_ok,bindT_tup,setVs_nil,setVs_cons,setV_s,qG,zM,zX,Option.map_some,Option.bind_some,qF,bh6,h];simp
   .have h2:¬((x.a:Int)=(i:Int)/\x.l=c/\(x.b:Int)=(j:Int)):=by lia
    simp only[zN,ev_cmp,ev_tup,qe,qa,R.bind_ok,bindT_tup,setVs_nil,setVs_cons,setV_s,qG,zM,zX,Option.map_some,Option.bind_some,qF,if_false,Bool.false_eq_true,decide_false,bh6,h,ef h2]);have g:(m.ds.map Dr.d).filterMap (λd=>match d with|.tp [.int a,.str [l],.int b,.int t]=>if a=i/\l=c/\b=j then al (D.int t)else aT|_=>aT)=aV6 ((m.ds.filterMap λd=>if d.a=i/\d.l=c/\d.b=j then al (d.t:Int)else aT).map al):=by
   unfold aV6;rw[cD,gO,List.map_filterMap];refine al5 λx _=>?_;unfold Dr.d;simp only[nA];by_cases h:x.a=i/\x.l=c/\x.b=j;.simp_all
   .rw[ef h,ef<|by omega];rfl
  rw[g]at f;generalize Y:(m.ds.filterMap λd=>if d.a=i/\d.l=c/\d.b=j then al (d.t:Int)else aT)=L at f;have a:L.length<=75:=by rw[<-Y];exact au (io _ _) q
  have z:∀q(s:Sto),mk .list q s=.ok (.ref s.length) (s++[.J q]):=λ_ _=>rfl;have J:=aO0 (P:=P) n (s:=e++[O.J<|aV6<|L.map al]) (q:=e.length) (l:=L.map al) (by rw[aw<|aj _];simp) (by simp;lia);have a:(L.map al).filterMap id=L:=by simp_all
  rw[a]at J;simp only[aa6];simp only[zN,ev_call,ev_mk,qP,evas_ex,evI_seq,R.bind_ok,zM,zX,aI0 n,aI5,av2,dO<|show(m.ds.map Dr.d).length<=LIM by rw[av];unfold LIM;lia,show zI [al<|D.int (i:Int),al<|D.int (j:Int),al m.d,al<|D.str [c]] [aT,aT,aT,aT,al 0,al 3,al 1]=[aT,aT,aT,aT,al<|.int (i:Int),al<|.str [c],al<|.int (j:Int)]from rfl,f,z,J];exact Y▸zz (qS _) (az6 _));rw[p,show(bN al [m.d,D.str [c]]++az aa9.vs aT)=[al m.d,al<|D.str [c],aT]from rfl];simp only[aa9];simp only[za,ex_ret,ex_und,zN,ev_call,qP,evas_ex,R.bind_ok,unsetV_s,unsetV_0,zM,Option.map_some,qE,zd,jq,ao0<|n+2];rw[jt (cs:=[m.d,.str [c]]) _ rfl];have e:gdD m.R (λi j=>qA<|ltF m.ds c i j)=gdO m.R (ltF m.ds c):=rfl;simp only[qP,R.bind_ok,je,ja,r,e,dO<|show((gdO m.R<|ltF m.ds c).ncl&&s.all O.ncl)=bY by rw[ak2,hs];rfl];exact zq ay9<|by nofun
end
theorem ax0 k a v:∀l:List<|D×D,look k (l++[(a,v)])=match look k l with|some x=>al x|none=>if a=k then al v else aT
 |[]=>by rfl|(b,u)::l=>by
  rw[dB];unfold look;by_cases h:b=k;.rw[dO h,dO h]
  .rw[ef h,ef h];exact ax0 k a v l
def aC5(h:s[r]?=al (.dc l))(a:k.key=bY):qQ .notin k (.ref r) s=.ok (.T<|!(look k l).isSome) s:=by show(inM k (.ref r) s).bind (λr s=>R.ok (D.T<|!r) s)=_;simp only[inM,h,a,if_true,R.bind_ok]
def bD4(h:s[r]?=al (.dc l))(a:k.key=bY)(b:look k l=al v):ixM (.ref r) k s=.ok v s:=by simp only[ixM,h,a,if_true,b]
def bR0(h:s[r]?=al (.dc l))(a:k.key=bY)(z:l.length<LIM):setIx (.ref r) k v s=.ok () (s.set r<|.dc<|am5 k v l):=by simp[setIx,h,a,z]
def bS9:ev F (.dc .nil .nil) U s=.ok (.ref s.length) (s++[.dc []]):=rfl
def bS5(h:look k l=aT):am5 k v l=l++[(k,v)]:=by unfold am5;rw[h];rfl
def bn9{s:Sto}{o:O}:(s++[o]).set s.length p=s++[p]:=by simp_all
section
variable{P:Pr}[Has P ad3][Has P ad8][Has P ae0][Has P ac1][Has P ac2][Has P aa9][HasL P aa6][Has P ae1][HasL P ac0][Has P ac9][HasL P ab2][Has P ab3]
def bR4(m:Mc)(l:List<|D×D):Prop:=(∀c v,look (.str [c]) l=al v->v=gdO m.R (ltF m.ds c))/\∀p∈l,p.2.ncl=bY
def bR4.nil:bR4 m []:=⟨λc v h=>(by cases h),λp a=>(by cases a)⟩
def aA0 n(hm:m.Ok)w(hw:w.length<=5000)(hs:s.all O.ncl=bY):∃f,aG3 m w f/\(aa0 P<|n+5).call "word_table" [m.d,.str w] s=.ok (gdO m.R f) s:=by
 have r:(aa0 P<|n+5).call "word_table" [m.d,.str w] s=_:=zl ab3 rfl;have e:=hm.R5;have b:∀l:List<|D×D,bR4 m l->(s++[O.dc l]).all O.ncl=true:=λl h=>qL hs<|zx λd a=>by obtain⟨p,o,rfl⟩:=ao.mp a;exact h.2 p o
 have key:=jK (ok:=λa=>chk (s++[O.dc []]) a []) (g:=turn (aa0 P<|n+4) (.Y 4) (.cons (.ite (.Z .notin (.X 4) (.X 2)) (.cons (.setIx (.X 2) (.X 4) (.call "letter_table"<|.ex (.X 0) (.ex (.X 4) .nil))) .nil) .nil) (.cons (.A (.Y 3) (.call "product"<|.ex (.X 3) (.ex (.ix (.X 2) (.X 4)) .nil))) .nil)))
  (λk U t=>∃f l x,aG3 m (w.take k) f/\bR4 m l/\l.length<=k/\U=[al m.d,al<|.str w,al<|.ref s.length,al<|gdO m.R f,x]/\t=s++[.dc l]) (sg w) 0 [al m.d,al<|.str w,al<|.ref s.length,al<|gdO m.R λi j=>if i=j then al 0 else aT,aT] (s++[O.dc []])
  ⟨_,[],aT,ni▸aG3.nil,bR4.nil,aj _,rfl,rfl⟩ (λ_ _ _ _ _=>rfl) (by
  rintro k d U t a⟨f,l,x,J,z,c,rfl,rfl⟩;rw[cb]at J c⊢;unfold sg at a;rw[aK]at a;obtain⟨c,d,rfl⟩:=bp.mp a;have a:=(ag.mp d).1;have Y:∀l:List<|D×D,(s++[O.dc l])[s.length]?=al (.dc l):=λl=>by simp_all
  have g:=aq7 (P:=P) n hm c<|b l z;have i:aG3 m (w.take<|k+1) (prO m.R f<|ltF m.ds c):=aB1 d▸aG3.mul hm J (aG3.letter c);cases a:look (.str [c]) l with|none=>
   have j:bR4 m<|l++[(.str [c],gdO m.R<|ltF m.ds c)]:=by
    refine⟨λh v d=>?_,λp o=>?_⟩;.rw[ax0]at d;cases q:look (.str [h]) l with|none=>lia|some s=>cases q▸d;exact z.1 h v q
    .rcases aZ.mp o with h|h;.exact z.2 p h
     .exact aP.mp h▸ak2
   have h:=ap4 (P:=P) n e f (ltF m.ds c) (b _ j);have Z:=bD4 (Y<|l++[(.str [c],gdO m.R<|ltF m.ds c)]) rfl (v:=gdO m.R<|ltF m.ds c) (by rw[ax0,a];simp);have d:=bR0 (v:=gdO m.R<|ltF m.ds c) (Y l) (k:=.str [c]) rfl (by unfold LIM;lia);rw[bS5 a,bn9]at d;refine⟨_,_,.inl ?_,_,_,al<|.str [c],i,j,by simp_all,rfl,rfl⟩;unfold turn;simp-implicitDefEqProofs only[za,zw,ex_asg,jx,ex_setIx,zN,ev_cmp,ev_ix,ev_call,qP,evas_ex,R.bind_ok,zG,setV_s,qG,zM,zX,Option.map_some,qE,zd,qF,if_true,Bool.not_false,aC5 (Y l) (k:=.str [c]) rfl,a,kS,g,d,Z,h]|some v=>have d:=z.1 c v a;have h:=ap4 (P:=P) n e f (ltF m.ds c) (b _ z);have Z:=bD4 (Y l) (k:=.str [c]) rfl a;rw[d]at Z;refine⟨_,_,.inl ?_,_,_,al<|.str [c],i,z,by lia,rfl,rfl⟩;unfold turn;simp-implicitDefEqProofs only[za,zw,ex_asg,jx,ex_setIx,zN,ev_cmp,ev_ix,ev_call,qP,evas_ex,R.bind_ok,zG,setV_s,qG,zM,zX,Option.map_some,qE,zd,qF,if_false,Bool.false_eq_true,Bool.not_true,aC5 (Y l) (k:=.str [c]) rfl,a,gQ,Z,h]);obtain⟨a,a,a,f,l,x,J,z,_,rfl,rfl⟩:=key;rw[cb,cd7,fU]at J;refine⟨f,J,?_⟩;have g:=bo8 (P:=P) (n+1) e<|b [] bR4.nil;have h2:∀t,at2 (.str w) t=.ok ⟨sg w,[]⟩ t:=λ_=>rfl;rw[r,show(bN al [m.d,D.str w]++az ab3.vs aT)=[al m.d,al<|D.str w,aT,aT,aT]from rfl];simp only[ab3];simp only[za,ex_asg,ex_for,zN,ev_call,qP,evas_ex,evI_seq,R.bind_ok,zG,setV_s,qG,zM,zX,Option.map_some,qE,zd,bS9,ao0<|n+3,g,h2];rw[a];simp only[za,ex_ret,zN,R.bind_ok,zM,zX,zd,je,ja];exact zz ay9<|by nofun
end
section
variable{P:Pr}[Has P ad3][Has P ad8][Has P ae0][Has P ac1][Has P ac2][Has P aa9][HasL P aa6][Has P ae1][HasL P ac0][Has P ac9][HasL P ab2][Has P ab3]

end
section
variable{P:Pr}[Has P jN][Has P zO]
variable[Has P ad3][Has P ad8][Has P ae0][Has P ac1][Has P ac2][Has P aa9][HasL P aa6][Has P ae1][HasL P ac0][Has P ac9][HasL P ab2][Has P ab3]
end
section
variable{P:Pr}[Has P af3]
end
section
variable{m:Nat}(hm:1<=m){g:Nat->Nat->Int}(hg:InG m g)(hst:Stdy m g)
include hm hg hst
end
section
variable{P:Pr}[Has P af3][Has P ad3][Has P aa7][HasL P aa2][Has P ab7][Has P ab9][Has P ab8][HasL P ab0][HasC P "FREE"<|.int 0][HasC P "UNBOUND"<|.int 2][HasC P "NONE"<|.int 3][Has P jB]
variable[Has P ap9]
end
noncomputable def un(i j:Nat):Int:=if i=j then 0 else 3
section
variable{m:Nat}(hm:1<=m)
end
section
variable{P:Pr}[Has P ad3][HasL P qV][HasC P "FREE"<|.int 0][HasC P "NONE"<|.int 3]
variable[Has P aa7][HasL P aa2]
variable[HasC P "sign_product"<|.fn "sign_product"]
end
section
variable{P:Pr}[Has P ab4]
end
section
variable{P:Pr}[Has P ap9][Has P af3][Has P ab4][Has P ad3][HasL P qV][Has P aa7][HasL P aa2][HasC P "FREE"<|.int 0][HasC P "NONE"<|.int 3][HasC P "sign_product"<|.fn "sign_product"]
end
noncomputable def sgn:Option Int->Int|none=>3|some i=>if i=0 then 0 else 1
def cd4 o:0<=sgn o/\sgn o<=3/\sgn o≠2:=by cases o with|none=>exact⟨by decide,by decide,by decide⟩|some i=>unfold sgn;simp only;split<;>exact⟨by decide,by decide,by decide⟩
theorem cj0:∀{w}{p q}{c},Wk z w p q c->0<=c|[],p,q,c,h=>by have:=h.2;lia|x::w,p,q,c,h=>by refine AZ h λd a _ _ AA=>AD AA λJ a e=>?_;have:=cj0 a;lia
structure SgW1(S:Int->Prop)(x:Int):Prop where
 lo:0<=x
 hi:x<=3
 n2:x≠2
 z:x=0↔S 0
 t:x=3↔∀c,¬S c
def SgW1.eq{S}(h:SgW1 S x)(g:SgW1 S y):x=y:=by have a:=h.z.trans g.z.symm;have J:=h.t.trans g.t.symm;have:=h.lo;have:=h.hi;have:=h.n2;have:=g.lo;have:=g.hi;have:=g.n2;lia
set_option tactic.hygienic true in def aY8{S}(h:ah3 S o)(nn:∀c,S c->0<=c):SgW1 S<|sgn o:=by
 refine AI (cd4 o) λh0 a J=>⟨h0,a,J,?_,?_⟩;.cases o with|none=>exact⟨λz=>(by cases z),λz=>ij z<|h 0⟩|some i=>
   show(if i=0 then(0)else 1)=0↔_;constructor
   .intro z;split at z;.rename_i e;exact e▸h.1
    grind
   .intro z;have a:=h.2 0 z;have J:=nn i h.1;lia
 .cases o with|none=>exact⟨λ_=>h,λ_=>rfl⟩|some i=>
   show(if i=0 then(0)else 1)=3↔_;constructor;.grind
   .exactλz=>ij h.1<|z i
def SgW(m:Mc)(w:List Nat)(g:Nat->Nat->Int):Prop:=∀i j,i<m.R->j<m.R->SgW1 (Wk m.ds w i j) (g i j)
def aG3.sg(h:aG3 m w f):SgW m w λi j=>sgn<|f i j:=λi j a b=>aY8 (h i j a b) λc a=>cj0 a
def SgW.eqG(h:SgW m w f)(h':SgW m w g):EqG m.R f g:=λi j a b=>(h i j a b).eq<|h' i j a b
theorem aL3 Uu c i j:∀k,k<=Uu.length->(sgF Uu c i j k=3/\∀d∈Uu.take k,¬(d.l=c/\d.a=i/\d.b=j))\/(sgF Uu c i j k=1/\(∃d∈Uu.take k,d.l=c/\d.a=i/\d.b=j)/\∀d∈Uu.take k,d.l=c/\d.a=i/\d.b=j->d.t≠0)\/(sgF Uu c i j k=0/\∃d∈Uu.take k,(d.l=c/\d.a=i/\d.b=j)/\d.t=0)
 |0,_=>.inl ⟨rfl,λd a=>by simp_all⟩|k+1,a=>by
  have Z:=aL3 Uu c i j k (by lia);have a:=ar (show k<Uu.length by lia);have J:∀d,d∈Uu.take (k+1)↔d∈Uu.take k\/d=Uu[k]:=λd=>by rw[aB1 a,aZ,aP]
  have key:sgF Uu c i j (k+1)=if Uu[k].l=c/\i=Uu[k].a/\j=Uu[k].b then(if(if 0<Uu[k].t then(1)else 0)<sgF Uu c i j k then(if 0<Uu[k].t then(1)else 0)else sgF Uu c i j k)else sgF Uu c i j k:=by
   conv=>lhs;unfold sgF
   rw[a]
  rw[key];generalize a:Uu[k]=x at*;by_cases g:x.l=c/\i=x.a/\j=x.b
  .rw[dO g];have Y:x.l=c/\x.a=i/\x.b=j:=⟨g.1,g.2.1.symm,g.2.2.symm⟩;by_cases k:0<x.t
   .rw[dO k];rcases Z with⟨e,h⟩|⟨e,f,h2⟩|⟨e,d,a,f⟩
    .rw[e,dO<|by decide];refine .inr<|.inl ⟨rfl,⟨x,(J x).mpr<|.inr rfl,Y⟩,λd a b=>?_⟩;rcases(J d).mp a with z|z;.exact ij b<|h d z
     .rw[z];lia
    .rw[e,ef<|by decide];refine .inr<|.inl ⟨rfl,⟨x,(J x).mpr<|.inr rfl,Y⟩,λd a b=>?_⟩;rcases(J d).mp a with z|z;.exact h2 d z b
     .rw[z];lia
    .rw[e,ef<|by decide];exact .inr<|.inr ⟨rfl,d,(J d).mpr<|.inl a,f⟩
   .rw[ef k];have b:x.t=0:=by lia
    rcases Z with⟨e,h⟩|⟨e,f,h2⟩|⟨e,d,a,f⟩;.rw[e,dO<|by decide];exact .inr<|.inr ⟨rfl,x,(J x).mpr<|.inr rfl,Y,b⟩
    .rw[e,dO<|by decide];exact .inr<|.inr ⟨rfl,x,(J x).mpr<|.inr rfl,Y,b⟩
    .rw[e,ef<|by decide];exact .inr<|.inr ⟨rfl,x,(J x).mpr<|.inr rfl,Y,b⟩
  .rw[ef g];have Y:¬(x.l=c/\x.a=i/\x.b=j):=λz=>g ⟨z.1,z.2.1.symm,z.2.2.symm⟩;rcases Z with⟨e,h⟩|⟨e,⟨d,a,f⟩,h2⟩|⟨e,d,a,f⟩
   .refine .inl ⟨e,λd a b=>?_⟩;rcases(J d).mp a with z|z;.exact h d z b
    .exact Y<|z▸b
   .refine .inr<|.inl ⟨e,⟨d,(J d).mpr<|.inl a,f⟩,λd a b=>?_⟩;rcases(J d).mp a with z|z;.exact h2 d z b
    .exact ij (z▸b) Y
   .exact .inr<|.inr ⟨e,d,(J d).mpr<|.inl a,f⟩
def SgW.letter m c:SgW m [c]<|sgM m c:=λi j a a=>by
 have h:=aL3 m.ds c i j m.ds.length<|aj _;rw[fU]at h;unfold sgM;rcases h with⟨e,h⟩|⟨e,⟨d,f,c⟩,h2⟩|⟨e,d,f,c,a⟩
 .rw[e];refine⟨by decide,by decide,by decide,⟨λz=>(by cases z),λz=>?_⟩,⟨λ_ x g=>?_,λ_=>rfl⟩⟩;.refine AQ (al3.mp z) λd f a b J _=>?_;simp_all
  .refine AQ (al3.mp g) λd f a b J _=>?_;simp_all
 .rw[e];refine⟨by decide,by decide,by decide,⟨λz=>(by cases z),λz=>?_⟩,⟨λz=>(by cases z),λz=>?_⟩⟩;.refine AQ (al3.mp z) λd f a b J a=>?_;grind
  .exact ij (al3.mpr ⟨d,f,c.1,c.2.1,c.2.2,rfl⟩) (z _)
 .rw[e];exact⟨by decide,by decide,by decide,⟨λ_=>al3.mpr ⟨d,f,c.1,c.2.1,c.2.2,by lia⟩,λ_=>rfl⟩,⟨λz=>(by cases z),λz=>ij (al3.mpr ⟨d,f,c.1,c.2.1,c.2.2,rfl⟩) (z _)⟩⟩
section
variable{P:Pr}[HasC P "FREE"<|.int 0][HasC P "SOME"<|.int 1][HasC P "NONE"<|.int 3][Has P ad5]
def aR8 n o s:(aa0 P<|n+1).call "sign_of" [qA o] s=.ok (.int<|sgn o) s:=by have J:(aa0 P<|n+1).call "sign_of" [qA o] s=_:=zl ad5 rfl;have z:=λU s=>(qY (P:=P) (n:=n) (x:="NONE") (v:=.int 3) (U:=U) (s:=s));have a:=λU s=>(qY (P:=P) (n:=n) (x:="FREE") (v:=.int 0) (U:=U) (s:=s));have b:=λU s=>(qY (P:=P) (n:=n) (x:="SOME") (v:=.int 1) (U:=U) (s:=s));rw[J,show(bN al [qA o]++az ad5.vs aT)=[al<|qA o]from rfl];simp only[ad5];cases o with|none=>simp only[za,zw,jx,ex_ret,zN,ev_isN,R.bind_ok,zM,je,ja,qF,if_true,decide_true,ai0,z];exact zH|some i=>
  by_cases h:i=0;.subst h;simp only[za,zw,jx,ex_ret,zN,ev_cst,ev_cmp,ev_ite,ev_isN,Cn_int,R.bind_ok,zM,zd,je,ja,eq_int,qF,if_true,if_false,Bool.false_eq_true,decide_true,decide_false,jm,show(D.int 0=D.N)=False from eq_false<|by nofun,a,sgn];exact zH
  .simp only[za,zw,jx,ex_ret,zN,ev_cst,ev_cmp,ev_ite,ev_isN,Cn_int,R.bind_ok,zM,zd,je,ja,eq_int,qF,if_false,Bool.false_eq_true,decide_false,jm,show(D.int i=D.N)=False from eq_false<|by nofun,h,b,sgn];exact zH
variable[Has P ad3][Has P ad7][HasL P ac4]
def aV5 n(Y:m<=5)f(hs:s.all O.ncl=bY):(aa0 P<|n+4).call "reading" [gdO m f] s=.ok (gd m λi j=>sgn<|f i j) s:=by have z:(aa0 P<|n+4).call "reading" [gdO m f] s=_:=zl ad7 rfl;have a:=ak1 (P:=P) (n+2) (m:=m) (by omega) (d:=.clo "reading.0" [gdO m f]) (λ_ _ n=>rfl) (λi j b c=>by generalize h:s++[O.J<|(aq i).map λi=>D.tp<|(aq m).map λj=>.int<|sgn<|f i j]=S;have J:S.all O.ncl=true:=h▸an1 hs (λ_ _=>rfl);refine(ak5 ac4 rfl rfl<|by rw[J];simp[D.nclL,D.ncl,ak2]).trans ?_;show(ev (aa0 P<|n+1) ac4.body [al<|.int i,al<|.int j,al<|gdO m f] S).bind (ac3 S)=_;simp only[ac4];simp only[zN,ev_ix,ev_call,qP,evas_ex,R.bind_ok,zM,zX,aY4 b,aH2 c,aR8 n];exact zH);rw[z,show(bN al [gdO m f]++az ad7.vs aT)=[al<|gdO m f]from rfl];simp only[ad7];simp only[za,ex_ret,zN,ev_bi,qe,qa,evas_ex,R.bind_ok,zM,jq,ba0];rw[jt _ rfl];have e:gdD m (λi j=>.int<|sgn<|f i j)=gd m (λi j=>sgn<|f i j):=rfl;simp only[qP,R.bind_ok,je,ja,a,e,dO<|show((gd m λi j=>sgn<|f i j).ncl&&s.all O.ncl)=bY by rw[ar1,hs];rfl];exact zq jz<|by nofun
variable[Has P ad8][Has P ae0][Has P ac1][Has P ac2][Has P aa9][HasL P aa6][Has P ae1][HasL P ac0][Has P ac9][HasL P ab2][Has P ab3][Has P ac5]
def ax9 n(h:m.Ok)w(hw:w.length<=5000)(hs:s.all O.ncl=bY):∃g,SgW m w g/\(aa0 P<|n+6).call "word_signs" [m.d,.str w] s=.ok (gd m.R g) s:=by have J:(aa0 P<|n+6).call "word_signs" [m.d,.str w] s=_:=zl ac5 rfl;refine AD (aA0 (P:=P) n h w hw hs) λf z a=>⟨_,z.sg,?_⟩;rw[J,show(bN al [m.d,D.str w]++az ac5.vs aT)=[al m.d,al<|D.str w]from rfl];simp only[ac5];simp only[za,ex_ret,zN,ev_call,qP,evas_ex,R.bind_ok,zM,zX,je,ja,a,aV5 (n+1) h.R5 f hs];exact zq jz<|by nofun
variable[Has P jN][Has P zO]
end
structure Gx(ns:List Int)(r:Nat)(u:Sto):Prop where
 scr:u[0]?=al (.ro<|ns.map D.int)ncl:u.all O.ncl=bY
 box:∃b,u[r]?=al (boxO b)r0:r≠0
def Gx.put(h:Gx ns r u)b:Gx ns r<|u.set r<|boxO b:=⟨by rw[aC h.r0];exact h.scr,bP4 h.ncl rfl,ax5<|bA6 h.box,h.r0⟩
section
variable{P:Pr}[HasC P "FREE"<|.int 0][HasC P "SOME"<|.int 1][HasC P "NONE"<|.int 3][Has P ad5][Has P ad3][Has P ad7][HasL P ac4][Has P ad8][Has P ae0][Has P ac1][Has P ac2][Has P aa9][HasL P aa6][Has P ae1][HasL P ac0][Has P ac9][HasL P ab2][Has P ab3][Has P ac5][Has P jN][Has P zO][Has P aa7][HasL P aa2][Has P ap9][Has P af3][Has P ab4][Has P ab6]
end
section
variable{P:Pr}[HasC P "LETTERS"<|.tp aB0][Has P ac8][Has P qU][Has P jy][Has P ji]
end
def az0(m:Mc)(fs:List<|Nat->Nat->Int)(f:Nat->Nat->Int):Stp->Prop|.let_ c=>97<=c/\c<97+m.L/\f=sgM m c|.pair i j=>∃a b,fs[i]?=al a/\fs[j]?=al b/\f=pr m.R a b|.sharp i=>∃a,fs[i]?=al a/\Stdy m.R a/\f=sh m.R a
def Mks.inG(J:m.Ok)(h:Mks m l fs):∀f∈fs,InG m.R f:=by induction h with|nil=>simp_all|let_ c _ _ _ c=>intro f z;rcases aZ.mp z with h|h;exact c f h;exact aP.mp h▸λi j _ _=>bB2 _ _ _ _ _|pair i j a b _ b h2 c=>intro f z;rcases aZ.mp z with h|h;exact c f h;exact aP.mp h▸cq2 J.R1 (c _<|aF b) (c _<|aF h2)|sharp i a _ b _ c=>intro f z;rcases aZ.mp z with h|h;exact c f h;exact aP.mp h▸cq6 J.R1 (c _<|aF b)
def az0.last(z:l.length=fs.length)(a:az0 m fs f y)(J:∀k x,l[k]?=al x->∃f,fs[k]?=al f/\az0 m (fs.take k) f x)k x(hx:(l++[y])[k]?=al x):∃g,(fs++[f])[k]?=al g/\az0 m ((fs++[f]).take k) g x:=by
 by_cases b:k<l.length;.rw[aB b]at hx;exact AD (J k x hx) λg b c=>⟨g,by rw[aB<|by lia];exact b,by rw[gh<|by lia];exact c⟩
 .have h:k=l.length:=by have:=(ag.mp hx).1;simp at this;lia
  subst h;rw[aw<|aj _]at hx;simp at hx;subst hx;exact⟨f,by rw[z];simp,by rw[z,List.take_left'];exact a;rfl⟩
def Mks.at(h:Mks m l fs):∀k x,l[k]?=al x->∃f,fs[k]?=al f/\az0 m (fs.take k) f x:=by induction h with|nil=>intro k x a;simp at a|let_ c h c h2 d=>exact az0.last h.len ⟨c,h2,rfl⟩ d|pair i j a b h c h2 d=>exact az0.last h.len ⟨a,b,c,h2,rfl⟩ d|sharp i a h c h2 d=>exact az0.last h.len ⟨a,c,h2,rfl⟩ d
section
variable{P:Pr}[HasC P "FREE"<|.int 0][HasC P "SOME"<|.int 1][HasC P "UNBOUND"<|.int 2][HasC P "NONE"<|.int 3][HasC P "LETTERS"<|.tp aB0][Has P ad5][Has P ad3][Has P ad7][HasL P ac4][Has P ad8][Has P ae0][Has P ac1][Has P ac2][Has P aa9][HasL P aa6][Has P ae1][HasL P ac0][Has P ac9][HasL P ab2][Has P ab3][Has P ac5][Has P aa7][HasL P aa2][Has P ab7][Has P ab9][Has P ab8][HasL P ab0][Has P ac8][Has P qU][Has P jy][Has P ji]
variable[HasC P "MOST_STEPS"<|.int 100]
end
def aO1(h:gd m f=gd m g):EqG m f g:=λi j a b=>by have h:=D.tp.inj h;have J:=congrArg (λl:List D=>l[i]?) h;simp only[aK,bV a,bX,lF,D.tp.injEq]at J;have z:=congrArg (λl:List D=>l[j]?) J;simp only[jF b,lF,D.int.injEq]at z;exact z
def ai8(h:EqG m f f')(k:EqG m g g'):EqG m (pr m f g) (pr m f' g'):=λi j c d=>bg8 ch5 ch5 λx e=>by
 rw[ay3 e,ay3 e];constructor;.rintro⟨l,z,a,b⟩;exact⟨l,z,h i l c z▸a,k l j z d▸b⟩
 .rintro⟨l,z,a,b⟩;exact⟨l,z,h i l c z▸a,k l j z d▸b⟩
def bU8:EqG m (pr m (pr m f g) h) (pr m f<|pr m g h):=λi j c c=>bg8 ch5 ch5 λx e=>by
 rw[ay3 e,ay3 e];constructor;.rintro⟨l,z,a,b⟩;exact AH ((ay3 e).mp a) λk f c d=>⟨k,f,c,(ay3 e).mpr ⟨l,z,d,b⟩⟩
 .rintro⟨k,f,c,a⟩;exact AH ((ay3 e).mp a) λl z d b=>⟨l,z,(ay3 e).mpr ⟨k,f,c,d⟩,b⟩
def ai5(h:EqG m f g):gd m f=gd m g:=bp6 h
def aN2(h:EqG m f g):EqG m (sh m f) (sh m g):=λi j hi hj=>by
 unfold sh;have:∀k,k<=m->shN f i j k=shN g i j k:=λk=>by induction k with|zero=>intro _;rfl|succ k ih=>intro hk;unfold shN;rw[ih<|by lia,h i k hi<|by lia,h k k (by omega) (by omega),h k j (by omega) hj]
 exact this m<|aj _
def av3(h:EqG m f g)(k:Stdy m f):Stdy m g:=λi j a b=>h i j a b▸k i j a b▸(ai8 h h i j a b).symm
inductive ClG(m:Mc):D->Prop|let_(c:Nat):97<=c->c<97+m.L->ClG m (gd m.R<|sgM m c)|pair(f g:Nat->Nat->Int):ClG m (gd m.R f)->ClG m (gd m.R g)->ClG m (gd m.R<|pr m.R f g)|sharp(f:Nat->Nat->Int):ClG m (gd m.R f)->Stdy m.R f->ClG m (gd m.R<|sh m.R f)
def Mks.cl(h:Mks m l fs):∀f∈fs,ClG m<|gd m.R f:=by
 induction h with|nil=>simp_all|let_ c h a h2 b=>
  intro f J;rcases aZ.mp J with z|z;.simp_all
  .exact aP.mp z▸.let_ c a h2|pair i j f g h a h2 b=>
  intro x J;rcases aZ.mp J with z|z;.simp_all
  .exact aP.mp z▸.pair f g (b f<|aF a) (b g<|aF h2)|sharp i f h a h2 b=>
  intro x J;rcases aZ.mp J with z|z;.simp_all
  .exact aP.mp z▸.sharp f (b f<|aF a) h2
def ClG.in_{T:D->Prop}(h0:∀c,97<=c->c<97+m.L->T (gd m.R<|sgM m c))(J:∀f g,T (gd m.R f)->T (gd m.R g)->T (gd m.R<|pr m.R f g))(z:∀f,T (gd m.R f)->Stdy m.R f->T (gd m.R<|sh m.R f))(h:ClG m x):T x:=by induction h with|let_ c a b=>exact h0 c a b|pair f g _ _ a b=>exact J f g a b|sharp f _ k a=>exact z f a k
inductive GnG(R:Nat)(G:D->Prop):D->Prop|Y{g:Nat->Nat->Int}:G (gd R g)->GnG R G (gd R g)|more{f g:Nat->Nat->Int}:GnG R G (gd R f)->G (gd R g)->GnG R G (gd R<|pr R f g)
def GnG.mono{R}(h:∀x,G x->z x)(k:GnG R G x):GnG R z x:=by induction k with|Y g=>exact .Y<|h _ g|more _ g a=>exact .more a<|h _ g
def bq6{R}{T:D->Prop}(z:∀a g,T (gd R a)->G (gd R g)->T (gd R<|pr R a g))(k:GnG R G b):∀h,b=gd R h->∀a,T (gd R a)->T (gd R<|pr R a h):=by induction k with|@Y g hg=>intro h e a ha;rw[ai5<|ai8 (λ_ _ _ _=>rfl) (aO1 e.symm)];exact z a g ha hg|@more f g _ hg ih=>intro h e a ha;rw[ai5<|ai8 (λ_ _ _ _=>rfl) (aO1 e.symm),<-ai5 bU8];exact z _ g (ih f rfl a ha) hg
def bH7{T:D->Prop}(d:∀c,97<=c->c<97+m.L->G (gd m.R<|sgM m c))(z:∀x,G x->T x)(e:∀x,T x->GnG m.R G x)(J:∀a g,T (gd m.R a)->G (gd m.R g)->T (gd m.R<|pr m.R a g))(i:∀a,T (gd m.R a)->Stdy m.R a->G (gd m.R<|sh m.R a))(h:ClG m x):T x:=h.in_ (λc a b=>z _<|d c a b) (λf g a b=>bq6 J (e _ b) g rfl f a) λf a k=>z _<|i f a k
def by3(z:1<=m)(h:m<=5):(D.tp<|row m f).keyS=true:=by obtain⟨k,rfl⟩:∃k,m=k+1:=⟨m-1,by lia⟩;show(D.hdI (row (k+1) f)&&((row (k+1) f).all D.keyF&&decide ((row (k+1) f).length<=1000)))=bY;rw[ae,ae];refine⟨by unfold row;rw[cK];rfl,?_,by simp[];lia⟩;rw[aG];intro d a;obtain⟨j,_,rfl⟩:=ao.mp a;rfl
def bF4(z:1<=m)(h:m<=5):(gd m f).keyT=true:=by obtain⟨k,rfl⟩:∃k,m=k+1:=⟨m-1,by omega⟩;show(D.hdI ((aq<|k+1).map λi=>D.tp<|row (k+1) (f i))&&(((aq<|k+1).map λi=>D.tp<|row (k+1) (f i)).all D.keyS&&decide (((aq<|k+1).map λi=>D.tp<|row (k+1) (f i)).length<=1000)))=bY;rw[ae,ae];refine⟨by rw[cK];rfl,?_,by simp;omega⟩;rw[aG];intro d a;obtain⟨i,_,rfl⟩:=ao.mp a;exact by3 z h
def bQ3(h:∀d∈tb,∀n,d.bnd n=bY)n:(O.dit<|seeD tb).bnd n=true:=by show(D.bndL n ((seeD tb).map (·.1))&&D.bndL n ((seeD tb).map (·.2)))=bY;unfold seeD;rw[cD,cD,ae];exact⟨zt (λd a n=>by simp_all) _,zt (λd a n=>by obtain⟨x,b,rfl⟩:=ao.mp a;rfl) _⟩
structure CI(m:Mc)(s:Sto)(o a b e:Nat)(L:List Stp)(T:List<|Nat->Nat->Int):Prop where
 cl:ClS s o a b e (L.map Stp.d) (T.map<|gd m.R)ms:Mks m L T
 nd:(T.map<|gd m.R).Nodup
 nc:s.all O.ncl=bY
structure FrC(s s':Sto)(a b e:Nat):Prop where
 len:s'.length=s.length
 old:∀i,i≠a->i≠b->i≠e->s'[i]?=s[i]?
def FrC.refl:FrC s s a b e:=⟨rfl,λ_ _ _ _=>rfl⟩
theorem FrC.trans(h:FrC s t a b e)(g:FrC t u a b e):FrC s u a b e:=⟨g.len.trans h.len,λi x y z=>(g.old i x y z).trans<|h.old i x y z⟩
def CI.okOld(h:CI m s' o a b e L' z)(d:FrC s s' a b e):ag1 s s'=true:=aA8 λi c=>by
 by_cases c:i=a;.exact c▸.inr ⟨_,h.cl.stp,zt h.cl.bs _⟩
 .by_cases h2:i=b;.exact h2▸.inr ⟨_,h.cl.tab,zt h.cl.bt _⟩
  .by_cases h3:i=e;.subst h3;exact .inr ⟨_,h.cl.see,bQ3 h.cl.bt _⟩
   .exact .inl<|d.old i c h2 h3
def CI.canon(h:CI m s' o a b e L' z)(c:FrC s s' a b e):ac3 s .N s'=.ok .N s':=aj4 (h.okOld c) c.len
def CI.at{L}(h:CI m s o a b e L T){k:Nat}(z:T[k]?=al f):ixM (.ref b) (.int<|k) s=.ok (gd m.R f) s:=ao3 h.cl.tab<|by simp_all
def bL0{s:Sto}(h:∀(i:Nat)(o:O),s[i]?=al o->o.ncl=bY):s.all O.ncl=true:=by rw[aG];exactλo a=>AF (gi a) λi e=>h i o e
def bT3{s:Sto}(h:s.all O.ncl=bY){i:Nat}(e:s[i]?=al o):o.ncl=true:=by rw[aG]at h;exact h o<|aF e
def Stp.nclC(x:Stp):x.d.ncl=true:=by cases x<;>rfl
def bR9(h:ClS s o a b e st tb)(hn:s.all O.ncl=bY){L:List Stp}{T:List<|Nat->Nat->Int}{R:Nat}:(clU s a b e (L.map Stp.d) (T.map<|gd R)).all O.ncl=true:=bL0 λi x hx=>by
 have Y:a<s.length:=(ag.mp h.stp).1;have z:b<s.length:=(ag.mp h.tab).1;have le:e<s.length:=(ag.mp h.see).1;obtain⟨Z,n2,n3,Uu,J⟩:=h.ne;by_cases h3:i=e
 .subst h3;have:(clU s a b i (L.map Stp.d) (T.map<|gd R))[i]?=al (.dit<|seeD<|T.map<|gd R):=by unfold clU;exact zZ<|by simp;exact le
  rw[this]at hx;rw[<-ay hx];show D.nclL ((seeD<|T.map<|gd R).map (·.2))=bY;refine zx λd hd=>?_;unfold seeD at hd;rw[cD]at hd;obtain⟨_,_,rfl⟩:=ao.mp hd;rfl
 .by_cases h2:i=b
  .subst h2;have:(clU s a i e (L.map Stp.d) (T.map<|gd R))[i]?=al (.J<|T.map<|gd R):=by unfold clU;rw[aC<|bH J];exact zZ<|by simp;exact z
   rw[this]at hx;rw[<-ay hx];show D.nclL (T.map<|gd R)=bY;exact zx λd hd=>by obtain⟨f,_,rfl⟩:=ao.mp hd;exact ar1
  .by_cases h1:i=a
   .subst h1;have:(clU s i b e (L.map Stp.d) (T.map<|gd R))[i]?=al (.J<|L.map Stp.d):=by unfold clU;rw[aC<|bH Uu,aC<|bH h.ab];exact zZ Y
    rw[this]at hx;rw[<-ay hx];show D.nclL (L.map Stp.d)=bY;exact zx λd hd=>by obtain⟨f,_,rfl⟩:=ao.mp hd;exact f.nclC
   .rw[aN8 h1 h2 h3]at hx;exact bT3 hn hx
def FrC.clU:FrC s (clU s a b e st tb) a b e:=⟨ba9,λi z h a=>aN8 z h a⟩
def cg5:ex F .raise U s=.B:=rfl
def bn4(m:Mc)(T:List<|Nat->Nat->Int):Prop:=(T.map<|gd m.R).Nodup/\T.length=80/\(∀f∈T,ClG m<|gd m.R f)/\∃g,ClG m (gd m.R g)/\gd m.R g∉T.map (gd m.R)
section
variable{P:Pr}[HasM P "ClosedSet" "take" aa3][HasC P "MOST_TABLES"<|.int 80][HasMX P "ClosedSet" "take" ae9]
def bv1 n(h:ClS s o a b e st tb)(hy:y∉tb)(hk:y.keyT=bY)(z:tb.length=80):(aa0 P<|n+1).mcall "ClosedSet" "take" [.ref o,x,y] s=.B:=by have q:=ju h.see hk;rw[(qy).2 hy]at q;have a:=jH h.stp;have b:decide ((st.length:Int)=80)=true:=gc (by rw[h.len];omega);rw[qD aa3 rfl,ao6,show(bN al [D.ref o,x,y]++az aa3.vs aT)=[al<|.ref o,al x,al y]from rfl];simp only[za,zw,jx,zN,ev_cmp,ev_bi,qe,qa,R.bind_ok,zM,zX,zd,eq_int,qF,if_true,if_false,Bool.false_eq_true,zJ,jL h.ins,q,fe,aj5 h.ins,a,qY (v:=.int 80),b,cg5];rfl
def bu1 n(h:ClS s o a b e st tb)(hy:y∈tb)(hk:y.keyT=bY):(aa0 P<|n+1).xm "ClosedSet" "take" [.ref o,x,y] s=none:=by
 have q:=ju h.see hk;rw[(qy).1 hy]at q;rw[aC4 ae9 rfl,show(bN al [D.ref o,x,y]++az ae9.vs aT)=[al<|.ref o,al x,al y]from rfl];have z:ex (aa0 P n) (.ite (.Z .isin (.X 2) (.attr (.X 0) am2)) (.cons .retN .nil) .nil) [al<|.ref o,al x,al y] s=.ok (.ret .N) s:=by simp only[za,zw,jx,zN,ev_cmp,R.bind_ok,zM,zX,je,qF,if_true,zJ,jL h.ins,q,fe,bi8]
 show(match ex (aa0 P n) (.ite (.Z .isin (.X 2) (.attr (.X 0) am2)) (.cons .retN .nil) .nil) [al<|.ref o,al x,al y] s with|.ok (.next a) b=>xB (aa0 P n) (.iteT (.Z .eq (.bi .len<|.cons (.attr (.X 0) ah0) .nil) (.gl "MOST_TABLES")) (.rais "TooMuch") .no) a b|_=>aT)=_;rw[z]
def bg4 n(h:ClS s o a b e st tb)(hy:y∉tb)(hk:y.keyT=bY)(Uu:tb.length<80):(aa0 P<|n+1).xm "ClosedSet" "take" [.ref o,x,y] s=none:=by
 have q:=ju h.see hk;rw[(qy).2 hy]at q;have a:=jH h.stp;have b:decide ((st.length:Int)=80)=false:=gn (by rw[h.len];lia);rw[aC4 ae9 rfl,show(bN al [D.ref o,x,y]++az ae9.vs aT)=[al<|.ref o,al x,al y]from rfl];have J:ex (aa0 P n) (.ite (.Z .isin (.X 2) (.attr (.X 0) am2)) (.cons .retN .nil) .nil) [al<|.ref o,al x,al y] s=.ok (.next [al<|.ref o,al x,al y]) s:=by simp only[za,zw,jx,zN,ev_cmp,R.bind_ok,zM,zX,qF,if_false,Bool.false_eq_true,zJ,jL h.ins,q,fe]
 have z:ev (aa0 P n) (.Z .eq (.bi .len<|.cons (.attr (.X 0) ah0) .nil) (.gl "MOST_TABLES")) [al<|.ref o,al x,al y] s=.ok (.T ce) s:=by simp only[zN,ev_cmp,ev_bi,qe,qa,R.bind_ok,zM,eq_int,zJ,aj5 h.ins,a,qY (v:=.int 80),b]
 show(match ex (aa0 P n) (.ite (.Z .isin (.X 2) (.attr (.X 0) am2)) (.cons .retN .nil) .nil) [al<|.ref o,al x,al y] s with|.ok (.next b) a=>xB (aa0 P n) (.iteT (.Z .eq (.bi .len<|.cons (.attr (.X 0) ah0) .nil) (.gl "MOST_TABLES")) (.rais "TooMuch") .no) b a|_=>aT)=_;rw[J];show(match ev (aa0 P n) (.Z .eq (.bi .len<|.cons (.attr (.X 0) ah0) .nil) (.gl "MOST_TABLES")) [al<|.ref o,al x,al y] s with|.ok (.T b) a=>if b then xB (aa0 P n) (.rais "TooMuch") [al<|.ref o,al x,al y] a else xB (aa0 P n) .no [al<|.ref o,al x,al y] a|_=>aT)=_;rw[z];rfl
def take_any1[hE:HasE P "TooMuch" ts]n(Y:m.Ok){L}(h:CI m s o a b e L T)(hx:Mks m (L++[x]) (T++[f]))(Z:gd m.R g=gd m.R f):(∃c i d,(aa0 P<|n+1).mcall "ClosedSet" "take" [.ref o,x.d,gd m.R g] s=.ok .N c/\(aa0 P<|n+1).xm "ClosedSet" "take" [.ref o,x.d,gd m.R g] s=aT/\CI m c o a b e i (T++d)/\gd m.R f∈(T++d).map (gd m.R)/\FrC s c a b e/\d.length<=1)\/((aa0 P<|n+1).mcall "ClosedSet" "take" [.ref o,x.d,gd m.R g] s=.B/\(aa0 P<|n+1).xm "ClosedSet" "take" [.ref o,x.d,gd m.R g] s=al ("TooMuch",s)/\bn4 m T):=by
 rw[Z];have b:(gd m.R f).keyT=true:=bF4 Y.R1 Y.R5;have J:=h.cl.le;rw[av]at J;by_cases a:gd m.R f∈T.map (gd m.R);.exact .inl ⟨s,L,[],bG2 (P:=P) n h.cl a b,bu1 (P:=P) n h.cl a b,by simp_all,by rw[aY];exact a,FrC.refl,by simp⟩
 .by_cases hl:T.length<80
  .refine AB (bu3 (P:=P) n h.cl a b (x:=x.d) (x.bnd) (jz) (by simp_all)) λe1 c=>?_;have e:L.map Stp.d++[x.d]=(L++[x]).map Stp.d:=by rw[aS];rfl
   have d:T.map (gd m.R)++[gd m.R f]=(T++[f]).map (gd m.R):=by rw[aS];rfl
   rw[e,d]at e1 c;refine .inl ⟨_,L++[x],[f],e1,bg4 (P:=P) n h.cl a b<|by rw[av];exact hl,⟨c,hx,?_,bR9 h.cl h.nc⟩,aS▸aN _ (aP.mpr rfl),FrC.clU,by simp⟩;exact d▸ap5 h.nd a
  .have h80:T.length=80:=by lia
   have z:(T.map<|gd m.R).length=80:=by simp_all
   have c:=hx.cl;exact .inr ⟨bv1 (P:=P) n h.cl a b z,bV2 (P:=P) (ts:=ts) n h.cl a b z,h.nd,h80,λk b=>c k<|bn _ b,f,c f<|aN _<|aP.mpr rfl,a⟩
def take_any[hE:HasE P "TooMuch" ts]n(J:m.Ok){L}(h:CI m s o a b e L T)(hx:Mks m (L++[x]) (T++[f]))(z:gd m.R g=gd m.R f):(∃i k j,(aa0 P<|n+1).mcall "ClosedSet" "take" [.ref o,x.d,gd m.R g] s=.ok .N i/\(aa0 P<|n+1).xm "ClosedSet" "take" [.ref o,x.d,gd m.R g] s=aT/\CI m i o a b e k (T++j)/\gd m.R f∈(T++j).map (gd m.R)/\FrC s i a b e)\/((aa0 P<|n+1).mcall "ClosedSet" "take" [.ref o,x.d,gd m.R g] s=.B/\(aa0 P<|n+1).xm "ClosedSet" "take" [.ref o,x.d,gd m.R g] s=al ("TooMuch",s)/\bn4 m T):=(take_any1 (P:=P) (ts:=ts) n J h hx z).imp_left λ⟨i,k,j,a,b,c,d,e,_⟩=>⟨i,k,j,a,b,c,d,e⟩
end
theorem aW8(Inv:Nat->Env->Sto->Prop)(z:String->Sto->Prop)(hok:∀k U s,Inv k U s->ok s=bY):∀l k U s,Inv k U s->(∀j d U s,l[j]?=al d->Inv (k+j) U s->(∃U' s',g d U s=.ok (.next U') s'/\Inv (k+j+1) U' s')\/(g d U s=.B/\∃c s',gx d U s=al (c,s')/\z c s'))->(∃U' s',am6 ok g l U s=.ok (.next U') s'/\Inv (k+l.length) U' s')\/(am6 ok g l U s=.B/\∃c s',ah1 ok g gx l U s=al (c,s')/\z c s')
 |[],k,U,s,h,_=>.inl ⟨U,s,by unfold am6;rw[dO<|hok k U s h],h⟩|d::l,k,U,s,h,step=>by
  have ho:=hok k U s h;rcases step 0 d U s rfl h with⟨U1,s1,e1,h1⟩|⟨e1,c,s1,e2,hb⟩
  .have Y:=aW8 Inv z hok l (k+1) U1 s1 h1 λj d U s hd Z=>by have:=step (j+1) d U s hd (by rw[show k+(j+1)=k+1+j by omega];exact Z);rw[show k+(j+1)+1=k+1+j+1 by omega]at this;exact this
   have Uu:am6 ok g (d::l) U s=am6 ok g l U1 s1:=by show(if ok s=bY then _ else _)=_;rw[dO ho,e1];rfl
   have J:ah1 ok g gx (d::l) U s=ah1 ok g gx l U1 s1:=by show(if ok s=bY then(match g d U s with|.ok (.next U1) s1=>ah1 ok g gx l U1 s1|.ok (.cont U1) s1=>ah1 ok g gx l U1 s1|.ok _ _=>aT|_=>gx d U s)else aT)=_;rw[dO ho,e1]
   rw[Uu,J,aR,show k+(l.length+1)=k+1+l.length by omega];exact Y
  .refine .inr ⟨?_,c,s1,?_,hb⟩;.show(if ok s=bY then _ else _)=_;rw[dO ho,e1];rfl
   .show(if ok s=bY then(match g d U s with|.ok (.next U1) s1=>ah1 ok g gx l U1 s1|.ok (.cont U1) s1=>ah1 ok g gx l U1 s1|.ok _ _=>aT|_=>gx d U s)else aT)=_;rw[dO ho,e1];exact e2
def jk o m h:ev F (.mcall o m h) U s=(ev F o U s).bind λx s=>(bm6 x s).bind λc s=>(af7 F h U s).bind λl s=>F.mcall c m (x::l) s:=rfl
def ax6(J:ev F o U s=.ok x s1)(z:bm6 x s1=.ok c s2)(a:af7 F h U s2=.ok l s3):xB F (.mcall o m h) U s=F.xm c m (x::l) s3:=by show(match(ev F o U s).bind λx s=>(bm6 x s).bind λc s=>(af7 F h U s).bind λl s=>.ok (c,x::l) s with|.ok p s1=>F.xm p.1 m p.2 s1|_=>aT)=_;simp_all
def aV0:aa4.body=zS:=rfl
def ae8:Xf:=⟨2,0,.iteT shC (.mcall (.X 0) "take" shA) .no⟩
section
variable{P:Pr}[HasM P "ClosedSet" "take" aa3][HasC P "MOST_TABLES"<|.int 80][HasMX P "ClosedSet" "take" ae9][Has P ad3][Has P aa7][HasL P aa2][Has P ab7][Has P ab9][Has P ab8][HasL P ab0][HasC P "FREE"<|.int 0][HasC P "UNBOUND"<|.int 2][HasC P "NONE"<|.int 3][HasM P "ClosedSet" "take_sharp" aa4][HasMX P "ClosedSet" "take_sharp" ae8]
def tsharp_any[hE:HasE P "TooMuch" ts]n(Y:m.Ok){L}(h:CI m s o a b e L T){k:Nat}(hf:T[k]?=al f):(∃s' L' Uu,(aa0 P<|n+6).mcall "ClosedSet" "take_sharp" [.ref o,.int k] s=.ok .N s'/\(aa0 P<|n+6).xm "ClosedSet" "take_sharp" [.ref o,.int k] s=aT/\CI m s' o a b e L' (T++Uu)/\(Stdy m.R f->gd m.R (sh m.R f)∈(T++Uu).map (gd m.R))/\FrC s s' a b e)\/((aa0 P<|n+6).mcall "ClosedSet" "take_sharp" [.ref o,.int k] s=.B/\∃s',(aa0 P<|n+6).xm "ClosedSet" "take_sharp" [.ref o,.int k] s=al ("TooMuch",s')/\bn4 m T/\FrC s s' a b e):=by
 have Z:=h.ms.inG Y f<|aF hf;have a1:=h.at hf;obtain⟨bl,e1,hb⟩:=al6 (P:=P) (n+1) Y.R1 Y.R5 Z h.nc;have hc:ev (aa0 P<|n+5) shC [al<|.ref o,al<|.int k] s=.ok (.T bl) s:=by unfold shC;simp only[zN,ev_ix,ev_call,qP,evas_ex,R.bind_ok,zM,zX,zJ,ay2 h.cl.ins,a1,e1]
 have hd:=qD (P:=P) aa4 (c:="ClosedSet") (m:="take_sharp") (n:=n+5) (l:=[.ref o,.int k]) (s:=s) rfl;rw[aV0,show(bN al [D.ref o,D.int k]++az aa4.vs aT)=[al<|.ref o,al<|.int k]from rfl]at hd;have hx:=aC4 (P:=P) ae8 (c:="ClosedSet") (m:="take_sharp") (n:=n+5) (l:=[.ref o,.int k]) (s:=s) rfl;rw[show(bN al [D.ref o,D.int k]++az ae8.vs aT)=[al<|.ref o,al<|.int k]from rfl]at hx;have J:(aa0 P<|n+6).xm "ClosedSet" "take_sharp" [.ref o,.int k] s=(match ev (aa0 P<|n+5) shC [al<|.ref o,al<|.int k] s with|.ok (.T b) s1=>if b then xB (aa0 P<|n+5) (.mcall (.X 0) "take" shA) [al<|.ref o,al<|.int k] s1 else xB (aa0 P<|n+5) .no [al<|.ref o,al<|.int k] s1|_=>aT):=hx;rw[hc]at J;by_cases hs:Stdy m.R f
 .have a2:=hb.mpr hs;subst a2;have e2:=aE8 (P:=P) n Y.R1 Y.R5 Z hs h.nc;have ha:af7 (aa0 P<|n+5) shA [al<|.ref o,al<|.int k] s=.ok [(Stp.sharp k).d,gd m.R<|sh m.R f] s:=by unfold shA;simp only[zN,ev_cst,ev_tup,ev_ix,ev_call,qe,qa,qP,evas_ex,Cn_str,R.bind_ok,zM,zX,zJ,ay2 h.cl.ins,a1,e2];rfl
  have hv:ev (aa0 P<|n+5) (.X 0) [al<|.ref o,al<|.int k] s=.ok (.ref o) s:=rfl;have xe:=ax6 (F:=aa0 P<|n+5) (m:="take") hv (al2 h.cl.ins) ha;have a0:(aa0 P<|n+6).xm "ClosedSet" "take_sharp" [.ref o,.int k] s=xB (aa0 P<|n+5) (.mcall (.X 0) "take" shA) [al<|.ref o,al<|.int k] s:=J;rcases take_any (P:=P) (ts:=ts) (n+4) Y h (x:=.sharp k) (f:=sh m.R f) (g:=sh m.R f) (.sharp k f h.ms hf hs) rfl with⟨s',L',Uu,t1,tx,t2,t3,t4⟩|⟨t1,t2,t3⟩;.refine .inl ⟨s',L',Uu,?_,by rw[a0,xe];exact tx,t2,λ_=>t3,t4⟩;rw[hd];simp only[za,zw,jx,ex_ex,zN,R.bind_ok,zM,zd,fin_next,qF,if_true,hc,jk,al2 h.cl.ins,ha,t1];exact t2.canon t4
  .refine .inr ⟨?_,s,by rw[a0,xe];exact t2,t3,FrC.refl⟩;rw[hd];simp only[za,zw,jx,ex_ex,zN,R.bind_ok,zM,qF,if_true,hc,jk,al2 h.cl.ins,ha,t1];rfl
 .have a3:bl=false:=by cases bl with|true=>exact ij (hb.mp rfl) hs|false=>rfl
  subst a3;refine .inl ⟨s,L,[],?_,J,by rw[aY];exact h,λz=>ij z hs,FrC.refl⟩;rw[hd];simp only[za,zw,jx,ex_ex,R.bind_ok,zd,fin_next,qF,if_false,Bool.false_eq_true,hc];exact h.canon FrC.refl
end
def prG(i j:Nat):E:=.call "sign_product"<|.ex (.ix (.attr (.X 0) ap6) (.X i)) (.ex (.ix (.attr (.X 0) ap6) (.X j)) .nil)
def prA(i j:Nat):As:=.ex (.tp<|.cons (.K<|.str [112,97,105,114]) (.cons (.X i) (.cons (.X j) .nil))) (.ex (prG i j) .nil)
def prB:Ss:=.cons (.ex<|.mcall (.X 0) "take"<|prA 1 2) (.cons (.ex<|.mcall (.X 0) "take"<|prA 2 1) .nil)
def prX:XB:=.alt (.mcall (.X 0) "take"<|prA 1 2) (.seq (.ex<|.mcall (.X 0) "take"<|prA 1 2) (.mcall (.X 0) "take"<|prA 2 1))
def aU6:aa5.body=.cons (.fo (.Y 2) (.rg<|.G .add (.X 1) (.K<|.int 1)) prB) .nil:=rfl
def ae6:Xf:=⟨2,1,.forX (.Y 2) (.rg<|.G .add (.X 1) (.K<|.int 1)) prB prX⟩
def bc5(h:xB F a U s=al r):xB F (.alt a b) U s=al r:=by show(match xB F a U s with|some r=>al r|none=>xB F b U s)=_;rw[h]
def aZ6(h:xB F a U s=aT):xB F (.alt a b) U s=xB F b U s:=by show(match xB F a U s with|some r=>al r|none=>xB F b U s)=_;rw[h]
def aD4(h:ex F st U s=.ok (.next U1) s1):xB F (.seq st b) U s=xB F b U1 s1:=by show(match ex F st U s with|.ok (.next U1) s1=>xB F b U1 s1|_=>aT)=_;rw[h]
def cd1(h:evI F it U s=.ok q s0):xB F (.forX tg it b x) U s=ah1 (λs=>chk s0 s q.src) (turn F tg b) (λd U s=>match jc U tg d with|some U=>xB F x U s|none=>aT) q.its U s0:=by show(match evI F it U s with|.ok q s0=>ah1 (λs=>chk s0 s q.src) (λd U s=>match jc U tg d with|some U=>exs F b U s|none=>.B) (λd U s=>match jc U tg d with|some U=>xB F x U s|none=>aT) q.its U s0|_=>aT)=_;rw[h];rfl
section
variable{P:Pr}[HasM P "ClosedSet" "take" aa3][HasC P "MOST_TABLES"<|.int 80][HasMX P "ClosedSet" "take" ae9][Has P ad3][Has P aa7][HasL P aa2]
def pr_take[hE:HasE P "TooMuch" ts]n(z:m.Ok){L}(h:CI m s o a b e L T){u v:Nat}(J:T[u]?=al f)(hg:T[v]?=al g)(r0:U[0]?=al (al<|.ref o))(ri:U[i]?=al (al<|.int (u:Int)))(rj:U[j]?=al (al<|.int (v:Int))):(∃c l k,ex (aa0 P<|n+5) (.ex<|.mcall (.X 0) "take"<|prA i j) U s=.ok (.next U) c/\xB (aa0 P<|n+5) (.mcall (.X 0) "take"<|prA i j) U s=aT/\CI m c o a b e l (T++k)/\gd m.R (pr m.R f g)∈(T++k).map (gd m.R)/\FrC s c a b e)\/(ex (aa0 P<|n+5) (.ex<|.mcall (.X 0) "take"<|prA i j) U s=.B/\xB (aa0 P<|n+5) (.mcall (.X 0) "take"<|prA i j) U s=al ("TooMuch",s)/\bn4 m T):=by
 have b:InG m.R f:=h.ms.inG z f<|aF J;have Z:InG m.R g:=h.ms.inG z g<|aF hg;have Y:∀{i:Nat}{d:D},U[i]?=al (al d)->ev (aa0 P<|n+5) (.X i) U s=.ok d s:=λ{i d}q=>by show aI7 U i s=_;rw[aI7,q]
 have a:=Y r0;have c:=Y ri;have d:=Y rj;have e:=qZ (P:=P) (n+2) z.R1 z.R5 b Z h.nc;have b:af7 (aa0 P<|n+5) (prA i j) U s=.ok [(Stp.pair u v).d,gd m.R<|pr m.R f g] s:=by unfold prA prG;simp only[evas_ex,qP,ev_tup,qa,qe,ev_cst,Cn_str,R.bind_ok,c,d,ev_call,ev_ix,zJ,a,ay2 h.cl.ins,h.at J,h.at hg,e];rfl
 have d:=ax6 (F:=aa0 P<|n+5) (m:="take") a (al2 h.cl.ins) b;have p:ex (aa0 P<|n+5) (.ex<|.mcall (.X 0) "take"<|prA i j) U s=((aa0 P<|n+5).mcall "ClosedSet" "take" [.ref o,(Stp.pair u v).d,gd m.R<|pr m.R f g] s).bind λ_ s=>.ok (.next U) s:=by show(ev (aa0 P<|n+5) (.mcall (.X 0) "take"<|prA i j) U s).bind _=_;rw[jk,a,R.bind_ok,al2 h.cl.ins,R.bind_ok,b,R.bind_ok]
 rcases take_any (P:=P) (ts:=ts) (n+4) z h (x:=.pair u v) (f:=pr m.R f g) (g:=pr m.R f g) (.pair u v f g h.ms J hg) rfl with⟨c,l,k,e,f,a,b,g⟩|⟨e,a,b⟩;.exact .inl ⟨c,l,k,by simp_all,by rw[d];exact f,a,b,g⟩
 .exact .inr ⟨by rw[p,e];rfl,by rw[d];exact a,b⟩
variable[HasM P "ClosedSet" "take_pairs" aa5][HasMX P "ClosedSet" "take_pairs" ae6]
def tpairs_any[hE:HasE P "TooMuch" ts]n(hm:m.Ok){L}(h:CI m s o a b e L T){k:Nat}(hf:T[k]?=al f):(∃q r p,(aa0 P<|n+6).mcall "ClosedSet" "take_pairs" [.ref o,.int k] s=.ok .N q/\CI m q o a b e r (T++p)/\(∀i,i<k+1->∀g,T[i]?=al g->gd m.R (pr m.R f g)∈(T++p).map (gd m.R)/\gd m.R (pr m.R g f)∈(T++p).map (gd m.R))/\FrC s q a b e)\/((aa0 P<|n+6).mcall "ClosedSet" "take_pairs" [.ref o,.int k] s=.B/\∃q,(aa0 P<|n+6).xm "ClosedSet" "take_pairs" [.ref o,.int k] s=al ("TooMuch",q)/\(∃w,bn4 m w)/\FrC s q a b e):=by
 have q:=(ag.mp hf).1;have d:=h.cl.le;rw[av]at d;have y:evI (aa0 P<|n+5) (.rg<|.G .add (.X 1) (.K<|.int 1)) [al<|.ref o,al<|.int (k:Int),aT] s=.ok ⟨ag6 0 ((k+1:Nat):Int),[]⟩ s:=by simp-implicitDefEqProofs only[zN,ev_cst,ev_bin,qN,Cn_int,R.bind_ok,zM,zX,add_int];rw[show(k:Int)+1=((k+1:Nat):Int)by lia,zP (by unfold Ww62;lia) (by unfold Ww62;lia)]
 have C:=qD (P:=P) aa5 (c:="ClosedSet") (m:="take_pairs") (n:=n+5) (l:=[.ref o,.int k]) (s:=s) rfl;rw[aU6,show(bN al [D.ref o,D.int k]++az aa5.vs aT)=[al<|.ref o,al<|.int (k:Int),aT]from rfl]at C;have v:=aC4 (P:=P) ae6 (c:="ClosedSet") (m:="take_pairs") (n:=n+5) (l:=[.ref o,.int k]) (s:=s) rfl;rw[show(bN al [D.ref o,D.int k]++az ae6.vs aT)=[al<|.ref o,al<|.int (k:Int),aT]from rfl,show ae6.body=.forX (.Y 2) (.rg<|.G .add (.X 1) (.K<|.int 1)) prB prX from rfl,cd1 y]at v;have key:=aW8 (ok:=λu=>chk s u []) (g:=turn (aa0 P<|n+5) (.Y 2) prB) (gx:=λd U s=>match jc U (.Y 2) d with|some U=>xB (aa0 P<|n+5) prX U s|none=>aT) (λj U t=>∃(r:List Stp)(p:List<|Nat->Nat->Int)(x:Option D),U=[al<|.ref o,al<|.int<|k,x]/\CI m t o a b e r (T++p)/\FrC s t a b e/\∀i,i<j->∀g,T[i]?=al g->gd m.R (pr m.R f g)∈(T++p).map (gd m.R)/\gd m.R (pr m.R g f)∈(T++p).map (gd m.R))
  (λc u=>c="TooMuch"/\(∃w,bn4 m w)/\FrC s u a b e) (λ_ _ _ _=>rfl) (ag6 0<|(k+1:Nat)) 0 [al<|.ref o,al<|.int (k:Int),aT] s ⟨L,[],aT,rfl,by rw[aY];exact h,FrC.refl,λi hi=>ij hi<|cM _⟩<|by
  rintro j d U t a⟨r,p,x,rfl,d,b,z⟩;rw[cb]at z⊢;obtain⟨c,rfl⟩:=ai7 a;rw[iR];have J:j<T.length:=by lia
  have Y:(T++p)[j]?=al T[j]:=by rw[aB J,ar J]
  have g:(T++p)[k]?=al f:=aB q▸hf;rcases pr_take (P:=P) (ts:=ts) n hm d (i:=1) (j:=2) g Y (U:=[al<|.ref o,al<|.int (k:Int),al<|.int (j:Int)]) rfl rfl rfl with⟨s,a,a,c,d,e,u,q⟩|⟨c,d,e⟩
  .have Z:(T++p++a)[j]?=al T[j]:=by rw[aB<|by rw[aO];omega];exact Y
   have h:(T++p++a)[k]?=al f:=by rw[aB<|by rw[aO];lia];exact g
   rcases pr_take (P:=P) (ts:=ts) n hm e (i:=2) (j:=1) Z h (U:=[al<|.ref o,al<|.int (k:Int),al<|.int (j:Int)]) rfl rfl rfl with⟨g,i,f,h,r,l,w,v⟩|⟨h,r,l⟩
   .refine .inl ⟨[al<|.ref o,al<|.int (k:Int),al<|.int (j:Int)],g,?_,i,p++a++f,_,rfl,by rw[<-be,<-be];exact l,(b.trans q).trans v,λi hi g f=>?_⟩;.show exs (aa0 P<|n+5) prB [al<|.ref o,al<|.int (k:Int),al<|.int (j:Int)] t=_;unfold prB;rw[za,c,R.bind_ok,zd,za,h,R.bind_ok,zd,zw]
    .have up:∀{x:D}{A B:List<|Nat->Nat->Int},x∈A.map (gd m.R)->x∈(A++B).map (gd m.R):=λv=>aS▸bn _ v;rw[<-be,<-be];by_cases a:i=j;.subst a;have:g=T[i]:=(ay<|ar J▸f).symm;exact this▸⟨up u,w⟩
     .have:=z i (by lia) g f;exact⟨up<|up this.1,up<|up this.2⟩
   .refine .inr ⟨?_,"TooMuch",s,?_,rfl,⟨_,l⟩,b.trans q⟩;.show exs (aa0 P<|n+5) prB [al<|.ref o,al<|.int (k:Int),al<|.int (j:Int)] t=_;unfold prB;rw[za,c,R.bind_ok,zd,za,h];rfl
    .show xB (aa0 P<|n+5) prX [al<|.ref o,al<|.int (k:Int),al<|.int (j:Int)] t=_;unfold prX;rw[aZ6 d,aD4 c];exact r
  .refine .inr ⟨?_,"TooMuch",t,?_,rfl,⟨_,e⟩,b⟩;.show exs (aa0 P<|n+5) prB [al<|.ref o,al<|.int (k:Int),al<|.int (j:Int)] t=_;unfold prB;rw[za,c];rfl
   .show xB (aa0 P<|n+5) prX [al<|.ref o,al<|.int (k:Int),al<|.int (j:Int)] t=_;exact bc5 d
 have a:(ag6 0 ((k+1:Nat):Int)).length=k+1:=zB<|k+1;rw[cb,a]at key;rcases key with⟨a,q,a,r,p,x,rfl,d,b,z⟩|⟨a,c,q,c,rfl,e⟩;.refine .inl ⟨q,r,p,?_,d,z,b⟩;rw[C,za,ex_for,y,R.bind_ok,a,R.bind_ok,zd,zw,R.bind_ok];exact d.canon b
 .refine .inr ⟨?_,q,?_,e⟩;.rw[C,za,ex_for,y,R.bind_ok,a];rfl
  .rw[v];exact c
end
def Cc0(s:Sto):Sto:=s++[.ins "ClosedSet"<|fldC (s.length+1) (s.length+2) (s.length+3),.J [],.J [],.dit []]
def br8{s X:Sto}:(s++a::X).set s.length b=s++b::X:=by simp_all
def aG8(hk:ok "ClosedSet"=bY){X:Sto}(h:fs.length<1000):aI2 ok f (.ref s.length) v (s++.ins "ClosedSet" fs::X)=.ok () (s++.ins "ClosedSet" (at4 (.str f) v fs)::X):=by
 unfold aI2;have:(s++O.ins "ClosedSet" fs::X)[s.length]?=al (.ins "ClosedSet" fs):=by rw[aw<|aj _];simp
 simp only[this,hk,du,gc h,if_true,br8]
def aR6 i(hi:i<s.length)(J:t[i]?=al x)(h:s[i]?≠al x)(h3:x.bnd s.length=ce):ac3 s d t=.ok d t:=by
 have:ag1 s t=false:=by rw[<-Bool.not_eq_true];intro z;have:=aG.mp z i<|bC.mpr hi;rw[J]at this;simp only[h3,nv,iF]at this;exact h this.symm
 unfold ac3;rw[this];rfl
def br2(h:n<=a):(O.ins "ClosedSet"<|fldC a b e).bnd n=false:=by unfold O.bnd fldC;simp only[aQ,D.bndL,D.bnd];lia
def bw4 o f e:ex F (.setA o f e) U s=(ev F e U s).bind λd s=>(ev F o U s).bind λx s=>(aI2 (λc=>F.att c f) f x d s).bind λ_ s=>.ok (.next U) s:=rfl
def bp1:ev F .dicT U s=.ok (.ref s.length) (s++[.dit []]):=rfl
def bK2 c h:ev F (.new c h) U s=(af7 F h U s).bind λl s=>(F.new c (.ref s.length::l) (s++[.ins c []])).bind λd a=>if d=.N then .ok (.ref s.length) a else .B:=rfl
def bu6:(aa0 P<|k+2).new c l s=(aa0 P<|k+1).mcall c "__init__" l s:=rfl
section
variable{P:Pr}[HasM P "ClosedSet" "__init__" aa8][HasA P "ClosedSet" ah0][HasA P "ClosedSet" ap6][HasA P "ClosedSet" am2]
def aT9:aa8.body=zW:=rfl
def bn8 n s:(aa0 P<|n+1).mcall "ClosedSet" "__init__" [.ref s.length] (s++[.ins "ClosedSet" []])=.ok .N (Cc0 s):=by
 have a:(λc=>(aa0 P n).att c ah0) "ClosedSet"=true:=aK3;have b:(λc=>(aa0 P n).att c ap6) "ClosedSet"=true:=aK3;have d:(λc=>(aa0 P n).att c am2) "ClosedSet"=true:=aK3;have e:=aG8 (ok:=λc=>(aa0 P n).att c ah0) a (s:=s) (X:=[.J []]) (fs:=[]) (by decide) (f:=ah0) (v:=.ref<|s.length+1);have g:=aG8 (ok:=λc=>(aa0 P n).att c ap6) b (s:=s) (X:=[.J [],.J []]) (fs:=at4 (.str ah0) (.ref<|s.length+1) []) (by simp[at4]) (f:=ap6) (v:=.ref<|s.length+2);have h:=aG8 (ok:=λc=>(aa0 P n).att c am2) d (s:=s) (X:=[.J [],.J [],.dit []]) (fs:=at4 (.str ap6) (.ref<|s.length+2) (at4 (.str ah0) (.ref<|s.length+1) [])) (by simp[at4,ah0,ap6]) (f:=am2) (v:=.ref<|s.length+3);have a:at4 (.str am2) (.ref<|s.length+3) (at4 (.str ap6) (.ref<|s.length+2) (at4 (.str ah0) (.ref<|s.length+1) []))=fldC (s.length+1) (s.length+2) (s.length+3):=by simp[at4,fldC,ah0,ap6,am2]
 rw[a]at h;rw[qD aa8 rfl,aT9,show(bN al [D.ref s.length]++az aa8.vs aT)=[al<|.ref s.length]from rfl];have a:(s++[O.ins "ClosedSet" []]).length=s.length+1:=by simp
 have b:∀x y:O,(s++[x,y]).length=s.length+2:=λ_ _=>by simp
 have J:∀x y z:O,(s++[x,y,z]).length=s.length+3:=λ_ _ _=>by simp
 simp only[za,zw,zN,ev_lst,qe,R.bind_ok,zM,zd,fin_next,alloc_eq,bw4,bp1,be,dB,gu,a,b,J,e,g,h];refine aR6 s.length (by simp) (x:=.ins "ClosedSet"<|fldC (s.length+1) (s.length+2) (s.length+3)) ?_ ?_ ?_;.rw[aw<|aj _];simp
 .rw[bb0];intro z;injection z with z;injection z with _ z;cases z
 .exact a▸br2 (aj _)
def ce1(a:s.all O.ncl=bY):CI m (Cc0 s) s.length (s.length+1) (s.length+2) (s.length+3) [] []:=by
 have g:∀i,s.length<=i->(Cc0 s)[i]?=([.ins "ClosedSet"<|fldC (s.length+1) (s.length+2) (s.length+3),.J [],.J [],.dit []])[i-s.length]?:=λi b=>aw b;refine⟨⟨?_,?_,?_,?_,by lia,rfl,by simp,λd b=>(by grind),λd b=>(by grind)⟩,.nil,gR,?_⟩;.simp_all
 .simp_all
 .simp_all
 .rw[g _<|by lia,bU];rfl
 .unfold Cc0;rw[mB,a];rfl
def bR1 n:ev (aa0 P<|n+2) (.new "ClosedSet" .nil) U s=.ok (.ref s.length) (Cc0 s):=by rw[bK2,qP,R.bind_ok,bu6,bn8,R.bind_ok,dO rfl]
end
section
variable{c:Env->Sto->R D}{g:Env->Sto->R Ct}{gx:Env->Sto->Option (String×Sto)}
def aV4(h:c U s=.ok (.T ce) s1):∀N,qc c g gx N U s=aT|0=>rfl|N+1=>by unfold qc;rw[h]
def aq9(h:c U s=.ok (.T bY) s1)(z:g U s1=.ok (.next U1) s2)N:qc c g gx (N+1) U s=qc c g gx N U1 s2:=by
 show(match c U s with
  |.ok (.T bY) s1=>match g U s1 with|.ok (.next U1) s2=>qc c g gx N U1 s2|.ok (.cont U1) s2=>qc c g gx N U1 s2|.ok _ _=>aT|_=>gx U s1
  |_=>aT)=_;rw[h];show(match g U s1 with|.ok (.next U1) s2=>qc c g gx N U1 s2|.ok (.cont U1) s2=>qc c g gx N U1 s2|.ok _ _=>aT|_=>gx U s1)=_;rw[z]
def aP1(h:c U s=.ok (.T bY) s1)(z:g U s1=.B)N:qc c g gx (N+1) U s=gx U s1:=by
 show(match c U s with
  |.ok (.T bY) s1=>match g U s1 with|.ok (.next U1) s2=>qc c g gx N U1 s2|.ok (.cont U1) s2=>qc c g gx N U1 s2|.ok _ _=>aT|_=>gx U s1
  |_=>aT)=_;rw[h];show(match g U s1 with|.ok (.next U1) s2=>qc c g gx N U1 s2|.ok (.cont U1) s2=>qc c g gx N U1 s2|.ok _ _=>aT|_=>gx U s1)=_;rw[z]
set_option tactic.hygienic true in theorem qT:∀{N}{U}{s}{r},qc c g gx N U s=al r->∀K,qc c g gx (N+K) U s=al r
 |0,U,s,r,h,K=>by cases h|N+1,U,s,r,h,K=>by
  rw[show N+1+K=(N+K)+1 by lia];unfold qc at h⊢;split at h
  .rename_i s1 e1;split at h;.exact qT h K
   .exact qT h K
   .cases h
   .exact h
  .cases h
def aT7(h:qc c g gx N U s=al r):whlX c g gx U s=al r:=by unfold whlX;have ex:∃n,(qc c g gx n U s).isSome=true:=⟨N,by rw[h];rfl⟩;rw[dif_pos ex];have a:=ex.choose_spec;generalize ex.choose=K at a⊢;cases d:qc c g gx K U s with|none=>simp_all|some a=>have a:=qT h K;have b:=qT d N;rw[lD]at b;rw[a]at b;exact b.symm
def aU9(h:∀N,qc c g gx N U s=aT):whlX c g gx U s=none:=by unfold whlX;simp_all
end
def bq2(z:aI7 U i s=.ok (.int a) s)(h:ev F e U s=.ok (.int b) s)(c:at1 U i (.int<|a+b)=al U'):ex F (.aug i e) U s=.ok (.next U') s:=by
 show(aI7 U i s).bind (λx s=>(ev F e U s).bind λy s=>match x,y with
  |.int a,.int b=>match at1 U i<|.int (a+b)with|some U=>R.ok (Ct.next U) s|none=>.B
  |_,_=>.B)=_;simp_all
def clX:XB:=.alt (.mcall (.X 1) "take_sharp"<|.ex (.X 3) .nil) (.seq (.ex clS) (.mcall (.X 1) "take_pairs"<|.ex (.X 3) .nil))
def ae7:Xf:=⟨1,3,.seq (.A (.Y 1) (.new "ClosedSet" .nil)) (.seq clF<|.seq (.A (.Y 3) (.K<|.int 0)) (.whlX clC clB clX))⟩
def aK4:af2.body=au3:=rfl
def ck2(m:Mc)(k:Nat)(T:List<|Nat->Nat->Int):Prop:=∀i f,i<k->T[i]?=al f->(Stdy m.R f->gd m.R (sh m.R f)∈T.map (gd m.R))/\∀j g,j<i+1->T[j]?=al g->gd m.R (pr m.R f g)∈T.map (gd m.R)/\gd m.R (pr m.R g f)∈T.map (gd m.R)
section
variable{P:Pr}[HasM P "ClosedSet" "take" aa3][HasC P "MOST_TABLES"<|.int 80][HasMX P "ClosedSet" "take" ae9][Has P ad3][Has P aa7][HasL P aa2][Has P ab7][Has P ab9][Has P ab8][HasL P ab0][HasC P "FREE"<|.int 0][HasC P "UNBOUND"<|.int 2][HasC P "NONE"<|.int 3][HasM P "ClosedSet" "take_sharp" aa4][HasMX P "ClosedSet" "take_sharp" ae8][HasM P "ClosedSet" "take_pairs" aa5][HasMX P "ClosedSet" "take_pairs" ae6]
theorem clw[hE:HasE P "TooMuch" ts]n(hm:m.Ok):∀z k L T t,81<=z+k->CI m t o a b e L T->k<=T.length->ck2 m k T->(∃v p c w,whl (ev (aa0 P<|n+6) clC) (exs (aa0 P<|n+6) clB) [x0,al<|.ref o,x2,al<|.int<|k] t=.ok (.next [x0,al<|.ref o,x2,al<|.int (w:Nat)]) c/\(∀N,qc (ev (aa0 P<|n+6) clC) (exs (aa0 P<|n+6) clB) (xB (aa0 P<|n+6) clX) N [x0,al<|.ref o,x2,al<|.int<|k] t=aT)/\CI m c o a b e v (T++p)/\FrC t c a b e/\ck2 m (T++p).length (T++p))\/(∃N c,qc (ev (aa0 P<|n+6) clC) (exs (aa0 P<|n+6) clB) (xB (aa0 P<|n+6) clX) N [x0,al<|.ref o,x2,al<|.int<|k] t=al ("TooMuch",c)/\(∃d,bn4 m d)/\FrC t c a b e)
 |0,k,L,T,t,c,h,d,_=>by have Y:=h.cl.le;rw[av]at Y;omega|z+1,k,L,T,t,c,h,d,g=>by
  have Y:=h.cl.le;rw[av]at Y;have Z:(L.map Stp.d).length=T.length:=by rw[h.cl.len,av]
  have c:bi .len [.ref a] t=.ok (.int T.length) t:=by rw[jH h.cl.stp,Z]
  have d:ev (aa0 P<|n+6) clC [x0,al<|.ref o,x2,al<|.int (k:Int)] t=.ok (.T<|decide<|(k:Int)<(T.length:Int)) t:=by unfold clC;simp only[zN,ev_cmp,ev_bi,qe,qa,R.bind_ok,zM,zX,lt_int,zJ,aj5 h.cl.ins,c]
  by_cases c:k<T.length
  .rw[gc<|by lia]at d;obtain⟨f,J⟩:∃f,T[k]?=al f:=⟨_,ar c⟩;have l:∀{u:Sto}{L:List Stp}{T:List<|Nat->Nat->Int}(_:CI m u o a b e L T)(q:String),ex (aa0 P<|n+6) (.ex<|.mcall (.X 1) q<|.ex (.X 3) .nil) [x0,al<|.ref o,x2,al<|.int (k:Int)] u=((aa0 P<|n+6).mcall "ClosedSet" q [.ref o,.int k] u).bind λ_ s=>.ok (.next [x0,al<|.ref o,x2,al<|.int (k:Int)]) s:=λ{u L T}g q=>by show(ev (aa0 P<|n+6) (.mcall (.X 1) q<|.ex (.X 3) .nil) [x0,al<|.ref o,x2,al<|.int (k:Int)] u).bind _=_;rw[jk];simp only[zN,qP,evas_ex,R.bind_ok,zM,zX,al2 g.cl.ins]
   have mx:∀{u:Sto}{L:List Stp}{T:List<|Nat->Nat->Int}(_:CI m u o a b e L T)(q:String),xB (aa0 P<|n+6) (.mcall (.X 1) q<|.ex (.X 3) .nil) [x0,al<|.ref o,x2,al<|.int (k:Int)] u=(aa0 P<|n+6).xm "ClosedSet" q [.ref o,.int k] u:=λ{u L T}g q=>ax6 rfl (al2 g.cl.ins) (by simp_all);rcases tsharp_any (P:=P) (ts:=ts) n hm h J with⟨s1,a,a,q,F,e,C,r⟩|⟨q,s1,e,C,r⟩
   .have a5:(T++a)[k]?=al f:=aB c▸J;rcases tpairs_any (P:=P) (ts:=ts) n hm e a5 with⟨f,p,b,u,y,E,s⟩|⟨u,f,y,E,s⟩
    .have hb:exs (aa0 P<|n+6) clB [x0,al<|.ref o,x2,al<|.int (k:Int)] t=.ok (.next [x0,al<|.ref o,x2,al<|.int ((k+1:Nat):Int)]) f:=by have c:ex (aa0 P<|n+6) (.aug 3<|.K<|.int 1) [x0,al<|.ref o,x2,al<|.int (k:Int)] f=.ok (.next [x0,al<|.ref o,x2,al<|.int ((k+1:Nat):Int)]) f:=bq2 rfl rfl rfl;unfold clB clS clP;rw[za,l h,q,R.bind_ok,R.bind_ok,zd,za,l e,u,R.bind_ok,R.bind_ok,zd,za,c,R.bind_ok,zd,zw]
     have c:∀{x:D}{A B:List<|Nat->Nat->Int},x∈A.map (gd m.R)->x∈(A++B).map (gd m.R):=λi=>by rw[aS];exact bn _ i
     have v:ck2 m (k+1) (T++a++b):=λi j m m=>by
      have w:i<T.length:=by lia
      have x:T[i]?=al j:=by rw[be,aB w]at m;exact m
      by_cases m:i=k;.grind
      .have hq:=g i j (by lia) x;refine⟨λg=>c<|c<|hq.1 g,λj g m i=>?_⟩;have w:T[j]?=al g:=by rw[be,aB<|by lia]at i;exact i
       have:=hq.2 j g m w;exact⟨c<|c this.1,c<|c this.2⟩
     rcases clw (ts:=ts) n hm z (k+1) p (T++a++b) f (by lia) y (by grind) v with⟨v,p,c,w,g,i,j,m,c5⟩|⟨N,c,g,i,j⟩
     .refine .inl ⟨v,a++b++p,c,w,?_,λN=>?_,by simp_all,(r.trans s).trans m,by simp_all⟩;.rw[aO9 d hb];exact g
      .cases N with|zero=>rfl|succ N=>rw[aq9 d hb];exact i N
     .exact .inr ⟨N+1,c,by rw[aq9 d hb];exact g,i,(r.trans s).trans j⟩
    .refine .inr ⟨1,f,?_,E,r.trans s⟩;have hb:exs (aa0 P<|n+6) clB [x0,al<|.ref o,x2,al<|.int (k:Int)] t=.B:=by unfold clB clS clP;rw[za,l h,q,R.bind_ok,R.bind_ok,zd,za,l e,u];rfl
     rw[aP1 d hb];unfold clX;rw[aZ6<|by rw[mx h];exact F,aD4 (U1:=[x0,al<|.ref o,x2,al<|.int (k:Int)]) (s1:=s1)<|by unfold clS;rw[l h,q];rfl,mx e];exact y
   .refine .inr ⟨1,s1,?_,⟨_,C⟩,r⟩;have hb:exs (aa0 P<|n+6) clB [x0,al<|.ref o,x2,al<|.int (k:Int)] t=.B:=by unfold clB clS;rw[za,l h,q];rfl
    rw[aP1 d hb];exact bc5<|by rw[mx h];exact e
  .rw[gn<|by lia]at d;have a:k=T.length:=by lia
   refine .inl ⟨L,[],t,k,bj3 d,aV4 d,by simp_all,FrC.refl,?_⟩;simp_all
end
def abc_at{L}(h:(aB0.take L)[j]?=al d):j<3/\j<L/\d=.str [97+j]:=by
 have a:j<L:=by have:=(ag.mp h).1;rw[bQ]at this;lia
 rw[dm a]at h;match j,h with|0,h=>exact⟨by lia,a,(ay h).symm⟩|1,h=>exact⟨by lia,a,(ay h).symm⟩|2,h=>exact⟨by lia,a,(ay h).symm⟩|j+3,h=>simp[]at h
def bk4 q s:mk .tuple q s=.ok (.tp q) s:=rfl
def aN0(h:s[r]?=al (.J l)):bl1 (.ref r) s=.ok l s:=by unfold bl1;simp only[h]
def bl9{t:Sto}(z:s.length<=t.length)(h:∀i,i<s.length->t[i]?=s[i]?):∃G,t=s++G:=by
 refine⟨t.drop s.length,?_⟩;have:t.take s.length=s:=by apply ib;grind
 conv=>lhs;rw[<-i8 s.length t,this]
def au5{R}{T:List<|Nat->Nat->Int}(h:gd R f∈T.map (gd R)):∃(i:Nat)(g:Nat->Nat->Int),T[i]?=al g/\EqG R f g:=AD (ao.mp h) λg z e=>AF (gi z) λi a=>⟨i,g,a,aO1 e.symm⟩
def bK1(h:ck2 m T.length T)(a:∀c,97<=c->c<97+m.L->gd m.R (sgM m c)∈T.map (gd m.R))(k:ClG m x):x∈T.map (gd m.R):=by
 refine k.in_ a (λf g J Z=>?_) λf J g=>?_
 .refine AE (au5 J) λi b a z=>AE (au5 Z) λj f c e=>?_;have d:=(ag.mp a).1;have Y:=(ag.mp c).1;rw[ai5<|ai8 z e];by_cases e:j<i+1;.exact((h i b d a).2 j f e c).1
  .exact((h j f Y c).2 i b (by lia) a).2
 .exact AE (au5 J) λi b a z=>have d:=(ag.mp a).1;ai5 (aN2 z)▸(h i b d a).1 (av3 z g)
def Mks.in_cl{L}(h:Mks m L T)(a:x∈T.map (gd m.R)):ClG m x:=by obtain⟨f,z,rfl⟩:=ao.mp a;exact h.cl f z
section
variable{P:Pr}[HasM P "ClosedSet" "take" aa3][HasC P "MOST_TABLES"<|.int 80][HasMX P "ClosedSet" "take" ae9][Has P ad3][Has P aa7][HasL P aa2][Has P ab7][Has P ab9][Has P ab8][HasL P ab0][HasC P "FREE"<|.int 0][HasC P "UNBOUND"<|.int 2][HasC P "NONE"<|.int 3][HasM P "ClosedSet" "take_sharp" aa4][HasMX P "ClosedSet" "take_sharp" ae8][HasM P "ClosedSet" "take_pairs" aa5][HasMX P "ClosedSet" "take_pairs" ae6][HasM P "ClosedSet" "__init__" aa8][HasA P "ClosedSet" ah0][HasA P "ClosedSet" ap6][HasA P "ClosedSet" am2][HasC P "SOME"<|.int 1][Has P ad5][Has P ad7][HasL P ac4][Has P ad8][Has P ae0][Has P ac1][Has P ac2][Has P aa9][HasL P aa6][Has P ae1][HasL P ac0][Has P ac9][HasL P ab2][Has P ab3][Has P ac5][Has P ac8][HasC P "LETTERS"<|.tp aB0]
def bO9[hE:HasE P "TooMuch" ts]n(J:m.Ok)(hs:s.all O.ncl=bY):∃(L:List Stp)(T:List<|Nat->Nat->Int)(t:Sto)(x:Option D),ex (aa0 P<|n+6) clF [al m.d,al<|.ref s.length,aT,aT] (Cc0 s)=.ok (.next [al m.d,al<|.ref s.length,x,aT]) t/\CI m t s.length (s.length+1) (s.length+2) (s.length+3) L T/\FrC (Cc0 s) t (s.length+1) (s.length+2) (s.length+3)/\∀c,97<=c->c<97+m.L->gd m.R (sgM m c)∈T.map (gd m.R):=by
 have a:=J.L3;have a:=aW3 (P:=P) (n+5) J.L3;have e:∀u,(aa0 P<|n+6).call "letters_of" [m.d] u=.ok (.tp<|aB0.take m.L) u:=(a _);refine AE (jK (g:=turn (aa0 P<|n+6) (.Y 2) ck5) (λj U t=>∃(L:List Stp)(T:List<|Nat->Nat->Int)(x:Option D),U=[al m.d,al<|.ref s.length,x,aT]/\CI m t s.length (s.length+1) (s.length+2) (s.length+3) L T/\FrC (Cc0 s) t (s.length+1) (s.length+2) (s.length+3)/\T.length<=j/\∀i,i<j->gd m.R (sgM m<|97+i)∈T.map (gd m.R))
  (aB0.take m.L) 0 [al m.d,al<|.ref s.length,aT,aT] (Cc0 s) ⟨[],[],aT,rfl,ce1 hs,FrC.refl,aj _,λi c=>ij c<|cM _⟩ (λ_ _ _ _ _=>rfl) (by
  rintro j d U t c⟨L,T,x,rfl,a,b,d,z⟩;rw[cb]at d z⊢;obtain⟨d,d,rfl⟩:=abc_at c;refine AD (ax9 (P:=P) n J [97+j] (by simp) a.nc) λg c d=>?_;have Y:=ai5<|c.eqG<|SgW.letter m _;have c:af7 (aa0 P<|n+6) clA [al m.d,al<|.ref s.length,al<|.str [97+j],aT] t=.ok [(Stp.let_<|97+j).d,gd m.R g] t:=by unfold clA;simp only[zN,ev_cst,ev_tup,ev_call,qe,qa,qP,evas_ex,Cn_str,R.bind_ok,zM,zX,d];rfl
  have Z:ex (aa0 P<|n+6) (.ex<|.mcall (.X 1) "take" clA) [al m.d,al<|.ref s.length,al<|.str [97+j],aT] t=((aa0 P<|n+6).mcall "ClosedSet" "take" [.ref s.length,(Stp.let_<|97+j).d,gd m.R g] t).bind λ_ u=>.ok (.next [al m.d,al<|.ref s.length,al<|.str [97+j],aT]) u:=by show(ev (aa0 P<|n+6) (.mcall (.X 1) "take" clA) [al m.d,al<|.ref s.length,al<|.str [97+j],aT] t).bind _=_;rw[jk];simp only[zN,R.bind_ok,zM,zX,al2 a.cl.ins,c]
  rcases take_any1 (P:=P) (ts:=ts) (n+5) J a (.let_ (97+j) a.ms (by lia) (by lia)) Y with⟨a,c,d,f,g,g,h,i,k⟩|⟨_,_,_,k,_⟩
  .refine⟨[al m.d,al<|.ref s.length,al<|.str [97+j],aT],a,.inl ?_,c,T++d,_,rfl,g,b.trans i,?_,λi c=>?_⟩;.show exs (aa0 P<|n+6) ck5 [al m.d,al<|.ref s.length,al<|.str [97+j],aT] t=_;unfold ck5;rw[za,Z,f,R.bind_ok,R.bind_ok,zd,zw]
   .rw[aO];lia
   .by_cases hij:i=j;.exact hij▸h
    .exact aS▸bn _ (z i<|by lia)
  .omega)) λU' t d h=>?_;obtain⟨L,T,x,rfl,a,b,_,z⟩:=h;refine⟨L,T,t,x,?_,a,b,λc a h2=>?_⟩;.unfold clF;rw[ex_for];simp only[zN,ev_call,qP,evas_ex,evI_seq,R.bind_ok,zM,e];rw[show at2 (D.tp<|aB0.take m.L) (Cc0 s)=.ok ⟨aB0.take m.L,[]⟩ (Cc0 s)from rfl,R.bind_ok];exact d
 .have:=z (c-97) (by rw[cb,bQ];show c-97<min m.L 3;lia);rwa[show 97+(c-97)=c by omega]at this
def closed_any[Has P af2][HasX P "closed" ae7]{ts}[hE:HasE P "TooMuch" ts]n{m}(Y:m.Ok){s}(hs:s.all O.ncl=bY):(∃L T,(aa0 P<|n+7).call "closed" [m.d] s=.ok (.tp<|L.map Stp.d) s/\(aa0 P<|n+7).xcall "closed" [m.d] s=aT/\Mks m L T/\(T.map<|gd m.R).Nodup/\T.length<=80/\∀x,ClG m x↔x∈T.map (gd m.R))\/(∃a,(aa0 P<|n+7).xcall "closed" [m.d] s=al ("TooMuch",a)/\(∃T,bn4 m T)/\∃G,a=s++G):=by
 have J:(aa0 P<|n+7).call "closed" [m.d] s=_:=zl af2 rfl;have e:(aa0 P<|n+7).xcall "closed" [m.d] s=_:=bh5 ae7 rfl;rw[aK4,show(bN al [m.d]++az af2.vs aT)=[al m.d,aT,aT,aT]from rfl]at J;rw[show(bN al [m.d]++az ae7.vs aT)=[al m.d,aT,aT,aT]from rfl]at e;have j:ex (aa0 P<|n+6) (.A (.Y 1) (.new "ClosedSet" .nil)) [al m.d,aT,aT,aT] s=.ok (.next [al m.d,al<|.ref s.length,aT,aT]) (Cc0 s):=by rw[ex_asg,bR1<|n+4,R.bind_ok];rfl
 refine AN (bO9 (P:=P) (ts:=ts) n Y hs) λL T t x k AA=>AI AA λhc g o=>?_;have l:ex (aa0 P<|n+6) (.A (.Y 3) (.K<|.int 0)) [al m.d,al<|.ref s.length,x,aT] t=.ok (.next [al m.d,al<|.ref s.length,x,al<|.int ((0:Nat):Int)]) t:=by simp_all
 have a:xB (aa0 P<|n+6) ae7.body [al m.d,aT,aT,aT] s=whlX (ev (aa0 P<|n+6) clC) (exs (aa0 P<|n+6) clB) (xB (aa0 P<|n+6) clX) [al m.d,al<|.ref s.length,x,al<|.int ((0:Nat):Int)] t:=by show xB (aa0 P<|n+6) (.seq (.A (.Y 1) (.new "ClosedSet" .nil)) (.seq clF<|.seq (.A (.Y 3) (.K<|.int 0)) (.whlX clC clB clX))) _ _=_;rw[aD4 j,aD4 k,aD4 l];rfl
 rw[a]at e;rcases clw (P:=P) (ts:=ts) n Y 81 0 L T t (by lia) hc (cy _) (λi f b=>ij b<|cM _)with⟨b,c,m,a,f,h,a,d,i⟩|⟨N,m,f,h,d⟩
 .refine .inl ⟨b,T++c,?_,e▸aU9 h,a.ms,a.nd,by have:=a.cl.le;rwa[av]at this,λy=>⟨(bK1 i<|λc b Z=>by rw[aS];exact bn _<|o c b Z),a.ms.in_cl⟩⟩;have z:(Cc0 s).length=s.length+4:=by unfold Cc0;simp
  refine AF (bl9 (s:=s) (by rw[d.len,g.len,z];lia) λi b=>by rw[d.old i (by lia) (by lia) (by lia),g.old i (by omega) (by omega) (by omega)];unfold Cc0;rw[aB b]) λG b=>?_;rw[J,za,j,R.bind_ok,zd,za,k,R.bind_ok,zd,za,l,R.bind_ok,zd,za,ex_whl,f,R.bind_ok,zd];simp only[za,ex_ret,zN,ev_mk,evL_seq,R.bind_ok,zM,zX,je,ja,zJ,aj5 a.cl.ins,aN0 a.cl.stp,bk4];exact b▸zz (bu4) (by nofun)
 .have z:(Cc0 s).length=s.length+4:=by unfold Cc0;simp
  exact .inr ⟨m,e▸aT7 f,h,bl9 (by rw[d.len,g.len,z];omega) λi b=>by rw[d.old i (by omega) (by omega) (by omega),g.old i (by omega) (by omega) (by omega)];unfold Cc0;rw[aB b]⟩
end
theorem aI8{R}:∀F:List<|Nat->Nat->Int,inL s (gd R f) (F.map<|gd R)=al (decide<|gd R f∈F.map (gd R))|[]=>rfl|g::F=>by obtain⟨b,e,h⟩:=bg7;show(match eqv s DEEP (gd R g) (gd R f),inL s (gd R f) (F.map<|gd R)with|some a,al b=>al<|a||b|_,_=>aT)=_;rw[e,aI8 F];show al (b||decide (gd R f∈F.map (gd R)))=_;congr 1;rw[fj,cf,iF,iF,aQ,aD,h];exact⟨λz=>z.imp (λz=>(ai5 z).symm) id,λz=>z.imp (λz=>aO1 z.symm) id⟩
def aw2{R}{F:List<|Nat->Nat->Int}(h:s[p]?=al (.J<|F.map<|gd R))f:qQ .notin (gd R f) (.ref p) s=.ok (.T<|!decide (gd R f∈F.map (gd R))) s:=by
 show(inM (gd R f) (.ref p) s).bind _=_;have e:inM (gd R f) (.ref p) s=.ok (decide<|gd R f∈F.map (gd R)) s:=by unfold inM;simp only[h,aI8]
 rw[e];rfl
def bz5(R:Nat)(F:List<|Nat->Nat->Int):List (Nat->Nat->Int)->List (Nat->Nat->Int)|[]=>F|x::X=>bz5 R (if gd R x∈F.map (gd R)then F else F++[x]) X
theorem ar8{R}:∀X F,(F.map<|gd R).Nodup->∃Uu,bz5 R F X=F++Uu/\((F++Uu).map<|gd R).Nodup/\(∀f∈Uu,f∈X)/\(∀x∈X,gd R x∈(F++Uu).map (gd R))/\Uu.length<=X.length
 |[],F,h=>⟨[],by rw[aY];rfl,by rw[aY];exact h,λf J=>(nomatch J),λx hx=>(nomatch hx),aj _⟩|x::X,F,h=>by
  by_cases hx:gd R x∈F.map (gd R)
  .obtain⟨Uu,e,Y,Z,h3,h4⟩:=ar8 X F h;refine⟨Uu,by unfold bz5;rw[dO hx];exact e,Y,λf J=>ah _<|Z f J,λy hy=>?_,by rw[aR];lia⟩;rcases aD.mp hy with rfl|hy;.rw[aS];exact bn _ hx
   .exact h3 y hy
  .have hn:((F++[x]).map<|gd R).Nodup:=by rw[aS];exact ap5 h hx
   obtain⟨Uu,e,Y,Z,h3,h4⟩:=ar8 X (F++[x]) hn;rw[be]at e Y h3;refine⟨[x]++Uu,by unfold bz5;rw[ef hx];exact e,Y,λf J=>?_,λy hy=>?_,by simp;omega⟩
   .rcases aZ.mp J with z|z;.rw[aP.mp z];exact am ..
    .exact ah _<|Z f z
   .rcases aD.mp hy with rfl|hy;.rw[aS,aS];exact aN _<|bn _<|aP.mpr rfl
    .exact h3 y hy
structure LawI(m:Mc)(k:Nat)(F H:List<|Nat->Nat->Int):Prop where
 nd:(F.map<|gd m.R).Nodup
 hd:(H.map<|gd m.R).Nodup
 lt:∀c,97<=c->c<97+m.L->gd m.R (sgM m c)∈H.map (gd m.R)sub:∀x∈H.map<|gd m.R,x∈F.map (gd m.R)gen:∀x∈F.map<|gd m.R,GnG m.R (λy=>y∈H.map (gd m.R)) x
 clo:∀i f h,i<k->F[i]?=al f->h∈H->gd m.R (pr m.R f h)∈F.map (gd m.R)shp:∀i f,i<k->F[i]?=al f->Stdy m.R f->gd m.R (sh m.R f)∈H.map (gd m.R)cl:∀f∈F,ClG m<|gd m.R f
def LawI.all(h:LawI m k F H)(a:F.length<=k)x:ClG m x↔x∈F.map (gd m.R):=by
 constructor
 .refineλhx=>bH7 h.lt h.sub h.gen (λa g b c=>?_) (λa b d=>?_) hx;.exact AE (au5 b) λi f a z=>AE (au5 c) λj c e g=>ai5 (ai8 z g)▸h.clo i f c (by grind) a (aF e)
  .exact AE (au5 b) λi f a z=>ai5 (aN2 z)▸h.shp i f (by grind) a (av3 z d)
 .intro hx;obtain⟨f,J,rfl⟩:=ao.mp hx;exact h.cl f J
set_option tactic.hygienic true in def LawI.turn(h:LawI m k F H)(hf:F[k]?=al f)N(hN:N=bY↔Stdy m.R f/\gd m.R (sh m.R f)∉H.map (gd m.R))(nd:((F++Uu).map<|gd m.R).Nodup)(hU:∀g∈Uu,g∈H.map (pr m.R f)\/(N=bY/\(g=sh m.R f\/∃o,o∈F/\g=pr m.R o (sh m.R f))))(hX:∀x∈H.map<|pr m.R f,gd m.R x∈(F++Uu).map (gd m.R))(hS:N=bY->gd m.R (sh m.R f)∈(F++Uu).map (gd m.R)/\∀i o,i<k+1->F[i]?=al o->gd m.R (pr m.R o<|sh m.R f)∈(F++Uu).map (gd m.R)):LawI m (k+1) (F++Uu) (if N=bY then H++[sh m.R f]else H):=by
 have hk:k<F.length:=(ag.mp hf).1;have a0:f∈F:=aF hf;have up:∀{x:D},x∈F.map (gd m.R)->x∈(F++Uu).map (gd m.R):=λhx=>by rw[aS];exact bn _ hx
 have Z:∀{x:D},x∈H.map (gd m.R)->x∈(if N=bY then H++[sh m.R f]else H).map (gd m.R):=λhx=>by
  split;.rw[aS];exact bn _ hx
  .exact hx
 have a1:∀g,g∈(if N=bY then H++[sh m.R f]else H)->g∈H\/(N=bY/\g=sh m.R f):=λg J=>by
  split at J
  .rename_i hn;rcases aZ.mp J with z|z;.exact .inl z
   .exact .inr ⟨hn,aP.mp z⟩
  .exact .inl J
 have a2:∀i g,i<k+1->(F++Uu)[i]?=al g->F[i]?=al g:=λi g hi J=>by rwa[aB<|by lia]at J
 have a3:∀g∈H,ClG m<|gd m.R g:=λg J=>by obtain⟨g',a4,e⟩:=ao.mp<|h.sub _<|ao.mpr ⟨g,J,rfl⟩;rw[<-e];exact h.cl g' a4
 have clS:N=bY->ClG m (gd m.R<|sh m.R f):=λn=>.sharp f (h.cl f a0) (hN.mp n).1;refine⟨nd,?_,λc a b=>Z<|h.lt c a b,λx hx=>?_,λx hx=>?_,λi g q hi J hq=>?_,λi g hi J hs=>?_,λg J=>?_⟩
 .split;.rename_i hn;rw[aS];exact ap5 h.hd (hN.mp hn).2
  .exact h.hd
 .obtain⟨g,J,rfl⟩:=ao.mp hx;rcases a1 g J with z|⟨n,rfl⟩;.exact up<|h.sub _<|ao.mpr ⟨g,z,rfl⟩
  .exact(hS n).1
 .obtain⟨g,J,rfl⟩:=ao.mp hx;have gF:∀o,o∈F->GnG m.R (λy=>y∈(if N=bY then H++[sh m.R f]else H).map (gd m.R)) (gd m.R o):=λo ho=>(h.gen _<|ao.mpr ⟨o,ho,rfl⟩).mono λ_=>Z;rcases aZ.mp J with z|z;.exact gF g z
  .rcases hU g z with w|⟨n,w⟩;.obtain⟨q,hq,rfl⟩:=ao.mp w;exact .more (gF f a0) (Z<|ao.mpr ⟨q,hq,rfl⟩)
   .have hs:gd m.R (sh m.R f)∈(if N=bY then H++[sh m.R f]else H).map (gd m.R):=by rw[dO n,aS];exact aN _<|aP.mpr rfl
    rcases w with rfl|⟨o,ho,rfl⟩;.exact .Y hs
    .exact .more (gF o ho) hs
 .have Y:=a2 i g (by omega) J;rcases a1 q hq with z|⟨n,rfl⟩
  .by_cases hik:i=k
   .subst hik;have:g=f:=by rw[hf]at Y;exact(ay Y).symm
    subst this;exact hX _<|ao.mpr ⟨q,z,rfl⟩
   .exact up<|h.clo i g q (by lia) Y z
  .exact(hS n).2 i g (by omega) Y
 .have Y:=a2 i g (by omega) J;by_cases hik:i=k
  .subst hik;have:g=f:=by rw[hf]at Y;exact(ay Y).symm
   subst this;by_cases hq:gd m.R (sh m.R g)∈H.map (gd m.R);.exact Z hq
   .rw[dO<|hN.mpr ⟨hs,hq⟩,aS];exact aN _<|aP.mpr rfl
  .exact Z<|h.shp i g (by omega) Y hs
 .rcases aZ.mp J with z|z;.exact h.cl g z
  .rcases hU g z with w|⟨n,rfl|⟨o,ho,rfl⟩⟩;.obtain⟨q,hq,rfl⟩:=ao.mp w;exact .pair f q (h.cl f a0) (a3 q hq)
   .exact clS n
   .exact .pair o _ (h.cl o ho) (clS n)
theorem ax8{α:Type}(c:ok u=bY)(E:Env->Prop)a b:∀(l:List α)U,E U->(∀d∈l,∀U,E U->∃U',g (a d) U u=.ok (al<|b d,U') u/\E U')->qu ok g (l.map a) U u=.ok (l.map b) u|[],U,_,_=>by show(if ok u=bY then _ else _)=_;simp_all|d::l,U,f,h=>by refine AD (h d (am ..) U f) λU' d z=>?_;have J:=ax8 c E a b l U' z λx a=>h x<|ah _ a;rw[aQ,aQ];show(if ok u=bY then _ else _)=_;simp_all
def bN9:ae3.body=ak7:=rfl
structure LcS(s u:Sto)(Ww:Nat)(F H:List<|Nat->Nat->Int):Prop where
 len:s.length+2<=u.length
 p:u[s.length]?=al (.J<|F.map<|gd Ww)q:u[s.length+1]?=al (.J<|H.map<|gd Ww)old:∀i,i<s.length->u[i]?=s[i]?
def LcS.app(h:LcS s u Ww F H)T:LcS s (u++T) Ww F H:=⟨by rw[aO];have:=h.len;lia,jE h.p,jE h.q,λi a=>by rw[aB<|by have:=h.len;lia];exact h.old i a⟩
def LcS.setp(h:LcS s u Ww F H):LcS s (u.set s.length<|.J<|F'.map<|gd Ww) Ww F' H:=⟨by rw[bA];exact h.len,zZ<|by have:=h.len;lia,by rw[aC<|by lia];exact h.q,λi a=>by rw[aC<|by lia];exact h.old i a⟩
def LcS.setq(h:LcS s u Ww F H):LcS s (u.set (s.length+1) (.J<|H'.map<|gd Ww)) Ww F H':=⟨by rw[bA];exact h.len,by rw[aC<|by lia];exact h.p,zZ<|by have:=h.len;lia,λi a=>by rw[aC<|by lia];exact h.old i a⟩
section
variable{F':Fns}
def bZ9(h:LcS s u Ww F H)(a:s.length+2<=J)(j:u[J]?=al (.J<|X.map<|gd Ww))(m:F.length+X.length<=1000)x0 x1 x3 Z x5 x6 x7 x9 z:∃u' y,ex F' lcF [x0,x1,al<|.ref s.length,x3,Z,x5,x6,x7,al<|.ref J,x9,z] u=.ok (.next [x0,x1,al<|.ref s.length,x3,Z,x5,x6,x7,al<|.ref J,x9,y]) u'/\LcS s u' Ww (bz5 Ww F X) H:=by
 have key:∀(b:List<|Nat->Nat->Int)(a:List<|Nat->Nat->Int)(v:Sto)(z:Option D),LcS s v Ww a H->v[J]?=al (.J<|X.map<|gd Ww)->a.length+b.length<=1000->∃v' y,am6 (λw=>chk u w [J]) (turn F' (.Y 10) bz9) (b.map<|gd Ww) [x0,x1,al<|.ref s.length,x3,Z,x5,x6,x7,al<|.ref J,x9,z] v=.ok (.next [x0,x1,al<|.ref s.length,x3,Z,x5,x6,x7,al<|.ref J,x9,y]) v'/\LcS s v' Ww (bz5 Ww a b) H:=by intro b;induction b with|nil=>refineλUu v z c Y _=>⟨v,z,?_,c⟩;show(if chk u v [J]=bY then _ else _)=_;rw[dO<|by unfold chk;simp_all]|cons x b k=>
   intro a v z c Y b;rw[aR]at b;have b:chk u v [J]=true:=by unfold chk;simp_all
   have f:=aw2 c.p x;by_cases l:gd Ww x∈a.map (gd Ww)
   .rw[gc l]at f;refine AE (k a v (al<|gd Ww x) c Y<|by lia) λv' y g i=>⟨v',y,?_,by unfold bz5;simp_all⟩;rw[aQ];show(if chk u v [J]=bY then(turn F' (.Y 10) bz9 (gd Ww x) _ v).bind _ else _)=_;rw[dO b];have:turn F' (.Y 10) bz9 (gd Ww x) [x0,x1,al<|.ref s.length,x3,Z,x5,x6,x7,al<|.ref J,x9,z] v=.ok (.next [x0,x1,al<|.ref s.length,x3,Z,x5,x6,x7,al<|.ref J,x9,al<|gd Ww x]) v:=by unfold turn bz9;simp_all
    simp_all
   .rw[gn l]at f;have l:=zD (v:=gd Ww x) c.p (by rw[av];unfold LIM;lia);have g:a.map (gd Ww)++[gd Ww x]=(a++[x]).map (gd Ww):=by simp_all
    rw[g]at l;refine AE (k (a++[x]) (v.set s.length<|.J<|(a++[x]).map<|gd Ww) (al<|gd Ww x) c.setp (by grind) (by grind)) λv' y g i=>⟨v',y,?_,by unfold bz5;grind⟩;rw[aQ];show(if chk u v [J]=bY then(turn F' (.Y 10) bz9 (gd Ww x) _ v).bind _ else _)=_;rw[dO b];have:turn F' (.Y 10) bz9 (gd Ww x) [x0,x1,al<|.ref s.length,x3,Z,x5,x6,x7,al<|.ref J,x9,z] v=.ok (.next [x0,x1,al<|.ref s.length,x3,Z,x5,x6,x7,al<|.ref J,x9,al<|gd Ww x]) (v.set s.length<|.J<|(a++[x]).map<|gd Ww):=by unfold turn bz9;simp only[zU,za,zw,jx,ex_ex,zN,ev_cmp,ev_meth,qe,qa,R.bind_ok,zG,setV_s,qG,zM,zX,Option.map_some,zd,qF,if_true,Bool.not_false,f,zU,l]
    exact this▸g
 refine AE (key X F u z h j m) λu' y g i=>⟨u',y,?_,i⟩;unfold lcF;rw[ex_for];have a:at2 (.ref J) u=.ok ⟨X.map<|gd Ww,[J]⟩ u:=by simp only[at2,j]
 simp_all
end
def cl4{l:List D}{k:Nat}:aA6 l aT (al<|k)=l.take (min k l.length):=by unfold aA6;simp only[loB,hiB,sbd,kZ,if_true,d9,eD,lE]
def bl2 a hi:ev F (.slU a hi) U s=(ev F a U s).bind λx s=>(ev F hi U s).bind λy s=>match y with|.int i=>slM x aT (al i) s|_=>.B:=rfl
section
variable{P:Pr}[Has P ab4][Has P ad4]
def ce8 n(Uu:m<=5){H:List<|Nat->Nat->Int}(hq:u[b]?=al (.J<|H.map<|gd m))(hl:H.length<=1000)x0 x1 x2 Y x5 x6 x8 Z z:ev (aa0 P<|n+1) (.mk .list lcL) [x0,x1,x2,al<|.ref b,Y,x5,x6,al<|gd m f,x8,Z,z] u=.ok (.ref u.length) (u++[.J<|(H.map<|pr m f).map<|gd m]):=by
 have a:at2 (.ref b) u=.ok ⟨H.map<|gd m,[b]⟩ u:=by simp only[at2,hq]
 have c:qu (λJ=>chk u J [b]) (zV (aa0 P<|n+1) (.Y 0) (.call "_law_product"<|.ex (.X 1) (.ex (.X 0) .nil))) (H.map<|gd m) [aT,al<|gd m f] u=.ok (H.map λh=>gd m<|pr m f h) u:=ax8 (by unfold chk;simp) (λU=>∃x,U=[x,al<|gd m f]) (gd m) (λh=>gd m<|pr m f h) H _ ⟨aT,rfl⟩<|by rintro h _ U⟨x,rfl⟩;refine⟨[al<|gd m h,al<|gd m f],?_,_,rfl⟩;unfold zV;simp only[zN,ev_call,qP,evas_ex,R.bind_ok,zG,qG,zM,zX,qB n Uu f h u]
 unfold lcL;simp only[zN,ev_mk,evI_seq,R.bind_ok,zM,zX,qw,a];rw[dO<|by rw[av];unfold LIM;lia,show zI [x0,x1,x2,al<|.ref b,Y,x5,x6,al<|gd m f,x8,Z,z] [aT,al 7]=[aT,al<|gd m f]from rfl,c];rw[cD];rfl
def bY1 n(Y:m<=5){k:Nat}{F:List<|Nat->Nat->Int}(hp:u[p]?=al (.J<|F.map<|gd m))(hl:F.length<=1000)x0 x1 x3 Z x5 x7 x8 J:ev (aa0 P<|n+1) (.mk .list lcM) [x0,x1,al<|.ref p,x3,Z,x5,al<|.int (k:Int),x7,x8,al<|gd m f,J] u=.ok (.ref<|u.length+1) (u++[.J<|(F.take<|k+1).map<|gd m,.J<|((F.take<|k+1).map λo=>pr m o f).map<|gd m]):=by
 have a:slM (.ref p) aT (al ((k+1:Nat):Int)) u=.ok (.ref u.length) (u++[.J<|(F.take<|k+1).map<|gd m]):=by unfold slM;simp only[hp];rw[cl4,nB,show∀l:List D,l.take (min (k+1) l.length)=l.take (k+1)fromλl=>by simp_all];rfl
 have b:at2 (.ref u.length) (u++[.J<|(F.take<|k+1).map<|gd m])=.ok ⟨(F.take<|k+1).map<|gd m,[u.length]⟩ (u++[.J<|(F.take<|k+1).map<|gd m]):=by simp only[at2,bb0]
 have c:qu (λd=>chk (u++[.J<|(F.take<|k+1).map<|gd m]) d [u.length]) (zV (aa0 P<|n+1) (.Y 0) (.call "_law_product"<|.ex (.X 0) (.ex (.X 1) .nil))) ((F.take<|k+1).map<|gd m) [aT,al<|gd m f] (u++[.J<|(F.take<|k+1).map<|gd m])=.ok ((F.take<|k+1).map λh=>gd m<|pr m h f) (u++[.J<|(F.take<|k+1).map<|gd m]):=ax8 (by unfold chk;simp) (λU=>∃x,U=[x,al<|gd m f]) (gd m) (λh=>gd m<|pr m h f) (F.take<|k+1) _ ⟨aT,rfl⟩<|by rintro h _ U⟨x,rfl⟩;refine⟨[al<|gd m h,al<|gd m f],?_,_,rfl⟩;unfold zV;simp only[zN,ev_call,qP,evas_ex,R.bind_ok,zG,qG,zM,zX,qB (P:=P) n Y h f<|u++[.J<|(F.take<|k+1).map<|gd m]]
 unfold lcM;simp only[zN,ev_cst,ev_bin,ev_mk,evI_seq,Cn_int,R.bind_ok,zM,zX,add_int,qw,bl2];rw[show(k:Int)+1=((k+1:Nat):Int)by lia,a];simp only[R.bind_ok,b];rw[dO<|by rw[av,bQ];unfold LIM;lia,show zI [x0,x1,al<|.ref p,x3,Z,x5,al<|.int (k:Int),x7,x8,al<|gd m f,J] [aT,al 9]=[aT,al<|gd m f]from rfl,c];rw[cD];show R.ok _ _=_;rw[aO,be];rfl
end
def ba4(Ww k:Nat)(F H:List<|Nat->Nat->Int)(f:Nat->Nat->Int)(N:Bool):List<|Nat->Nat->Int:=H.map (pr Ww f)++(if N=bY then sh Ww f::(F.take<|k+1).map (λo=>pr Ww o<|sh Ww f)else[])
section
variable{P:Pr}[Has P ab4][Has P ad4]
def bG5 n(a0:Ww<=5)(h:LcS s u Ww F H)(hf:F[k]?=al f)(hl:F.length<=80)(c0:H.length<=80)x0 x1 Uu Y x7 x8 Z J nx:∃(N:Bool)(c:Sto)(d:Nat)(e:Option D),(N=bY↔Stdy Ww f/\gd Ww (sh Ww f)∉H.map (gd Ww))/\s.length+2<=d/\c[d]?=al (.J<|(ba4 Ww k F H f N).map<|gd Ww)/\LcS s c Ww F (if N=bY then H++[sh Ww f]else H)/\exs (aa0 P<|n+1) (.cons (.A (.Y 7) (.ix (.X 2) (.X 6))) (.cons (.A (.Y 8) (.mk .list lcL)) (.cons (.ite lcT lcS .nil) nx))) [x0,x1,al<|.ref s.length,al<|.ref<|s.length+1,Uu,Y,al<|.int (k:Int),x7,x8,Z,J] u=exs (aa0 P<|n+1) nx [x0,x1,al<|.ref s.length,al<|.ref<|s.length+1,Uu,Y,al<|.int (k:Int),al<|gd Ww f,al<|.ref d,e,J] c:=by
 have d:ixM (.ref s.length) (.int (k:Int)) u=.ok (gd Ww f) u:=ao3 h.p (by simp_all);have c:=ce8 (P:=P) n a0 (f:=f) h.q (by lia) x0 x1 (al<|.ref s.length) Uu Y (al<|.int (k:Int)) x8 Z J;generalize j:(H.map<|pr Ww f).map (gd Ww)=A at c;have i:=h.app [.J A];have r:(u++[O.J A])[u.length]?=al (.J A):=bb0;have y:s.length+2<=u.length:=h.len;have e:exs (aa0 P<|n+1) (.cons (.A (.Y 7) (.ix (.X 2) (.X 6))) (.cons (.A (.Y 8) (.mk .list lcL)) (.cons (.ite lcT lcS .nil) nx))) [x0,x1,al<|.ref s.length,al<|.ref<|s.length+1,Uu,Y,al<|.int (k:Int),x7,x8,Z,J] u=exs (aa0 P<|n+1) (.cons (.ite lcT lcS .nil) nx) [x0,x1,al<|.ref s.length,al<|.ref<|s.length+1,Uu,Y,al<|.int (k:Int),al<|gd Ww f,al<|.ref u.length,Z,J] (u++[.J A]):=by
  have h:ex (aa0 P<|n+1) (.A (.Y 7) (.ix (.X 2) (.X 6))) [x0,x1,al<|.ref s.length,al<|.ref<|s.length+1,Uu,Y,al<|.int (k:Int),x7,x8,Z,J] u=.ok (.next [x0,x1,al<|.ref s.length,al<|.ref<|s.length+1,Uu,Y,al<|.int (k:Int),al<|gd Ww f,x8,Z,J]) u:=by simp only[ex_asg,zN,ev_ix,R.bind_ok,zG,setV_s,qG,zM,zX,Option.map_some,qE,d]
  have t:ex (aa0 P<|n+1) (.A (.Y 8) (.mk .list lcL)) [x0,x1,al<|.ref s.length,al<|.ref<|s.length+1,Uu,Y,al<|.int (k:Int),al<|gd Ww f,x8,Z,J] u=.ok (.next [x0,x1,al<|.ref s.length,al<|.ref<|s.length+1,Uu,Y,al<|.int (k:Int),al<|gd Ww f,al<|.ref u.length,Z,J]) (u++[.J A]):=by rw[ex_asg,c,R.bind_ok];rfl
  rw[za,h,R.bind_ok,zd,za,t,R.bind_ok,zd]
 rw[e];generalize d:u++[O.J A]=c at i r;have e:c.length=u.length+1:=by rw[<-d];simp
 refine AD (cf5 (s:=c) (m:=Ww) (f:=pr Ww f f) (g:=f)) λb d C=>?_;have w:ev (aa0 P<|n+1) lcT [x0,x1,al<|.ref s.length,al<|.ref<|s.length+1,Uu,Y,al<|.int (k:Int),al<|gd Ww f,al<|.ref u.length,Z,J] c=.ok (.T b) c:=by unfold lcT;simp only[zN,ev_cmp,ev_call,qP,evas_ex,R.bind_ok,zM,zX,qB (P:=P) n a0 f f c,d]
 by_cases h:Stdy Ww f
 .have a5:b=true:=C.mpr h;subst a5;have E:=aL4 (P:=P) n a0 f c;have p:=aw2 i.q<|sh Ww f;by_cases q:gd Ww (sh Ww f)∈H.map (gd Ww)
  .rw[gc q]at p;refine⟨ce,c,u.length,al<|gd Ww<|sh Ww f,⟨λz=>(by cases z),λz=>ij q z.2⟩,y,?_,i,?_⟩;.rw[r,<-j];unfold ba4;simp
   .rw[za,jx,w,qF];unfold lcS;simp only[zU,za,zw,ex_asg,jx,ex_ex,zN,ev_cmp,ev_call,ev_meth,qe,qa,qP,evas_ex,R.bind_ok,zG,setV_s,qG,zM,zX,Option.map_some,qE,zd,qF,if_true,if_false,Bool.false_eq_true,Bool.not_true,E,p]
  .rw[gn q]at p;have t:=zD (v:=gd Ww<|sh Ww f) i.q (by rw[av];unfold LIM;lia);have d:H.map (gd Ww)++[gd Ww<|sh Ww f]=(H++[sh Ww f]).map (gd Ww):=by rw[aS];rfl
   rw[d]at t;have h2:LcS s (c.set (s.length+1) (.J<|(H++[sh Ww f]).map<|gd Ww)) Ww F<|H++[sh Ww f]:=i.setq;have d:(c.set (s.length+1) (.J<|(H++[sh Ww f]).map<|gd Ww))[u.length]?=al (.J A):=by grind
   generalize c1:c.set (s.length+1) (.J<|(H++[sh Ww f]).map<|gd Ww)=e at t h2 d;have g:A.length=H.length:=by rw[<-j];simp
   have z:=aN1 (s:=e++[.J [gd Ww<|sh Ww f]]) (a:=u.length) (b:=e.length) (l:=A) (m:=[gd Ww<|sh Ww f]) (jE d) bb0 (by simp;unfold LIM;lia);generalize g:e++[O.J [gd Ww<|sh Ww f]]++[O.J<|A++[gd Ww<|sh Ww f]]=d at z;have v:LcS s d Ww F<|H++[sh Ww f]:=g▸(h2.app _).app _;have G:d[(e++[O.J [gd Ww<|sh Ww f]]).length]?=al (.J<|A++[gd Ww<|sh Ww f]):=by rw[<-g];exact bb0
   have x:=bY1 (P:=P) n a0 (k:=k) (f:=sh Ww f) v.p (by lia) x0 x1 (al<|.ref<|s.length+1) Uu Y (al<|gd Ww f) (al<|.ref u.length) J;generalize H:((F.take<|k+1).map λo=>pr Ww o<|sh Ww f).map (gd Ww)=B at x;generalize hC:(F.take<|k+1).map (gd Ww)=g at x;have o:B.length<=80:=by grind
   have o:=aN1 (s:=d++[.J g,.J B]) (a:=(e++[O.J [gd Ww<|sh Ww f]]).length) (b:=d.length+1) (l:=A++[gd Ww<|sh Ww f]) (m:=B) (jE G) (by rw[aw<|by lia];simp) (by simp;unfold LIM;lia);refine⟨bY,d++[.J g,.J B]++[.J<|A++[gd Ww<|sh Ww f]++B],(d++[O.J g,.J B]).length,al<|gd Ww<|sh Ww f,⟨λ_=>⟨h,q⟩,λ_=>rfl⟩,?_,?_,(v.app _).app _,?_⟩;.have:=v.len;rw[aO];lia
   .rw[bb0,<-j,<-H];unfold ba4;simp
   .rw[za,jx,w,qF];unfold lcS;have a:∀(K:M D),((ev (aa0 P<|n+1) (.mk .list lcM) [x0,x1,al<|.ref s.length,al<|.ref<|s.length+1,Uu,Y,al<|.int (k:Int),al<|gd Ww f,al<|.ref u.length,al<|gd Ww<|sh Ww f,J] d).bind<|am4 .add<|.ref (e++[O.J [gd Ww<|sh Ww f]]).length)=.ok (.ref (d++[O.J g,.J B]).length) (d++[.J g,.J B]++[.J<|A++[gd Ww<|sh Ww f]++B]):=λ_=>by rw[x,R.bind_ok,o]
    have l:ev (aa0 P<|n+1) (.G .add (.G .add (.X 8) (.J<|.cons (.X 9) .nil)) (.mk .list lcM)) [x0,x1,al<|.ref s.length,al<|.ref<|s.length+1,Uu,Y,al<|.int (k:Int),al<|gd Ww f,al<|.ref u.length,al<|gd Ww<|sh Ww f,J] e=.ok (.ref (d++[O.J g,.J B]).length) (d++[.J g,.J B]++[.J<|A++[gd Ww<|sh Ww f]++B]):=by
     have m:ev (aa0 P<|n+1) (.G .add (.X 8) (.J<|.cons (.X 9) .nil)) [x0,x1,al<|.ref s.length,al<|.ref<|s.length+1,Uu,Y,al<|.int (k:Int),al<|gd Ww f,al<|.ref u.length,al<|gd Ww<|sh Ww f,J] e=.ok (.ref (e++[O.J [gd Ww<|sh Ww f]]).length) d:=by simp only[zN,ev_bin,ev_lst,qe,qa,R.bind_ok,zM,zX,alloc_eq,z]
     rw[ev_bin,m,R.bind_ok,a<|λs=>.B]
    have a:ex (aa0 P<|n+1) (.A (.Y 9) (.call "_law_sharp"<|.ex (.X 7) .nil)) [x0,x1,al<|.ref s.length,al<|.ref<|s.length+1,Uu,Y,al<|.int (k:Int),al<|gd Ww f,al<|.ref u.length,Z,J] c=.ok (.next [x0,x1,al<|.ref s.length,al<|.ref<|s.length+1,Uu,Y,al<|.int (k:Int),al<|gd Ww f,al<|.ref u.length,al<|gd Ww<|sh Ww f,J]) c:=by simp only[ex_asg,zN,ev_call,qP,evas_ex,R.bind_ok,zG,setV_s,qG,zM,zX,Option.map_some,qE,E]
    have m:ev (aa0 P<|n+1) (.Z .notin (.X 9) (.X 3)) [x0,x1,al<|.ref s.length,al<|.ref<|s.length+1,Uu,Y,al<|.int (k:Int),al<|gd Ww f,al<|.ref u.length,al<|gd Ww<|sh Ww f,J] c=.ok (.T bY) c:=by simp only[zN,ev_cmp,R.bind_ok,zM,zX,Bool.not_false,p]
    have o:ex (aa0 P<|n+1) (.ex<|.me .append (.X 3) (.cons (.X 9) .nil)) [x0,x1,al<|.ref s.length,al<|.ref<|s.length+1,Uu,Y,al<|.int (k:Int),al<|gd Ww f,al<|.ref u.length,al<|gd Ww<|sh Ww f,J] c=.ok (.next [x0,x1,al<|.ref s.length,al<|.ref<|s.length+1,Uu,Y,al<|.int (k:Int),al<|gd Ww f,al<|.ref u.length,al<|gd Ww<|sh Ww f,J]) e:=by simp only[zU,ex_ex,zN,ev_meth,qe,qa,R.bind_ok,zM,zX,zU,t]
    have t:ex (aa0 P<|n+1) (.A (.Y 8) (.G .add (.G .add (.X 8) (.J<|.cons (.X 9) .nil)) (.mk .list lcM))) [x0,x1,al<|.ref s.length,al<|.ref<|s.length+1,Uu,Y,al<|.int (k:Int),al<|gd Ww f,al<|.ref u.length,al<|gd Ww<|sh Ww f,J] e=.ok (.next [x0,x1,al<|.ref s.length,al<|.ref<|s.length+1,Uu,Y,al<|.int (k:Int),al<|gd Ww f,al<|.ref (d++[O.J g,.J B]).length,al<|gd Ww<|sh Ww f,J]) (d++[.J g,.J B]++[.J<|A++[gd Ww<|sh Ww f]++B]):=by rw[ex_asg,l,R.bind_ok];rfl
    rw[dO rfl,za,a,R.bind_ok,zd,za,jx,m,qF,dO rfl,za,o,R.bind_ok,zd,za,t,R.bind_ok,zd,zw,R.bind_ok,zd,zw,R.bind_ok,zd]
 .have b0:b=false:=by cases b with|true=>exact ij (C.mp rfl) h|false=>rfl
  subst b0;refine⟨ce,c,u.length,Z,⟨λz=>(by cases z),λz=>ij z.1 h⟩,y,?_,i,?_⟩;.rw[r,<-j];unfold ba4;simp
  .rw[za,jx,w,qF];simp only[zw,R.bind_ok,zd,if_false,Bool.false_eq_true]
end
def aU0(h:∀i,i<s.length->u[i]?=s[i]?)(z:s.length<u.length)(ho:u[s.length]?=al o)(hb:o.bnd s.length=bY):ac3 s (.ref s.length) u=.ok (.ref s.length) (s++[o]):=by obtain⟨G,rfl⟩:=bl9 (by lia) h;unfold ac3;rw[dO<|aj2 s G];simp only[bO,if_false,ho,hb,if_true];rw[List.take_left]
section
variable{P:Pr}[Has P ab4][Has P ad4]
theorem lcw n(hm:m.Ok)x0 Y Z:∀h k F H u x7 x8 x9 J,81<=h+k->LcS s u m.R F H->LawI m k F H->k<=F.length->F.length<=1000->∃(F' H':List<|Nat->Nat->Int)(u':Sto)(y6 y7 y8 y9 a1:Option D),whl (ev (aa0 P<|n+1) lcC) (exs (aa0 P<|n+1) lcB) [x0,al<|.int 80,al<|.ref s.length,al<|.ref<|s.length+1,Y,Z,al<|.int<|k,x7,x8,x9,J] u=.ok (.next [x0,al<|.int 80,al<|.ref s.length,al<|.ref<|s.length+1,Y,Z,y6,y7,y8,y9,a1]) u'/\LcS s u' m.R F' H'/\(F'.map<|gd m.R).Nodup/\(∀f∈F',ClG m<|gd m.R f)/\F'.length<=1000/\(F'.length<=80->∀x,ClG m x↔x∈F'.map (gd m.R))
 |h,k,F,H,u,x7,x8,x9,J,hf,hL,hI,hk,h1=>by
  have el:bi .len [.ref s.length] u=.ok (.int F.length) u:=by rw[jH hL.p,av]
  have hc:ev (aa0 P<|n+1) lcC [x0,al<|.int 80,al<|.ref s.length,al<|.ref<|s.length+1,Y,Z,al<|.int<|k,x7,x8,x9,J] u=.ok (.T<|decide (k<F.length)&&decide (F.length<=80)) u:=by
   unfold lcC;simp only[zN,ev_cmp,ev_and,ev_bi,qe,qa,R.bind_ok,zM,zX,lt_int,le_int,qF,el];have q1:decide ((k:Int)<(F.length:Int))=decide (k<F.length):=by rw[decide_eq_decide];omega
   have q2:decide ((F.length:Int)<=80)=decide (F.length<=80):=by rw[decide_eq_decide];lia
   rw[q1,q2];cases decide<|k<F.length<;>rfl
  by_cases hlt:k<F.length/\F.length<=80
  .rw[gc hlt.1,gc hlt.2]at hc;obtain⟨f,a3⟩:∃f,F[k]?=al f:=⟨_,ar hlt.1⟩;have b5:=by have:=aW0 hI.hd hI.sub;rwa[av,av]at this
   obtain⟨N,u1,a8,y9,hN,h8,g8,b2,e1⟩:=bG5 (P:=P) n hm.R5 hL a3 hlt.2 (by lia) x0 (al<|.int 80) Y Z x7 x8 x9 J<|.cons lcF<|.cons (.A (.Y 6) (.G .add (.X 6) (.K<|.int 1))) .nil;match h,hf with
   |0,hf=>omega|h+1,hf=>
    have b4:(ba4 m.R k F H f N).length<=300:=by
     unfold ba4;rw[aO,av];split;.rw[aR,av,bQ];lia
     .simp;lia
    obtain⟨u2,y,e2,a2⟩:=bZ9 (F':=aa0 P<|n+1) b2 h8 g8 (by lia) x0 (al<|.int 80) (al<|.ref<|s.length+1) Y Z (al<|.int<|k) (al<|gd m.R f) y9 J;obtain⟨Uu,eU,b1,b3,a0,b6⟩:=ar8 (ba4 m.R k F H f N) F hI.nd;rw[eU]at a2;have a4:=hI.turn a3 N hN b1 (λg hg=>by
     have:=b3 g hg;unfold ba4 at this;rcases aZ.mp this with z|z;.exact .inl z
     .cases N with|false=>cases z|true=>
       refine .inr ⟨rfl,?_⟩;rcases aD.mp z with z|z;.exact .inl z
       .obtain⟨o,ho,rfl⟩:=ao.mp z;exact .inr ⟨o,gf ho,rfl⟩) (λx hx=>a0 x<|by unfold ba4;exact bn _ hx) (λhn=>by subst hn;refine⟨a0 _<|by unfold ba4;exact aN _<|am ..,λi o hi ho=>a0 _ ?_⟩;unfold ba4;refine aN _<|ah _<|ao.mpr ⟨o,?_,rfl⟩;exact aF<|by rw[dm hi];exact ho);have hb:exs (aa0 P<|n+1) lcB [x0,al<|.int 80,al<|.ref s.length,al<|.ref<|s.length+1,Y,Z,al<|.int (k:Int),x7,x8,x9,J] u=.ok (.next [x0,al<|.int 80,al<|.ref s.length,al<|.ref<|s.length+1,Y,Z,al<|.int ((k+1:Nat):Int),al<|gd m.R f,al<|.ref a8,y9,y]) u2:=by
     have a6:ex (aa0 P<|n+1) (.A (.Y 6) (.G .add (.X 6) (.K<|.int 1))) [x0,al<|.int 80,al<|.ref s.length,al<|.ref<|s.length+1,Y,Z,al<|.int (k:Int),al<|gd m.R f,al<|.ref a8,y9,y] u2=.ok (.next [x0,al<|.int 80,al<|.ref s.length,al<|.ref<|s.length+1,Y,Z,al<|.int ((k+1:Nat):Int),al<|gd m.R f,al<|.ref a8,y9,y]) u2:=by simp only[ex_asg,zN,ev_cst,ev_bin,Cn_int,R.bind_ok,zG,setV_s,qG,zM,zX,Option.map_some,qE,add_int];rw[show(k:Int)+1=((k+1:Nat):Int)by lia]
     unfold lcB;rw[e1,za,e2,R.bind_ok,zd,za,a6,R.bind_ok,zd,zw]
    obtain⟨F',H',u',y6,y7,y8,a5,a1,w1,w2⟩:=lcw n hm x0 Y Z h (k+1) (F++Uu) _ u2 (al<|gd m.R f) (al<|.ref a8) y9 y (by lia) a2 a4 (by rw[aO];lia) (by rw[aO];lia);exact⟨F',H',u',y6,y7,y8,a5,a1,by rw[aO9 hc hb];exact w1,w2⟩
  .have b0:(decide (k<F.length)&&decide (F.length<=80))=false:=by
    rw[Bool.and_eq_false_iff];by_cases z:k<F.length;.exact .inr<|gn λy=>hlt ⟨z,y⟩
    .exact .inl<|gn z
   rw[b0]at hc;exact⟨F,H,u,_,_,_,_,_,bj3 hc,hL,hI.nd,hI.cl,h1,λh80 x=>hI.all (by by_cases z:k<F.length;exact ij ⟨z,h80⟩ hlt;lia) x⟩
end
def bK7{L}(h:(([97,98,99]:List Nat).take L|>.map λc=>D.str [c])[j]?=al d):j<L/\d=.str [97+j]:=by
 have e:(([97,98,99]).take L|>.map λc=>D.str [c])=aB0.take L:=by rw[nB];rfl
 rw[e]at h;exact AI (abc_at h) λ_ a b=>⟨a,b⟩
section
variable{P:Pr}[Has P ab4][Has P ad4][Has P ab6]
def ci5 n(hm:m.Ok)(hL:LcS s u m.R [] [])x1 x4 x5 x6 x7 x8 x9 Y:∃(F:List<|Nat->Nat->Int)(l:Sto)(e k:Option D),ex (aa0 P<|n+1) lcI [al m.d,x1,al<|.ref s.length,al<|.ref<|s.length+1,x4,x5,x6,x7,x8,x9,Y] u=.ok (.next [al m.d,x1,al<|.ref s.length,al<|.ref<|s.length+1,e,k,x6,x7,x8,x9,Y]) l/\LcS s l m.R F F/\LawI m 0 F F/\F.length<=3:=by
 have a:=hm.L3;have a:=hm.L1;have q:slM (.str [97,98,99]) aT (al (m.L:Int)) u=.ok (.str<|([97,98,99]:List Nat).take m.L) u:=by show R.ok (D.str<|aA6 [97,98,99] aT<|al (m.L:Int)) u=_;congr 2;unfold aA6;simp only[hiB,lE];rcases(by lia:m.L=1\/m.L=2\/m.L=3)with z|z|z<;>rw[z]<;>rfl
 refine AE (jK (g:=turn (aa0 P<|n+1) (.Y 4) (.cons (.A (.Y 5) (.call "_law_letter_signs"<|.ex (.X 0) (.ex (.X 4) .nil))) (.cons (.ite (.Z .notin (.X 5) (.X 2)) (.cons (.ex<|.me .append (.X 2) (.cons (.X 5) .nil)) (.cons (.ex<|.me .append (.X 3) (.cons (.X 5) .nil)) .nil)) .nil) .nil))) (λj U t=>∃F e k,U=[al m.d,x1,al<|.ref s.length,al<|.ref<|s.length+1,e,k,x6,x7,x8,x9,Y]/\LcS s t m.R F F/\(F.map<|gd m.R).Nodup/\F.length<=j/\(∀i,i<j->gd m.R (sgM m<|97+i)∈F.map (gd m.R))/\∀f∈F,∃c,97<=c/\c<97+m.L/\f=sgM m c)
  ((([97,98,99]).take m.L).map λc=>.str [c]) 0 [al m.d,x1,al<|.ref s.length,al<|.ref<|s.length+1,x4,x5,x6,x7,x8,x9,Y] u ⟨[],x4,x5,rfl,hL,gR,aj _,λi b=>ij b<|cM _,λf Z=>(nomatch Z)⟩ (λ_ _ _ _ _=>rfl) (by
  rintro j d U t a⟨F,e,k,rfl,d,g,p,J,o⟩;rw[cb]at p J⊢;obtain⟨b,rfl⟩:=bK7 a;have e:=jb (P:=P) n hm (97+j) t;have c:=aw2 d.p<|sgM m<|97+j;by_cases a:gd m.R (sgM m<|97+j)∈F.map (gd m.R)
  .rw[gc a]at c;refine⟨_,t,.inl ?_,F,al<|.str [97+j],al<|gd m.R<|sgM m<|97+j,rfl,d,g,by omega,λi b=>?_,o⟩;.unfold turn;simp only[zU,za,zw,ex_asg,jx,ex_ex,zN,ev_cmp,ev_call,ev_meth,qe,qa,qP,evas_ex,R.bind_ok,zG,setV_s,qG,zM,zX,Option.map_some,qE,zd,qF,if_false,Bool.false_eq_true,Bool.not_true,e,c]
   .by_cases hij:i=j;.exact hij▸a
    .exact J i<|by lia
  .rw[gn a]at c;have h:=zD (v:=gd m.R<|sgM m<|97+j) d.p (by rw[av];unfold LIM;lia);have b:F.map (gd m.R)++[gd m.R<|sgM m<|97+j]=(F++[sgM m<|97+j]).map (gd m.R):=by rw[aS];rfl
   rw[b]at h;have h2:LcS s (t.set s.length<|.J<|(F++[sgM m<|97+j]).map<|gd m.R) m.R (F++[sgM m<|97+j]) F:=d.setp;have d:=zD (v:=gd m.R<|sgM m<|97+j) h2.q (by rw[av];unfold LIM;omega);rw[b]at d;refine⟨_,_,.inl ?_,F++[sgM m<|97+j],al<|.str [97+j],al<|gd m.R<|sgM m<|97+j,rfl,h2.setq,aS▸ap5 g a,by rw[aO,cH];lia,λi b=>?_,λf Z=>?_⟩;.unfold turn;simp only[zU,za,zw,ex_asg,jx,ex_ex,zN,ev_cmp,ev_call,ev_meth,qe,qa,qP,evas_ex,R.bind_ok,zG,setV_s,qG,zM,zX,Option.map_some,qE,zd,qF,if_true,Bool.not_false,e,c,zU,h,d]
   .rw[aS];by_cases hij:i=j;.exact hij▸aN _ (aP.mpr rfl)
    .exact bn _<|J i<|by omega
   .exact(aZ.mp Z).elim (λz=>o f z) λz=>⟨97+j,by lia,by omega,aP.mp z⟩)) λU' l j h=>?_;obtain⟨F,e,k,rfl,d,g,p,J,o⟩:=h;have a:0+((([97,98,99]:List Nat).take m.L).map λc=>D.str [c]).length=m.L:=by rw[av,bQ];show 0+min m.L 3=m.L;lia
 rw[a]at p J;refine⟨F,l,e,k,?_,d,⟨g,g,λc d h2=>?_,λx a=>a,λx a=>?_,λi f h b=>ij b<|cM _,λi f b=>ij b<|cM _,λf Z=>?_⟩,by lia⟩;.unfold lcI;rw[ex_for];simp only[zN,ev_cst,ev_ix,evI_seq,Cn_int,Cn_str,R.bind_ok,zM,bl2,ixL];rw[q];simp only[R.bind_ok,show at2 (D.str<|([97,98,99]:List Nat).take m.L) u=.ok ⟨(([97,98,99]:List Nat).take m.L).map λc=>.str [c],[]⟩ u from rfl];exact j
 .have:=J (c-97) (by omega);rwa[show 97+(c-97)=c by omega]at this
 .obtain⟨f,Z,rfl⟩:=ao.mp a;exact .Y<|ao.mpr ⟨f,Z,rfl⟩
 .obtain⟨c,d,h2,rfl⟩:=o f Z;exact .let_ c d h2
def br3[Has P ae3]n{m}(hm:m.Ok)s:∃F:List<|Nat->Nat->Int,(aa0 P<|n+2).call "_law_closed" [m.d,.int 80] s=.ok (.ref s.length) (s++[.J<|F.map<|gd m.R])/\(F.map<|gd m.R).Nodup/\(∀f∈F,ClG m<|gd m.R f)/\F.length<=1000/\(F.length<=80->∀x,ClG m x↔x∈F.map (gd m.R)):=by
 have c:(aa0 P<|n+2).call "_law_closed" [m.d,.int 80] s=_:=zl ae3 rfl;rw[bN9,show(bN al [m.d,D.int 80]++az ae3.vs aT)=[al m.d,al<|.int 80,aT,aT,aT,aT,aT,aT,aT,aT,aT]from rfl]at c;have J:LcS s (s++[.J [],.J []]) m.R [] []:=⟨by simp,by simp_all,by simp_all,λi a=>aB a⟩;refine AN (ci5 (P:=P) n hm J (al<|.int 80) aT aT aT aT aT aT aT) λZ a Y b d AA=>AI AA λh1 e f=>AJ (lcw (P:=P) n hm (al m.d) Y b 81 0 Z Z a aT aT aT aT (by lia) h1 e (cy _) (by lia)) λF H e AA=>AG AA λz6 e e e e e z f AA=>AI AA λcl g h=>⟨F,?_,f,cl,g,h⟩;have f:ex (aa0 P<|n+1) (.A (.Y 2) (.J .nil)) [al m.d,al<|.int 80,aT,aT,aT,aT,aT,aT,aT,aT,aT] s=.ok (.next [al m.d,al<|.int 80,al<|.ref s.length,aT,aT,aT,aT,aT,aT,aT,aT]) (s++[.J []]):=by simp_all
 have g:ex (aa0 P<|n+1) (.A (.Y 3) (.J .nil)) [al m.d,al<|.int 80,al<|.ref s.length,aT,aT,aT,aT,aT,aT,aT,aT] (s++[.J []])=.ok (.next [al m.d,al<|.int 80,al<|.ref s.length,al<|.ref<|s.length+1,aT,aT,aT,aT,aT,aT,aT]) (s++[.J [],.J []]):=by simp_all
 have h:ex (aa0 P<|n+1) (.A (.Y 6) (.K<|.int 0)) [al m.d,al<|.int 80,al<|.ref s.length,al<|.ref<|s.length+1,Y,b,aT,aT,aT,aT,aT] a=.ok (.next [al m.d,al<|.int 80,al<|.ref s.length,al<|.ref<|s.length+1,Y,b,al<|.int ((0:Nat):Int),aT,aT,aT,aT]) a:=by simp_all
 rw[c,za,f,R.bind_ok,zd,za,g,R.bind_ok,zd,za,d,R.bind_ok,zd,za,h,R.bind_ok,zd,za,ex_whl,e,R.bind_ok,zd];simp only[za,ex_ret,zN,R.bind_ok,zM,zX,je,ja];exact aU0 z.old (by have:=z.len;lia) z.p<|zt (λd a n=>by obtain⟨f,_,rfl⟩:=ao.mp a;exact jz n) _
end
def bN7{T F:List<|Nat->Nat->Int}(a:(T.map<|gd m.R).Nodup)(z:∀x,ClG m x↔x∈T.map (gd m.R))(J:(F.map<|gd m.R).Nodup)(h:∀x,ClG m x↔x∈F.map (gd m.R)):T.length=F.length:=by have:=cr8 a J λx=>(z x).symm.trans<|h x;simp_all
def bS2{T F:List<|Nat->Nat->Int}(z:∀x,ClG m x↔x∈T.map (gd m.R))(a:(F.map<|gd m.R).Nodup)(J:∀f∈F,ClG m<|gd m.R f):F.length<=T.length:=by
 have:=aW0 a λx a=>by obtain⟨f,h,rfl⟩:=ao.mp a;exact(z _).mp<|J f h
 rwa[av,av]at this
def bF9{F:List<|Nat->Nat->Int}(h:bn4 m T)(Uu:∀x,ClG m x↔x∈F.map (gd m.R)):80<F.length:=by
 obtain⟨nd,Y,hc,g,hg,J⟩:=h;have:=aW0 (ap5 nd J) λx hx=>by
  rcases aZ.mp hx with z|z;.obtain⟨f,Z,rfl⟩:=ao.mp z;exact(Uu _).mp<|hc f Z
  .rw[aP.mp z];exact(Uu _).mp hg
 rw[aO,av,av,cH]at this;lia
def WdS(s:Sto)(r a c k:Nat)(u:Sto):Prop:=∃(b:Int)(l:List Dr),(∀d∈l,d.Ok ⟨a,c,[],[],[]⟩)/\l.length=k/\u=s.set r (boxO b)++[.J<|l.map Dr.d]
def bf6{s:Sto}:(s.set r (boxO b)++[o])[s.length]?=al o:=by rw[aw<|by simp];simp
section
variable{P:Pr}[Has P af3]
def bT4{l:List Dr}(z:∀d∈l,d.Ok ⟨a,c,[],[],[]⟩)(hk:l.length=k){x:Dr}(hx:x.Ok ⟨a,c,[],[],[]⟩):WdS s r a c (k+1) (s.set r (boxO b)++[.J<|l.map Dr.d++[x.d]]):=by
 refine⟨b,l++[x],λd hd=>?_,by simp[hk],by rw[aS];rfl⟩;rcases aZ.mp hd with h|h;.exact z d h
 .rw[aP.mp h];exact hx
end
def bH4:ag4.body=aE2:=rfl
section
variable{P:Pr}[Has P af3]
def cc8 n{hi:Nat}(a2:1<=hi)(hh:hi<=4)(hr:r<s.length)(a3:1<=a)(ha:a<=3)(a5:1<=c)(hc:c<=5)(hk:k<1000)(h:WdS s r a c k u)x1 Z x7 x8 x9 J:∃Y b d e,exs (aa0 P<|n+1) smT [al<|.ref r,x1,al<|.int<|a,al<|.int<|c,al<|.int<|hi,Z,al<|.ref s.length,x7,x8,x9,J] u=.ok (.next [al<|.ref r,x1,al<|.int<|a,al<|.int<|c,al<|.int<|hi,Z,al<|.ref s.length,x7,b,d,e]) Y/\WdS s r a c (k+1) Y:=by obtain⟨b,l,d,z,rfl⟩:=h;refine AE (aA3 (P:=P) n (t:=[.J<|l.map Dr.d]) hr b (c) (by lia) (aj7<|by lia)) λk1 e f f=>AE (aA3 (P:=P) n (t:=[.J<|l.map Dr.d]) hr e (c) (by lia) (aj7<|by lia)) λk2 c e e=>AE (aA3 (P:=P) n (t:=[.J<|l.map Dr.d]) hr c (a:Nat) (by lia) (aj7<|by lia)) λk3 c a g=>AE (aA3 (P:=P) n (t:=[.J<|l.map Dr.d]) hr c (hi:Nat) (by lia) (aj7<|by lia)) λk4 a h h=>have ha:=bH6 (s:=s) (r:=r) (b:=a) (t:=[]) (l:=l.map Dr.d) (v:=.tp [.int (k1:Int),.str [97+k3],.int (k2:Int),.int (k4:Int)]) (by rw[av];unfold LIM;lia);⟨_,al<|.int (k1:Int),al<|.int (k2:Int),al<|.str [97+k3],?_,bT4 (x:=⟨k1,97+k3,k2,k4⟩) (b:=a) d z ⟨by lia,⟨by simp,by lia⟩,by lia,by lia⟩⟩;unfold smT;simp only[za,zw,ex_asg,ex_ex,zN,ev_cst,ev_tup,ev_ix,ev_call,ev_meth,qe,qa,qP,evas_ex,Cn_str,R.bind_ok,zG,setV_s,qG,zM,zX,Option.map_some,qE,zd,f,e,g,h,bX7<|show k3<3 by lia,bH9 (bf6 (s:=s) (r:=r) (b:=c) (o:=.J<|l.map Dr.d)) (bf6 (s:=s) (r:=r) (b:=a) (o:=.J<|l.map Dr.d)),ha];rfl
def bp5[Has P ag4]n{s}{r}(hs:∃b,s[r]?=al (boxO b)){k}(a2:1<=k)(a3:k<=5):McB s r<|(aa0 P<|n+2).call "_law_small" [.ref r,.int k] s:=by
 have m:(aa0 P<|n+2).call "_law_small" [.ref r,.int k] s=_:=zl ag4 rfl;rw[bH4,show(bN al [D.ref r,D.int k]++az ag4.vs aT)=[al<|.ref r,al<|.int k,aT,aT,aT,aT,aT,aT,aT,aT,aT]from rfl]at m;have e:=bA6 hs;refine AE (aj6 (P:=P) n hs 3 (by decide) (by decide)) λa d f A=>AE (aj6 (P:=P) n (ax5 (b:=d) e) k (by lia) (aj7<|by lia)) λc d f p=>?_;rw[iQ]at p;refine AE (aj6 (P:=P) n (ax5 (b:=d) e) 2 (by decide) (by decide)) λv d f u=>?_;rw[iQ]at u;refine AE (aj6 (P:=P) n (ax5 (b:=d) e) (2*((c+1:Nat))+3) (by lia) (aj7<|by lia)) λq f d y=>?_;rw[iQ]at y;have B:(1:Int)+(a:Int)=((a+1:Nat):Int):=by lia
 have C:(1:Int)+(c:Int)=((c+1:Nat):Int):=by lia
 have E:(2:Int)+2*(v:Int)=((2*v+2:Nat):Int):=by lia
 have F:(1:Int)+(q:Int)=((q+1:Nat):Int):=by lia
 have G:∀x:Int,mulOk 2 x=true:=λx=>aq4 (by decide);have l:WdS s r (a+1) (c+1) 0<|s.set r (boxO f)++[.J []]:=⟨f,[],λd d=>(nomatch d),rfl,rfl⟩;obtain⟨d,d,H,Y,i,J,h,rfl,x⟩:=jK (ok:=λw=>chk (s.set r (boxO f)++[.J []]) w []) (g:=turn (aa0 P<|n+1) (.Y 7) smT) (λj U t=>∃(Y i J h:Option D),U=[al<|.ref r,al<|.int k,al<|.int (a+1:Nat),al<|.int (c+1:Nat),al<|.int (2*v+2:Nat),al<|.int (q+1:Nat),al<|.ref s.length,Y,i,J,h]/\WdS s r (a+1) (c+1) j t)
  (ag6 0 ((q+1:Nat):Int)) 0 [al<|.ref r,al<|.int k,al<|.int (a+1:Nat),al<|.int (c+1:Nat),al<|.int (2*v+2:Nat),al<|.int (q+1:Nat),al<|.ref s.length,aT,aT,aT,aT] (s.set r (boxO f)++[.J []]) ⟨aT,aT,aT,aT,rfl,l⟩ (λ_ _ _ _ _=>rfl) (by rintro j d U t f⟨Y,i,J,h,rfl,d⟩;rw[cb]at d⊢;obtain⟨g,rfl⟩:=ai7 f;exact AN (cc8 (P:=P) n (hi:=2*v+2) (by lia) (by lia) e (by lia) (by lia) (by lia) (by lia) (by lia) d (al<|.int k) (al<|.int (q+1:Nat)) (al<|.int<|0+(j:Int)) i J h) λt' d f g e Z=>⟨_,t',.inl e,_,d,f,g,rfl,Z⟩);rw[cb,zB]at x;obtain⟨e,l,f,z,rfl⟩:=x;refine⟨⟨a+1,c+1,[0],[c],l⟩,e,⟨by simp,by lia,by simp,by lia,⟨λx d=>?_,iz _ _⟩,⟨λx d=>?_,iz _ _⟩,⟨λx d=>?_,by rw[z];lia⟩⟩,?_⟩;.simp_all
 .simp_all
 .have:=f x d;exact⟨this.a,this.l,this.b,this.t⟩
 .rw[m];simp-implicitDefEqProofs only[za,ex_asg,ex_for,zN,ev_cst,ev_bin,ev_lst,ev_call,qe,qP,evas_ex,qN,Cn_int,R.bind_ok,zG,setV_s,qG,zM,zX,Option.map_some,qE,zd,add_int,alloc_eq,A,B,p,C,u,ag5<|G _,E,y,F,bA];rw[zP (by unfold Ww62;lia) (by unfold Ww62;lia)];simp-implicitDefEqProofs only[R.bind_ok];rw[H];have d:((c+1:Nat):Int)-1=(c:Int):=by lia
  simp-implicitDefEqProofs only[za,ex_ret,zN,ev_cst,ev_bin,ev_tup,ev_mk,qe,qa,evL_seq,Cn_int,R.bind_ok,zM,zX,zd,je,ja,sub_int,d,aN0<|bf6 (s:=s) (r:=r) (b:=e) (o:=.J<|l.map Dr.d),bk4];exact aG1 (bU7 ⟨a+1,c+1,[0],[c],l⟩) (by nofun) rfl
end
def bR5:al4.body=aP6:=rfl
def ay5 v w s:qQ .eq (.str v) (.str w) s=.ok (.T<|decide<|v=w) s:=by show(match eqv s DEEP (.str v) (.str w)with|some r=>R.ok (D.T r) s|none=>.B)=_;have:eqv s DEEP (.str v) (.str w)=al (v==w):=rfl;lia
def bp8 v w s:qQ .ne (.str v) (.str w) s=.ok (.T<|!decide (v=w)) s:=by show(match eqv s DEEP (.str v) (.str w)with|some r=>R.ok (D.T<|!r) s|none=>.B)=_;have:eqv s DEEP (.str v) (.str w)=al (v==w):=rfl;lia
def bU4[Has P ab6][Has P ab4][Has P ad4]n{m}(Z:m.Ok){fs:List<|Nat->Nat->Int}{f:Nat->Nat->Int}{x:Stp}(h:az0 m fs f x)(hl:fs.length<1000){s:Sto}{p:Nat}(hp:s[p]?=al (.J<|fs.map<|gd m.R))x1 x4:∃a:Option D,exs (aa0 P<|n+1) mdT [al m.d,x1,al<|.ref p,al x.d,x4] s=.ok (.next [al m.d,x1,al<|.ref p,al x.d,a]) (s.set p<|.J<|(fs++[f]).map<|gd m.R):=by
 have e:∀g:Nat->Nat->Int,meth .append (.ref p) [gd m.R g] s=.ok .N (s.set p<|.J<|(fs++[g]).map<|gd m.R):=λg=>by rw[zD (v:=gd m.R g) hp<|by rw[av];unfold LIM;lia,aS];rfl
 have k:∀{i:Nat}{g:Nat->Nat->Int},fs[i]?=al g->ixM (.ref p) (.int (i:Int)) s=.ok (gd m.R g) s:=λa=>ao3 hp (by simp_all);cases x with|let_ c=>obtain⟨Y,d,rfl⟩:=h;have z:ixM (Stp.let_ c).d (.int 0) s=.ok (.str [108,101,116,116,101,114]) s:=as9 0 rfl;have J:ixM (Stp.let_ c).d (.int 1) s=.ok (.str [c]) s:=as9 1 rfl;refine⟨x4,?_⟩;unfold mdT;simp only[zU,za,zw,ex_asg,jx,ex_ex,zN,ev_cst,ev_cmp,ev_ix,ev_call,ev_meth,qe,qa,qP,evas_ex,Cn_int,Cn_str,R.bind_ok,zG,setV_s,qG,zM,zX,Option.map_some,qE,zd,qF,if_true,decide_true,z,J,ay5,jb (P:=P) n Z c s,zU,e]|pair i j=>
  obtain⟨a,b,Y,d,rfl⟩:=h;have z:ixM (Stp.pair i j).d (.int 0) s=.ok (.str [112,97,105,114]) s:=as9 0 rfl;have J:ixM (Stp.pair i j).d (.int 1) s=.ok (.int i) s:=as9 1 rfl;have l:ixM (Stp.pair i j).d (.int 2) s=.ok (.int j) s:=as9 2 rfl;have c:decide (([112,97,105,114]:List Nat)=[108,101,116,116,101,114])=false:=by decide
  refine⟨x4,?_⟩;unfold mdT;simp only[zU,za,zw,ex_asg,jx,ex_ret,ex_ex,zN,ev_cst,ev_cmp,ev_or,ev_ix,ev_call,ev_meth,qe,qa,qP,evas_ex,Cn_int,Cn_non,Cn_str,R.bind_ok,zG,setV_s,qG,zM,zX,Option.map_some,qE,zd,je,qF,if_true,if_false,Bool.false_eq_true,decide_true,z,J,l,ay5,c,k Y,k d,qB (P:=P) n Z.R5 a b s,zU,e]|sharp i=>
  obtain⟨a,Y,d,rfl⟩:=h;have z:ixM (Stp.sharp i).d (.int 0) s=.ok (.str [115,104,97,114,112]) s:=as9 0 rfl;have J:ixM (Stp.sharp i).d (.int 1) s=.ok (.int i) s:=as9 1 rfl;have c:decide (([115,104,97,114,112]:List Nat)=[108,101,116,116,101,114])=false:=by decide
  have h:decide (([115,104,97,114,112]:List Nat)=[112,97,105,114])=false:=by decide
  refine AD (cl8 (s:=s) (m:=m.R) (f:=pr m.R a a) (g:=a)) λb b f=>?_;rw[f.mpr d]at b;refine⟨al<|gd m.R a,?_⟩;unfold mdT;simp only[zU,za,zw,ex_asg,jx,ex_ret,ex_ex,zN,ev_cst,ev_cmp,ev_or,ev_ix,ev_call,ev_meth,qe,qa,qP,evas_ex,Cn_int,Cn_non,Cn_str,R.bind_ok,zG,setV_s,qG,zM,zX,Option.map_some,qE,zd,je,qF,if_false,Bool.false_eq_true,decide_true,Bool.not_true,z,J,ay5,bp8,c,h,k Y,qB (P:=P) n Z.R5 a a s,b,aL4 (P:=P) n Z.R5 a s,zU,e]
def bE3[Has P ab6][Has P ab4][Has P ad4][Has P al4]n{m}(hm:m.Ok){L}{T}(h:Mks m L T)(hl:L.length<1000)s:(aa0 P<|n+2).call "_law_made" [m.d,.tp<|L.map Stp.d] s=.ok (.ref s.length) (s++[.J<|T.map<|gd m.R]):=by
 have b:(aa0 P<|n+2).call "_law_made" [m.d,.tp<|L.map Stp.d] s=_:=zl al4 rfl;rw[bR5,show(bN al [m.d,D.tp<|L.map Stp.d]++az al4.vs aT)=[al m.d,al<|.tp<|L.map Stp.d,aT,aT,aT]from rfl]at b;have z:=h.len;have J:∀A B:List D,(s++[O.J A]).set s.length (.J B)=s++[.J B]:=λA B=>by simp_all
 obtain⟨a,u,f,Y,a,rfl,rfl⟩:=jK (ok:=λw=>chk (s++[.J []]) w []) (g:=turn (aa0 P<|n+1) (.Y 3) mdT) (λj U t=>∃(Y a:Option D),U=[al m.d,al<|.tp<|L.map Stp.d,al<|.ref s.length,Y,a]/\t=s++[.J<|(T.take j).map<|gd m.R])
  (L.map Stp.d) 0 [al m.d,al<|.tp<|L.map Stp.d,al<|.ref s.length,aT,aT] (s++[.J []]) ⟨aT,aT,rfl,rfl⟩ (λ_ _ _ _ _=>rfl) (by rintro j d U t c⟨Y,a,rfl,rfl⟩;rw[cb];rw[aK]at c;obtain⟨x,d,rfl⟩:=bp.mp c;have c:j<L.length:=(ag.mp d).1;refine AD (h.at j x d) λf c Z=>AF (bU4 (P:=P) n hm Z (by grind) (s:=s++[.J<|(T.take j).map<|gd m.R]) (p:=s.length) bb0 (al<|.tp<|L.map Stp.d) a) λz4 e=>?_;refine⟨_,_,.inl e,_,z4,rfl,?_⟩;rw[J,nh,c];rfl);rw[b];simp only[za,ex_asg,ex_for,zN,ev_lst,qe,evI_seq,R.bind_ok,zG,setV_s,qG,zM,zX,Option.map_some,qE,zd,alloc_eq,show at2 (D.tp<|L.map Stp.d) (s++[.J []])=.ok ⟨L.map Stp.d,[]⟩ (s++[.J []])from rfl];rw[f];rw[cb,av,z,fU];simp only[za,ex_ret,zN,R.bind_ok,zM,zX,zd,je,ja];have:=aB5 (s:=s) (t:=[]) (u:=[]) (o:=.J<|T.map<|gd m.R)<|by show D.bndL _ _=bY;exact zt (λd a n=>by obtain⟨f,_,rfl⟩:=ao.mp a;exact jz n) _
 simp_all
def bk2:evI F (.rng3 a b c) U s=(ev F a U s).bind λx s=>(ev F b U s).bind λy s=>match x,y with|.int i,.int j=>if c=2/\(0<=i/\i<1048576)/\0<=j/\j<1048576 then .ok ⟨bm7 i j c,[]⟩ s else .B|_,_=>.B:=rfl
def cl5{b:Nat}(h:b<=3):∀d∈bm7 0 (b) 2,∃k:Nat,k<=2/\d=.int (k):=by intro d a;unfold bm7 at a;rw[dO<|by decide]at a;obtain⟨k,b,rfl⟩:=ao.mp a;have b:=bC.mp b;exact⟨2*k,by lia,by push_cast;rw[iR]⟩
section
variable{P:Pr}[HasM P "ClosedSet" "take" aa3][HasC P "MOST_TABLES"<|.int 80][HasMX P "ClosedSet" "take" ae9][Has P ad3][Has P aa7][HasL P aa2][Has P ab7][Has P ab9][Has P ab8][HasL P ab0][HasC P "FREE"<|.int 0][HasC P "UNBOUND"<|.int 2][HasC P "NONE"<|.int 3][HasM P "ClosedSet" "take_sharp" aa4][HasMX P "ClosedSet" "take_sharp" ae8][HasM P "ClosedSet" "take_pairs" aa5][HasMX P "ClosedSet" "take_pairs" ae6][HasM P "ClosedSet" "__init__" aa8][HasA P "ClosedSet" ah0][HasA P "ClosedSet" ap6][HasA P "ClosedSet" am2][HasC P "SOME"<|.int 1][Has P ad5][Has P ad7][HasL P ac4][Has P ad8][Has P ae0][Has P ac1][Has P ac2][Has P aa9][HasL P aa6][Has P ae1][HasL P ac0][Has P ac9][HasL P ab2][Has P ab3][Has P ac5][Has P ac8][HasC P "LETTERS"<|.tp aB0][Has P af2][HasX P "closed" ae7]
end
noncomputable def ae5:Tf:=⟨1,1,.cons (.ex<|.call "closed"<|.ex (.X 0) .nil) .nil,.call "closed"<|.ex (.X 0) .nil,"TooMuch",1,.ret<|.not<|.isi ["NoMaking","NotSteady","TooLong"],.cons (.ret<|.K<|.T ce) .nil,.nil⟩
def cc7:ae2.body=ar0:=rfl
def bo0:aH5.body=bb7:=rfl
def bS4{R}{F:List<|Nat->Nat->Int}(h:s[p]?=al (.J<|F.map<|gd R))f:qQ .isin (gd R f) (.ref p) s=.ok (.T<|decide<|gd R f∈F.map (gd R)) s:=by
 show(inM (gd R f) (.ref p) s).bind _=_;have e:inM (gd R f) (.ref p) s=.ok (decide<|gd R f∈F.map (gd R)) s:=by unfold inM;simp only[h,aI8]
 rw[e];rfl
def bt7{A B:List<|Nat->Nat->Int}(ha:s[a]?=al (.J<|A.map<|gd q))(g:s[b]?=al (.J<|B.map<|gd q))(Z:A.length<=1000)(z:∀f∈A,gd q f∈B.map (gd q))x0 x2:ev F cl7 [x0,al<|.ref a,x2,al<|.ref b] s=.ok (.T bY) s:=by
 have J:at2 (.ref a) s=.ok ⟨A.map<|gd q,[a]⟩ s:=by simp only[at2,ha]
 have key:∃(e:Env)(c:Sto),qu (λd=>chk s d [a]) (zV F (.Y 0) (.Z .isin (.X 0) (.X 1))) (A.map<|gd q) [aT,al<|.ref b] s=.ok ((A.map<|gd q).filterMap λ_=>al<|.T bY) c/\(c=s/\∃x,e=[x,al<|.ref b]):=by refine ah7 (λU u=>u=s/\∃x,U=[x,al<|.ref b]) (λ_=>al<|.T bY) (A.map<|gd q) _ _ ⟨rfl,aT,rfl⟩ (λ_ u h=>by obtain⟨rfl,_⟩:=h;simp[chk]) ?_;rintro d c U u⟨rfl,x,rfl⟩;obtain⟨f,d,rfl⟩:=ao.mp c;refine⟨[al<|gd q f,al<|.ref b],u,?_,rfl,_,rfl⟩;unfold zV;simp only[zN,ev_cmp,R.bind_ok,zG,qG,zM,zX,bS4 g,gc<|z f d]
 obtain⟨e,c,e,rfl,_⟩:=key;have Y:(A.map<|gd q).length<=LIM:=by rw[av];unfold LIM;lia
 unfold cl7;simp only[zN,ev_mk,evI_seq,R.bind_ok,zM,zX,qw,J,dO Y];rw[show zI [x0,al<|D.ref a,x2,al<|D.ref b] [aT,al 3]=[aT,al<|.ref b]from rfl,e];have a:∀l:List D,(l.filterMap λ_=>al<|D.T bY)=(az l.length bY).map D.T:=λl=>by induction l with|nil=>rfl|cons x l b=>grind
 rw[a,R.bind_ok];show(match aj9 ((az (A.map<|gd q).length bY).map D.T)with|some bs=>R.ok (D.T<|bs.all id) c|none=>.B)=_;rw[bA8];simp_all
section
variable{P:Pr}[HasM P "ClosedSet" "take" aa3][HasC P "MOST_TABLES"<|.int 80][HasMX P "ClosedSet" "take" ae9][Has P ad3][Has P aa7][HasL P aa2][Has P ab7][Has P ab9][Has P ab8][HasL P ab0][HasC P "FREE"<|.int 0][HasC P "UNBOUND"<|.int 2][HasC P "NONE"<|.int 3][HasM P "ClosedSet" "take_sharp" aa4][HasMX P "ClosedSet" "take_sharp" ae8][HasM P "ClosedSet" "take_pairs" aa5][HasMX P "ClosedSet" "take_pairs" ae6][HasM P "ClosedSet" "__init__" aa8][HasA P "ClosedSet" ah0][HasA P "ClosedSet" ap6][HasA P "ClosedSet" am2][HasC P "SOME"<|.int 1][Has P ad5][Has P ad7][HasL P ac4][Has P ad8][Has P ae0][Has P ac1][Has P ac2][Has P aa9][HasL P aa6][Has P ae1][HasL P ac0][Has P ac9][HasL P ab2][Has P ab3][Has P ac5][Has P ac8][HasC P "LETTERS"<|.tp aB0][Has P af2][HasX P "closed" ae7][HasT P "_law_refused" ae5][hE:HasE P "TooMuch" ["NoMaking","NotSteady","TooLong"]]
def by2 n{m:Mc}(x1:(aa0 P<|n+7).xcall "closed" [m.d] s=al ("TooMuch",s++G)):(aa0 P<|n+8).call "_law_refused" [m.d] s=.ok (.T bY) s:=by have z:(aa0 P<|n+8).call "_law_refused" [m.d] s=_:=bT0 ae5 rfl;rw[z,bw7 rfl,show(bN al [m.d]++az ae5.vs aT)=[al m.d,aT]from rfl];unfold bn7;rw[show xB (aa0 P<|n+7) ae5.xb [al m.d,aT] s=(aa0 P<|n+7).xcall "closed" [m.d] s from rfl,x1];have a:ae5.h.ok (aa0 P<|n+7).xt=true:=bI0.2▸aG.mpr hE.ts;show(if ae5.tk "TooMuch"=bY/\(aa0 P<|n+7).xc "TooMuch"=bY/\ae5.h.ok (aa0 P<|n+7).xt=bY/\Hd.kok (aa0 P<|n+7).kd ae5.h=bY then ac3 s (.T<|ae5.h.val "TooMuch") (s++G)else .B)=_;rw[dO ⟨rfl,bI0.1▸hE.at_,a,rfl⟩];exact zz (λ_=>rfl) (by nofun)
variable[Has P ap9][Has P af3][Has P ab4][Has P ad4][Has P ab6][Has P ae3][Has P ag4][Has P al4][Has P aH5]
def ci7 n{m:Mc}(J:m.Ok)(hs:s.all O.ncl=bY):(aa0 P<|n+9).call "_law_one" [m.d] s=.ok (.T bY) s:=by
 have a:(aa0 P<|n+9).call "_law_one" [m.d] s=_:=zl aH5 rfl;rw[bo0,show(bN al [m.d]++az aH5.vs aT)=[al m.d,aT,aT,aT]from rfl]at a;refine AQ (br3 (P:=P) (n+6) J s) λF i j k c h=>?_;have Y:(O.J<|F.map<|gd m.R).ncl=true:=zx λd c=>by obtain⟨f,_,rfl⟩:=ao.mp c;exact ar1
 have z:=qL hs Y;have l:bi .len [.ref s.length] (s++[O.J<|F.map<|gd m.R])=.ok (.int F.length) (s++[O.J<|F.map<|gd m.R]):=by rw[jH bb0,av]
 rw[a];by_cases a:F.length<=80
 .rcases closed_any (P:=P) (ts:=["NoMaking","NotSteady","TooLong"]) (n+1) J z with⟨L,T,o,_,d,p,e,c⟩|⟨q,_,⟨T,e⟩,_⟩
  .have Z:=bN7 p c j<|h a;have f:=d.len;have g:decide ((80:Int)<(F.length:Int))=false:=gn (by lia);have p:bi .len [.tp<|L.map Stp.d] (s++[O.J<|F.map<|gd m.R])=.ok (.int F.length) (s++[O.J<|F.map<|gd m.R]):=by simp_all
   have q:=bE3 (P:=P) (n+6) J d (by lia) (s++[O.J<|F.map<|gd m.R]);have d:=bt7 (F:=aa0 P<|n+8) (b:=(s++[O.J<|F.map<|gd m.R]).length) (jE bb0) bb0 (by omega) (λf b=>(c _).mp<|k f b) (al m.d) (al<|.tp<|L.map Stp.d);have b:∀r:Nat,decide (D.ref r=D.N)=false:=λr=>gn<|by nofun
   simp only[za,zw,ex_asg,jx,ex_ret,zN,ev_cst,ev_not,ev_cmp,ev_and,ev_or,ev_call,ev_bi,ev_notN,qe,qa,qP,evas_ex,Cn_bl,Cn_int,R.bind_ok,zG,setV_s,qG,zM,zX,Option.map_some,qE,zd,je,ja,gt_int,ne_int,qF,if_true,if_false,Bool.false_eq_true,decide_true,Bool.not_true,Bool.not_false,i,l,g,o,bh3,p,q,b,d];rw[be];exact zz (λ_=>rfl) (by nofun)
  .have:=bF9 e<|h a;lia
 .have g:decide ((80:Int)<(F.length:Int))=true:=gc (by lia);rcases closed_any (P:=P) (ts:=["NoMaking","NotSteady","TooLong"]) n J z with⟨L,T,o,_,d,p,e,c⟩|⟨q,a,_,G,rfl⟩;.have:=bS2 c j k;lia
  .simp only[za,zw,ex_asg,jx,ex_ret,zN,ev_cst,ev_cmp,ev_call,ev_bi,qe,qa,qP,evas_ex,Cn_int,R.bind_ok,zG,setV_s,qG,zM,zX,Option.map_some,qE,zd,je,ja,gt_int,qF,if_true,i,l,g,by2 n a];exact zz (λ_=>rfl) (by nofun)
def cs1[Has P ae2]n:cq5 P<|n+10:=by
 intro a b;have b:(aa0 P<|n+10).call "law" [.ref 0] [.ro<|a.map D.int]=_:=zl ae2 rfl;rw[b,cc7,show(bN al [D.ref 0]++az ae2.vs aT)=[al<|.ref 0,aT,aT,aT]from rfl];have b:([.ro<|a.map D.int]:Sto)[0]?=al (.ro<|a.map D.int):=rfl;have Y:bi .len [.ref 0] [.ro<|a.map D.int]=.ok (.int a.length) [.ro<|a.map D.int]:=by rw[bB0 b,av]
 have b:(if(a.length:Int)<2 then(a.length:Int)else 2)+1=((min a.length 2+1:Nat):Int):=by lia
 simp-implicitDefEqProofs only[za,ex_for,zN,ev_cst,ev_bin,ev_bi,qe,qa,Cn_int,R.bind_ok,zM,add_int,bk2,Y,aQ1,b];rw[dO ⟨trivial,⟨by decide,by decide⟩,by lia,by omega⟩];simp only[R.bind_ok];rw[R.bind_assoc];refine aT4 (Ww:=Yes) (λj U t=>t[0]?=al (.ro<|a.map D.int)/\t.all O.ncl=bY/\∃g i e,U=[al<|.ref 0,g,i,e]) (λd _=>d=.T bY) ⟨rfl,by simp only[dk,nK,f6];exact bw1,_,_,_,rfl⟩ (λ_ _ _ _ _=>rfl) ?_ ?_ ?_
 .rintro j d U t hj⟨ht,hn,g,i,e,rfl⟩;obtain⟨k,b,rfl⟩:=cl5 (by omega) d<|aF hj;have b:0<t.length:=(ag.mp ht).1;refine AF (cg1 (P:=P) (n+8) a k ht) λN0 J=>?_;have b:Gx a t.length<|t++[boxO N0]:=⟨jE ht,qL hn rfl,⟨_,bb0⟩,by lia⟩;generalize t++[boxO N0]=S at J b;generalize t.length=r at J b;refine AE (aj6 (P:=P) (n+8) b.box 4 (by decide) (by decide)) λv l _ ed=>?_;obtain⟨z,f,h,j,c,o⟩:∃(z:Int)(f:Sto),1<=z/\z<=5/\Gx a r f/\ev (aa0 P<|n+9) cf4 [al<|.ref 0,al<|.int (k:Int),al<|.ref r,e] S=.ok (.int z) f:=by
   by_cases a:(k:Int)=0
   .by_cases h3:(v:Int)=3;.exact⟨5,_,by decide,by decide,b.put l,by unfold cf4;simp_all⟩
    .exact⟨3,_,by decide,by decide,b.put l,by unfold cf4;simp_all⟩
   .exact⟨3,_,by decide,by decide,b,by unfold cf4;simp_all⟩
  refine AE (bp5 (P:=P) (n+7) c.box (k:=z) h j) λm b h a=>?_;have Z:=c.put b;generalize f.set r (boxO b)=b at a Z;have c:=ci7 (P:=P) n h Z.ncl;by_cases h:(3:Int)<(m.R:Int);.refine bY5 (d:=.T bY) (s:=b) ?_ rfl;unfold turn cn6;simp-implicitDefEqProofs only[za,zw,ex_asg,jx,ex_ret,zN,ev_cst,ev_not,ev_cmp,ev_ix,ev_call,qP,evas_ex,Cn_bl,Cn_int,R.bind_ok,zG,setV_s,qG,zM,zX,Option.map_some,qE,zd,je,gt_int,qF,if_true,if_false,Bool.false_eq_true,Bool.not_true,J,o,a,c,ixR,gc h]
  .refine bM8 (U:=[al<|.ref 0,al<|.int (k:Int),al<|.ref r,al m.d]) (s:=b) ?_ ⟨Z.scr,Z.ncl,_,_,_,rfl⟩;unfold turn cn6;simp-implicitDefEqProofs only[za,zw,ex_asg,jx,ex_ret,zN,ev_cst,ev_not,ev_cmp,ev_ix,ev_call,qP,evas_ex,Cn_bl,Cn_int,R.bind_ok,zG,setV_s,qG,zM,zX,Option.map_some,qE,zd,je,gt_int,qF,if_false,Bool.false_eq_true,Bool.not_true,J,o,a,c,ixR,gn h]
 .rintro U t⟨ht,hn,g,i,e,rfl⟩;simp-implicitDefEqProofs only[za,ex_ret,ev_cst,Cn_bl,R.bind_ok,zd,je,ja];exact aD6 _ _
 .rintro d t rfl;exact aD6 _ _
end
end DV
end
noncomputable section
namespace My
open PySem L2
noncomputable def top(i:Nat):Stmt:=PySem.Challenge.pw_leasttolls_k34_the_closed_set.main.body.getD i<|.Pass ⟨0,0,0,0⟩
def bT6:aX0 ["i","j"]:=λa h _ _ _ _ _ _ _ _ c z=>by
 obtain⟨a,rfl,b⟩:=ar3 h;revert c;refine bd2 λJ c=>?_;rcases a with _|⟨⟨a,_,_⟩,_|⟨⟨a,_,_⟩,_|⟨_,_⟩⟩⟩;all_goals simp only[aQ,eK,List.cons.injEq,and_true,and_false,reduceCtorEq]at b
 obtain⟨rfl,rfl⟩:=b;exact⟨rfl,λ_ _=>rfl⟩
noncomputable def af6:List Str:=["plain","product","letter_table","reading","sign_product","sharpened"]
abbrev s_letters_of:Stmt:=top 8
abbrev av6:Stmt:=top 9
abbrev au2:Stmt:=top 10
abbrev bA4:Stmt:=top 12
abbrev be6:Stmt:=top 14
abbrev aZ8:Stmt:=top 15
abbrev bk3:Stmt:=top 16
abbrev aF3:Stmt:=top 17
abbrev s_letter_table:Stmt:=top 18
abbrev al1:Stmt:=top 19
abbrev aF8:Stmt:=top 25
abbrev aB3:Stmt:=top 26
abbrev ag7:Stmt:=top 27
abbrev al7:Stmt:=top 28
abbrev ao1:Stmt:=top 30
abbrev aw0:Stmt:=top 31
abbrev aq2:Stmt:=top 32
abbrev ah9:Stmt:=top 36
abbrev av8:Stmt:=top 38
abbrev ar7:Stmt:=top 39
abbrev ag8:Stmt:=top 40
abbrev s__law_letter_signs:Stmt:=top 41
abbrev al9:Stmt:=top 42
abbrev ak9:Stmt:=top 43
abbrev ah8:Stmt:=top 44
abbrev aq8:Stmt:=top 45
abbrev af5:Stmt:=top 46
abbrev au6:Stmt:=top 47
abbrev aC6:Stmt:=top 48
noncomputable def bx4:Stmt->List Stmt|.ClassDef _ _ _ b _ _ _ _ _ _ _=>b|_=>[]
abbrev af1:Stmt:=(bx4<|top 35).getD 0<|.Pass ⟨0,0,0,0⟩
abbrev ad6:Stmt:=(bx4<|top 35).getD 1<|.Pass ⟨0,0,0,0⟩
abbrev ac7:Stmt:=(bx4<|top 35).getD 2<|.Pass ⟨0,0,0,0⟩
abbrev ac6:Stmt:=(bx4<|top 35).getD 3<|.Pass ⟨0,0,0,0⟩
def mtb:List<|(String×String)×oY×Stmt:=[(("ClosedSet","__init__"),DV.aa8,af1),(("ClosedSet","take"),DV.aa3,ad6),(("ClosedSet","take_sharp"),DV.aa4,ac7),(("ClosedSet","take_pairs"),DV.aa5,ac6)]
def mxb:List<|(String×String)×pP×Stmt:=[(("ClosedSet","take"),DV.ae9,ad6),(("ClosedSet","take_sharp"),DV.ae8,ac7),(("ClosedSet","take_pairs"),DV.ae6,ac6)]
noncomputable def obt:List<|String×List (List Nat):=[("ClosedSet",[[115,116,101,112,115],[116,97,98,108,101,115],[115,101,101,110]])]
def tb:List<|String×oY×Stmt:=[("letters_of",DV.ac8,s_letters_of),("rooms_of",DV.ac1,av6),("doors_of",DV.ac2,au2),("grid",DV.ad3,bA4),("least",DV.ad8,be6),("added",DV.ae0,aZ8),("plain",DV.ae1,bk3),("product",DV.ac9,aF3),("letter_table",DV.aa9,s_letter_table),("word_table",DV.ab3,al1),("sign_of",DV.ad5,aF8),("reading",DV.ad7,aB3),("sign_product",DV.aa7,ag7),("word_signs",DV.ac5,al7),("is_steady",DV.ab7,ao1),("round_of",DV.ab9,aw0),("sharpened",DV.ab8,aq2),("closed",DV.af2,ah9),("_law_box",DV.ap9,av8),("_law_draw",DV.af3,ar7),("_law_product",DV.ab4,ag8),("_law_letter_signs",DV.ab6,s__law_letter_signs),("_law_sharp",DV.ad4,al9),("_law_small",DV.ag4,ak9),("_law_closed",DV.ae3,ah8),("_law_made",DV.al4,aq8),("_law_one",DV.aH5,au6),("law",DV.ae2,aC6)]
noncomputable def cp5:List<|String×n9:=[("LETTERS",.tp [.str [97],.str [98],.str [99]]),("FREE",.int<|0),("SOME",.int<|1),("UNBOUND",.int<|2),("NONE",.int<|3),("MOST_TABLES",.int<|80)]
def cw7:List<|String×pO:=[("plain.0",DV.ac0),("product.0",DV.ab2),("letter_table.least_fee",DV.aa6),("reading.0",DV.ac4),("sign_product.0",DV.aa2),("sharpened.0",DV.ab0)]
noncomputable def tbl:List<|String×oY:=tb.map λp=>(p.1,p.2.1)
def xtb:List<|String×pP:=[("closed",DV.ae7)]
def ttb:List<|String×rO:=[("_law_refused",DV.ae5)]
def dl:List<|String×Stmt:=[("closed",ah9),("_law_refused",af5)]
noncomputable def xcs:List String:=["TooMuch"]
noncomputable def xts:List String:=["NoMaking","NotSteady","TooLong"]
noncomputable def P:ou:=⟨λf=>tbl.lookup f,λf=>cw7.lookup f,λx=>cp5.lookup x,λf=>xtb.lookup f,λf=>ttb.lookup f,λc=>xcs.contains c,λc=>xts.contains c,λ_=>aT,λc m=>(mtb.lookup (c,m)).map (·.1),λc f=>(obt.lookup c).any λl=>l.contains f,λc m=>(mxb.lookup (c,m)).map (·.1)⟩
instance:DV.HasX P "closed" DV.ae7:=⟨rfl⟩
instance:DV.HasT P "_law_refused" DV.ae5:=⟨rfl,rfl⟩
instance:DV.HasE P "TooMuch" ["NoMaking","NotSteady","TooLong"]:=⟨rfl,by decide⟩
instance:DV.HasL P DV.ac0:=⟨rfl⟩
instance:DV.HasL P DV.ab2:=⟨rfl⟩
instance:DV.HasL P DV.aa6:=⟨rfl⟩
instance:DV.HasL P DV.ac4:=⟨rfl⟩
instance:DV.HasL P DV.aa2:=⟨rfl⟩
instance:DV.HasL P DV.ab0:=⟨rfl⟩
instance:DV.HasC P "LETTERS"<|.tp [.str [97],.str [98],.str [99]]:=⟨rfl⟩
instance:DV.HasC P "FREE"<|.int<|0:=⟨rfl⟩
instance:DV.HasC P "SOME"<|.int<|1:=⟨rfl⟩
instance:DV.HasC P "UNBOUND"<|.int<|2:=⟨rfl⟩
instance:DV.HasC P "NONE"<|.int<|3:=⟨rfl⟩
instance:DV.HasC P "MOST_TABLES"<|.int<|80:=⟨rfl⟩
instance:DV.Has P DV.ac8:=⟨rfl⟩
instance:DV.Has P DV.ac1:=⟨rfl⟩
instance:DV.Has P DV.ac2:=⟨rfl⟩
instance:DV.Has P DV.ad3:=⟨rfl⟩
instance:DV.Has P DV.ad8:=⟨rfl⟩
instance:DV.Has P DV.ae0:=⟨rfl⟩
instance:DV.Has P DV.ae1:=⟨rfl⟩
instance:DV.Has P DV.ac9:=⟨rfl⟩
instance:DV.Has P DV.aa9:=⟨rfl⟩
instance:DV.Has P DV.ab3:=⟨rfl⟩
instance:DV.Has P DV.ad5:=⟨rfl⟩
instance:DV.Has P DV.ad7:=⟨rfl⟩
instance:DV.Has P DV.aa7:=⟨rfl⟩
instance:DV.Has P DV.ac5:=⟨rfl⟩
instance:DV.Has P DV.ab7:=⟨rfl⟩
instance:DV.Has P DV.ab9:=⟨rfl⟩
instance:DV.Has P DV.ab8:=⟨rfl⟩
instance:DV.Has P DV.af2:=⟨rfl⟩
instance:DV.Has P DV.ap9:=⟨rfl⟩
instance:DV.Has P DV.af3:=⟨rfl⟩
instance:DV.Has P DV.ab4:=⟨rfl⟩
instance:DV.Has P DV.ab6:=⟨rfl⟩
instance:DV.Has P DV.ad4:=⟨rfl⟩
instance:DV.Has P DV.ag4:=⟨rfl⟩
instance:DV.Has P DV.ae3:=⟨rfl⟩
instance:DV.Has P DV.al4:=⟨rfl⟩
instance:DV.Has P DV.aH5:=⟨rfl⟩
instance:DV.Has P DV.ae2:=⟨rfl⟩
instance:DV.HasM P "ClosedSet" "__init__" DV.aa8:=⟨rfl⟩
instance:DV.HasM P "ClosedSet" "take" DV.aa3:=⟨rfl⟩
instance:DV.HasM P "ClosedSet" "take_sharp" DV.aa4:=⟨rfl⟩
instance:DV.HasM P "ClosedSet" "take_pairs" DV.aa5:=⟨rfl⟩
instance:DV.HasMX P "ClosedSet" "take" DV.ae9:=⟨rfl⟩
instance:DV.HasMX P "ClosedSet" "take_sharp" DV.ae8:=⟨rfl⟩
instance:DV.HasMX P "ClosedSet" "take_pairs" DV.ae6:=⟨rfl⟩
instance:DV.HasA P "ClosedSet" DV.ah0:=⟨by decide⟩
instance:DV.HasA P "ClosedSet" DV.ap6:=⟨by decide⟩
instance:DV.HasA P "ClosedSet" DV.am2:=⟨by decide⟩
def jv:DTM "ClosedSet" "__init__" DV.aa8 af1:=⟨["self"],["self"],Zsc,rfl,rfl,λ_ _ _ _ _ _=>bd1<|λ_=>rfl,by decide+kernel⟩
def am3:DTM "ClosedSet" "take" DV.aa3 ad6:=⟨["self","step","signs"],["self","step","signs"],Zsc,rfl,rfl,λ_ _ _ _ _ _=>bd3<|λ_ _ _=>rfl,by decide+kernel⟩
def qX:DTM "ClosedSet" "take_sharp" DV.aa4 ac7:=⟨["self","at"],["self","at"],Zsc,rfl,rfl,λ_ _ _ _ _ _=>bd2<|λ_ _=>rfl,by decide+kernel⟩
def qW:DTM "ClosedSet" "take_pairs" DV.aa5 ac6:=⟨["self","at","other"],["self","at"],Zsc,rfl,rfl,λ_ _ _ _ _ _=>bd2<|λ_ _=>rfl,by decide+kernel⟩
def ak4:DTX "ClosedSet" "take" DV.ae9 ad6:=⟨["self","step","signs"],["self","step","signs"],Zsc,rfl,rfl,λ_ _ _ _ _ _=>bd3<|λ_ _ _=>rfl,by decide+kernel⟩
def qO:DTX "ClosedSet" "take_sharp" DV.ae8 ac7:=⟨["self","at"],["self","at"],Zsc,rfl,rfl,λ_ _ _ _ _ _=>bd2<|λ_ _=>rfl,by decide+kernel⟩
def qM:DTX "ClosedSet" "take_pairs" DV.ae6 ac6:=⟨["self","at","other"],["self","at"],Zsc,rfl,rfl,λ_ _ _ _ _ _=>bd2<|λ_ _=>rfl,by decide+kernel⟩
def bX9:∀p∈mxb,DTX p.1.1 p.1.2 p.2.1 p.2.2:=by
 intro p a;unfold mxb at a;simp only[aD,eP,or_false]at a;rcases a with rfl|rfl|rfl;.exact ak4
 .exact qO
 .exact qM
def cp8:∀p∈mtb,DTM p.1.1 p.1.2 p.2.1 p.2.2:=by
 intro p a;unfold mtb at a;simp only[aD,eP,or_false]at a;rcases a with rfl|rfl|rfl|rfl;.exact jv
 .exact am3
 .exact qX
 .exact qW
def aC0:DT af6 P "letters_of" DV.ac8 s_letters_of:=⟨["machine"],["machine"],Zsc,rfl,rfl,λ_ _ _ _ _ _=>bd1<|λ_=>rfl,.inl<|by decide+kernel⟩
def aS7:DT af6 P "rooms_of" DV.ac1 av6:=⟨["machine"],["machine"],Zsc,rfl,rfl,λ_ _ _ _ _ _=>bd1<|λ_=>rfl,.inl<|by decide+kernel⟩
def aU1:DT af6 P "doors_of" DV.ac2 au2:=⟨["machine"],["machine"],Zsc,rfl,rfl,λ_ _ _ _ _ _=>bd1<|λ_=>rfl,.inl<|by decide+kernel⟩
def cj1:DT af6 P "grid" DV.ad3 bA4:=⟨["size","entry","rows","i"],["size","entry"],Zsc,rfl,rfl,λ_ _ _ _ _ _=>bd2<|λ_ _=>rfl,.inl<|by decide+kernel⟩
def bR2:DT af6 P "least" DV.ad8 be6:=⟨["prices"],["prices"],Zsc,rfl,rfl,λ_ _ _ _ _ _=>bd1<|λ_=>rfl,.inl<|by decide+kernel⟩
def bP0:DT af6 P "added" DV.ae0 aZ8:=⟨["one","other"],["one","other"],Zsc,rfl,rfl,λ_ _ _ _ _ _=>bd2<|λ_ _=>rfl,.inl<|by decide+kernel⟩
def fmc{α:Type}{P:α->Prop}{a}{l}(h:P a)(t:∀x∈l,P x):∀x∈a::l,P x:=List.forall_mem_cons.mpr ⟨h,t⟩
def fmn{α:Type}{P:α->Prop}:∀x∈([]),P x:=λ_ h=>nomatch h
def bH3:DT af6 P "plain" DV.ae1 bk3:=⟨["n"],["n"],Zsc,rfl,rfl,λ_ _ _ _ _ _=>bd1<|λ_=>rfl,.inr ⟨by decide,[("plain.0",DV.ac0,["i","j"],[])],by decide+kernel,by decide+kernel,fmc ⟨rfl,bT6⟩ fmn⟩⟩
def bd5:DT af6 P "product" DV.ac9 aF3:=⟨["one","other","size"],["one","other"],Zsc,rfl,rfl,λ_ _ _ _ _ _=>bd2<|λ_ _=>rfl,.inr ⟨by decide,[("product.0",DV.ab2,["i","j"],["size","one","other"])],by decide+kernel,by decide+kernel,fmc ⟨rfl,bT6⟩ fmn⟩⟩
def as5:DT af6 P "letter_table" DV.aa9 s_letter_table:=⟨["machine","letter","least_fee"],["machine","letter"],Zsc,rfl,rfl,λ_ _ _ _ _ _=>bd2<|λ_ _=>rfl,.inr ⟨by decide,[("letter_table.least_fee",DV.aa6,["i","j"],["machine","letter"])],by decide+kernel,by decide+kernel,fmc ⟨rfl,bT6⟩ fmn⟩⟩
def aE6:DT af6 P "word_table" DV.ab3 al1:=⟨["machine","word","made","table","letter"],["machine","word"],Zsc,rfl,rfl,λ_ _ _ _ _ _=>bd2<|λ_ _=>rfl,.inl<|by decide+kernel⟩
def ba8:DT af6 P "sign_of" DV.ad5 aF8:=⟨["price"],["price"],Zsc,rfl,rfl,λ_ _ _ _ _ _=>bd1<|λ_=>rfl,.inl<|by decide+kernel⟩
def aZ9:DT af6 P "reading" DV.ad7 aB3:=⟨["table"],["table"],Zsc,rfl,rfl,λ_ _ _ _ _ _=>bd1<|λ_=>rfl,.inr ⟨by decide,[("reading.0",DV.ac4,["i","j"],["table"])],by decide+kernel,by decide+kernel,fmc ⟨rfl,bT6⟩ fmn⟩⟩
def at5:DT af6 P "sign_product" DV.aa7 ag7:=⟨["one","other","size"],["one","other"],Zsc,rfl,rfl,λ_ _ _ _ _ _=>bd2<|λ_ _=>rfl,.inr ⟨by decide,[("sign_product.0",DV.aa2,["i","j"],["size","one","other"])],by decide+kernel,by decide+kernel,fmc ⟨rfl,bT6⟩ fmn⟩⟩
def aA9:DT af6 P "word_signs" DV.ac5 al7:=⟨["machine","word"],["machine","word"],Zsc,rfl,rfl,λ_ _ _ _ _ _=>bd2<|λ_ _=>rfl,.inl<|by decide+kernel⟩
def aG9:DT af6 P "is_steady" DV.ab7 ao1:=⟨["signs"],["signs"],Zsc,rfl,rfl,λ_ _ _ _ _ _=>bd1<|λ_=>rfl,.inl<|by decide+kernel⟩
def aT3:DT af6 P "round_of" DV.ab9 aw0:=⟨["sign"],["sign"],Zsc,rfl,rfl,λ_ _ _ _ _ _=>bd1<|λ_=>rfl,.inl<|by decide+kernel⟩
def aK9:DT af6 P "sharpened" DV.ab8 aq2:=⟨["signs","size","rounds"],["signs"],Zsc,rfl,rfl,λ_ _ _ _ _ _=>bd1<|λ_=>rfl,.inr ⟨by decide,[("sharpened.0",DV.ab0,["i","j"],["size","signs","rounds"])],by decide+kernel,by decide+kernel,fmc ⟨rfl,bT6⟩ fmn⟩⟩
def bu0:DT af6 P "closed" DV.af2 ah9:=⟨["machine","found","letter","at"],["machine"],Zsc,rfl,rfl,λ_ _ _ _ _ _=>bd1<|λ_=>rfl,.inl<|by decide+kernel⟩
def aT6:DT af6 P "_law_box" DV.ap9 av8:=⟨["_law_script","_law_at","_law_cell","_law_number","_law_j","_law_part"],["_law_script","_law_at"],Zsc,rfl,rfl,λ_ _ _ _ _ _=>bd2<|λ_ _=>rfl,.inl<|by decide+kernel⟩
def aG7:DT af6 P "_law_draw" DV.af3 ar7:=⟨["_law_box_here","_law_many","_law_found"],["_law_box_here","_law_many"],Zsc,rfl,rfl,λ_ _ _ _ _ _=>bd2<|λ_ _=>rfl,.inl<|by decide+kernel⟩
def at0:DT af6 P "_law_product" DV.ab4 ag8:=⟨["_law_one_here","_law_other","_law_found","_law_line","_law_new","_law_k"],["_law_one_here","_law_other"],Zsc,rfl,rfl,λ_ _ _ _ _ _=>bd2<|λ_ _=>rfl,.inl<|by decide+kernel⟩
def jD:DT af6 P "_law_letter_signs" DV.ab6 s__law_letter_signs:=⟨["_law_machine","_law_letter","_law_rooms","_law_lines","_law_start","_law_sign","_law_goal","_law_cost"],["_law_machine","_law_letter"],Zsc,rfl,rfl,λ_ _ _ _ _ _=>bd2<|λ_ _=>rfl,.inl<|by decide+kernel⟩
def aF4:DT af6 P "_law_sharp" DV.ad4 al9:=⟨["_law_signs","_law_size","_law_found","_law_i","_law_line","_law_j","_law_best","_law_k","_law_here"],["_law_signs"],Zsc,rfl,rfl,λ_ _ _ _ _ _=>bd1<|λ_=>rfl,.inl<|by decide+kernel⟩
def aF0:DT af6 P "_law_small" DV.ag4 ak9:=⟨["_law_box_here","_law_most","_law_letters","_law_rooms","_law_high","_law_many","_law_doors","_law_k","_law_start","_law_goal","_law_letter"],["_law_box_here","_law_most"],Zsc,rfl,rfl,λ_ _ _ _ _ _=>bd2<|λ_ _=>rfl,.inl<|by decide+kernel⟩
def aw3:DT af6 P "_law_closed" DV.ae3 ah8:=⟨["_law_machine","_law_most","_law_tables","_law_gens","_law_letter","_law_signs","_law_at","_law_here","_law_new","_law_sharp_here","_law_one_here"],["_law_machine","_law_most"],Zsc,rfl,rfl,λ_ _ _ _ _ _=>bd2<|λ_ _=>rfl,.inl<|by decide+kernel⟩
def aH6:DT af6 P "_law_made" DV.al4 aq8:=⟨["_law_machine","_law_makings","_law_tables","_law_step","_law_signs"],["_law_machine","_law_makings"],Zsc,rfl,rfl,λ_ _ _ _ _ _=>bd2<|λ_ _=>rfl,.inl<|by decide+kernel⟩
def aU4:DT af6 P "_law_one" DV.aH5 au6:=⟨["_law_machine","_law_due","_law_makings","_law_found"],["_law_machine"],Zsc,rfl,rfl,λ_ _ _ _ _ _=>bd1<|λ_=>rfl,.inl<|by decide+kernel⟩
def bz6:FnScope ["_law_script","_law_k","_law_box_here","_law_machine"] ["_law_script"]<|defScope aC6:=Zsc
def bY9:mSs ⟨["_law_script","_law_k","_law_box_here","_law_machine"],defScope aC6,λ_ _ _=>ce⟩ DV.ae2.body (defBody aC6)=true:=by decide+kernel
def ci2:cu2 "law" aC6 ["_law_script"]:=λ_ _ _ _ _ _=>bd1 λ_=>rfl
def co7:DT af6 P "law" DV.ae2 aC6:=⟨_,_,bz6,rfl,rfl,ci2,.inl bY9⟩
def bx9:DTB af6 P "closed" DV.ae7.ps DV.ae7.vs (λh S=>mX h DV.ae7.body S) ah9:=⟨["machine","found","letter","at"],["machine"],Zsc,rfl,rfl,λ_ _ _ _ _ _=>bd1<|λ_=>rfl,.inl<|by decide+kernel⟩
def as6:DTB af6 P "_law_refused" DV.ae5.ps DV.ae5.vs (λh S=>mT h DV.ae5 S) af5:=⟨["_law_machine","e"],["_law_machine"],Zsc,rfl,rfl,λ_ _ _ _ _ _=>bd1<|λ_=>rfl,.inl<|by decide+kernel⟩
def cs8:∀p∈tb,DT af6 P p.1 p.2.1 p.2.2:=fmc aC0<|fmc aS7<|fmc aU1<|fmc cj1<|fmc bR2<|fmc bP0<|fmc bH3<|fmc bd5<|fmc as5<|fmc aE6<|fmc ba8<|fmc aZ9<|fmc at5<|fmc aA9<|fmc aG9<|fmc aT3<|fmc aK9<|fmc bu0<|fmc aT6<|fmc aG7<|fmc at0<|fmc jD<|fmc aF4<|fmc aF0<|fmc aw3<|fmc aH6<|fmc aU4<|fmc co7 fmn
def ca9{l:dP}{mg:yD}(X:K.In h)(G:h.Ns aV mg)(y:mg "law"=al (.ref fa))(u:∀p∈tb,ck3 K p.1 p.2.2)(A:∀x∈bNames,bJ K aV x=al aT){a:yJ}{b:yF}(c:bJ K aV "LETTERS"=al (al<|.ref z))(e:K.lookup z=al ⟨.type "tuple",a,.seq #[.str ⟨#[97]⟩ Z,.str ⟨#[98]⟩ Uu,.str ⟨#[99]⟩ Y] a3,b⟩)(j:bJ K aV "FREE"=al (al<|.int (0) a5))(k:bJ K aV "SOME"=al (al<|.int (1) a4))(g:bJ K aV "UNBOUND"=al (al<|.int (2) a0))(m:bJ K aV "NONE"=al (al<|.int (3) a6))(a:bJ K aV "MOST_TABLES"=al (al<|.int (80) J))(n:∀x∈af6,(bI K x).isSome=bY)(t:decide (((bK0 af6 K).map (·.1)).Nodup)=bY)(o:∀p∈dl,ck3 K p.1 p.2)(h:bP3 K xcs xts=bY)(x:(obt.all λp=>bP2 K p.1 p.2)=bY)(q:∀p∈mtb,cs9 K p.1.1 p.1.2 p.2.2):∃p:bS,(∀(s:af)(v:Value),mD s p ⟨[v],[]⟩ [("_law_script",v)])/\∀b:Heap,K.In b->b.Ns aV mg->BM mg b->bN1 K af6 b->FnOk l.prog w K mg b CX0 48 fa p ["_law_script"] (spB af6 K):=by
 have l:=bX0 (names:=af6) (P:=P) (mtb:=mtb) (obt:=obt) X G (λ_ _=>rfl) (λ_ _=>rfl) x (by decide) q cp8;have s:=bI5 (names:=af6) (P:=P) (mtb:=mtb) (mxb:=mxb) (obt:=obt) (K:=K) (λ_ _=>rfl) (λ_ _=>rfl) x (by decide) (λp b=>by
  unfold mxb at b;simp only[aD,eP,or_false]at b;rcases b with rfl|rfl|rfl;.exact q (("ClosedSet","take"),DV.aa3,ad6)<|by unfold mtb;simp
  .exact q (("ClosedSet","take_sharp"),DV.aa4,ac7)<|by unfold mtb;simp
  .exact q (("ClosedSet","take_pairs"),DV.aa5,ac6)<|by unfold mtb;simp) bX9;have q:PrOk (aJ3 af6 P K) (bS6 af6 K) P mg w:=by
  refine⟨(aM6 (tbl:=tbl)<|λp b=>?_),(bc7 (tbl:=cp5) ?_),λx b=>kX X G<|A x b,cm4 X G,co0,dr t,aH3 (tbl:=xtb)<|λp b=>?_,aH3 (tbl:=ttb)<|λp b=>?_,(ap1 X G h).1,(ap1 X G h).2.1,(ap1 X G h).2.2.1,(ap1 X G h).2.2.2.1,(ap1 X G h).2.2.2.2.1,(ap1 X G h).2.2.2.2.2.1,(ap1 X G h).2.2.2.2.2.2,λ_ _ h=>(by cases h),l.1,s,l.2.1,l.2.2⟩;.obtain⟨r,hr,rfl⟩:=ao.mp b;exact good_of X G n (u r hr) (cs8 r hr)
  .refine fmc ?_<|fmc ?_<|fmc ?_<|fmc ?_<|fmc ?_<|fmc ?_ fmn;.exact bQ1 (b7 X G c) e rfl rfl (show 3<=1000 by decide) (.cons (.str _ _<|by decide) (.cons (.str _ _<|by decide) (.cons (.str _ _<|by decide) (.nil))))
   .exact ar6<|b7 X G j
   .exact ar6<|b7 X G k
   .exact ar6<|b7 X G g
   .exact ar6<|b7 X G m
   .exact ar6<|b7 X G a
  .revert p b;exact fmc (aw4 X G n (o ("closed",ah9)<|aF (i:=0) rfl) bx9) fmn
  .revert p b;exact fmc (aw4 X G n (o ("_law_refused",af5)<|aF (i:=1) rfl) as6) fmn
 refine AJ (u ("law",DV.ae2,aC6)<|aF (i:=27) rfl) λf a a AA=>Aa AA λsl a AA=>AG AA λkV a a a a a b c k=>?_;have e:=y.symm.trans<|b7 X G a;cases e;have F:=aO2 (st:=aC6) b c k;refine⟨_,λs v=>.of_eq rfl,λb _ _ b c=>(bU3 q (bB6 n b c) 16 (bK8 q (bB6 n b c) 16) (d:=DV.ae2) (f:="law") rfl ⟨F,b7 X G a,F.binds ci2⟩ bz6 rfl rfl bY9 ba3).imp<|λa H Q E q=>cg6 ((DV.cs1 (P:=P) 7)) a H Q E<|br4 n q⟩
end My
end
end
end
end Internal
open Internal
open PySem PySem.W PyProof.Rows
set_option maxRecDepth 100000 in set_option maxHeartbeats 0 in
theorem PySem.Challenge.cw_leasttolls_k34_the_closed_set_holds : PySem.Challenge.rw_leasttolls_k34_the_closed_set.Holds := by
 refine My.GT0.2.2.2 My.left2 My.left5 ?_
 delta My.GT0
 dsimp only
 k_fill
 refine L2.aX2 (l:=PySem.Challenge.rw_leasttolls_k34_the_closed_set) (n:=63) (k:=48) (x := "_law_script") (sp:=L2.spB My.af6) My.af6 rfl (by decide) rfl ⟨rfl,by decide,by decide⟩ (λ w h Y=>⟨PySem.W.km_in_of Y,PySem.W.km_tabs_of Y⟩) (λ w=>?R) (λ w=>?NT) ?F (λ K H a a a b c d=>L2.cc3 a b c d)
 case R=>kernel_rfl
 case NT=>kernel_rfl
 case F =>
  intro w a a h b G a
  refine' My.ca9 b G a ?hD ?hz ?gc_LETTERS ?gl_LETTERS ?gc_FREE ?gc_SOME ?gc_UNBOUND ?gc_NONE ?gc_MOST_TABLES ?hT ?tnd ?hDx ?hcl ?hO ?hM
  case hD=>repeat' first|exact My.fmn|refine My.fmc ?_ ?_|(dsimp only;exact ⟨_,_,_,_,_,_,_,_,_,_,by k_is,by k_is,by k_is,by k_is⟩)
  case hz=>repeat' first|exact My.fmn|refine My.fmc ?_ ?_|k_is
  (case gc_LETTERS=>k_is)
  (case gl_LETTERS=>k_is)
  (case gc_FREE=>k_is)
  (case gc_SOME=>k_is)
  (case gc_UNBOUND=>k_is)
  (case gc_NONE=>k_is)
  (case gc_MOST_TABLES=>k_is)
  case hT=>repeat' first|exact My.fmn|refine My.fmc ?_ ?_|kernel_rfl
  (case tnd=>kernel_rfl)
  case hDx=>repeat' first|exact My.fmn|refine My.fmc ?_ ?_|(dsimp only;exact ⟨_,_,_,_,_,_,_,_,_,_,by k_is,by k_is,by k_is,by k_is⟩)
  (case hcl=>kernel_rfl)
  (case hO=>kernel_rfl)
  case hM =>
   intro p a;unfold My.mtb at a;simp only[aD,eP,or_false]at a;rcases a with rfl|rfl|rfl|rfl
   all_goals (dsimp only;exact ⟨_,_,_,_,_,_,_,_,_,_,_,by k_is,by k_is,by k_is,by k_is,by k_is,by k_is⟩)
