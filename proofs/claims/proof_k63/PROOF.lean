import PyProof.Rows.All
import Wide.All
import OpenK.AllK
import Wide.FinOn
import PyProof.EqAt
import PyProof.EqKinds
import PyProof.TupleCall
import PyProof.MinMaxWalk
import PyProof.WalkInts
import PyProof.NeKinds
import PyProof.SliceStr2
import PyProof.StrBlockI
import PyProof.MaxThree
import PyProof.ZipIter
import PyProof.Draws
import PyProof.EnumMake
import PyProof.ListMulRoad
import PyProof.Rows.StrRev
import PyProof.DictItems
import PyProof.ListRange
import PyProof.AutoIntG2
import PyProof.FactsAll.int_6
import KE.KMinKey
import PyProof.Rows.TupDisplay
import PyProof.Rows.CatchBare
import KE.KTryMore
import PyProof.RulesAs
import PyProof.StrOps
import KE.KDictList
import PyProof.Rows.SortShell
import KE.KDictLaws
import KE.KDictSum
import KE.IntBitsLaws
import KE.KIntText
import PyProof.CallStr
import PyProof.StrBlockL
import PyProof.StrLawsChain
import PyProof.StrLawsTight
import PyProof.Rows.StrItems
import PySem.Challenge.RW_leasttolls_k63_machines_of_sets
set_option bootstrap.genMatcherCode false
set_option genSizeOf false
set_option tactic.hygienic false
set_option genInjectivity false
set_option genCtorIdx false
set_option compiler.extract_closed false
set_option Elab.async false
set_option linter.all false
set_option maxRecDepth 100000
set_option maxHeartbeats 4000000
open List renaming getElem?_eq_some_iff->ac,getElem?_eq_getElem->ag,mem_cons_of_mem->ah,mem_cons_self->ao,length_map->aq,getElem?_set_ne->ar,length_append->au,replicate->av,mem_cons->aw,getElem?_append_left->ax,size_toArray->ay,mem_singleton->az,all_eq_true->aA,getD_eq_getElem?_getD->aB,mem_append->aE,range->aH,getElem?_map->aI,getElem?_append_right->aK,append_assoc->aN,mem_append_right->aO,mem_of_getElem?->aP,length_cons->aQ,mem_map->aS,length_set->aU,getElem?_set_self->aW,map_cons->aY,append_nil->a8,lookup_cons->a9,map->bq,not_mem_nil->bw,filterMap_cons->bB,pairwise_cons->bJ,mem_map_of_mem->bL,mem_range->bO,mem_append_left->bT,length_take->bW,drop_eq_getElem_cons->ce,length_range->ci,getElem?_eq_none->cj,map_append->cu,getElem?_cons_succ->cx,take_of_length_le->cA,getElem?_range->cB,getElem?_toArray->cD,take_length->cE,set_set->cH,mem_iff_getElem->cJ,mem_of_mem_take->cK,map_nil->cR,map_map->cU,cons_append->cZ,filterMap_map->dg,contains_iff_mem->di,length_drop->dA,lookup->dE,take_append_of_le_length->dH,drop_eq_nil_of_le->dJ,nodup_cons->dP,find?_cons->dQ,all_cons->dR,length_singleton->dS,set_getElem_self->dU,filterMap_eq_map->dW,getElem_mem->ef,map_congr_left->eF,take_append_getElem->eM,mem_filterMap->eO,ext_getElem?->fh,take_append_drop->fo,mem_iff_getElem?->fq,pairwise_append->fC,of_mem_zip->fI,length_nil->fO,nil_append->fP,set_append->fQ,drop_zero->gk,flatten_cons->gz,nodup_append->gE,any_cons->gQ,getElem?_replicate->gY,length_eq_zero_iff->g6,pairwise_singleton->g8,mem_filter->iw,perm_append_comm->iE,filterMap->iM,mem_of_mem_drop->iY,getElem?_of_mem->iZ,replicate_succ->jm,length_pos_iff->jn,sum_cons->ju,getElem?_take->jI,drop_sublist->jZ,take_add_one->j0,pairwise_map->ka,any_eq_true->ki,range_succ->kF,foldl_cons->kG,forIn_nil->kY,nodup_nil->lf,take_zero->lh,all_nil->lZ,map_set->mn
open PySem.W renaming Frag->ae,openSeen->aZ,openGood->a7,findIn->bh,kitOne->bo,openEnds->bv,tabIn->bC,keepIn->bF,nsIn->bM,kia_one->bN,exmOne->bU,CodeHd->b7,emptyDict->cf,mg_of->cz,instObj->cN,fnOf->cQ,KitX->cS,recOk->cV,xlAt->dn,OpenLaw->dL,makesIn->dN,looks_findIn->d5,plainGet->d7,Looks->eK,callWith_K->eP,hasDictIn->eW,specialIn->eX,cellsFrom_some->eY,codeIn->eZ,takesIn->fG,plainGet_of->fS,callWith_K0->fT,lookIn->gd,methodObj->gq,plainOver->gv,mroIn->gJ,isFn->hZ,takerIn->iy,methodCall_KW->iB,tabObj->i8,kitx_tuple->jz,codeRec_of->jA,mg_none_of->jJ,kitx_list->jO,handedIn->kc,codeHdIn->kj,kla_fn->k7,TabsAt->lb,noTabs->lc,LeftO->lu,WalkO->lv,fnX->mD
open PySem renaming Shared->af,wpAny_bind->ai,wpAny_pure->aC,Program->aD,Around->aV,sizeLine->aX,mainGlobals->bc,importedModules->be,starEach->bf,wpAny_mono->bp,bootBuiltins->br,mem_of_lookup->bu,cellsFrom->bD,wpAny_truthy_bool->bQ,FuncData->bX,wpAny_Call_Name_kw->cw,wpAny_holding->cF,NameKind->cI,wpAny_newObj_type->cL,treeTable->cX,compareOp->cY,assignEach->c9,wpAny_passesOwn->dm,wpAny_pyIter_list->dq,backTo->du,behindInMarks->dv,binaryOp->dz,wpAny_callSpecial?_slot->dB,keywordEach->dF,wpAny_field->dG,wpAny_setField_rec->dI,wpAny_execs_nil->dM,foldedSetIterable->dX,sizeLine_eq->dZ,wpAny_call_entry->d6,Arguments->d8,argBest->d9,attributeBase->eG,swapsWith->eQ,sliceBounds->eR,wpAny_tryCatch->e9,pushCells->ft,codeAny->fv,Keyword->fw,relabel->fx,ExceptHandler->fy,backToKw->fA,Paired->fD,letOwnedTupleGo->fF,pushCells_keeps->fK,codeAny_builtin->fL,wpAny_loadPart'->fN,codeAny_mono->fY,notedBy->fZ,sysModules->f9,wpAny_newFunctionEnv_cells->gf,holding->gu,wpAny_letGo->gB,isTrue->gG,swappedStores->gH,IsPart->gK,wpAny_comprehension_free->gM,plainId_quiet->gN,wpAny_attempt->gP,builtinsNs->hJ,assign->hV,wpAny_pyNext_range_end->hW,wpAny_pyIter_rangeiter->hX,wpAny_call->ic,codeAny_compStart_list->ik,wpAny_updateSeq->iz,wpAny_isTrue_Compare1->iA,codeAny_call_function->iC,pyNext->iI,IsRangeIter->iJ,wpAny_seqItems->iL,IsEnum->iO,codeAny_call_builtin->iP,getMethod->je,getItem->jf,callerA->jg,wpAny_standAt->jr,wpAny_pyIter_range->jx,Result->jy,typeOf->jC,call_meets->jD,cameBackBy->jH,Within->jK,standAt->jL,wpAny_assign_Name->jN,wpAny_sequenceKey->jR,wpAny_typeOf->jS,seqIndex_neg->jU,slot_list_getitem->jV,wpAny_pyIter_enum->jX,valueAt->jY,wpAny_execs_cons->kb,noteFrame->kh,setFlight->ko,wpAny_Try_except->kr,seqIndex_of->kz,BindsTo->kM,call->kO,IsTupleKey->kP,wpAny_Name->kQ,pyIter->kR,rawInt->kS,bindArgs->kU,typeIs_str->kW,PlainAttrs->kX,wpAny_rule->kZ,quietNames->k9,KeyKind->lx,SumFits->lH,storeName->lM,PassesOwn->lN,lastMarks->lO,seqItems?->lQ,IsEnumOut->lR
open Bool renaming and_eq_true->aj,false_ne_true->aF,or_eq_true->bz,false_eq_true->bI,eq_iff_iff->cC,true_and->eL,not_eq_true'->gD,and_true->gS,and_eq_true_iff->iH,or_eq_false_iff->iX,not_true->jt,noConfusion->km,not_eq_true->ku,false_and->kT,or_false->lE,false_or->lF
open Nat renaming le_trans->ak,le_refl->al,lt_of_lt_of_le->aG,ne_of_lt->aJ,zero_add->bG,lt_irrefl->bH,lt_succ_self->bV,le_succ->cg,add_sub_cancel_left->cy,sub_self->cT,zero_le->cW,le_of_lt->eU,ne_of_gt->eV,lt_succ_of_lt->e8,lt_trichotomy->fc,add_zero->fg,testBit_eq_decide_div_mod_eq->fi,testBit_two_pow->fW,pow_succ->f8,lt_of_le_of_lt->gj,le_of_succ_le->gA,not_lt->im,testBit_or->i9,add_comm->j9,le_of_not_lt->kg,one_mul->kC,strongRecOn->kJ,zero_lt_one->kK,two_pow_pos->kL,add_assoc->lI,le_of_eq->lV,lt_trans->lX,lt_or_ge->l7
open PySem.Heap renaming get?_push_of_some->am,lt_size->aL,get?_push_size->aR,get?_update_other->cb,size_push->cq,SameBut->cr,get?_update_self->fj,ExtBut->mB
open Option.some renaming inj->aM
open PySem.Str renaming ofString->bj
open False renaming elim->bn
open PyProof.Rows renaming slot_tuple_getitem->bA,callWith_type1->cP,kindOf->eD,envOfC->fJ,AllBare->fX,preSum_getD->gO,subscriptTail_builtinR->ie,entry_tuple_getitem->jl,Constant_none->jq,args_tuple_getitem->jB,IntsAre->jT,SortSt->kq,pendingOf->lS
open PySem.W.OpenRow renaming toRowW->bE
open PySem.Builtin.Str renaming strSliceIndices->bK
open Ne renaming symm->bP
open Int renaming toNat_natCast->bR,natCast_nonneg->db,le_refl->eS,fdiv_eq_ediv_of_nonneg->gc,le_trans->iq,zero_add->iu,ofNat_lt->jW,sub_zero->j8,le_antisymm->kH,ediv_one->lW,le_total->l8
open PySem.W.RowW renaming records->bS
open PySem.F renaming plainAttrs_list->bZ,plain_min_loop->c8,slot_enumerate_next->dT,slot_NoneType_hash->dY,slot_list_append->e6,slot_list_extend->e7,attrBase_ValueError->fm,slot_int_bit_length->f7,type_list_append->gT,type_list_extend->gW,entry_min_loop->gZ,args_enumerate_next_1->g7,entry_enumerate_next->io,excBase_ValueError->iR,slot_list_count->iV,slot_list_index->iW
open Option renaming map_eq_some_iff->b8,isSome_iff_exists->cG,map_some->cO,isSome_some->jE,getD_none->ke
open Classical renaming propDecidable->cM
open PySem.W.Looks renaming andThen->dh,now->gC,ld->kl,here->mG,tag->mK
open PySem.Builtin.Slice renaming slicePlaces->dj,sliceAdjust->eg,sliceApplied->gh,slicePartIndex->kE,sliceFields->lr
open PySem.Builtin.Tuple renaming tupleExact->dw,tupleItemsOf->gi
open PySem.Builtin.Range renaming rangeSize->dy,small->jp,rangeFitsLong->kN
open PySem.Builtin.Getset_descriptor renaming descrCheckInstance->dC,descrOwnerAndName->dD,descrGetter->ee,descrNameAndClass->g9,descrGetArgs->iQ
open PySem.Builtin.SmallTypes renaming ownedTupleHandOut->eE,ownedTupleIsFree->eJ,nextOf->gm
open PySem.Builtin.List renaming listTooLong->eI
open PySem.Builtin.ObjectAttr renaming find->eT
open PySem.Builtin renaming bitNot->fe,bitOr->gI,bitAnd->k8
open PySem.Paired renaming length->fu,snoc->mF
open PySem.Around renaming under_plainId->fB,under->jP
open PySem.Txt renaming slice->fM
open Array renaming length_toList->fR,getElem?_eq_getElem->gp,getElem?_mapIdx->iD,getElem?_toList->iG,toList->jM
open PySem.Builtin.Int renaming intBits->fU
open PySem.Builtin.Builtins renaming bindParams->f6
open PySem.Calls renaming Name_function_global->gb,callWith_builtin->ii,evalArgs_plain->iK
open PySem.W.OpenLaw renaming wellSaid->gF
open Prod renaming ext->gX
open PySem.Obj renaming mapSeq->ig
open PySem.SeqAt renaming EqAt->ip,RcNeAt->lY,RcAt->mJ
open PySem.SeqAt.EqAt renaming bool_bool->iU,none_int->jh,none_str->ji,int_none->jj,str_none->jk,int_str->jv,str_int->jw,same->kD
open PySem.AutoIntG2 renaming int_bit_length_int_0->jo
open PySem.Walks renaming list->jF,range->mw
open PySem.W.KF renaming slot_gs->jG
open PySem.Code renaming isFrame->jQ,frames->mz
open PySem.PassesOwn renaming never->kI
open PySem.EqMixed renaming eq_bool_str->li,eq_str_bool->lj,ne_bool_str->lp,ne_str_bool->lq,eq_int_str->ly,eq_str_int->lz,ne_int_str->lC,ne_str_int->lD
open PySem.Value renaming isStrOf->lw,isInt->mr
open PySem.CmpOf renaming ints_lt->lG
open List.Pairwise renaming imp_of_mem->lJ
open Function renaming comp->lK
open List.cons renaming inj->lL
open PyProof.Rows.IsTup renaming new->lP
open PySem.StrLaws renaming found_one->lU
open Iff renaming rfl->l9
open Prod.mk renaming inj->mq
open PySem.IsRange renaming new->my
open PySem.Heap.IsSliceOf renaming new->mH
abbrev yA:=List (PySem.Addr×PySem.Obj)
abbrev yB:=PySem.Value->PySem.Shared->Prop
abbrev yC:=List (PySem.Str×PySem.Addr)
abbrev yD:=PySem.Str->Option PySem.Value
abbrev yE:=List (Option Nat)
abbrev yF:=Array (Option PySem.Value)
abbrev yG:=List (PySem.Addr×PySem.Addr)
abbrev yH:=List PySem.Value
abbrev yI:=List PySem.Str
abbrev yJ:=Option PySem.Addr
abbrev yK:=Array PySem.Value
abbrev yL:=List PySem.Expr
abbrev yM:=List PySem.Stmt
def Zq0 (_:True:=by first|exact .inl rfl|exact .inr rfl|assumption):=trivial
def Zq1 (_:True:=by decide):=trivial
def Zq2 (_:True:=by first|exact aO3 _ (by decide) (by decide)|rfl):=trivial
def Zq3 (_:True:=by intro _;rfl):=trivial
def Zq4 (_:True:=by rfl):=trivial
def Zq5 (_:True:=by with_unfolding_all rfl):=trivial
def Zq6 (_:True:=by nofun):=trivial
def Zq7 (_:True:=by decide +kernel):=trivial
open Option renaming some->aT,none->bY
open Bool renaming true->ca,false->dr
abbrev dO:=@of_decide_eq_true
abbrev ij:=@if_pos
abbrev iF:=@if_neg
abbrev iN:=@decide_eq_true
abbrev js:=@decide_eq_false
abbrev ll:=@eq_of_beq
abbrev nc:=@absurd
abbrev oR:=@decide_eq_true_eq
namespace Internal
noncomputable section
namespace L2
open PySem PySem.Spec PyProof.Rows
def head_of {l:dL}{q:aD}{loose:yI}{H:PySem.W.Hook}{N:Nat}{d:DefRec}{z:List (Str×Expr)}
  (left:lu l.row.prog q loose (λ s=>dn q [] s&&cV (bS (bE l.row)) s) H.obs H.val N)
  (J:PySem.W.defOf q l.row.name=aT (d,z)) (hp:l.row.prog.theDef l.row.name=aT (d.params,d.body,d.scope)) (hk:PySem.W.kwWritten? d.params.kwonlyargs d.params.kw_defaults=aT z) (Y:(!l.row.writes||l.row.records.isEmpty)=ca)
  (k1:l.row.wellSaid=ca) (ok:(PySem.W.chainsOk q&&PySem.W.opensWell l.row.prog&&(PySem.W.frees l.row.toRowW&&l.row.within.isEmpty))=ca) (hb:l.row.prog.bare) (hw:l.row.toRowW.promised)
  (call:lv q loose (PySem.W.XL q []) H.says l.row.toRowW d z λ f vs=>kO f vs):l.row.Holds :=
 PySem.W.holds_open left H.of H.keeps (λ s e=>PySem.W.xl_of s (iH.mp e).1) PySem.W.XL.keeps J hp hk (λ s e=>PySem.W.recFacts_of (iH.mp e).2) Y k1 ok hb hw call
def aZ9 {loose:yI}{α:Type}{Y}{Z:World->α}
  (h0:(bv cX p w N).map (λ s=>((aZ q loose (be p.main.body) z ca s).1,(aZ q loose (be p.main.body) z ca s).2.1,(aZ q loose (be p.main.body) z ca s).2.2.1))=aT ((a7 q loose).1,(a7 q loose).2.1,(a7 q loose).2.2.1))
  (h1:(bv cX p w N).map (λ s=>(aZ q loose (be p.main.body) z ca s).2.2.2)=aT (a7 q loose).2.2.2)
  (h2:(bv cX p w N).map Y=aT (Z w)):(bv cX p w N).map (λ s=>((aZ q loose (be p.main.body) z ca s),Y s))=aT ((a7 q loose),Z w):=by
 obtain⟨s,a,b⟩:=b8.mp h0;obtain⟨s1,a1,b1⟩:=b8.mp h1;obtain⟨s',a',b'⟩:=b8.mp h2;rw[a]at a' a1;cases a';cases a1;obtain⟨c1,J⟩:=mq b;obtain⟨J,c3⟩:=mq J;rw[a];exact congrArg aT (gX (gX c1 (gX J (gX c3 b1))) b')
theorem left_rows {loose:yI}{Y:World->α} row 
  (a0:∀ w:World,(bv cX p (w.withFollow row dr) N).map (λ s=>((aZ q loose (be p.main.body) z ca s).1,(aZ q loose (be p.main.body) z ca s).2.1,(aZ q loose (be p.main.body) z ca s).2.2.1))=aT ((a7 q loose).1,(a7 q loose).2.1,(a7 q loose).2.2.1))
  (a1:∀ w:World,(bv cX p (w.withFollow row dr) N).map (λ s=>(aZ q loose (be p.main.body) z ca s).2.2.2)=aT (a7 q loose).2.2.2)
  (b0:∀ w:World,(bv cX p (w.withFollow row ca) N).map (λ s=>((aZ q loose (be p.main.body) z ca s).1,(aZ q loose (be p.main.body) z ca s).2.1,(aZ q loose (be p.main.body) z ca s).2.2.1))=aT ((a7 q loose).1,(a7 q loose).2.1,(a7 q loose).2.2.1))
  (Z:∀ w:World,(bv cX p (w.withFollow row ca) N).map (λ s=>(aZ q loose (be p.main.body) z ca s).2.2.2)=aT (a7 q loose).2.2.2)
  (a2:∀ w:World,(bv cX p (w.withFollow row dr) N).map J=aT (Y (w.withFollow row dr)))
  (b2:∀ w:World,(bv cX p (w.withFollow row ca) N).map J=aT (Y (w.withFollow row ca))):lu p q loose z J Y N:=λ w=>by
 have e:=PySem.World.withFollow_self w row;cases hb:w.params.followText row<;>rw[hb]at e
 .have:=aZ9 (a0 w) (a1 w) (a2 w)
  rwa [e]at this
 .have:=aZ9 (b0 w) (Z w) (b2 w)
  rwa [e]at this
end L2
end
noncomputable section
namespace My
open PySem L2
noncomputable def nmS:Stmt->Bool
 | .Assign [.Name x _] _ _=>decide (x=("__name__"))
 | _=>dr
def vq:aD:={ PySem.Challenge.pw_leasttolls_k63_machines_of_sets with main:={ (PySem.Challenge.pw_leasttolls_k63_machines_of_sets).main with body:=(PySem.Challenge.pw_leasttolls_k63_machines_of_sets).main.body.filter λ s=>!nmS s } }
set_option maxRecDepth 100000 in
set_option maxHeartbeats 0 in
theorem left0:∀ w:World,(bv cX PySem.Challenge.rw_leasttolls_k63_machines_of_sets.row.prog (w.withFollow "special-get-raises" dr) 6300).map (λ s=>((aZ vq ["Rooms", "NoMaking", "NoPaper"] (be PySem.Challenge.rw_leasttolls_k63_machines_of_sets.row.prog.main.body) (λ s=>dn vq [] s&&cV (bS (bE PySem.Challenge.rw_leasttolls_k63_machines_of_sets.row)) s) ca s).1,(aZ vq ["Rooms", "NoMaking", "NoPaper"] (be PySem.Challenge.rw_leasttolls_k63_machines_of_sets.row.prog.main.body) (λ s=>dn vq [] s&&cV (bS (bE PySem.Challenge.rw_leasttolls_k63_machines_of_sets.row)) s) ca s).2.1,(aZ vq ["Rooms", "NoMaking", "NoPaper"] (be PySem.Challenge.rw_leasttolls_k63_machines_of_sets.row.prog.main.body) (λ s=>dn vq [] s&&cV (bS (bE PySem.Challenge.rw_leasttolls_k63_machines_of_sets.row)) s) ca s).2.2.1))=aT ((a7 vq ["Rooms", "NoMaking", "NoPaper"]).1,(a7 vq ["Rooms", "NoMaking", "NoPaper"]).2.1,(a7 vq ["Rooms", "NoMaking", "NoPaper"]).2.2.1):=λ w=>by kernel_rfl
set_option maxRecDepth 100000 in
set_option maxHeartbeats 0 in
theorem left1:∀ w:World,(bv cX PySem.Challenge.rw_leasttolls_k63_machines_of_sets.row.prog (w.withFollow "special-get-raises" dr) 6300).map (λ s=>(aZ vq ["Rooms", "NoMaking", "NoPaper"] (be PySem.Challenge.rw_leasttolls_k63_machines_of_sets.row.prog.main.body) (λ s=>dn vq [] s&&cV (bS (bE PySem.Challenge.rw_leasttolls_k63_machines_of_sets.row)) s) ca s).2.2.2)=aT (a7 vq ["Rooms", "NoMaking", "NoPaper"]).2.2.2:=λ w=>by kernel_rfl
set_option maxRecDepth 100000 in
set_option maxHeartbeats 0 in
theorem left3:∀ w:World,(bv cX PySem.Challenge.rw_leasttolls_k63_machines_of_sets.row.prog (w.withFollow "special-get-raises" ca) 6300).map (λ s=>((aZ vq ["Rooms", "NoMaking", "NoPaper"] (be PySem.Challenge.rw_leasttolls_k63_machines_of_sets.row.prog.main.body) (λ s=>dn vq [] s&&cV (bS (bE PySem.Challenge.rw_leasttolls_k63_machines_of_sets.row)) s) ca s).1,(aZ vq ["Rooms", "NoMaking", "NoPaper"] (be PySem.Challenge.rw_leasttolls_k63_machines_of_sets.row.prog.main.body) (λ s=>dn vq [] s&&cV (bS (bE PySem.Challenge.rw_leasttolls_k63_machines_of_sets.row)) s) ca s).2.1,(aZ vq ["Rooms", "NoMaking", "NoPaper"] (be PySem.Challenge.rw_leasttolls_k63_machines_of_sets.row.prog.main.body) (λ s=>dn vq [] s&&cV (bS (bE PySem.Challenge.rw_leasttolls_k63_machines_of_sets.row)) s) ca s).2.2.1))=aT ((a7 vq ["Rooms", "NoMaking", "NoPaper"]).1,(a7 vq ["Rooms", "NoMaking", "NoPaper"]).2.1,(a7 vq ["Rooms", "NoMaking", "NoPaper"]).2.2.1):=λ w=>by kernel_rfl
set_option maxRecDepth 100000 in
set_option maxHeartbeats 0 in
theorem left4:∀ w:World,(bv cX PySem.Challenge.rw_leasttolls_k63_machines_of_sets.row.prog (w.withFollow "special-get-raises" ca) 6300).map (λ s=>(aZ vq ["Rooms", "NoMaking", "NoPaper"] (be PySem.Challenge.rw_leasttolls_k63_machines_of_sets.row.prog.main.body) (λ s=>dn vq [] s&&cV (bS (bE PySem.Challenge.rw_leasttolls_k63_machines_of_sets.row)) s) ca s).2.2.2)=aT (a7 vq ["Rooms", "NoMaking", "NoPaper"]).2.2.2:=λ w=>by kernel_rfl
inductive IsL:dL->Prop|mk:IsL PySem.Challenge.rw_leasttolls_k63_machines_of_sets
def bV7 (h:IsL l):PySem.Challenge.rw_leasttolls_k63_machines_of_sets=l:=by cases h;rfl
noncomputable def lwp:{ l:dL // IsL l }:=by
 refine⟨?p,?h⟩
 case h =>
  have e:PySem.Challenge.rw_leasttolls_k63_machines_of_sets=?p:=by
   conv=>lhs;reduce
  exact e▸IsL.mk
def ws1:gF lwp.1=true:=by k_qdec
def ws:gF PySem.Challenge.rw_leasttolls_k63_machines_of_sets=true:=by
 rw[bV7 lwp.2];exact ws1
end My
end
section
open PySem PySem.W PyProof.Rows
set_option hygiene false in
local macro_rules | `(tactic| o_head $H) => `(tactic| (refine L2.head_of (q := My.vq) (loose := ["Rooms", "NoMaking", "NoPaper"]) (H := $H) (N := 6300) (L2.left_rows "special-get-raises" My.left0 My.left1 My.left3 My.left4 ?my2 ?my5) (by rfl) (by rfl) (by rfl) rfl (by assumption) (by decide +kernel) ⟨rfl, rfl, rfl, rfl, rfl, by decide +kernel⟩ ?_ ?_; (case my2 => exact myl2); (case my5 => exact myl5)))
set_option maxRecDepth 100000 in
set_option maxHeartbeats 0 in
noncomputable def My.GT0:(L2:Prop) ×' (L5:Prop) ×' { G:Prop // L2->L5->G->PySem.Challenge.rw_leasttolls_k63_machines_of_sets.Holds }:=by
 refine⟨?L2,?L5,?G,?h⟩
 case h =>
  intro myl2 myl5 g
  w_on;refine holds_law My.ws λ said=>?_;k_head;(focus w_witness2)
  exact g
set_option maxRecDepth 100000 in
set_option maxHeartbeats 0 in
theorem My.left2:My.GT0.1:=λ w=>by kernel_rfl
set_option maxRecDepth 100000 in
set_option maxHeartbeats 0 in
theorem My.left5:My.GT0.2.1:=λ w=>by kernel_rfl
end
noncomputable section
namespace L2
open PySem PySem.Spec PyProof.Rows
abbrev Key:=Sum Int Str
noncomputable def aG1:Key->Value->Bool
 | .inl k,v=>mr k v
 | .inr x,v=>lw x v
noncomputable def cp9 (w:World):Key->Int
 | .inl k=>hashInt k
 | .inr x=>hashStr w x
def zn:∀ {k} {v},aG1 k v=ca->(∃ i t,k=Sum.inl i/\v=Value.int i t)\/(∃ x t,k=Sum.inr x/\v=Value.str x t)
 | .inl i,v,h=>by
  obtain⟨t,e⟩:=Value.isInt_shape h;exact .inl ⟨i,t,rfl,e⟩
 | .inr x,v,h=>by
  obtain⟨t,e⟩:=Value.isStrOf_shape h;exact .inr ⟨x,t,rfl,e⟩
def bj1 i t :aG1 (.inl i) (.int i t)=true:=by simp[aG1,mr]
def bf5 x t :aG1 (.inr x) (.str x t)=true:=by simp[aG1,lw]
def bZ9 a b :decide ((Sum.inl a:Key)=Sum.inl b)=(a==b):=by
 by_cases e:a=b
 .subst e;simp
 .have h:¬(Sum.inl a:Key)=Sum.inl b:=λ q=>e (Sum.inl.inj q);rw[js h];exact(beq_eq_false_iff_ne.mpr e).symm
def cb5 a b :decide ((Sum.inr a:Key)=Sum.inr b)=decide (a=b):=by
 by_cases e:a=b
 .subst e;simp
 .have h:¬(Sum.inr a:Key)=Sum.inr b:=λ q=>e (Sum.inr.inj q);rw[js h,js e]
def bX1 a b :decide ((Sum.inl a:Key)=Sum.inr b)=false:=js (λ q=>nomatch q)
def cd8 a b :decide ((Sum.inr a:Key)=Sum.inl b)=false:=js (λ q=>nomatch q)
def zG prog w :lx prog w Key where
 is:=aG1
 hash:=cp9 w
 inj:=λ v a b ha hb=>by
  rcases zn ha with⟨i,t,rfl,rfl⟩|⟨x,t,rfl,rfl⟩
  .rcases zn hb with⟨j,u,rfl,e⟩|⟨y,u,rfl,e⟩
   .injection e with e1 _;rw[e1]
   .exact nomatch e
  .rcases zn hb with⟨j,u,rfl,e⟩|⟨y,u,rfl,e⟩
   .exact nomatch e
   .injection e with e1 _;rw[e1]
 byValue:=λ k v h=>by
  rcases zn h with⟨i,t,rfl,rfl⟩|⟨x,t,rfl,rfl⟩<;>rfl
 pyHash:=λ hv h=>by
  rcases zn hv with⟨i,t,rfl,rfl⟩|⟨x,t,rfl,rfl⟩
  .exact wpAny_pyHash_int h
  .exact wpAny_pyHash_str h
 eqBool:=λ hu hv h=>by
  rcases zn hu with⟨i,t,rfl,rfl⟩|⟨x,t,rfl,rfl⟩
  .rcases zn hv with⟨j,u,rfl,rfl⟩|⟨y,u,rfl,rfl⟩
   .rw[bZ9]at h;exact wpAny_eqBool_int h
   .rw[bX1]at h;exact jv i t y u _ _ _ _ h
  .rcases zn hv with⟨j,u,rfl,rfl⟩|⟨y,u,rfl,rfl⟩
   .rw[cd8]at h;exact jw x t j u _ _ _ _ h
   .rw[cb5]at h;exact wpAny_eqBool_str h
 «strs»:=λ k x t v h=>by
  rcases zn h with⟨i,u,rfl,e⟩|⟨y,u,rfl,e⟩
  .exact nomatch e
  .injection e with e1 _;subst e1;cases v<;>rfl
def aJ9 prog w i t :(zG prog w).is (.inl i) (.int i t)=true:=bj1 i t
def aH4 prog w x t :(zG prog w).is (.inr x) (.str x t)=true:=bf5 x t
abbrev FK:=Option Key
def fIs:FK->Value->Bool
 | none,v=>match v with|.none=>ca|_=>dr
 | some k,v=>aG1 k v
def fH (w:World):FK->Int
 | none=>0xFCA86420
 | some k=>cp9 w k
def ql (h:fIs bY v=ca):v=.none:=by
 cases v with
 | none=>rfl
 | _=>exact nomatch h
def aW5 {E:yB}(h:Q 0xFCA86420 { s with toks:=s.toks+1 }):wpAny (model P w) A (PySem.pyHash .none) Q E s:=by
 have hT:s.TypeIs .none "NoneType":=rfl;unfold PySem.pyHash pyHashByItsType;refine ai (wpAny_cRoomFor_byValue rfl ?_);refine ai (wpAny_specialOf hT dY.lookup ?_);rw[iF (by rw[beq_builtin_none];exact aF)];refine ai (wpAny_specialOf hT dY.lookup ?_);refine ai (wpAny_callSpecialIfBoundUnlessNone?_slot hT dY (d6 dY hT F.entry_NoneType_hash
   (wpAny_ret_mkInt ?_) (F.args_NoneType_hash_1 _)))
 show wpAny _ _ (if _ then _ else _) Q E _;rw[ij (by decide)];exact aC h
def aU1 prog w :lx prog w FK where
 is:=fIs
 hash:=fH w
 inj:=λ v a b ha hb=>by
  cases a with
  | none =>
   cases ql ha;cases b with
   | none=>rfl
   | some k=>rcases zn hb with⟨_,_,_,e⟩|⟨_,_,_,e⟩<;>exact nomatch e
  | some k =>
   cases b with
   | none=>cases ql hb;rcases zn ha with⟨_,_,_,e⟩|⟨_,_,_,e⟩<;>exact nomatch e
   | some j=>exact congrArg aT ((zG prog w).inj v k j ha hb)
 byValue:=λ k v h=>by
  cases k with
  | none=>cases ql h;rfl
  | some k=>exact(zG prog w).byValue k v h
 pyHash:=λ {A E s k v Q} hv h=>by
  cases k with
  | none=>cases ql hv;exact aW5 h
  | some k=>exact(zG prog w).pyHash hv h
 eqBool:=λ {A E s a b u v Q} hu hv h=>by
  cases a with
  | none =>
   cases ql hu;cases b with
   | none=>cases ql hv;exact kD _ prog w E Q h
   | some k =>
    rcases zn hv with⟨i,t,rfl,rfl⟩|⟨x,t,rfl,rfl⟩
    .exact jh i t _ _ _ _ h
    .exact ji x t _ _ _ _ h
  | some k =>
   cases b with
   | none =>
    cases ql hv;rcases zn hu with⟨i,t,rfl,rfl⟩|⟨x,t,rfl,rfl⟩
    .exact jj i t _ _ _ _ h
    .exact jk x t _ _ _ _ h
   | some j =>
    refine(zG prog w).eqBool hu hv ?_;have e:decide (k=j)=decide (aT k=aT j):=by simp
    rw[e];exact h
 «strs»:=λ k x t v h=>by
  cases k with
  | none=>exact nomatch ql h
  | some k=>exact(zG prog w).strs k x t v h
abbrev NI:=Sum FK (List FK)
section
variable (P:aD) (w:World)
def NIs (h:Heap):NI->Value->Prop
 | .inl f,v=>fIs f v=ca
 | .inr l,v=>∃ b,v=.ref b/\kP (aU1 P w) h l b
def ch6 (h:Heap)(ks:List NI)(a:Addr):Prop:=∃ o its n,h.get? a=aT o/\o.cls=.type "tuple"/\o.data=.seq its n/\fD (NIs P w h) ks its.toList
end
section
variable {P:aD} {w:World} {h h':Heap}
theorem NIs.inj (hx:NIs P w h x v)(hy:NIs P w h y v):x=y:=by
 cases x with
 | inl f =>
  cases y with
  | inl g=>exact congrArg Sum.inl ((aU1 P w).inj v f g hx hy)
  | inr l =>
   obtain⟨b,rfl,_⟩:=hy;exact nc ((aU1 P w).byValue f _ hx) (by nofun)
 | inr l =>
  obtain⟨b,rfl,hb⟩:=hx;cases y with
  | inl g=>exact nc ((aU1 P w).byValue g _ hy) (by nofun)
  | inr m =>
   obtain⟨c,e,hc⟩:=hy;cases e;exact congrArg Sum.inr (hb.inj hc)
theorem NIs.all_inj:∀ {x y} {vs:yH},fD (NIs P w h) x vs->fD (NIs P w h) y vs->x=y
 | _,_,_,.nil,.nil=>rfl
 | _,_,_,.cons a p,.cons b q=>by rw[a.inj b,NIs.all_inj p q]
def ch6.inj (hx:ch6 P w h x a)(hy:ch6 P w h y a):x=y:=by
 obtain⟨o,i,n,e,_,d,p⟩:=hx;obtain⟨o',z,J,e',_,d',p'⟩:=hy;rw[e]at e';cases e';rw[d]at d';cases d';exact NIs.all_inj p p'
def NIs.keep (k:∀ b l,kP (aU1 P w) h l b->kP (aU1 P w) h' l b)(hx:NIs P w h x v):NIs P w h' x v:=by
 cases x with
 | inl f=>exact hx
 | inr l=>obtain⟨b,e,p⟩:=hx;exact⟨b,e,k _ _ p⟩
end
set_option genCtorIdx true in
set_option genInjectivity true in
inductive V where
 | N|T (b:Bool)|int (i:Int)|str (x:Str)|byt (b:Array UInt8)|flt (b:UInt64)|ref (a:Addr)|ty (n:String)
 deriving DecidableEq
noncomputable def RelV:V->Value->Prop
 | .N,u=>u=Value.none
 | .T b,u=>u=Value.bool b
 | .int i,u=>∃ t,u=Value.int i t
 | .str x,u=>∃ t,u=Value.str x t
 | .byt b,u=>∃ t,u=Value.bytes b t
 | .flt b,u=>∃ t,u=Value.float b t
 | .ref a,u=>u=Value.ref a
 | .ty n,u=>u=Value.type n
abbrev Vals:List V->List Value->Prop:=fD RelV
theorem Vals.length {us:yH}(r:Vals z us):z.length=us.length:=fu r
theorem Vals.get:∀ {z} {us:yH} {i:Nat} {x},Vals z us->z[i]?=aT x->∃ u,us[i]?=aT u/\RelV x u
 | _,_,_,_,.nil,e=>by simp at e
 | _,_,0,_,.cons r _,e=>by simp at e;subst e;exact⟨_,rfl,r⟩
 | _,_,i+1,x,.cons _ t,e=>by
  obtain⟨u,J,Y⟩:=Vals.get t (by simpa using e);exact⟨u,by simpa using J,Y⟩
theorem Vals.set (r:RelV x u):∀ {z} {us:yH} i ,Vals z us->Vals (z.set i x) (us.set i u)
 | _,_,_,.nil=>.nil
 | _,_,0,.cons _ t=>.cons r t
 | _,_,i+1,.cons q t=>.cons q (Vals.set r i t)
theorem Vals.append:∀ {z ys} {us ws:yH},Vals z us->Vals ys ws->Vals (z++ys) (us++ws)
 | _,_,_,_,.nil,s=>s
 | _,_,_,_,.cons r t,s=>.cons r (Vals.append t s)
theorem Vals.take:∀ {z} {us:yH} n ,Vals z us->Vals (z.take n) (us.take n)
 | _,_,0,_=>.nil
 | _,_,_+1,.nil=>.nil
 | _,_,n+1,.cons r t=>.cons r (Vals.take n t)
theorem Vals.drop:∀ {z} {us:yH} n ,Vals z us->Vals (z.drop n) (us.drop n)
 | _,_,0,r=>r
 | _,_,_+1,.nil=>.nil
 | _,_,n+1,.cons _ t=>Vals.drop n t
def aF3:Option V->Option Value->Prop
 | some v,aT u=>RelV v u
 | none,bY=>True
 | _,_=>False
def KV :List (κ×V)->List (κ×Value)->Prop:=fD λ(p) (q)=>p.1=q.1/\RelV p.2 q.2
noncomputable def kV:Key->V
 | .inl i=>.int i
 | .inr x=>.str x
inductive HO where
 | J (xs:List V)
 | tp (xs:List V)
 | dK (kvs:List (Key×V))
 | ins (Cc dx:Addr) (fs:List (Str×V))
 | own (x:Addr)
 | xd (fs:List (Str×V))
 | met (f x:Addr)
 | rng (lo hi:Int)
 | frz (o:Obj) (u:HO)
 | tbl (ps:yK)
 | ext (C:Heap->Prop)
noncomputable abbrev HO.ctorIdx (x:HO):Nat:=HO.casesOn x (λ _=>0) (λ _=>1) (λ _=>2) (λ _ _ _=>3) (λ _=>4) (λ _=>5) (λ _ _=>6) (λ _ _=>7) (λ _ _=>8) (λ _=>9) (λ _=>10)
abbrev Hp:=Addr->Option HO
def fV:FK->V
 | none=>.N
 | some k=>kV k
def NAt (H:Hp):NI->V->Prop
 | .inl f,v=>v=fV f
 | .inr l,v=>∃ c,v=.ref c/\H c=aT (.tp (l.map fV))
def NK (H:Hp)(k:List NI)(b:Addr):Prop:=∃ xs,H b=aT (.tp xs)/\fD (NAt H) k xs
def NAt.mono (ht:∀ b z,H b=aT (.tp z)->H' b=aT (.tp z))(h:NAt H k v):NAt H' k v:=by
 cases k with
 | inl f=>exact h
 | inr l=>obtain⟨c,e,q⟩:=h;exact⟨c,e,ht _ _ q⟩
theorem NK.mono (ht:∀ b J,H b=aT (.tp J)->H' b=aT (.tp J))(h:NK H k b):NK H' k b:=let⟨J,e,p⟩:=h;⟨J,ht _ _ e,Paired.mono (λ _ _ z=>z.mono ht) p⟩
noncomputable def upd (H:Hp)(a:Addr)(o:HO):Hp:=λ b=>if b=a then aT o else H b
def zq :upd H a o a=aT o:=by unfold upd;rw[ij rfl]
def zf (h:b≠a):upd H a o b=H b:=by unfold upd;rw[iF h]
def zl {H:Hp}(h:H a=aT o)(h':H b=bY):a≠b:=by
 intro e;subst e;rw[h]at h';cases h'
section
variable (P:aD) (w:World)
def ac1 (H:Hp)(h:Heap)(a:Addr):HO->Prop
 | .J xs=>xs.length<=aX/\∃ its   n ,Vals xs its/\h.get? a=aT { cls:=.type "list",data:=.seq its.toArray n }
 | .tp xs=>xs.length<=aX/\∃ its,Vals xs its/\IsTup h a its.toArray
 | .dK kvs=>kvs.length<=aX/\(a==f9)=dr/\∃ vs,KV kvs vs/\h.DictOf (zG P w) a vs
 | .ins Cc dx fs=>H dx=aT (.own a)/\fs.length<=1000/\dx≠a/\h.get? a=aT (cN Cc dx) /\
   ∃ mA,h.Ns1 dx mA/\(∀ f,aF3 (fs.lookup f) (mA f))/\jK mA (fs.map (·.1))
 | .own _=>∃ o,h.get? a=aT o
 | .xd fs=>∃ mA,h.Ns1 a mA/\∀ f,aF3 (fs.lookup f) (mA f)
 | .rng lo hi=>∃ t u v,h.get? a=aT { cls:=.type "range",data:=.fields #[.int lo t,.int hi u,.int 1 v] }
 | .frz o u=>h.get? a=aT o/\ac1 H h a u
 | .tbl ps=>h.get? a=aT { cls:=.none,data:=.fields ps }
 | .met f x=>h.get? a=aT (gq (.ref f) (.ref x))
 | .ext C=>C h/\(∃ o,h.get? a=aT o)/\∀ h1 h2:Heap,C h1->(∀ o,h1.get? a=aT o->h2.get? a=aT o)->C h2
def HOk (H:Hp)(h:Heap):Prop:=∀ a o,H a=aT o->ac1 P w H h a o
end
section
variable {P:aD} {w:World} {H H':Hp} {h h':Heap} {a:Addr} {o:HO}
theorem ac1.lt (x:ac1 P w H h a o):a<h.objs.size:=by
 cases o with
 | J xs=>obtain⟨_,_,_,_,e⟩:=x;exact aL e
 | tp xs=>obtain⟨_,_,_,p⟩:=x;exact p.lt
 | dK kvs=>obtain⟨_,_,_,_,o,_,_,e,_⟩:=x;exact aL e
 | ins Cc dx fs=>obtain⟨_,_,_,e,_⟩:=x;exact aL e
 | own y=>obtain⟨_,e⟩:=x;exact aL e
 | xd fs=>obtain⟨_,⟨_,_,_,e,_⟩,_⟩:=x;exact aL e
 | rng lo hi=>obtain⟨_,_,_,e⟩:=x;exact aL e
 | frz ob u=>obtain⟨e,_⟩:=x;exact aL e
 | tbl ps=>exact aL (x)
 | met f y=>exact aL (x)
 | ext C=>obtain⟨_,⟨_,e⟩,_⟩:=x;exact aL e
theorem fD.mapP :∀ {z} {l₂},fD F z l₂->(∀ a b,F a b->G a b)->fD G z l₂
 | _,_,.nil,_=>.nil
 | _,_,.cons r t,f=>.cons (f _ _ r) (fD.mapP t f)
def ac1.stay (x:ac1 P w H h a o)(k:∀ b u,(b=a\/H b=aT (.own a))->h.get? b=aT u->h'.get? b=aT u)
  (ho:∀ b,H b=aT (.own a)->H' b=aT (.own a)) (ht:∀ b J,H b=aT (.tp J)->H' b=aT (.tp J)):ac1 P w H' h' a o:=by
 induction o with
 | J J=>obtain⟨z,its,n,r,e⟩:=x;exact⟨z,its,n,r,k _ _ (.inl rfl) e⟩
 | tp J=>obtain⟨z,its,r,ob,e,c⟩:=x;exact⟨z,its,r,ob,k _ _ (.inl rfl) e,c⟩
 | dK kvs=>obtain⟨z,y,vs,r,ob,es,ep,e,c⟩:=x;exact⟨z,y,vs,r,ob,es,ep,k _ _ (.inl rfl) e,c⟩
 | ins Cc dx fs =>
  obtain⟨d,z,ne,e,Y,⟨od,es,ep,e2,c⟩,r⟩:=x;exact⟨ho _ d,z,ne,k _ _ (.inl rfl) e,Y,⟨od,es,ep,k _ _ (.inr d) e2,c⟩,r⟩
 | own y=>obtain⟨ob,e⟩:=x;exact⟨ob,k _ _ (.inl rfl) e⟩
 | xd fs=>obtain⟨Y,⟨od,es,ep,e,c⟩,r⟩:=x;exact⟨Y,⟨od,es,ep,k _ _ (.inl rfl) e,c⟩,r⟩
 | rng lo hi=>obtain⟨t,u,v,e⟩:=x;exact⟨t,u,v,k _ _ (.inl rfl) e⟩
 | frz ob u ih=>obtain⟨e,q⟩:=x;exact⟨k _ _ (.inl rfl) e,ih q⟩
 | tbl ps =>
  have e:=x;exact k a _ (.inl rfl) e
 | met f y =>
  have e:=x;exact k a _ (.inl rfl) e
 | ext C=>obtain⟨p,⟨o,e⟩,st⟩:=x;exact⟨st _ _ p λ o q=>k _ _ (.inl rfl) q,⟨o,k _ _ (.inl rfl) e⟩,st⟩
theorem HOk.lt (x:HOk P w H h)(e:H a=aT o):a<h.objs.size:=(x a o e).lt
def HOk.fresh (x:HOk P w H h)(e:h.objs.size<=a):H a=none:=by
 cases q:H a with
 | none=>rfl
 | some u=>exact nc (aG (x.lt q) e) (bH _)
def HOk.kept (x:HOk P w H h)(k:∀ b u,h.get? b=aT u->h'.get? b=aT u):HOk P w H h':=λ a o e =>
 (x a o e).stay (λ b u _ q=>k b u q) (λ _ q=>q) λ _ _ q=>q
def HOk.laid (x:HOk P w H h)(k:∀ b u,h.get? b=aT u->h'.get? b=aT u)(hp:h.objs.size<=a)(new:ac1 P w (upd H a o) h' a o):HOk P w (upd H a o) h':=λ b u e=>by
 have hn:=x.fresh hp;by_cases hb:b=a
 .subst hb;rw[zq]at e;cases e;exact new
 .rw[zf hb]at e;exact(x b u e).stay (λ c v _ q=>k c v q) (λ c q=>by rw[zf (zl q hn)];exact q) λ c z q=>by rw[zf (zl q hn)];exact q
end
def Rd (H:Hp)(a:Addr)(u:HO):Prop:=H a=aT u\/∃ o,H a=aT (.frz o u)
def Rd.ok (r:Rd H a u)(x:HOk P w H h):ac1 P w H h a u:=by
 rcases r with r|⟨o,r⟩
 .exact x a u r
 .obtain⟨_,q⟩:=x a _ r;exact q
noncomputable def Mut:Option HO->Prop
 | some (.J _)=>True
 | some (.dK _)=>True
 | some (.ins _ _ _)=>True
 | some (.ext _)=>True
 | _=>False
section
variable {P:aD} {w:World} {H:Hp} {h h':Heap} {x e:Addr} {o':HO}
def HOk.write (ok:HOk P w H h)(mu:Mut (H x))(he:e=x\/H e=aT (.own x))(k:∀ b u,b≠e->h.get? b=aT u->h'.get? b=aT u)(a0:∃ u,h'.get? e=aT u)
  (new:ac1 P w (upd H x o') h' x o'):HOk P w (upd H x o') h':=λ b u q=>by
 have J:∀ c y,H c=aT (.own y)->c≠x:=λ c y r z=>by subst z;rw[r]at mu;exact mu
 have Y:∀ c Z,H c=aT (.tp Z)->c≠x:=λ c Z r z=>by subst z;rw[r]at mu;exact mu
 by_cases hb:b=x
 .subst hb;rw[zq]at q;cases q;exact new
 .rw[zf hb]at q;by_cases hbe:b=e
  .have q':H b=aT (.own x):=by
    rcases he with z|z
    .exact nc (hbe.trans z) hb
    .rw[hbe];exact z
   rw[q]at q';cases q';obtain⟨v,hv⟩:=a0;exact⟨v,by rw[hbe];exact hv⟩
  .refine(ok b u q).stay (λ c v hc r=>k c v ?_ r) (λ c r=>by rw[zf (J c b r)];exact r) λ c Z r=>by rw[zf (Y c Z r)];exact r
   rcases hc with rfl|hc
   .exact hbe
   .rintro rfl
    rcases he with z|z
    .exact J c b hc z
    .rw[hc]at z;cases z;exact hb rfl
end
structure Un (fs ex:List Addr)(H H':Hp)(h h':Heap):Prop where
 keep:∀ b o,h.get? b=aT o->H b=bY->b ∉ fs->b ∉ ex->h'.get? b=aT o
 slot:∀ b o,h.get? b=aT o->H b=bY->b∈fs->b ∉ ex->∃ sl,h'.get? b=aT { o with slots:=sl }
 free:∀ b o,h.get? b=aT o->H b=bY->b ∉ ex->H' b=bY
 there:∀ b o,h.get? b=aT o->b ∉ ex->∃ o',h'.get? b=aT o'
 tups:∀ b xs,H b=aT (.tp xs)->H' b=aT (.tp xs)
 frzs:∀ b o u,H b=aT (.frz o u)->H' b=aT (.frz o u)
 tbls:∀ b ps,H b=aT (.tbl ps)->∃ more,H' b=aT (.tbl (ps++more))
section
variable {fs fs' ex ex':List Addr} {H H1 H2:Hp} {h h1 h2 h':Heap} {a x e:Addr} {o:HO}
def Un.any (u:Un fs ex H H1 h h1)(q:h.get? b=aT ob)(n:H b=bY)(hx:b ∉ ex):∃ sl,h1.get? b=aT { ob with slots:=sl }:=by
 by_cases hb:b∈fs
 .exact u.slot b ob q n hb hx
 .exact⟨ob.slots,u.keep b ob q n hb hx⟩
def Un.kept (k:∀ b u,h.get? b=aT u->h'.get? b=aT u):Un fs ex H H h h' :=
 ⟨λ b ob q _ _ _=>k b ob q,λ b ob q _ _ _=>⟨ob.slots,k b ob q⟩,λ _ _ _ n _=>n,λ b ob q _=>⟨ob,k b ob q⟩,λ _ _ q=>q,λ _ _ _ q=>q,λ _ ps q=>⟨#[],by rw[q];simp⟩⟩
def Un.refl:Un fs ex H H h h:=Un.kept λ _ _ q=>q
def Un.laid (k:∀ b u,h.get? b=aT u->h'.get? b=aT u)(hp:h.objs.size<=a)(hn:H a=bY):Un fs ex H (upd H a o) h h' where
 keep:=λ b u q _ _ _=>k b u q
 slot:=λ b u q _ _ _=>⟨u.slots,k b u q⟩
 free:=λ b u q n _=>by rw[zf (aJ (aG (aL q) hp))];exact n
 there:=λ b u q _=>⟨u,k b u q⟩
 tups:=λ b z q=>by rw[zf (zl q hn)];exact q
 frzs:=λ b u z q=>by rw[zf (zl q hn)];exact q
 tbls:=λ b ps q=>⟨#[],by rw[zf (zl q hn),q];simp⟩
def Un.write (mu:Mut (H x))(Z:e=x\/H e=aT (.own x))(k:∀ b u,b≠e->h.get? b=aT u->h'.get? b=aT u)(J:∃ u,h'.get? e=aT u):Un fs ex H (upd H x o) h h':=by
 have hx:∀ b,H b=bY->b≠x:=λ b n z=>by subst z;rw[n]at mu;exact mu
 have hb:∀ b,H b=bY->b≠e:=λ b n z=>by
  subst z;rcases Z with r|r
  .exact hx b n r
  .rw[n]at r;cases r
 have hm:∀ b u,H b=aT u->¬ Mut (aT u)->b≠x:=λ b u q nm z=>by subst z;rw[q]at mu;exact nm mu
 refine⟨λ b u q n _ _=>k b u (hb b n) q,λ b u q n _ _=>⟨u.slots,k b u (hb b n) q⟩,λ b u q n _=>by rw[zf (hx b n)];exact n,λ b u q _=>?_,
  λ b Y q=>by rw[zf (hm b _ q λ z=>z)];exact q,λ b u Y q=>by rw[zf (hm b _ q λ z=>z)];exact q,λ b ps q=>⟨#[],by rw[zf (hm b _ q λ z=>z),q];simp⟩⟩
 by_cases hbe:b=e
 .subst hbe;exact J
 .exact⟨u,k b u hbe q⟩
end
noncomputable def trk (h:Heap)(H:Hp):List Addr:=(aH h.objs.size).filter λ a=>(H a).isSome
def bk2 (h:Heap)(H:Hp):Heap:=PySem.W.hideAll h (trk h H)
def ba7 h H :(bk2 h H).objs.size=h.objs.size:=PySem.W.hideAll_size _ _
def am8 (e:h.get? b=aT o)(n:H b=bY):(bk2 h H).get? b=aT o :=
 PySem.W.hideAll_get _ e λ hm=>by
  have q:=(iw.mp hm).2;rw[n]at q;simp at q
def bF7 (e:(bk2 h H).get? b=aT o):h.get? b=aT o/\H b=none:=by
 have e':=PySem.W.of_hideAll (trk h H) e;refine⟨e',?_⟩;cases q:H b with
 | none=>rfl
 | some x =>
  have hm:b∈trk h H:=iw.mpr ⟨bO.mpr (aL e'),by simp[q]⟩;have z:(bk2 h H).get? b=none:=PySem.W.hideAll_none (trk h H) hm;rw[z]at e;cases e
noncomputable def bB5 (g h:Heap)(L:Addr):List (Addr×Obj):=(aH h.objs.size).filterMap λ a=>if a=L\/(g.get? a).isSome=ca then bY else(h.get? a).map λ o=>(a,o)
def rest (g h:Heap)(L d:Addr):List (Addr×Obj):=(bB5 g h L).filter λ p=>decide (p.1≠d)
structure Mod (K:ae)(mg:yD)(base:Heap):Prop where
 kin:K.In base
 glob:base.Ns bc mg
 blt:∃ mb,base.Ns hJ mb/\∀ x:Str,x ≠ "__name__"->mb x=br x
 nolimit:base.NoLimit
structure Cx where
 prog:aD
 w:World
 K:ae
 mg:Str->Option Value
 base:Heap
 A:aV
 N:List Str
 s₀:af
 H₀:Hp
 env:Env
 outer:List Env
 stack:List Env
 ex:List Addr
 fn:Str->Bool
 calm:Bool
 pn:List (Addr×Obj)
 xe:Value->af->Prop
noncomputable def frs (l:List Env):List Addr:=l.filterMap (·.frame)
abbrev Cx.fs (X:Cx):List Addr:=frs X.outer
def Vis (sc:Scope)(x:Str):Prop:=sc.names.lookup x=aT .local\/sc.names.lookup x=aT .cell\/sc.names.lookup x=aT .free
def Loc (sc:Scope)(x:Str):Prop:=sc.names.lookup x=aT .local\/sc.names.lookup x=aT .cell
def Look (env:Env)(h:Heap)(m:yD)(x:Str)(u:Value):Prop :=
 (env.kindOf x=aT .local/\m x=aT u)\/((env.kindOf x=aT .cell\/env.kindOf x=aT .free)/\∃ c,env.cells.lookup x=aT c/\h.IsCell c (aT u))
structure Cx.Ok (X:Cx):Prop where
 mod:Mod X.K X.mg X.base
 kind:X.env.scope.kind=.function
 glob:X.env.globals=bc
 blt:X.env.builtins=hJ
 above:X.s₀.heap.objs.size<=X.env.locals
 inj:∀ x y c,X.env.cells.lookup x=aT c->X.env.cells.lookup y=aT c->x=y
 has:∀ x,(X.env.kindOf x=aT .cell\/X.env.kindOf x=aT .free)->∃ c,X.env.cells.lookup x=aT c
 cab:∀ x c,X.fn x=ca->X.env.cells.lookup x=aT c->X.s₀.heap.objs.size<=c
 hd:X.calm=ca->X.A.handled=bY
 frames:X.A.frames=aT X.stack
 stk:X.stack=X.outer\/(X.stack=X.env::X.outer/\X.env.frame=aT X.env.locals)
 exf:∀ b∈X.ex,b≠X.env.locals/\∀ x c,X.env.cells.lookup x=aT c->c≠b
 bs:∀ b o,X.base.get? b=aT o->X.s₀.heap.get? b=aT o/\X.H₀ b=bY
 bsz:X.base.objs.size<=X.s₀.heap.objs.size
 noex:∀ b o,X.base.get? b=aT o->b ∉ X.ex
 exfs:∀ b∈X.ex,b ∉ X.fs
 funs:X.s₀.heap.FunFrames X.base X.outer
 frf:∀ b∈X.fs,X.H₀ b=bY
structure Inv (X:Cx)(pins:yA)(W:List (Option V))(H:Hp)(s:af):Prop where
 ok:X.Ok
 os:s.os=X.s₀.os
 bare:fX s.gens
 base:Un X.fs X.ex X.H₀ H X.s₀.heap s.heap
 loc:∃ m,s.heap.Ns X.env.locals m/\∀(i:Nat) (x:Str) (v:V),X.N[i]?=aT x->W[i]?=aT (aT v)->Vis X.env.scope x->∃ u,RelV v u/\Look X.env s.heap m x u
 cell:∀ x c,X.env.cells.lookup x=aT c->∃ v,s.heap.IsCell c v
 free:H X.env.locals=bY
 freeC:∀ x c,X.env.cells.lookup x=aT c->H c=bY
 pin:∀ p∈X.pn++pins,s.heap.get? p.1=aT p.2/\H p.1=bY/\p.1≠X.env.locals/\p.1 ∉ X.fs/\∀ v,p.2.data≠.cell v
 hok:HOk X.prog X.w H s.heap
 len:W.length=X.N.length
section
variable {X:Cx} {pins:yA} {W:List (Option V)} {H H':Hp} {s:af} {h':Heap}
def Cx.Ok.nofr (ok:X.Ok)(e:X.base.get? b=aT o):b ∉ X.fs:=λ hb=>by
 have:=(ok.funs.mem hb).1;rw[e]at this;cases this
theorem Inv.bs (I:Inv X pins W H s):∀ b o,X.base.get? b=aT o->s.heap.get? b=aT o/\H b=none:=λ b o e =>
 ⟨I.base.keep b o (I.ok.bs b o e).1 (I.ok.bs b o e).2 (I.ok.nofr e) (I.ok.noex b o e),I.base.free b o (I.ok.bs b o e).1 (I.ok.bs b o e).2 (I.ok.noex b o e)⟩
def Inv.bk (I:Inv X pins W H s):∀ b o,X.base.get? b=aT o->s.heap.get? b=aT o:=λ b o e=>(I.bs b o e).1
theorem Inv.mod (I:Inv X pins W H s):Mod X.K X.mg X.base:=I.ok.mod
def Inv.kIn (I:Inv X pins W H s):X.K.In s.heap:=I.ok.mod.kin.keeps I.bk
theorem Inv.nolimit (I:Inv X pins W H s):s.heap.NoLimit:=I.ok.mod.nolimit.keeps I.bk
theorem Inv.lt (I:Inv X pins W H s):X.env.locals<s.heap.objs.size:=let⟨_,hn,_⟩:=I.loc;hn.lt
def Inv.sz (I:Inv X pins W H s):X.s₀.heap.objs.size<=s.heap.objs.size:=ak I.ok.above (eU I.lt)
def Inv.nofs (I:Inv X pins W H s){a:Addr}(h:s.heap.objs.size<=a):a ∉ X.fs:=λ hb=>by
 obtain⟨_,o,ho,_⟩:=I.ok.funs.mem hb;exact nc (aG (aL ho) (ak I.sz h)) (bH _)
def Inv.cne (I:Inv X pins W H s):∀ x c,X.env.cells.lookup x=aT c->c≠X.env.locals:=λ x c e z=>by
 obtain⟨v,o,ho,hd⟩:=I.cell x c e;obtain⟨m,⟨o',es,ep,J,Y,_⟩,_⟩:=I.loc;rw[z,J]at ho;cases ho;rw[Y]at hd;cases hd
theorem Inv.funs (I:Inv X pins W H s):s.heap.FunFrames X.base X.outer:=by
 have all:∀ l ,(∀ b∈frs l,b∈X.fs)->X.s₀.heap.FunFrames X.base l->s.heap.FunFrames X.base l:=by
  intro l
  induction l with
  | nil=>intro _ _;trivial
  | cons env r ih =>
   intro hs Z;obtain⟨hk,⟨L,o,J,hn,ho,hd⟩,hr⟩:=Z;have Y:=hs L (by unfold frs;rw[bB,J];exact ao);obtain⟨sl,e⟩:=I.base.slot L o ho (I.ok.frf L Y) Y λ z=>I.ok.exfs L z Y;exact⟨hk,⟨L,_,J,hn,e,hd⟩,ih (λ b hb=>hs b (by unfold frs;rw[bB,J];exact ah _ hb)) hr⟩
 exact all X.outer (λ _ hb=>hb) I.ok.funs
theorem Inv.stack (I:Inv X pins W H s):s.heap.FunFrames X.base X.stack:=by
 rcases I.ok.stk with e|⟨e,z⟩
 .rw[e];exact I.funs
 .rw[e];obtain⟨m,hn,_⟩:=I.loc;refine .cons (by rw[I.ok.kind];decide) z hn ?_ I.funs;exact Heap.get?_none_of_le (ak I.ok.bsz I.ok.above)
def Inv.stkSub (I:Inv X pins W H s):∀ b∈frs X.stack,b∈X.env.locals::X.fs:=λ b hb=>by
 rcases I.ok.stk with e|⟨e,z⟩
 .rw[e]at hb;exact ah _ hb
 .rw[e]at hb;unfold frs at hb;rw[bB,z]at hb;exact hb
def Inv.stkFree (I:Inv X pins W H s):∀ b∈frs X.stack,H b=none:=λ b hb=>by
 rcases aw.mp (I.stkSub b hb)with e|hb
 .rw[e];exact I.free
 .obtain⟨_,o,ho,_⟩:=I.ok.funs.mem hb;exact I.base.free b o ho (I.ok.frf b hb) λ z=>I.ok.exfs b z hb
def Inv.step {ch:List Addr}(I:Inv X pins W H s)
  (Z:∀ b∈ch,(b∈X.ex\/X.s₀.heap.objs.size<=b)/\b≠X.env.locals/\(∀ x c,X.env.cells.lookup x=aT c->c≠b)/\∀ p∈X.pn++pins,p.1≠b)
  (keep:∀ b o,b≠X.env.locals->b ∉ X.fs->b ∉ ch->s.heap.get? b=aT o->H b=bY->h'.get? b=aT o)
  (slot:∀ b o,b≠X.env.locals->b∈X.fs->b ∉ ch->s.heap.get? b=aT o->H b=bY->∃ sl,h'.get? b=aT { o with slots:=sl }) (free:∀ b o,b ∉ ch->s.heap.get? b=aT o->H b=bY->H' b=bY)
  (there:∀ b o,b ∉ ch->s.heap.get? b=aT o->∃ o',h'.get? b=aT o')
  (tups:∀ b xs,H b=aT (.tp xs)->H' b=aT (.tp xs)) (frzs:∀ b o u,H b=aT (.frz o u)->H' b=aT (.frz o u)) (tbls:∀ b ps,H b=aT (.tbl ps)->∃ more,H' b=aT (.tbl (ps++more)))
  (ns:∀ m,s.heap.Ns X.env.locals m->h'.Ns X.env.locals m) (hok:HOk X.prog X.w H' h') (hg:fX g') :
  Inv X pins W H' { s with heap:=h',gens:=g',drawn:=d',toks:=t' }:=by
 have a1:∀ b o,X.s₀.heap.get? b=aT o->b≠X.env.locals:=λ b o e=>aJ (aG (aL e) I.ok.above);have a0:∀ b o,X.s₀.heap.get? b=aT o->b ∉ X.ex->b ∉ ch:=λ b o e hx hb=>by
  rcases(Z b hb).1 with z|z
  .exact hx z
  .exact nc (aG (aL e) z) (bH _)
 have Y:∀ x c,X.env.cells.lookup x=aT c->∀ v,s.heap.IsCell c v->h'.IsCell c v:=λ x c e v ⟨o,ho,hd⟩=>by
  have J:c ∉ ch:=λ z=>(Z c z).2.2.1 x c e rfl;by_cases hc:c∈X.fs
  .obtain⟨sl,q⟩:=slot c o (I.cne x c e) hc J ho (I.freeC x c e);exact⟨_,q,hd⟩
  .exact⟨o,keep c o (I.cne x c e) hc J ho (I.freeC x c e),hd⟩
 refine⟨I.ok,I.os,hg,⟨λ b o e n hb hx=>?_,λ b o e n hb hx=>?_,λ b o e n hx=>?_,λ b o e hx=>?_,λ b xs e=>tups b xs (I.base.tups b xs e),λ b o xs e=>frzs b o xs (I.base.frzs b o xs e),λ b ps e=>?_⟩,?_,λ x c e=>?_,?_,λ x c e=>?_,λ p hp=>?_,hok,I.len⟩
 .exact keep b o (a1 b o e) hb (a0 b o e hx) (I.base.keep b o e n hb hx) (I.base.free b o e n hx)
 .obtain⟨sl,e1⟩:=I.base.slot b o e n hb hx;obtain⟨a2,e2⟩:=slot b _ (a1 b o e) hb (a0 b o e hx) e1 (I.base.free b o e n hx);exact⟨a2,e2⟩
 .obtain⟨o',e1⟩:=I.base.there b o e hx;exact free b o' (a0 b o e hx) e1 (I.base.free b o e n hx)
 .obtain⟨o',e1⟩:=I.base.there b o e hx;exact there b o' (a0 b o e hx) e1
 .obtain⟨m1,e1⟩:=I.base.tbls b ps e;obtain⟨m2,e2⟩:=tbls b _ e1;exact⟨m1++m2,by rw[e2,Array.append_assoc]⟩
 .obtain⟨m,hn,hl⟩:=I.loc;refine⟨m,ns m hn,λ i x v e1 e2 e3=>?_⟩;obtain⟨u,r,l⟩:=hl i x v e1 e2 e3;refine⟨u,r,?_⟩;rcases l with l|⟨k,c,e,z⟩
  .exact .inl l
  .exact .inr ⟨k,c,e,Y x c e _ z⟩
 .obtain⟨v,z⟩:=I.cell x c e;exact⟨v,Y x c e v z⟩
 .obtain⟨m,⟨o,_,_,ho,_⟩,_⟩:=I.loc;exact free _ o (λ z=>(Z _ z).2.1 rfl) ho I.free
 .obtain⟨v,o,ho,hd⟩:=I.cell x c e;exact free c o (λ z=>(Z c z).2.2.1 x c e rfl) ho (I.freeC x c e)
 .obtain⟨e,n,ne,nf,d⟩:=I.pin p hp;have J:p.1 ∉ ch:=λ z=>(Z p.1 z).2.2.2 p hp rfl;exact⟨keep p.1 p.2 ne nf J e n,free p.1 p.2 J e n,ne,nf,d⟩
def Inv.un (I:Inv X pins W H s)(u:Un X.fs [] H H' s.heap h')(hok:HOk X.prog X.w H' h'):Inv X pins W H' { s with heap:=h',toks:=t' }:=by
 obtain⟨m,⟨o,es,ep,ho,r⟩,_⟩:=id I.loc;obtain⟨sl,hL⟩:=u.any ho I.free (by simp);exact I.step (ch:=[]) (λ _ z=>nomatch z) (λ b o _ hb _ e n=>u.keep b o e n hb (by simp)) (λ b o _ hb _ e n=>u.slot b o e n hb (by simp)) (λ b o _ e n=>u.free b o e n (by simp)) (λ b o _ e=>u.there b o e (by simp)) u.tups u.frzs u.tbls (λ m' hm=>by
  obtain⟨o',Z,Y,J,r'⟩:=hm;rw[ho]at J;cases J;exact⟨_,Z,Y,hL,r'⟩) hok I.bare
def Inv.call (I:Inv X pins W H s)(u:Un (frs X.stack) ch H H' s.heap h')(hok:HOk X.prog X.w H' h')(hg:fX g')
  (Y:∀ b∈ch,(b∈X.ex\/X.s₀.heap.objs.size<=b)/\b≠X.env.locals/\(∀ x c,X.env.cells.lookup x=aT c->c≠b)/\∀ p∈X.pn++pins,p.1≠b) :
  Inv X pins W H' { s with heap:=h',gens:=g',drawn:=d',toks:=t' }:=by
 obtain⟨m,⟨o,es,ep,ho,r⟩,_⟩:=id I.loc;obtain⟨sl,Z⟩:=u.any ho I.free λ z=>(Y _ z).2.1 rfl;exact I.step Y (λ b o Z hb hc e n=>u.keep b o e n (λ z=>(aw.mp (I.stkSub b z)).elim Z hb) hc) (λ b o _ _ hc e n=>u.any e n hc) (λ b o hc e n=>u.free b o e n hc) (λ b o hc e=>u.there b o e hc) u.tups u.frzs u.tbls (λ m' hm=>by
  obtain⟨o',a1,a0,J,r'⟩:=hm;rw[ho]at J;cases J;exact⟨_,a1,a0,Z,r'⟩) hok hg
def Inv.turned (I:Inv X pins W H s)(k:∀ b o,b≠it->s.heap.get? b=aT o->h'.get? b=aT o)(hn:H it=bY)(Y:it≠X.env.locals)
  (Z:it∈X.ex\/X.s₀.heap.objs.size<=it) (h2:∀ x c,X.env.cells.lookup x=aT c->c≠it) (h3:∀ p∈X.pn++pins,p.1≠it):Inv X pins W H { s with heap:=h',toks:=t' }:=by
 have J:∀ b u,H b=aT u->b≠it:=λ b u e z=>by rw[z,hn]at e;cases e
 refine I.step (ch:=[it]) (λ b hb=>?_) (λ b o _ _ hc e _=>k b o (λ z=>hc (by simp[z])) e) (λ b o _ _ hc e _=>⟨o.slots,k b o (λ z=>hc (by simp[z])) e⟩) (λ _ _ _ _ n=>n)
  (λ b o hc e=>⟨o,k b o (λ z=>hc (by simp[z])) e⟩) (λ _ _ e=>e) (λ _ _ _ e=>e) (λ b ps e=>⟨#[],by rw[e];simp⟩) (λ m hm=>?_) (λ b u e=>?_) I.bare
 .have e:=by simpa using hb
  subst e;exact⟨Z,Y,h2,h3⟩
 .obtain⟨o,es,ep,ho,r⟩:=hm;exact⟨o,es,ep,k _ o (bP Y) ho,r⟩
 .refine(I.hok b u e).stay (λ c v hc q=>k c v ?_ q) (λ _ q=>q) λ _ _ q=>q;rcases hc with z|z
  .rw[z];exact J b u e
  .exact J c _ z
def Inv.tok (I:Inv X pins W H s) t :Inv X pins W H { s with toks:=t }:=I.un Un.refl I.hok
theorem Inv.kept (I:Inv X pins W H s)(k:∀ b u,s.heap.get? b=aT u->h'.get? b=aT u):Inv X pins W H { s with heap:=h',toks:=t' }:=I.un (Un.kept k) (I.hok.kept k)
theorem Inv.laid {a:Addr}(I:Inv X pins W H s)(k:∀ b u,s.heap.get? b=aT u->h'.get? b=aT u)(hp:s.heap.objs.size<=a)(new:ac1 X.prog X.w (upd H a o) h' a o) :
  Inv X pins W (upd H a o) { s with heap:=h',toks:=t' }:=I.un (Un.laid k hp (I.hok.fresh hp)) (I.hok.laid k hp new)
theorem Inv.write (I:Inv X pins W H s)(mu:Mut (H x))(J:e=x\/H e=aT (.own x))(k:∀ b u,b≠e->s.heap.get? b=aT u->h'.get? b=aT u)(z:∃ u,h'.get? e=aT u)
  (new:ac1 X.prog X.w (upd H x o) h' x o):Inv X pins W (upd H x o) { s with heap:=h',toks:=t' }:=I.un (Un.write mu J k z) (I.hok.write mu J k z new)
def Inv.pins_of (I:Inv X pins W H s)(h:∀ p∈J,s.heap.get? p.1=aT p.2/\H p.1=bY/\p.1≠X.env.locals/\p.1 ∉ X.fs/\∀ v,p.2.data≠.cell v):Inv X J W H s :=
 ⟨I.ok,I.os,I.bare,I.base,I.loc,I.cell,I.free,I.freeC,λ p hp=>(aE.mp hp).elim (λ z=>I.pin p (bT _ z)) (h p),I.hok,I.len⟩
def ax7 {N:yI}(hN:N.Nodup){ j:Nat}(a:N[i]?=aT x)(b:N[j]?=aT x):i=j:=by
 obtain⟨z,e1⟩:=ac.mp a;obtain⟨J,e2⟩:=ac.mp b;exact(List.getElem_inj hN).mp (e1.trans e2.symm)
def aF0 {E:yB}(I:Inv X pins W H s)(hN:X.N.Nodup)(hi:X.N[i]?=aT x)(hx:Loc X.env.scope x)(r:RelV v u)
  (h:∀ s',Inv X pins (W.set i (aT v)) H s'->(∃ a,cr a s.heap s'.heap/\(a=X.env.locals\/X.env.cells.lookup x=aT a))->Q () s') (hf:autoParam (X.fn x=ca\/X.env.scope.names.lookup x=aT .local) Zq0._auto_1):wpAny M A (lM X.env x u) Q E s:=by
 obtain⟨m,hn,hl⟩:=id I.loc;have a2:(X.env.scope.kind==.class||(X.env.scope.kind==.module&&X.env.locals != X.env.globals))=false:=by rw[I.ok.kind];rfl
 have a0:i < W.length:=by rw[I.len];exact(ac.mp hi).1
 have cne:=I.cne;have J:∀ {a:Addr} {h':Heap},(∃ o,s.heap.get? a=aT o/\H a=bY)->cr a s.heap h'->HOk X.prog X.w H h':=λ {a h'} ha hs b ob e=>by
  obtain⟨_,_,Y⟩:=ha;refine(I.hok b ob e).stay (λ c w' hc q=>(hs.2 c ?_).trans q) (λ _ q=>q) λ _ _ q=>q
  rintro rfl
  rcases hc with rfl|hc
  .rw[Y]at e;cases e
  .rw[Y]at hc;cases hc
 rcases hx with hk|hk
 .refine wpAny_storeName_local hk hn (λ h' a5 hs=>?_) a2;obtain⟨oL,_,_,a6,_⟩:=id hn;refine h _ ⟨I.ok,I.os,I.bare,⟨λ b o e n hb hx=>?_,λ b o e n hb hx=>?_,I.base.free,λ b o e hx=>?_,I.base.tups,I.base.frzs,I.base.tbls⟩,⟨_,a5,λ j y v' e1 e2 e3=>?_⟩,λ y c e=>?_,I.free,I.freeC,λ p hp=>?_,J ⟨oL,a6,I.free⟩ hs,by simpa using I.len⟩ ⟨_,hs,.inl rfl⟩
  .exact(hs.2 b (aJ (aG (aL e) I.ok.above))).trans (I.base.keep b o e n hb hx)
  .obtain⟨sl,e1⟩:=I.base.slot b o e n hb hx;exact⟨sl,(hs.2 b (aJ (aG (aL e) I.ok.above))).trans e1⟩
  .obtain⟨o',e1⟩:=I.base.there b o e hx;exact⟨o',(hs.2 b (aJ (aG (aL e) I.ok.above))).trans e1⟩
  .by_cases hj:j=i
   .subst hj;rw[hi]at e1;cases e1;rw[aW a0]at e2;cases e2;exact⟨u,r,.inl ⟨hk,by simp⟩⟩
   .rw[ar (bP hj)]at e2;obtain⟨u',r',q⟩:=hl j y v' e1 e2 e3;refine⟨u',r',?_⟩;rcases q with⟨k,e⟩|⟨k,c,e,z⟩
    .refine .inl ⟨k,?_⟩;have:y≠x:=λ e=>hj (ax7 hN e1 (e▸hi));simp[this,e]
    .exact .inr ⟨k,c,e,z.sameBut hs (cne y c e)⟩
  .obtain⟨w',z⟩:=I.cell y c e;exact⟨w',z.sameBut hs (cne y c e)⟩
  .obtain⟨e,n,ne,nf,d⟩:=I.pin p hp;exact⟨(hs.2 p.1 ne).trans e,n,ne,nf,d⟩
 .have Z:X.fn x=true:=by
   rcases hf with z|z
   .exact z
   .rw[z]at hk;cases hk
  obtain⟨c,hc⟩:=I.ok.has x (.inl hk);obtain⟨w',z⟩:=I.cell x c hc;refine wpAny_storeName_cell I.ok.kind hk hc z (λ h' a1 hs=>?_);obtain⟨oc,a3,a4⟩:=id z;refine h { s with heap:=h' } ⟨I.ok,I.os,I.bare,⟨λ b o e n hb hx=>?_,λ b o e n hb hx=>?_,I.base.free,λ b o e hx=>?_,I.base.tups,I.base.frzs,I.base.tbls⟩,⟨m,hn.sameBut hs (bP (cne x c hc)),λ j y v' e1 e2 e3=>?_⟩,λ y c' e=>?_,I.free,I.freeC,λ p hp=>?_,J ⟨oc,a3,I.freeC x c hc⟩ hs,by simpa using I.len⟩ ⟨c,hs,.inr hc⟩
  .exact(hs.2 b (aJ (aG (aL e) (I.ok.cab x c Z hc)))).trans (I.base.keep b o e n hb hx)
  .obtain⟨sl,e1⟩:=I.base.slot b o e n hb hx;exact⟨sl,(hs.2 b (aJ (aG (aL e) (I.ok.cab x c Z hc)))).trans e1⟩
  .obtain⟨o',e1⟩:=I.base.there b o e hx;exact⟨o',(hs.2 b (aJ (aG (aL e) (I.ok.cab x c Z hc)))).trans e1⟩
  .by_cases hj:j=i
   .subst hj;rw[hi]at e1;cases e1;rw[aW a0]at e2;cases e2;exact⟨u,r,.inr ⟨.inl hk,c,hc,a1⟩⟩
   .rw[ar (bP hj)]at e2;obtain⟨u',r',q⟩:=hl j y v' e1 e2 e3;refine⟨u',r',?_⟩;rcases q with q|⟨k,c',e,z'⟩
    .exact .inl q
    .refine .inr ⟨k,c',e,z'.sameBut hs ?_⟩
     rintro rfl
     exact hj (ax7 hN e1 (I.ok.inj _ _ _ e hc▸hi))
  .by_cases hcc:c'=c
   .subst hcc;exact⟨_,a1⟩
   .obtain⟨w2,z2⟩:=I.cell y c' e;exact⟨w2,z2.sameBut hs hcc⟩
  .obtain⟨e,n,ne,nf,d⟩:=I.pin p hp;refine⟨(hs.2 p.1 ?_).trans e,n,ne,nf,d⟩;intro q;rw[q,a3]at e;have q':oc=p.2:=aM e;exact d w' (by rw[<-q'];exact a4)
def an1 {E:yB}(I:Inv X pins W H s)(hN:X.N.Nodup)(J:X.N[i]?=aT x)(hx:Loc X.env.scope x)(r:RelV v u)
  (h:∀ s',Inv X pins (W.set i (aT v)) H s'->Q () s') (Y:autoParam (X.fn x=ca\/X.env.scope.names.lookup x=aT .local) Zq0._auto_1):wpAny M A (lM X.env x u) Q E s :=
 aF0 I hN J hx r (λ s' z _=>h s' z) Y
def Inv.call' (I:Inv X pins W H s)(ho:s'.os=s.os)(u:Un (frs X.stack) ch H H' s.heap s'.heap)(hok:HOk X.prog X.w H' s'.heap)(hg:fX s'.gens)
  (z:∀ b∈ch,(b∈X.ex\/X.s₀.heap.objs.size<=b)/\b≠X.env.locals/\(∀ x c,X.env.cells.lookup x=aT c->c≠b)/\∀ p∈X.pn++pins,p.1≠b):Inv X pins W H' s':=by
 obtain⟨h',g',d',t',o'⟩:=s';have e:=ho;subst e;exact I.call u hok hg z
end
abbrev XK:=Value->Option Addr->Hp->Prop
abbrev St:=List (Option V)
abbrev VK:=V->Hp->Prop
abbrev TE:=St->Hp->VK->Prop
abbrev TT:=St->Hp->(Bool->Hp->Prop)->Prop
abbrev TA:=St->Hp->(List V->Hp->Prop)->Prop
structure Ends where
 nx:St->Hp->Prop
 rt:VK
 bk:St->Hp->Prop:=λ _ _=>False
 ct:St->Hp->Prop:=λ _ _=>False
abbrev TS:=Ends->St->Hp->Prop
def EP (X:Cx)(pins:yA)(W:St)(Q:VK)(u:Value)(s':af):Prop:=∃ v H',Inv X pins W H' s'/\RelV v u/\Q v H'
def TP (X:Cx)(pins:yA)(W:St)(Q:Bool->Hp->Prop)(b:Bool)(s':af):Prop:=∃ H',Inv X pins W H' s'/\Q b H'
def AP (X:Cx)(pins:yA)(W:St)(Q:List V->Hp->Prop)(us:yH)(s':af):Prop:=∃ vs H',Inv X pins W H' s'/\Vals vs us/\Q vs H'
def SP (X:Cx)(pins:yA)(D:Ends)(f:Flow)(s':af):Prop :=
 match f with
 | .next=>∃ W' H',Inv X pins W' H' s'/\D.nx W' H'
 | .brk=>∃ W' H',Inv X pins W' H' s'/\D.bk W' H'
 | .cont=>∃ W' H',Inv X pins W' H' s'/\D.ct W' H'
 | .ret u=>∃ v W' H',Inv X pins W' H' s'/\RelV v u/\D.rt v H'
def PE (X:Cx)(e:Expr)(t:TE):Prop :=
 ∀ pins s (W:St) H Q ,Inv X pins W H s->t W H Q->wpAny (model X.prog X.w) X.A (eval e X.env) (EP X pins W Q) X.xe s
def PT (X:Cx)(e:Expr)(t:TT):Prop :=
 ∀ pins s (W:St) H Q ,Inv X pins W H s->t W H Q->wpAny (model X.prog X.w) X.A (gG e X.env (eval e X.env)) (TP X pins W Q) X.xe s
def PW (X:Cx)(e:Expr)(t:TT):Prop :=
 ∀ whole pins s (W:St) H Q ,Inv X pins W H s->t W H Q->wpAny (model X.prog X.w) X.A (gG e X.env whole) (TP X pins W Q) X.xe s
def PW.pt (h:PW X e t):PT X e t:=h _
def PA (X:Cx)(es:yL)(t:TA):Prop :=
 ∀ pos pins s (W:St) H Q ,Inv X pins W H s->t W H Q->wpAny (model X.prog X.w) X.A (spliced (du pos (bf es X.env))) (AP X pins W Q) X.xe s
def PS (X:Cx)(st:Stmt)(t:TS):Prop :=
 ∀ pins s (W:St) H D ,Inv X pins W H s->t D W H->wpAny (model X.prog X.w) X.A (exec st X.env) (SP X pins D) X.xe s
def PSs (X:Cx)(st:yM)(t:TS):Prop :=
 ∀ pins s (W:St) H D ,Inv X pins W H s->t D W H->wpAny (model X.prog X.w) X.A (execs st X.env) (SP X pins D) X.xe s
def thn {M}{A}{E:yB}{s}(h:wpAny M A t Q E s)(J:∀ a s,Q a s->z a s):wpAny M A t z E s:=bp h J λ _ _ x=>x
section
variable {X:Cx}
def bin (ha:PE X a Z)(hb:PE X b tb){W:St}{R:V->V->Hp->Prop}(I:Inv X z W H s)(h:Z W H λ x Y=>tb W Y λ y J=>R x y J)
  {f:Value->Value->Sem α}
  (hf:∀ v u s2 x y J,Inv X z W J s2->RelV x v->RelV y u->R x y J->wpAny (model X.prog X.w) X.A (f v u) Q X.xe s2) :
  wpAny (model X.prog X.w) X.A (eval a X.env) (λ v s₁=>wpAny (model X.prog X.w) X.A (eval b X.env) (λ u s₂=>wpAny (model X.prog X.w) X.A (f v u) Q X.xe s₂) X.xe s₁) X.xe s:=by
 refine thn (ha z s W H _ I h) λ v s1 ⟨x,Y,I1,r1,q1⟩=>?_;refine thn (hb z s1 W Y _ I1 q1) λ u s2 ⟨y,J,I2,r2,q2⟩=>?_;exact hf v u s2 x y J I2 r1 r2 q2
def bv5 (i:Nat):TE:=λ W H Q=>∃ v,W[i]?=aT (aT v)/\Q v H
def tC (v:V):TE:=λ _ H Q=>Q v H
def aA9 {pos}(hN:X.N[i]?=aT x)(hv:Vis X.env.scope x)(hd:autoParam ((x==("__debug__":Str))=dr) Zq1._auto_1)(J:autoParam ((x==("__classdict__":Str))=dr) Zq1._auto_1):PE X (.Name x pos) (bv5 i):=by
 intro z s W H Q I h;obtain⟨v,e,h⟩:=h;obtain⟨m,hn,Y⟩:=I.loc;obtain⟨u,r,l⟩:=Y i x v hN e hv;have fin:EP X z W Q u s:=⟨v,H,I,r,h⟩
 rcases l with⟨hk,hm⟩|⟨hk,c,hc,hcell⟩
 .exact kQ (wpAny_loadName_local I.ok.kind hk hn hm fin) hd
 .rcases hk with hk|hk
  .exact kQ (wpAny_loadName_cell I.ok.kind hk hc hcell fin) hd
  .exact kQ (wpAny_loadName_free I.ok.kind hk hc hcell fin J) hd
def aW7 :PE X (.Constant (.int i) j pos) (tC (.int i)):=λ _ _ _ H _ I h=>wpAny_Constant_int ⟨.int i,H,I.tok _,⟨_,rfl⟩,h⟩
def bJ8 :PE X (.Constant (.bool b) j pos) (tC (.T b)):=λ _ _ _ H _ I h=>Constant_bool ⟨.T b,H,I,rfl,h⟩
def ca9 :PE X (.Constant .none j pos) (tC .N):=λ _ _ _ H _ I h=>jq ⟨.N,H,I,rfl,h⟩
def av2 :PE X (.Constant (.str x) j pos) (tC (.str x)):=λ _ _ _ H _ I h=>Calls.Constant_str ⟨.str x,H,I.tok _,⟨_,rfl⟩,h⟩
def Gl (X:Cx)(x:Str):Prop:=X.env.kindOf x=aT .globalImplicit
def aj1 {E:yB}{W:St}{Q:yB}(I:Inv X z W H s)(hg:Gl X x)(hm:X.mg x=aT u)(h:Q u s)
  (hd:autoParam ((x==("__debug__":Str))=dr) Zq1._auto_1):wpAny (model X.prog X.w) X.A (eval (.Name x pos) X.env) Q E s :=
 gb I.ok.kind hg (Calls.loadGlobal_global (by rw[I.ok.glob];exact I.mod.glob.keeps I.bk) hm h) hd
def aq9 {E:yB}{W:St}{pos}{Q:yB}(I:Inv X z W H s)(hg:Gl X x)(hm:X.mg x=bY)(hv:br x=aT u)(h:Q u s)
  (hn:autoParam (x ≠ "__name__") Zq1._auto_1) (hd:autoParam ((x==("__debug__":Str))=dr) Zq1._auto_1):wpAny (model X.prog X.w) X.A (eval (.Name x pos) X.env) Q E s:=by
 obtain⟨Z,J,Y⟩:=I.mod.blt;exact gb I.ok.kind hg (Calls.loadGlobal_builtin (by rw[I.ok.glob];exact I.mod.glob.keeps I.bk) hm (by rw[I.ok.blt];exact J.keeps I.bk) ((Y x hn).trans hv) h) hd
def ax9 (hg:Gl X x)(hm:X.mg x=aT u)(r:RelV v u)(hd:autoParam ((x==("__debug__":Str))=dr) Zq1._auto_1):PE X (.Name x pos) (tC v) :=
 λ _ _ _ H _ I h=>aj1 I hg hm ⟨v,H,I,r,h⟩ hd
def bc8 {pos}(hg:Gl X x)(hm:X.mg x=bY)(hv:br x=aT u)(r:RelV v u)(hn:autoParam (x ≠ "__name__") Zq1._auto_1)(hd:autoParam ((x==("__debug__":Str))=dr) Zq1._auto_1):PE X (.Name x pos) (tC v) :=
 λ _ _ _ H _ I h=>aq9 I hg hm hv ⟨v,H,I,r,h⟩ hn hd
variable {a b:Expr} {ta tb:TE} {pos:Pos}
def PC (X:Cx)(op:CmpOp)(a b:Expr)(t:TE):Prop :=
 ∀ pins s (W:St) H Q ,Inv X pins W H s->t W H Q ->
  wpAny (model X.prog X.w) X.A (eval a X.env) (λ v s₁=>wpAny (model X.prog X.w) X.A (eval b X.env) (λ u s₂=>wpAny (model X.prog X.w) X.A (cY op v u) (EP X pins W Q) X.xe s₂) X.xe s₁) X.xe s
def aO3 b (h:op≠.In)(z:op≠.NotIn):dv op b=false:=by
 have e1:(op==CmpOp.In)=false:=by cases op<;>first|rfl|exact nc rfl h
 have e2:(op==CmpOp.NotIn)=false:=by cases op<;>first|rfl|exact nc rfl z
 cases b<;>simp[dv,e1,e2]
def co7 (ta:TE):TE:=λ W H Q=>ta W H λ x H1=>Q (.T (decide (x=.N))) H1
def bZ0 (ta:TE):TE:=λ W H Q=>ta W H λ x H1=>Q (.T (!decide (x=.N))) H1
def RelV.none_iff (r:RelV x v):(v==Value.none)=decide (x=.N):=by
 cases x with
 | N=>cases r;rfl
 | T _=>cases r;rfl
 | int _=>obtain⟨t,rfl⟩:=r;rfl
 | str _=>obtain⟨t,rfl⟩:=r;rfl
 | byt _=>obtain⟨t,rfl⟩:=r;rfl
 | flt _=>obtain⟨t,rfl⟩:=r;rfl
 | ref _=>cases r;rfl
 | ty _=>cases r;rfl
def bv2 (ha:PE X a ta):PC X .Is a (.Constant .none j pos') (co7 ta):=by
 intro z s W H Q I h;refine thn (ha z s W H _ I h) λ v s1 ⟨x,Z,J,r1,Y⟩=>?_;exact jq (is_none_gen ⟨.T _,Z,J,by rw[r1.none_iff];rfl,Y⟩)
def aW9 (ha:PE X a ta):PC X .IsNot a (.Constant .none j pos') (bZ0 ta):=by
 intro z s W H Q I h;refine thn (ha z s W H _ I h) λ v s1 ⟨x,Z,J,r1,Y⟩=>?_;exact jq (isnot_none_gen ⟨.T _,Z,J,by rw[r1.none_iff];rfl,Y⟩)
def tB (t:TE):TT:=λ W H Q=>t W H λ x H1=>∃ c,x=.T c/\Q c H1
def bw6 (h:PC X op a b t)(J:autoParam (dv op b=dr) Zq2._auto_1):PE X (.Compare a [op] [b] pos) t:=λ z s W H Q I hw=>wpAny_Compare1 (h z s W H Q I hw) J
def bw2 (h:PC X op a b t)(J:autoParam (dv op b=dr) Zq2._auto_1):PT X (.Compare a [op] [b] pos) (tB t):=by
 intro z s W H Q I hw;refine iA (thn (h z s W H _ I hw) λ v s1 J=>thn J λ u s2 Y=>thn Y λ c s3 ⟨x,H1,Z,r1,q1⟩=>?_) J;obtain⟨d,rfl,q⟩:=q1;cases r1;exact bQ ⟨H1,Z,q⟩
def bd8 (h:PE X e t)(he:autoParam (∀ z,gG e X.env z=(do let v <- z;jL e.pos;gu [v] (truthy v))) Zq3._auto_1):PT X e (tB t):=by
 intro J s W H Q I hw;refine isTrue_plain (thn (h J s W H _ I hw) λ v s1 ⟨x,H1,Y,r1,Z⟩=>?_) (he _);obtain⟨d,rfl,q⟩:=Z;cases r1;exact bQ ⟨H1,Y,q⟩
variable {tA tB':TT} {rest:yL}
def cr0 (t u:TT):TT:=λ W H Q=>t W H λ c H1=>if c=ca then u W H1 Q else Q dr H1
def tOr (t u:TT):TT:=λ W H Q=>t W H λ c H1=>if c=ca then Q ca H1 else u W H1 Q
def cn6 (t:TT):TT:=λ W H Q=>t W H λ c H1=>Q (!c) H1
def bH6 (ha:PT X a tA):PW X (.BoolOp .And [a] pos) tA:=by
 intro J z s W H Q I h;refine isTrue_and (thn (ha z s W H Q I h) λ c s1 e=>?_);cases c with
 | true=>exact isTrue_and_nil e
 | false=>exact e
def bR8 (ha:PT X a tA):PW X (.BoolOp .Or [a] pos) tA:=by
 intro J z s W H Q I h;refine isTrue_or (thn (ha z s W H Q I h) λ c s1 e=>?_);cases c with
 | false=>exact isTrue_or_nil e
 | true=>exact e
def bw8 (ha:PT X a tA)(hb:PW X (.BoolOp .And (b::rest) pos) tB'):PW X (.BoolOp .And (a::b::rest) pos) (cr0 tA tB'):=by
 intro wh z s W H Q I h;refine isTrue_and (thn (ha z s W H _ I h) λ c s1 ⟨Z,J,Y⟩=>?_);cases c with
 | true=>exact hb wh z s1 W Z Q J Y
 | false=>exact⟨Z,J,Y⟩
def cb1 (ha:PT X a tA)(hb:PW X (.BoolOp .Or (b::rest) pos) tB'):PW X (.BoolOp .Or (a::b::rest) pos) (tOr tA tB'):=by
 intro wh z s W H Q I h;refine isTrue_or (thn (ha z s W H _ I h) λ c s1 ⟨Z,J,Y⟩=>?_);cases c with
 | true=>exact⟨Z,J,Y⟩
 | false=>exact hb wh z s1 W Z Q J Y
def by0 (ha:PT X a tA):PT X (.UnaryOp .Not a pos) (cn6 tA):=by
 intro z s W H Q I h;exact isTrue_not (ha z s W H (λ c J=>Q (!c) J) I h)
def cc4 (ta tb:TE):TE:=λ W H Q=>ta W H λ x H1=>∃ c,x=.T c/\if c=ca then tb W H1 Q else Q (.T dr) H1
def cn7 (ta tb:TE):TE:=λ W H Q=>ta W H λ x H1=>∃ c,x=.T c/\if c=ca then Q (.T ca) H1 else tb W H1 Q
def bV1 (ta:TE):TE:=λ W H Q=>ta W H λ x H1=>∃ c,x=.T c/\Q (.T (!c)) H1
def by5 (h:PE X a t):PE X (.BoolOp op [a] pos) t:=λ z s W H Q I hw=>BoolOp_one (h z s W H Q I hw)
def by4 (ha:PE X a ta)(hb:PE X (.BoolOp .And (b::rest) pos) tb):PE X (.BoolOp .And (a::b::rest) pos) (cc4 ta tb):=by
 intro z s W H Q I h;refine BoolOp_and (thn (ha z s W H _ I h) λ v s1 ⟨x,Z,Y,r1,J⟩=>?_);obtain⟨c,rfl,J⟩:=J;cases r1;refine bQ ?_;cases c with
 | true=>exact hb z s1 W Z Q Y J
 | false=>exact⟨.T dr,Z,Y,rfl,J⟩
def bY9 (ha:PE X a ta)(hb:PE X (.BoolOp .Or (b::rest) pos) tb):PE X (.BoolOp .Or (a::b::rest) pos) (cn7 ta tb):=by
 intro z s W H Q I h;refine BoolOp_or (thn (ha z s W H _ I h) λ v s1 ⟨x,Z,Y,r1,J⟩=>?_);obtain⟨c,rfl,J⟩:=J;cases r1;refine bQ ?_;cases c with
 | false=>exact hb z s1 W Z Q Y J
 | true=>exact⟨.T ca,Z,Y,rfl,J⟩
def bz3 (ha:PE X a ta):PE X (.UnaryOp .Not a pos) (bV1 ta):=by
 intro z s W H Q I h;refine UnaryOp_ (thn (ha z s W H _ I h) λ v s1 ⟨x,Z,Y,r1,J⟩=>?_);obtain⟨c,rfl,J⟩:=J;cases r1;exact not_of (bQ ⟨.T (!c),Z,Y,rfl,J⟩)
def tIf (t:TT)(ta tb:TE):TE:=λ W H Q=>t W H λ c H1=>if c=ca then ta W H1 Q else tb W H1 Q
def bt9 (hc:PT X c tA)(ha:PE X a ta)(hb:PE X b tb):PE X (.IfExp c a b pos) (tIf tA ta tb):=by
 intro z s W H Q I h;refine wpAny_IfExp (thn (hc z s W H _ I h) λ d s1 ⟨Z,J,Y⟩=>?_);cases d with
 | true=>exact ha z s1 W Z Q J Y
 | false=>exact hb z s1 W Z Q J Y
end
def SqL (K:ae)(H:Hp)(a:Addr)(xs:List V):Prop :=
 Rd H a (.J xs) \/
  ∃(o:Obj) (its:yK) (n:Nat),K.lookup a=aT o/\o.cls=.type "list"/\o.dict=bY/\o.data=.seq its n/\its.size<=aX/\Vals xs its.toList
def SqT (K:ae)(H:Hp)(a:Addr)(xs:List V):Prop :=
 Rd H a (.tp xs) \/
  ∃(o:Obj) (its:yK) (n:Nat),K.lookup a=aT o/\o.cls=.type "tuple"/\o.data=.seq its n/\its.size<=aX/\Vals xs its.toList
noncomputable def cr9:Value->Option V
 | .none=>aT .N
 | .bool b=>aT (.T b)
 | .int i _=>aT (.int i)
 | .str x _=>aT (.str x)
 | .bytes b _=>aT (.byt b)
 | .float b _=>aT (.flt b)
 | .ref a=>aT (.ref a)
 | .type n=>aT (.ty n)
 | _=>bY
def RelV.abs (r:RelV x u):cr9 u=aT x:=by
 cases x with
 | N=>cases r;rfl
 | T _=>cases r;rfl
 | int _=>obtain⟨t,rfl⟩:=r;rfl
 | str _=>obtain⟨t,rfl⟩:=r;rfl
 | byt _=>obtain⟨t,rfl⟩:=r;rfl
 | flt _=>obtain⟨t,rfl⟩:=r;rfl
 | ref _=>cases r;rfl
 | ty _=>cases r;rfl
def RelV.inj (r:RelV x u)(q:RelV y u):x=y:=aM (r.abs.symm.trans q.abs)
theorem Vals.inj:∀ {z ys} {us:yH},Vals z us->Vals ys us->z=ys
 | _,_,_,.nil,.nil=>rfl
 | _,_,_,.cons r t,.cons r' t'=>by rw[r.inj r',Vals.inj t t']
section
variable {X:Cx} {pins:yA} {W:St} {H:Hp} {s:af} {a:Addr} {xs ys:List V}
def SqL.of {K}(h:H a=aT (.J xs)):SqL K H a xs:=.inl (.inl h)
def SqT.of {K}(h:H a=aT (.tp xs)):SqT K H a xs:=.inl (.inl h)
def Inv.list (I:Inv X pins W H s)(h:SqL X.K H a xs):∃ its,Vals xs its/\PlainL s.heap a its.toArray/\xs.length<=aX:=by
 rcases h with h|⟨o,its,n,hk,hc,hd,hs,hz,r⟩
 .obtain⟨z,its,n,r,e⟩:=h.ok I.hok;exact⟨its,r,⟨_,n,e,rfl,rfl,rfl⟩,z⟩
 .refine⟨its.toList,r,⟨o,n,I.kIn a o hk,hc,hd,by simpa using hs⟩,?_⟩;have e:=r.length;simp only[fR]at e;lia
def Inv.tuple (I:Inv X pins W H s)(h:SqT X.K H a xs):∃ its,Vals xs its/\IsTup s.heap a its.toArray/\xs.length<=aX:=by
 rcases h with h|⟨o,its,n,hk,hc,hs,hz,r⟩
 .obtain⟨z,its,r,p⟩:=h.ok I.hok;exact⟨its,r,p,z⟩
 .refine⟨its.toList,r,⟨o,I.kIn a o hk,hc,n,by simpa using hs⟩,?_⟩;have e:=r.length;simp only[fR]at e;omega
def Inv.list_inj (I:Inv X pins W H s)(h:SqL X.K H a xs)(h':SqL X.K H a ys):xs=ys:=by
 obtain⟨its,r,⟨o,n,e,_,_,d⟩,_⟩:=I.list h;obtain⟨its',r',⟨o',z,e',_,_,d'⟩,_⟩:=I.list h';rw[e]at e';cases e';rw[d]at d';injection d' with d1 _;have:=by simpa using congrArg jM d1
 subst this;exact r.inj r'
def Inv.tuple_inj (I:Inv X pins W H s)(h:SqT X.K H a xs)(h':SqT X.K H a ys):xs=ys:=by
 obtain⟨its,r,⟨o,e,_,n,d⟩,_⟩:=I.tuple h;obtain⟨its',r',⟨o',e',_,z,d'⟩,_⟩:=I.tuple h';rw[e]at e';cases e';rw[d]at d';injection d' with d1 _;have:=by simpa using congrArg jM d1
 subst this;exact r.inj r'
end
noncomputable abbrev Cx.wish (X:Cx)(E:yB):Cx:={ X with xe:=E }
noncomputable abbrev Cx.nox (X:Cx):Cx:=X.wish λ _ _=>False
theorem Cx.Ok.wish {X:Cx}(ok:X.Ok)(E:yB):(X.wish E).Ok :=
 ⟨ok.mod,ok.kind,ok.glob,ok.blt,ok.above,ok.inj,ok.has,ok.cab,ok.hd,ok.frames,ok.stk,ok.exf,ok.bs,ok.bsz,ok.noex,ok.exfs,ok.funs,ok.frf⟩
def Cx.Ok.unwish {X:Cx}(ok:(X.wish E).Ok):X.Ok :=
 ⟨ok.mod,ok.kind,ok.glob,ok.blt,ok.above,ok.inj,ok.has,ok.cab,ok.hd,ok.frames,ok.stk,ok.exf,ok.bs,ok.bsz,ok.noex,ok.exfs,ok.funs,ok.frf⟩
section
variable {X:Cx} {pins:yA} {W:St} {H:Hp} {s:af} {E:yB}
theorem Inv.wish (I:Inv X pins W H s)(E:yB):Inv (X.wish E) pins W H s:=⟨I.ok.wish E,I.os,I.bare,I.base,I.loc,I.cell,I.free,I.freeC,I.pin,I.hok,I.len⟩
theorem Inv.unwish (I:Inv (X.wish E) pins W H s):Inv X pins W H s:=⟨I.ok.unwish,I.os,I.bare,I.base,I.loc,I.cell,I.free,I.freeC,I.pin,I.hok,I.len⟩
theorem SP.unwish (h:SP (X.wish E) pins D f s'):SP X pins D f s':=by
 cases f with
 | next=>obtain⟨W',H',I,q⟩:=h;exact⟨W',H',I.unwish,q⟩
 | brk=>obtain⟨W',H',I,q⟩:=h;exact⟨W',H',I.unwish,q⟩
 | cont=>obtain⟨W',H',I,q⟩:=h;exact⟨W',H',I.unwish,q⟩
 | ret u=>obtain⟨v,W',H',I,r,q⟩:=h;exact⟨v,W',H',I.unwish,r,q⟩
theorem PT.nox (h:PT X.nox e t):PT X e t:=λ J s W H Q I hw =>
 bp (h J s W H Q (I.wish _) hw) (λ _ _ ⟨H',Y,q⟩=>⟨H',Y.unwish,q⟩) λ _ _ z=>bn z
theorem PSs.nox {st}(h:PSs X.nox st t):PSs X st t:=λ J s W H D I hw =>
 bp (h J s W H D (I.wish _) hw) (λ _ _ q=>q.unwish) λ _ _ z=>bn z
end
section
variable {X:Cx} {st:Stmt} {rest:yM} {t u:TS} {e:Expr} {te:TE} {pos:Pos}
def bQ1:TS:=λ D W H=>D.nx W H
noncomputable def cj4 (t u:TS):TS:=λ D W H=>t { D with nx:=u D } W H
def ay8:PSs X [] bQ1:=λ _ _ W H _ I h=>dM ⟨W,H,I,h⟩
set_option tactic.hygienic true in
def zC (J:PS X st t)(Y:PSs X rest u):PSs X (st::rest) (cj4 t u):=by
 intro z s W H D I h;refine kb (thn (J z s W H { D with nx:=u D } I h) λ f s1 q=>?_);cases f with
 | next =>
  obtain⟨W',H',Z,q⟩:=q;exact Y z s1 W' H' D Z q
 | ret v=>exact q
 | brk=>exact q
 | cont=>exact q
def aj9 (J:PS X st t):PSs X [st] t:=by
 intro z s W H D I h;refine kb (thn (J z s W H D I h) λ f s1 q=>?_);cases f with
 | next=>exact dM q
 | ret v=>exact q
 | brk=>exact q
 | cont=>exact q
def Inv.quiet {W:St}(I:Inv X z W H s):interactive X.env=false:=by simp[interactive,I.ok.kind]
def bU0 (te:TE):TS:=λ D W H=>te W H λ _ H1=>D.nx W H1
def aG3 (he:PE X e te)(hs:autoParam (eQ e bY pos.line X.env=pure dr) Zq4._auto_1):PS X (.Expr e pos) (bU0 te):=by
 intro z s W H D I h;exact wpAny_Expr_any (thn (he z s W H _ I h) λ v s1 ⟨x,Z,J,r1,Y⟩=>⟨W,Z,J,Y⟩) I.quiet hs
def co9 (te:TE):TS:=λ D W H=>te W H D.rt
def ar1 (he:PE X e te):PS X (.Return (aT e) pos) (co9 te):=by
 intro z s W H D I h;exact wpAny_Return_some (thn (he z s W H _ I h) λ v s1 ⟨x,Z,J,r1,Y⟩=>⟨x,W,Z,J,r1,Y⟩)
def co8 (c:TT)(t u:TS):TS:=λ D W H=>c W H λ b H1=>if b=ca then t D W H1 else u D W H1
def bp4 (hc:PT X c Z)(ha:PSs X a t)(hb:PSs X b u):PS X (.If c a b pos) (co8 Z t u):=by
 intro z s W H D I h;refine wpAny_If (thn (hc z s W H _ I h) λ d s1 ⟨H1,J,Y⟩=>?_);cases d with
 | true=>exact ha z s1 W H1 D J Y
 | false=>exact hb z s1 W H1 D J Y
def bx0:TS:=λ _ _ _=>False
def bp9:PS X st bx0:=λ _ _ _ _ _ _ h=>h.elim
def ai2 :PSs X z bx0:=λ _ _ _ _ _ _ h=>h.elim
end
abbrev TG:=V->St->Hp->(St->Hp->Prop)->Prop
abbrev TGs:=List V->St->Hp->(St->Hp->Prop)->Prop
def PG (X:Cx)(target:Expr)(t:TG):Prop :=
 ∀ pins s (W:St) H v u Q ,Inv X pins W H s->RelV v u->t v W H Q ->
  wpAny (model X.prog X.w) X.A (hV target X.env u) (λ _ s'=>∃ W' H',Inv X pins W' H' s'/\Q W' H') X.xe s
def PGs (X:Cx)(ts:yL)(t:TGs):Prop :=
 ∀ pins s (W:St) H vs (us:yH) Q ,Inv X pins W H s->Vals vs us->t vs W H Q ->
  wpAny (model X.prog X.w) X.A (assignInOrder ((c9 ts X.env).map (·.2)) us) (λ _ s'=>∃ W' H',Inv X pins W' H' s'/\Q W' H') X.xe s
abbrev cg0:=V->V->V->Hp->(Hp->Prop)->Prop
def cj0 (X:Cx)(t:cg0):Prop :=
 ∀ pins s (W:St) H o i v ov iv u Q ,Inv X pins W H s->RelV o ov->RelV i iv->RelV v u->t o i v H Q ->
  wpAny (model X.prog X.w) X.A (setItem ov iv u) (λ _ s'=>∃ H',Inv X pins W H' s'/\Q H') X.xe s
section
variable {X:Cx} {pos:Pos}
def aD1 (i:Nat):TG:=λ v W H Q=>Q (W.set i (aT v)) H
def aZ2 (hN:X.N.Nodup)(Y:X.N[i]?=aT x)(hx:Loc X.env.scope x)(Z:autoParam (X.fn x=ca\/X.env.scope.names.lookup x=aT .local) Zq0._auto_1):PG X (.Name x pos) (aD1 i):=by
 intro z s W H v u Q I r h;exact jN (an1 I hN Y hx r (λ s' J=>⟨_,H,J,h⟩) Z)
def cq6:TGs:=λ vs W H Q=>vs=[]/\Q W H
def bT2 (t:TG)(u:TGs):TGs:=λ vs W H Q=>∃ v r,vs=v::r/\t v W H λ W' H'=>u r W' H' Q
def bN4:PGs X [] cq6:=by
 intro z s W H vs us Q I r h;obtain⟨e,h⟩:=h;subst e;cases r;exact assignInOrder_nil ⟨W,H,I,h⟩
def bn3 (Y:PG X e t)(h2:PGs X es u)
  (hs:autoParam ((c9 (e::es) X.env).map (·.2)=hV e X.env::(c9 es X.env).map (·.2)) Zq4._auto_1):PGs X (e::es) (bT2 t u):=by
 intro z s W H vs us Q I r h;obtain⟨v,vr,e1,h⟩:=h;subst e1;cases r with
 | cons r rr =>
  rw[hs];refine assignInOrder_cons (thn (Y z s W H _ _ _ I r h) λ _ s1 ⟨W1,Z,I1,J⟩=>?_);exact h2 z s1 W1 Z _ _ Q I1 rr J
def cn1 (K:ae)(n:Nat)(t:TGs):TG:=λ v W H Q=>∃ a xs,v=.ref a/\SqT K H a xs/\xs.length=n/\t xs W H Q
def bR3 {k}(hc:X.calm=ca)(h:PGs X es t)
  (hn:autoParam ((c9 es X.env).length=n) Zq4._auto_1) (J:autoParam ((c9 es X.env).findIdx? (·.1)=bY) Zq4._auto_1):PG X (.Tuple es k pos) (cn1 X.K n t):=by
 intro z s W H v u Q I r hw;obtain⟨a,xs,e1,hq,hl,hw⟩:=hw;subst e1;cases r;obtain⟨its,Y,ht,hz⟩:=I.tuple hq;refine assign_Tuple_tuple (I.ok.hd hc) ht (by simp[hn,<-hl,Y.length]) J λ h' hx=>?_;have Z:=I.kept (t':=s.toks) λ b o e=>hx b o (aJ (aL e)) e;exact h z _ W H xs _ Q Z (by simpa using Y) hw
def cp0 (to ti:TE)(t:cg0):TG:=λ v W H Q=>to W H λ o H1=>ti W H1 λ i H2=>t o i v H2 λ H3=>Q W H3
def cb9 (ho:PE X o Y)(hi:PE X i Z)(hs:cj0 X t)
  (ha:autoParam (∀ v,hV (.Subscript o i pos) X.env v=(do
   let ov <- gu [v] (eval o X.env)
   let J <- gu [v,ov] (eval i X.env)
   jL pos
   gu [v,ov,J] (setItem ov J v)
   release [v,ov,J] [])) Zq3._auto_1):PG X (.Subscript o i pos) (cp0 Y Z t):=by
 intro z s W H v u Q I r h;rw[ha];refine ai (cF (thn (ho z s W H _ I h) λ ov s1 ⟨x,H1,I1,r1,q1⟩=>?_));refine ai (cF (thn (hi z s1 W H1 _ I1 q1) λ J s2 ⟨y,H2,I2,r2,q2⟩=>?_));refine ai (jr (ai (cF (thn (hs z s2 W H2 x y v ov J u _ I2 r1 r2 r q2) λ _ s3 ⟨H3,I3,q3⟩=>?_))));exact wpAny_release ⟨W,H3,I3,q3⟩
def bl4 (te:TE)(g:TG):TS:=λ D W H=>te W H λ x H1=>g x W H1 D.nx
def aY5 (he:PE X e J)(hg:PG X tg g)(hs:autoParam (swapsWithSole [tg] e pos.line X.env=pure dr) Zq4._auto_1)(hw:autoParam (gH [tg] e X.env=pure bY) Zq4._auto_1)
  (Y:autoParam ((c9 [tg] X.env).map (·.2)=[hV tg X.env]) Zq4._auto_1):PS X (.Assign [tg] e pos) (bl4 J g):=by
 intro z s W H D I h;refine wpAny_Assign_stores (thn (he z s W H _ I h) λ v s1 ⟨x,H1,Z,r1,q1⟩=>?_) hs hw;rw[Y];exact thn (hg z s1 W H1 x v _ Z r1 q1) λ _ s2 q=>q
def aL3 (hN:X.N.Nodup)(hi:X.N[i]?=aT x)(hx:Loc X.env.scope x)(he:PE X e Y)(hs:autoParam (eQ e (aT (.Name x z)) pos.line X.env=pure dr) Zq4._auto_1)(hf:autoParam (X.fn x=ca\/X.env.scope.names.lookup x=aT .local) Zq0._auto_1) :
  PS X (.Assign [.Name x z] e pos) (bl4 Y (aD1 i)):=by
 intro J s W H D I h;refine wpAny_Assign_Name (thn (he J s W H _ I h) λ v s1 ⟨y,H1,I1,r1,Z⟩=>?_) hs;exact an1 I1 hN hi hx r1 (λ s2 I2=>⟨_,H1,I2,Z⟩) hf
end
section
variable {X:Cx} {pos:Pos}
def bv6 (c:TT)(tb:TS):TS:=λ D W H=>∃ Ww:Nat->St->Hp->Prop,(∃ m,Ww m W H)/\∀ m W H,Ww m W H ->
 c W H λ b H1=>if b=ca then ∃ N,(∀ W' H',N W' H'->∃ m',m'<m/\Ww m' W' H')/\tb { D with nx:=N,ct:=N,bk:=D.nx } W H1 else D.nx W H1
set_option tactic.hygienic true in
def bs6 (hp:lN (model X.prog X.w) X.A X.env X.xe)(hc:PT X c tc)(hb:PSs X body tb):PS X (.While c body [] pos) (bv6 tc tb):=by
 intro z s W H D I h;obtain⟨Ww,⟨m0,w0⟩,turn⟩:=h;refine wpAny_While (codeAny_whileLoop (λ n s'=>∃ W' H',Inv X z W' H' s'/\Ww n W' H') ?_ m0 ⟨W,H,I,w0⟩)
 rintro n s1 ⟨W1,H1,I1,w1⟩
 refine dm hp (thn (hc z s1 W1 H1 _ I1 (turn n W1 H1 w1)) λ b s2 ⟨H2,I2,q2⟩=>?_);cases b with
 | true =>
  obtain⟨N,hN,q2⟩:=q2;rw[ij rfl];refine dm hp (thn (hb z s2 W1 H2 _ I2 q2) λ f s3 Y=>?_);cases f with
  | next =>
   obtain⟨W3,J,I3,Z⟩:=Y;obtain⟨m',hm,w3⟩:=hN W3 J Z;exact⟨m',hm,W3,J,I3,w3⟩
  | cont =>
   obtain⟨W3,J,I3,Z⟩:=Y;obtain⟨m',hm,w3⟩:=hN W3 J Z;exact⟨m',hm,W3,J,I3,w3⟩
  | brk=>exact Y
  | ret v=>exact Y
 | false =>
  rw[iF aF];exact dM ⟨W1,H2,I2,q2⟩
end
structure It where
 go:Nat->Hp->Prop
 yld:Nat->Hp->V->Hp->Prop
 stop:Nat->Hp->Prop
def FpOk (X:Cx)(pins:yA)(H:Hp)(b:Addr):Prop :=
 H b=bY/\b≠X.env.locals/\b ∉ X.fs/\(b∈X.ex\/X.s₀.heap.objs.size<=b)/\(∀ x c,X.env.cells.lookup x=aT c->c≠b)/\∀ p∈X.pn++pins,p.1≠b
def Inv.fpOk {W:St}{b:Addr}(I:Inv X J W H s)(hb:s.heap.objs.size<=b)(hn:H' b=bY):FpOk X J H' b:=by
 refine⟨hn,eV (aG I.lt hb),I.nofs hb,.inr (ak I.sz hb),λ x c e z=>?_,λ p hp z=>?_⟩
 .obtain⟨v,q⟩:=I.cell x c e;exact nc (aG q.lt (by rw[z];exact hb)) (bH _)
 .exact nc (aG (aL (I.pin p hp).1) (by rw[z];exact hb)) (bH _)
structure Turn (P:aD)(w:World)(K:ae)(tg:Expr)(J:It)(fp:List Addr)(it:Addr)(tn:Nat->Heap->Prop):Prop where
 mem:it∈fp
 obj:∀ i h,tn i h->∀ b∈fp,∃ o,h.get? b=aT o/\∀ v,o.data≠.cell v
 keep:∀ i h h',tn i h->(∀ b∈fp,∀ o,h.get? b=aT o->h'.get? b=aT o)->tn i h'
 item:∀(X:Cx),X.prog=P->X.w=w->X.K=K->X.calm=ca->∀(i:Nat) (pins:yA) (s:af) (W:St) (H:Hp) (E:yB),Inv X pins W H s->(∀ b∈fp,FpOk X pins H b)->tn i s.heap->J.go i H ->
  wpAny (model P w) X.A (iI (.ref it)) (λ r s1=>∃ u,r=aT u /\
   wpAny (model P w) X.A (fF tg (.ref it) u) (λ _ s2=>∃ x H',Inv X pins W H' s2/\RelV x u/\J.yld i H x H'/\tn (i+1) s2.heap/\∀ b∈fp,H' b=bY) E s1) E s
 done:∀(X:Cx),X.prog=P->X.w=w->X.K=K->X.calm=ca->∀(i:Nat) (pins:yA) (s:af) (W:St) (H:Hp) (E:yB),Inv X pins W H s->(∀ b∈fp,FpOk X pins H b)->tn i s.heap->J.stop i H ->
  wpAny (model P w) X.A (iI (.ref it)) (λ r s1=>r=bY/\Inv X pins W H s1) E s
 self:∀(A:aV) (i:Nat) (s:af) (Q:yB) (E:yB),tn i s.heap->Q (.ref it) s->wpAny (model P w) A (kR (.ref it)) Q E s
abbrev TI:=St->Hp->(It->Hp->Prop)->Prop
def PIE (X:Cx)(pins:yA)(W:St)(tg:Expr)(R:It->Hp->Prop)(itv:Value)(s2:af):Prop :=
 ∃(it:Addr) (fp:List Addr) (tn:Nat->Heap->Prop) (J:It) (H':Hp),itv=.ref it/\Inv X pins W H' s2/\Turn X.prog X.w X.K tg J fp it tn/\tn 0 s2.heap/\(∀ b∈fp,FpOk X pins H' b)/\R J H'
def PI (X:Cx)(tg iter:Expr)(wi:TI):Prop :=
 ∀ pins s (W:St) H R ,Inv X pins W H s->wi W H R ->
  wpAny (model X.prog X.w) X.A (eval iter X.env) (λ v s1=>wpAny (model X.prog X.w) X.A (kR v) (PIE X pins W tg R) X.xe s1) X.xe s
def aS7 (ho : s.heap.get? it = aT o) (hc : o.cls = .type n) (hd : o.data = .fields vs)
    (hn : ["enumerate", "zip", "dict_itemiterator", "dict_reverseitemiterator", "odict_iterator", "itertools.zip_longest", "itertools.pairwise"].contains n = dr) (hQ : Q () s) : wpAny M A (fF tg (.ref it) u) Q E s := by
  unfold fF;cases tg <;> first
    | exact aC hQ
    | (cases u <;> first
        | exact aC hQ
        | (refine ai (wpAny_load ho ?_)
           rw[hc, hd];show wpAny M A (if(["enumerate", "zip", "dict_itemiterator", "dict_reverseitemiterator", "odict_iterator", "itertools.zip_longest", "itertools.pairwise"].contains n && vs[0]? == aT (kS _)) = ca then _ else _) Q E s;rw[iF (by intro h; rw[hn, kT]at h; cases h)];exact aC hQ))
noncomputable def Itl (K:ae)(a:Addr):It :=
 ⟨λ i H=>∃ xs x,SqL K H a xs/\xs[i]?=aT x,λ i H x H'=>H'=H/\∀ xs,SqL K H a xs->xs[i]?=aT x,λ i H=>∃ xs,SqL K H a xs/\xs.length<=i⟩
noncomputable def Itt (K:ae)(a:Addr):It :=
 ⟨λ i H=>∃ xs x,SqT K H a xs/\xs[i]?=aT x,λ i H x H'=>H'=H/\∀ xs,SqT K H a xs->xs[i]?=aT x,λ i H=>∃ xs,SqT K H a xs/\xs.length<=i⟩
noncomputable def Itr (lo:Int)(n:Nat):It:=⟨λ i _=>i<n,λ i H x H'=>H'=H/\x=.int (lo+i),λ i _=>n<=i⟩
def bb0 {K} a it :Turn P w K tg (Itl K a) [it] it (λ i h=>h.IsListIter it a i) where
 mem:=by simp
 obj:=λ i h st b hb=>by
  have e:=by simpa using hb
  subst e;obtain⟨o,e,c,d⟩:=st;exact⟨o,e,λ v z=>by rw[d]at z;cases z⟩
 keep:=λ i h h' st k=>st.at λ o e=>k it (by simp) o e
 item:=by
  intro X hP hw hK hc i J s W H E I Z st hg;subst hP hw hK;obtain⟨xs,x,hq,hx⟩:=hg;obtain⟨its,rv,p,hz⟩:=I.list hq;obtain⟨u,hu,ru⟩:=rv.get hx;obtain⟨f0,f1,f2,f3,f4,f5⟩:=Z it (by simp);refine wpAny_pyNext_list_item st p.isList (by simpa using hu) λ h' Y sb=>?_;have I1:=I.turned (t':=s.toks) (λ b o hb e=>(sb.2 b hb).trans e) f0 f1 f3 f4 f5;obtain⟨o,e,c,d⟩:=id Y;exact⟨u,rfl,aS7 e c d (by decide) ⟨x,H,I1,ru,⟨rfl,λ ys hy=>by rw[I.list_inj hy hq];exact hx⟩,Y,λ b hb=>(Z b hb).1⟩⟩
 done:=by
  intro X hP hw hK hc i J s W H E I Z st hg;subst hP hw hK;obtain⟨xs,hq,hx⟩:=hg;obtain⟨its,rv,p,hz⟩:=I.list hq;obtain⟨f0,f1,f2,f3,f4,f5⟩:=Z it (by simp);have hl:=rv.length;exact wpAny_pyNext_list_end (I.ok.hd hc) st p.isList (by simp;lia) λ h' eb=>⟨rfl,I.turned (λ b o hb e=>eb b o hb e) f0 f1 f3 f4 f5⟩
 self:=λ _ _ _ _ _ st h=>wpAny_pyIter_listiter st h
def aT6 {K} a it :Turn P w K tg (Itt K a) [it] it (λ i h=>h.IsTupleIter it a i) where
 mem:=by simp
 obj:=λ i h st b hb=>by
  have e:=by simpa using hb
  subst e;obtain⟨o,e,c,d⟩:=st;exact⟨o,e,λ v z=>by rw[d]at z;cases z⟩
 keep:=λ i h h' st k=>st.at λ o e=>k it (by simp) o e
 item:=by
  intro X hP hw hK hc i J s W H E I Z st hg;subst hP hw hK;obtain⟨xs,x,hq,hx⟩:=hg;obtain⟨its,rv,p,hz⟩:=I.tuple hq;obtain⟨u,hu,ru⟩:=rv.get hx;obtain⟨f0,f1,f2,f3,f4,f5⟩:=Z it (by simp);refine wpAny_pyNext_tuple_item st (p) (by simpa using hu) λ h' Y sb=>?_;have I1:=I.turned (t':=s.toks) (λ b o hb e=>(sb.2 b hb).trans e) f0 f1 f3 f4 f5;obtain⟨o,e,c,d⟩:=id Y;exact⟨u,rfl,aS7 e c d (by decide) ⟨x,H,I1,ru,⟨rfl,λ ys hy=>by rw[I.tuple_inj hy hq];exact hx⟩,Y,λ b hb=>(Z b hb).1⟩⟩
 done:=by
  intro X hP hw hK hc i J s W H E I Z st hg;subst hP hw hK;obtain⟨xs,hq,hx⟩:=hg;obtain⟨its,rv,p,hz⟩:=I.tuple hq;obtain⟨f0,f1,f2,f3,f4,f5⟩:=Z it (by simp);have hl:=rv.length;exact wpAny_pyNext_tuple_end (I.ok.hd hc) st (p) (by simp;omega) λ h' eb=>⟨rfl,I.turned (λ b o hb e=>eb b o hb e) f0 f1 f3 f4 f5⟩
 self:=λ _ _ _ _ _ st h=>wpAny_pyIter_tupleiter st h
def aV1 {K} it Z n :Turn P w K tg (Itr Z n) [it] it (λ i h=>iJ h it (Z+(i)*1) ((n) - (i)) 1) where
 mem:=by simp
 obj:=λ i h st b hb=>by
  have e:=by simpa using hb
  subst e;exact⟨_,st,λ v z=>by
   have z':=z;cases z'⟩
 keep:=λ i h h' st k=>k it (by simp) _ st
 item:=by
  intro X hP hw hK hc i J s W H E I hf st hg;subst hP hw hK;obtain⟨f0,f1,f2,f3,f4,f5⟩:=hf it (by simp);have Ww:=mw (prog:=X.prog) (w:=X.w) (I.ok.hd hc) it Z 1 n;refine Ww.item i s _ _ hg st λ v h' tk hv Y kk=>?_;obtain⟨t,rfl⟩:=hv;have I1:Inv X J W H { s with heap:=h',toks:=tk }:=I.turned (λ b o hb e=>kk b o (by simpa using hb) e) f0 f1 f3 f4 f5;refine⟨_,rfl,aS7 Y rfl rfl (by decide) ⟨.int (Z+i),H,I1,⟨t,?_⟩,⟨rfl,rfl⟩,Y,λ b hb=>(hf b hb).1⟩⟩;rw[Int.mul_one]
 done:=by
  intro X hP hw hK hc i J s W H E I hf st hg;subst hP hw hK;obtain⟨f0,f1,f2,f3,f4,f5⟩:=hf it (by simp);exact hW (I.ok.hd hc) st (by have:n<=i:=hg;lia) λ h' eb=>⟨rfl,I.turned (λ b o hb e=>eb b o hb e) f0 f1 f3 f4 f5⟩
 self:=λ _ _ _ _ _ st h=>hX st h
section
variable {X:Cx} {tg:Expr}
def bD2 (K:ae)(tl:TE):TI:=λ W H R=>tl W H λ x H1=>∃ a,x=.ref a/\(∃ xs,SqL K H1 a xs)/\R (Itl K a) H1
def ck8 (K:ae)(tl:TE):TI:=λ W H R=>tl W H λ x H1=>∃ a,x=.ref a/\(∃ xs,SqT K H1 a xs)/\R (Itt K a) H1
def bL2 (hl:PE X l tl):PI X tg l (bD2 X.K tl):=by
 intro z s W H R I h;refine thn (hl z s W H _ I h) λ v s1 ⟨x,Z,J,r1,Y⟩=>?_;obtain⟨a,e,⟨xs,hq⟩,q⟩:=Y;subst e;cases r1;obtain⟨its,rv,p,hz⟩:=J.list hq;refine dq p.isList ?_;refine⟨s1.heap.objs.size,[s1.heap.objs.size],_,_,Z,rfl,J.kept λ b o e=>am _ e,bb0 a _,⟨_,aR _ rfl,rfl,rfl⟩,λ b hb=>?_,q⟩;have e:=by simpa using hb
 subst e;exact J.fpOk (al _) (J.hok.fresh (al _))
def bV4 (hl:PE X l tl):PI X tg l (ck8 X.K tl):=by
 intro z s W H R I h;refine thn (hl z s W H _ I h) λ v s1 ⟨x,Z,J,r1,Y⟩=>?_;obtain⟨a,e,⟨xs,hq⟩,q⟩:=Y;subst e;cases r1;obtain⟨its,rv,p,hz⟩:=J.tuple hq;refine wpAny_pyIter_tuple (p) ?_;refine⟨s1.heap.objs.size,[s1.heap.objs.size],_,_,Z,rfl,J.kept λ b o e=>am _ e,aT6 a _,⟨_,aR _ rfl,rfl,rfl⟩,λ b hb=>?_,q⟩;have e:=by simpa using hb
 subst e;exact J.fpOk (al _) (J.hok.fresh (al _))
def br5 {W:St}{E:yB}(I:Inv X Y W H s)(h1:-(2^62)<=z)(h2:z<2^62)(h3:-(2^62)<=J)(h4:J<2^62)
  (q:R (Itr z (J - z).toNat) H):wpAny (model X.prog X.w) X.A (kR (.ref s.heap.objs.size)) (PIE X Y W tg R) E { s with heap:=s.heap.push { cls:=.type "range",data:=.fields #[.int z t,.int J u,.int 1 v] },toks:=tk }:=by
 refine jx (my ..) (small_one h1 h2 h3 h4) ?_;have Z:Inv X Y W H { s with heap:=s.heap.push { cls:=.type "range",data:=.fields #[.int z t,.int J u,.int 1 v] },toks:=tk }:=I.kept λ b o e=>am _ e;refine⟨(s.heap.push { cls:=.type "range",data:=.fields #[.int z t,.int J u,.int 1 v] }).objs.size,[(s.heap.push { cls:=.type "range",data:=.fields #[.int z t,.int J u,.int 1 v] }).objs.size],_,_,H,rfl,
  Z.kept (t':=tk) λ b o e=>am _ e,aV1 _ z (J - z).toNat,?_,λ b hb=>?_,q⟩
 .have e1:z+((0:Nat):Int)*1=z:=by simp
  have e2:(((J - z).toNat:Nat):Int) - ((0:Nat):Int)=dy z J 1:=by rw[rangeSize_one];split<;>lia
  show iJ _ _ (z+((0:Nat):Int)*1) ((((J - z).toNat:Nat):Int) - ((0:Nat):Int)) 1;rw[e1,e2];exact aR _ rfl
 .have e:b=(s.heap.push { cls:=.type "range",data:=.fields #[.int z t,.int J u,.int 1 v] }).objs.size:=by simpa using hb
  subst e;exact Z.fpOk (al _) (Z.hok.fresh (al _))
def bP4 (ta:TA):TI:=λ W H R=>ta W H λ vs H1=>∃ j,vs=[.int j]/\-(2^62)<=j/\j<2^62/\R (Itr 0 j.toNat) H1
def bg4 (hg:Gl X "range")(hm:X.mg "range"=bY)(ha:PA X [a] Y)(hs:autoParam (bf [a] X.env=[(dr,eval a X.env)]) Zq4._auto_1):PI X tg (.Call (.Name "range" p) [a] [] pos) (bP4 Y):=by
 intro z s W H R I h;refine Call_ (aq9 I hg hm boot_range (cP (thn (ha pos z s W H _ I h) λ us s1 ⟨vs,H1,Z,r1,J⟩=>?_) hs rfl));obtain⟨j,e,J,q2,q⟩:=J;subst e;cases r1 with
 | cons r rr =>
  cases rr;obtain⟨t,rfl⟩:=r;exact call_range_1 (br5 Z (by lia) (by lia) J q2 (by simpa using q))
def co3 (wi:TI)(g:TG)(tb:TS):TS:=λ D W H=>wi W H λ J H1=>∃ Ww:Nat->Nat->St->Hp->Prop,(∃ m,Ww 0 m W H1)/\∀ i m W H,Ww i m W H ->
 (J.stop i H/\D.nx W H)\/(J.go i H/\∃ N,(∀ W' H',N W' H'->∃ m',m'<m/\Ww (i+1) m' W' H')/\∀ x H',J.yld i H x H'->g x W H' λ W2 H2=>tb { D with nx:=N,ct:=N,bk:=D.nx } W2 H2)
noncomputable def aD7 (fp:List Addr)(h:Heap):List (Addr×Obj):=fp.filterMap λ b=>(h.get? b).map λ o=>(b,o)
def qO (hb:b∈z)(e:h.get? b=aT o):(b,o)∈aD7 z h:=eO.mpr ⟨b,hb,by rw[e];rfl⟩
def bf7 (hp:p∈aD7 z h):p.1∈z/\h.get? p.1=aT p.2:=by
 obtain⟨b,hb,e⟩:=eO.mp hp;cases q:h.get? b with
 | none=>rw[q]at e;cases e
 | some o =>
  rw[q]at e;have e':=aM e;subst e';exact⟨hb,q⟩
def Inv.pinned {W:St}(I:Inv X J W H s)(hf:∀ b∈Y,FpOk X J H b)(ho:∀ b∈Y,∃ o,s.heap.get? b=aT o/\∀ v,o.data≠.cell v):Inv X (J++aD7 Y s.heap) W H s :=
 I.pins_of λ p hp=>(aE.mp hp).elim (λ z=>I.pin p (aO _ z)) λ z=>by
  obtain⟨hb,e⟩:=bf7 z;obtain⟨f0,Z,f2,_⟩:=hf p.1 hb;obtain⟨o,e',d⟩:=ho p.1 hb;rw[e]at e';cases e';exact⟨e,f0,Z,f2,d⟩
def Inv.unpinned {W:St}(I:Inv X (z++pl) W H s):Inv X z W H s:=I.pins_of λ p hp=>I.pin p (aO _ (bT _ hp))
def bY6 (hp:lN (model X.prog X.w) X.A X.env X.xe)(hc:X.calm=ca)(hi:PI X tg iter wi)(hg:PG X tg g)(hb:PSs X body tb)
  (hs:autoParam (∀ x,dX iter X.env x=pure x) Zq3._auto_1):PS X (.For tg iter body [] pos) (co3 wi g tb):=by
 intro z s W H D I h;refine wpAny_For (thn (hi z s W H _ I h) λ v s1 h1=>thn h1 λ a6 s2 h2=>?_) hs;obtain⟨it,fp,tn,J,H2,e,I2,T,a3,f2,Ww,⟨m0,w0⟩,turn⟩:=h2;subst e;have Z:∀ {H'},(∀ b∈fp,H' b=bY)->∀ b∈fp,FpOk X z H' b:=λ hn b hb=>⟨hn b hb,(f2 b hb).2⟩
 refine codeAny_forLoop_any (λ n s'=>∃ i W' H',Inv X z W' H' s'/\tn i s'.heap/\(∀ b∈fp,H' b=bY)/\Ww i n W' H') ?_ m0 ⟨0,W,H2,I2,a3,λ b hb=>(f2 b hb).1,w0⟩
 rintro n s3 ⟨i,W3,H3,I3,a2,a1,w3⟩
 rcases turn i n W3 H3 w3 with⟨stop,qn⟩|⟨go,N,hN,step⟩
 .refine dm hp (thn (T.done X rfl rfl rfl hc i z s3 W3 H3 X.xe I3 (Z a1) a2 stop) λ r s4 ⟨hr,I4⟩=>?_);subst hr;exact dM ⟨W3,H3,I4,qn⟩
 .refine dm hp (thn (T.item X rfl rfl rfl hc i z s3 W3 H3 X.xe I3 (Z a1) a2 go) λ r s4 ⟨u,hr,h4⟩=>?_);subst hr;refine dm hp (thn h4 λ _ s5 ⟨x,H5,I5,r5,y5,a0,a5⟩=>?_);have a4:=I5.pinned (Z a5) (T.obj _ _ a0);refine dm hp (thn (hg _ s5 W3 H5 x u _ a4 r5 (step x H5 y5)) λ _ s6 ⟨W6,H6,I6,q6⟩=>?_);refine dm hp (thn (hb _ s6 W6 H6 _ I6 q6) λ f s7 q7=>?_);have again:∀ {W7} {Y},Inv X (z++aD7 fp s5.heap) W7 Y s7->N W7 Y->∃ m,m<n/\∃ i W' H',Inv X z W' H' s7/\tn i s7.heap/\(∀ b∈fp,H' b=bY)/\Ww i m W' H':=λ {W7 Y} I7 n7=>by
   obtain⟨m',hm,w7⟩:=hN W7 Y n7;refine⟨m',hm,i+1,W7,Y,I7.unpinned,T.keep _ _ _ a0 λ b hb o e=>(I7.pin (b,o) (aO _ (aO _ (qO hb e)))).1,λ b hb=>?_,w7⟩;obtain⟨o,e,d⟩:=T.obj _ _ a0 b hb;exact(I7.pin (b,o) (aO _ (aO _ (qO hb e)))).2.1
  cases f with
  | next=>obtain⟨W7,Y,I7,n7⟩:=q7;exact again I7 n7
  | cont=>obtain⟨W7,Y,I7,n7⟩:=q7;exact again I7 n7
  | brk=>obtain⟨W7,Y,I7,q7⟩:=q7;exact⟨W7,Y,I7.unpinned,q7⟩
  | ret v=>obtain⟨x7,W7,Y,I7,r7,q7⟩:=q7;exact⟨x7,W7,Y,I7.unpinned,r7,q7⟩
end
abbrev R2:=V->V->Hp->VK->Prop
def OpR (X:Cx)(f:Value->Value->Sem Value)(r:R2):Prop :=
 ∀ pins s (W:St) H x y v u Q ,Inv X pins W H s->RelV x v->RelV y u->r x y H Q ->
  wpAny (model X.prog X.w) X.A (f v u) (EP X pins W Q) X.xe s
def UnR (X:Cx)(f:Value->Sem Value)(r:V->Hp->VK->Prop):Prop :=
 ∀ pins s (W:St) H x v Q ,Inv X pins W H s->RelV x v->r x H Q ->
  wpAny (model X.prog X.w) X.A (f v) (EP X pins W Q) X.xe s
def ac4 (X:Cx)(f:Value)(r:List V->Hp->VK->Prop):Prop :=
 ∀ pins s (W:St) H xs (us:yH) Q ,Inv X pins W H s->Vals xs us->r xs H Q ->
  wpAny (model X.prog X.w) X.A (call f us) (EP X pins W Q) X.xe s
def tOp (r:R2)(ta tb:TE):TE:=λ W H Q=>ta W H λ x H1=>tb W H1 λ y H2=>r x y H2 Q
def tUn (r:V->Hp->VK->Prop)(ta:TE):TE:=λ W H Q=>ta W H λ x H1=>r x H1 Q
def rI (Cc:Int->Int->Prop)(g:Int->Int->V):R2:=λ x y H Q=>∃ i j,x=.int i/\y=.int j/\Cc i j/\Q (g i j) H
def rI0 (g:Int->Int->V):R2:=λ x y H Q=>∃ i j,x=.int i/\y=.int j/\Q (g i j) H
def rU (g:Int->V):V->Hp->VK->Prop:=λ x H Q=>∃ i,x=.int i/\Q (g i) H
section
variable {X:Cx} {a b c:Expr} {ta tb tc:TE} {pos:Pos}
def cg8 (ha:PE X a ta)(hb:PE X b tb){W:St}{R:V->V->Hp->Prop}(I:Inv X z W H s)
  (h:ta W H λ x Y=>tb W Y λ y J=>R x y J) {Q:yB} {f:Value->Value->Sem Value}
  (hf:∀ v u s2 x y J,Inv X z W J s2->RelV x v->RelV y u->R x y J->wpAny (model X.prog X.w) X.A (f v u) Q X.xe s2) :
  wpAny (model X.prog X.w) X.A (eval a X.env) (λ v s₁=>wpAny (model X.prog X.w) X.A (eval b X.env) (λ u s₂=>wpAny (model X.prog X.w) X.A (f v u) Q X.xe s₂) X.xe s₁) X.xe s:=by
 refine thn (ha z s W H _ I h) λ v s1 ⟨x,Y,I1,r1,q1⟩=>?_;refine thn (hb z s1 W Y _ I1 q1) λ u s2 ⟨y,J,I2,Z,q2⟩=>?_;exact hf v u s2 x y J I2 r1 Z q2
def bY4 (ho:OpR X (dz op) r)(ha:PE X a ta)(hb:PE X b tb):PE X (.BinOp a op b pos) (tOp r ta tb):=by
 intro z s W H Q I h;exact wpAny_BinOp (cg8 ha hb I h λ v u s2 x y J Z Y ry q=>ho z s2 W J x y v u Q Z Y ry q)
def bX6 (ho:UnR X (unaryOp op) r)(ha:PE X a ta):PE X (.UnaryOp op a pos) (tUn r ta):=by
 intro z s W H Q I h;exact UnaryOp_ (thn (ha z s W H _ I h) λ v s1 ⟨x,Z,J,r1,Y⟩=>ho z s1 W Z x v Q J r1 Y)
def opI {g:Int->Int->Int}
  (rule:∀(i j:Int) (t u:Tok) (s:af) (Q:yB) (E:yB),Cc i j->Q (.int (g i j) s.toks) { s with toks:=s.toks+1 }->wpAny (model X.prog X.w) X.A (f (.int i t) (.int j u)) Q E s) :
  OpR X f (rI Cc λ i j=>.int (g i j)):=by
 intro z s W H x y v u Q I Y J h;obtain⟨i,j,rfl,rfl,hc,q⟩:=h;obtain⟨t,rfl⟩:=Y;obtain⟨t',rfl⟩:=J;exact rule i j t t' s _ _ hc ⟨.int (g i j),H,I.tok _,⟨_,rfl⟩,q⟩
def ci8 {g:Int->Int->Int}
  (rule:∀(i j:Int) (t u:Tok) (s:af) (Q:yB) (E:yB),Q (.int (g i j) s.toks) { s with toks:=s.toks+1 }->wpAny (model X.prog X.w) X.A (f (.int i t) (.int j u)) Q E s) :
  OpR X f (rI0 λ i j=>.int (g i j)):=by
 intro z s W H x y v u Q I Y J h;obtain⟨i,j,rfl,rfl,q⟩:=h;obtain⟨t,rfl⟩:=Y;obtain⟨t',rfl⟩:=J;exact rule i j t t' s _ _ ⟨.int (g i j),H,I.tok _,⟨_,rfl⟩,q⟩
def cj8 {g:Int->Int->Bool}
  (rule:∀(i j:Int) (t u:Tok) (s:af) (Q:yB) (E:yB),Q (.bool (g i j)) s->wpAny (model X.prog X.w) X.A (f (.int i t) (.int j u)) Q E s) :
  OpR X f (rI0 λ i j=>.T (g i j)):=by
 intro z s W H x y v u Q I Y J h;obtain⟨i,j,rfl,rfl,q⟩:=h;obtain⟨t,rfl⟩:=Y;obtain⟨t',rfl⟩:=J;exact rule i j t t' s _ _ ⟨.T (g i j),H,I,rfl,q⟩
def cr6 (i j:Int):Prop:=0<=j/\j<=1000000/\i.natAbs<2^64
def cf9 (i j:Int):Prop:=(-(2^64)<i/\i<2^64)\/(-(2^64)<j/\j<2^64)
def cf9.ok (h:cf9 i j):IntMulOk i j:=by
 rcases h with⟨z,J⟩|⟨z,J⟩
 .exact .of_left (intBits_le_64 z J)
 .exact .of_right (intBits_le_64 z J)
def aS0 k :(0:Int)<=2^k:=by
 rw[two_pow_cast];exact db _
def ca4:OpR X (dz .Add) (rI0 λ i j=>.int (i+j)):=ci8 λ _ _ _ _ _ _ _ q=>add_int q
def cc6:OpR X (dz .Sub) (rI0 λ i j=>.int (i - j)):=ci8 λ _ _ _ _ _ _ _ q=>sub_int q
def cb2:OpR X (dz .Mod) (rI (λ _ j=>0<j) λ i j=>.int (i % j)):=opI λ i j _ _ _ _ _ hc q=>by
 have z:=hc;exact mod_int' (by lia) (by rw[Int.fmod_eq_emod_of_nonneg i (by lia)];exact q)
def bX4:OpR X (dz .Pow) (rI cr6 λ i j=>.int (i^j.toNat)):=opI λ _ _ _ _ _ _ _ hc q=>pow_int_small hc.1 hc.2.1 hc.2.2 q
def bQ4:OpR X (dz .RShift) (rI (λ _ j=>0<=j) λ i j=>.int (i / 2^j.toNat)):=opI λ i j _ _ _ _ _ hc q =>
 rshift_int hc (by rw[gc i (aS0 _)];exact q)
def cj6:OpR X (dz .BitOr) (rI0 λ i j=>.int (gI i j)):=ci8 λ _ _ _ _ _ _ _ q=>or_int q
def unI {g:Int->Int}
  (rule:∀(i:Int) (t:Tok) (s:af) (Q:yB) (E:yB),Q (.int (g i) s.toks) { s with toks:=s.toks+1 }->wpAny (model X.prog X.w) X.A (f (.int i t)) Q E s) :
  UnR X f (rU λ i=>.int (g i)):=by
 intro z s W H x v Q I J h;obtain⟨i,rfl,q⟩:=h;obtain⟨t,rfl⟩:=J;exact rule i t s _ _ ⟨.int (g i),H,I.tok _,⟨_,rfl⟩,q⟩
def by9:UnR X (unaryOp .USub) (rU λ i=>.int (-i)):=unI λ _ _ _ _ _ q=>neg_int q
end
noncomputable def co0:V->V->Bool
 | .N,.N=>ca|.N,.int _=>ca|.int _,.N=>ca|.N,.T _=>ca|.T _,.N=>ca|.N,.str _=>ca|.str _,.N=>ca
 | .int _,.int _=>ca|.T _,.T _=>ca|.str _,.str _=>ca|.byt _,.byt _=>ca
 | .int _,.str _=>ca|.str _,.int _=>ca|.T _,.str _=>ca|.str _,.T _=>ca
 | _,_=>dr
def rEq:R2:=λ x y H Q=>co0 x y=ca/\Q (.T (decide (x=y))) H
def rNe:R2:=λ x y H Q=>co0 x y=ca/\Q (.T (!decide (x=y))) H
def aK6 :decide (V.int i=V.int j)=(i==j):=by
 rw[cC];simp
def bv3 :decide (V.T i=V.T j)=(i==j):=by
 rw[cC];simp
def bh3 :decide (V.str i=V.str j)=(i==j):=by
 rw[cC];simp
def bi5 :decide (V.byt i=V.byt j)=(i.toList==j.toList):=by
 rw[cC];cases i;cases j;simp
section
variable {X:Cx} {a b c:Expr} {ta tb tc:TE} {pos:Pos}
def zt {W:St}(I:Inv X z W H s)(q:Q (.T k) H)(e:k=J):EP X z W Q (.bool J) s:=by
 subst e;exact⟨.T k,H,I,rfl,q⟩
def cm6:OpR X (cY .Eq) rEq:=by
 intro Y s W H x y v u Q I J z h;obtain⟨hs,q⟩:=h;cases x with
 | N =>
  cases J;cases y with
  | N=>cases z;exact PySem.EqNone.eq_none_none (zt I q (by simp))
  | T j=>cases z;exact PySem.EqNone.eq_none_bool (zt I q (by simp))
  | int j=>obtain⟨t',rfl⟩:=z;exact PySem.EqNone.eq_none_int (zt I q (by simp))
  | str j=>obtain⟨t',rfl⟩:=z;exact PySem.EqNone.eq_none_str (zt I q (by simp))
  | _=>exact nc (hs) aF
 | T i =>
  cases J;cases y with
  | N=>cases z;exact PySem.EqNone.eq_bool_none (zt I q (by simp))
  | T j=>cases z;exact eq_bool (zt I q bv3)
  | str j=>obtain⟨t',rfl⟩:=z;exact li (zt I q (by simp))
  | _=>exact nc (hs) aF
 | int i =>
  obtain⟨t,rfl⟩:=J;cases y with
  | N=>cases z;exact PySem.EqNone.eq_int_none (zt I q (by simp))
  | int j=>obtain⟨t',rfl⟩:=z;exact eq_int (zt I q aK6)
  | str j=>obtain⟨t',rfl⟩:=z;exact ly (zt I q (by simp))
  | _=>exact nc (hs) aF
 | str i =>
  obtain⟨t,rfl⟩:=J;cases y with
  | N=>cases z;exact PySem.EqNone.eq_str_none (zt I q (by simp))
  | T j=>cases z;exact lj (zt I q (by simp))
  | int j=>obtain⟨t',rfl⟩:=z;exact lz (zt I q (by simp))
  | str j=>obtain⟨t',rfl⟩:=z;exact eq_str (zt I q bh3)
  | _=>exact nc (hs) aF
 | byt i =>
  obtain⟨t,rfl⟩:=J;cases y with
  | byt j=>obtain⟨t',rfl⟩:=z;exact PySem.W.eq_bytes (zt I q bi5)
  | _=>exact nc (hs) aF
 | _=>cases y<;>exact nc (hs) aF
def cg7:OpR X (cY .NotEq) rNe:=by
 intro Y s W H x y v u Q I J z h;obtain⟨hs,q⟩:=h;cases x with
 | N =>
  cases J;cases y with
  | N=>cases z;exact PySem.EqNone.ne_none_none (zt I q (by simp))
  | T j=>cases z;exact PySem.EqNone.ne_none_bool (zt I q (by simp))
  | int j=>obtain⟨t',rfl⟩:=z;exact PySem.EqNone.ne_none_int (zt I q (by simp))
  | str j=>obtain⟨t',rfl⟩:=z;exact PySem.EqNone.ne_none_str (zt I q (by simp))
  | _=>exact nc (hs) aF
 | T i =>
  cases J;cases y with
  | N=>cases z;exact PySem.EqNone.ne_bool_none (zt I q (by simp))
  | T j=>cases z;exact ne_bool (zt I q (congrArg not bv3))
  | str j=>obtain⟨t',rfl⟩:=z;exact lp (zt I q (by simp))
  | _=>exact nc (hs) aF
 | int i =>
  obtain⟨t,rfl⟩:=J;cases y with
  | N=>cases z;exact PySem.EqNone.ne_int_none (zt I q (by simp))
  | int j=>obtain⟨t',rfl⟩:=z;exact ne_int (zt I q (congrArg not aK6))
  | str j=>obtain⟨t',rfl⟩:=z;exact lC (zt I q (by simp))
  | _=>exact nc (hs) aF
 | str i =>
  obtain⟨t,rfl⟩:=J;cases y with
  | N=>cases z;exact PySem.EqNone.ne_str_none (zt I q (by simp))
  | T j=>cases z;exact lq (zt I q (by simp))
  | int j=>obtain⟨t',rfl⟩:=z;exact lD (zt I q (by simp))
  | str j=>obtain⟨t',rfl⟩:=z;exact ne_str (zt I q (congrArg not bh3))
  | _=>exact nc (hs) aF
 | byt i =>
  obtain⟨t,rfl⟩:=J;cases y with
  | byt j=>obtain⟨t',rfl⟩:=z;exact PySem.W.ne_bytes (zt I q (congrArg not bi5))
  | _=>exact nc (hs) aF
 | _=>cases y<;>exact nc (hs) aF
def cm8:OpR X (cY .Lt) (rI0 λ i j=>.T (decide (i<j))):=cj8 λ _ _ _ _ _ _ _ q=>lt_int q
def ci1:OpR X (cY .LtE) (rI0 λ i j=>.T (decide (i<=j))):=cj8 λ _ _ _ _ _ _ _ q=>le_int q
def ch8:OpR X (cY .Gt) (rI0 λ i j=>.T (decide (j<i))):=cj8 λ _ _ _ _ _ _ _ q=>gt_int q
def aV8 (ho:OpR X (cY op) r)(ha:PE X a ta)(hb:PE X b tb)(hm:dv op b=dr):PE X (.Compare a [op] [b] pos) (tOp r ta tb):=by
 intro z s W H Q I h;exact wpAny_Compare1 (cg8 ha hb I h λ v u s2 x y J Z Y ry q=>ho z s2 W J x y v u Q Z Y ry q) hm
def bI4 (t:TE):TT:=λ W H Q=>t W H λ x H'=>∃ k,x=.T k/\Q k H'
def be6 (ho:OpR X (cY op) r)(ha:PE X a ta)(hb:PE X b tb)(hm:dv op b=dr):PT X (.Compare a [op] [b] pos) (bI4 (tOp r ta tb)):=by
 intro J s W H Q I h;refine iA (thn (ha J s W H _ I h) λ v s1 ⟨x,H1,I1,r1,Z⟩=>thn (hb J s1 W H1 _ I1 Z) λ u s2 ⟨y,H2,I2,Y,q2⟩ =>
  thn (ho J s2 W H2 x y v u _ I2 r1 Y q2) λ c s3 ⟨z,H3,I3,r3,k,e,q3⟩=>?_) hm
 subst e;cases r3;exact bQ ⟨H3,I3,q3⟩
def bf8 (r r':R2)(ta tb tc:TE):TE:=λ W H Q=>ta W H λ x H1=>tb W H1 λ y H2=>r x y H2 λ z H3=>∃ k,z=.T k /\
 (if k=ca then tc W H3 λ w' H4=>r' y w' H4 Q else Q (.T dr) H3)
def bt4 (ho:OpR X (cY op) r)(Z:OpR X (cY Y) r')(ha:PE X a ta)(hb:PE X b tb)(hc:PE X c tc)
  (hm:autoParam (lO [op,Y] [b,c]=dr) Zq5._auto_1):PE X (.Compare a [op,Y] [b,c] pos) (bf8 r r' ta tb tc):=by
 intro J s W H Q I h;refine Compare_chain (thn (ha J s W H _ I h) λ v s1 ⟨x,H1,I1,r1,q1⟩=>chain_link (thn (hb J s1 W H1 _ I1 q1) λ u s2 ⟨y,H2,I2,r2,q2⟩ =>
  thn (ho J s2 W H2 x y v u _ I2 r1 r2 q2) λ d s3 ⟨z,H3,I3,r3,k,e,q3⟩=>?_)) hm
 subst e;cases r3;refine bQ ?_;cases k with
 | false=>exact ite_ff ⟨.T dr,H3,I3,rfl,q3⟩
 | true=>exact ite_tt (chain_last (thn (hc J s3 W H3 _ I3 q3) λ w' s4 ⟨z',H4,I4,r4,q4⟩=>Z J s4 W H4 y z' u w' Q I4 r2 r4 q4))
def br8 (ho:OpR X (cY op) r)(Z:OpR X (cY Y) r')(ha:PE X a ta)(hb:PE X b tb)(hc:PE X c tc)
  (hm:autoParam (lO [op,Y] [b,c]=dr) Zq5._auto_1):PT X (.Compare a [op,Y] [b,c] pos) (bI4 (bf8 r r' ta tb tc)):=by
 intro J s W H Q I h;refine isTrue_chain (thn (ha J s W H _ I h) λ v s1 ⟨x,H1,I1,r1,q1⟩=>test_link (thn (hb J s1 W H1 _ I1 q1) λ u s2 ⟨y,H2,I2,r2,q2⟩ =>
  thn (ho J s2 W H2 x y v u _ I2 r1 r2 q2) λ d s3 ⟨z,H3,I3,r3,k,e,q3⟩=>?_)) hm
 subst e;cases r3;refine bQ ?_;cases k with
 | false =>
  obtain⟨k',e',q'⟩:=q3;cases e';exact ite_ff ⟨H3,I3,q'⟩
 | true =>
  refine ite_tt (test_last (thn (hc J s3 W H3 _ I3 q3) λ w' s4 ⟨z',H4,I4,r4,q4⟩=>thn (Z J s4 W H4 y z' u w' _ I4 r2 r4 q4) λ d' s5 ⟨z2,H5,I5,r5,k2,e2,q5⟩=>?_));subst e2;cases r5;exact bQ ⟨H5,I5,q5⟩
def au8:(aX)<2^63:=by rw[dZ];decide
def aT3:OpR X (dz .Add) (λ x y H Q=>∃ i j,x=.str i/\y=.str j/\i.length+j.length<=aX/\Q (.str (i++j)) H):=by
 intro z s W H x y v u Q I J Y h;obtain⟨i,j,rfl,rfl,hz,q⟩:=h;obtain⟨t,rfl⟩:=J;obtain⟨t',rfl⟩:=Y;exact add_str (λ t' tk=>⟨.str (i++j),H,I.tok _,⟨_,rfl⟩,q⟩) hz
def qI {us:yH}(r:Vals [x] us):∃ u,us=[u]/\RelV x u:=by
 cases r with
 | cons r1 r2=>cases r2;exact⟨_,rfl,r1⟩
def bm5 {us:yH}(r:Vals [x,y] us):∃ u w',us=[u,w']/\RelV x u/\RelV y w':=by
 cases r with
 | cons r1 r2 =>
  cases r2 with
  | cons r3 r4=>cases r4;exact⟨_,_,rfl,r1,r3⟩
def bn0:ac4 X (.builtin "abs") (λ z H Q=>∃ i,z=[.int i]/\Q (.int (if i<0 then -i else i)) H):=by
 intro J s W H z us Q I r h;obtain⟨i,rfl,q⟩:=h;obtain⟨u,rfl,t,rfl⟩:=qI r;exact call_abs_int λ u tk=>⟨.int (if i<0 then -i else i),H,I.tok _,⟨_,rfl⟩,q⟩
def aX5 (hc:X.calm=ca):ac4 X (.builtin "min") (λ z H Q=>∃ i j,z=[.int i,.int j]/\Q (.int (if j<i then j else i)) H):=by
 intro J s W H z us Q I r h;obtain⟨i,j,rfl,q⟩:=h;obtain⟨u,w',rfl,⟨t,rfl⟩,⟨t',rfl⟩⟩:=bm5 r;refine min_two_ints (I.ok.hd hc) λ h' tk k=>⟨_,H,I.kept k,?_,q⟩
 by_cases hj:j<i
 .rw[ij hj,ij hj];exact⟨_,rfl⟩
 .rw[iF hj,iF hj];exact⟨_,rfl⟩
def aZ1:ac4 X (.type "int") (λ z H Q=>(∃ i,z=[.int i]/\Q (.int i) H)\/∃ k,z=[.T k]/\Q (.int (if k then 1 else 0)) H):=by
 intro J s W H z us Q I r h;rcases h with⟨i,rfl,q⟩|⟨k,rfl,q⟩
 .obtain⟨u,rfl,t,rfl⟩:=qI r;exact call_int_int ⟨.int i,H,I,⟨_,rfl⟩,q⟩
 .obtain⟨u,rfl,r1⟩:=qI r;cases r1;exact call_int_bool ⟨.int (if k then 1 else 0),H,I.tok _,⟨_,rfl⟩,q⟩
end
structure ObjM (h:Heap)(x dx Cc:Addr)(mA:yD):Prop where
 obj:h.get? x=aT (cN Cc dx)
 ns:h.Ns1 dx mA
 ne:dx≠x
set_option tactic.hygienic true in
def be1 {h:Heap}{Y:yD}(n:h.Ns1 Z Y):∃ od,h.get? Z=aT od/\∀ name,gd name od=aT (Y name):=by
 obtain⟨o,es,ep,ho,hd,hk,_,hm⟩:=n;refine⟨o,ho,λ name=>?_⟩;have e:=hm name;unfold nsFind findBy at e;rw[<-Array.find?_toList]at e;unfold gd;rw[hd];dsimp only;split
 .rename_i y q;rw[q]at e;exact congrArg aT e
 .rename_i q;rw[q]at e;have a:es.toList.any (·.refKey)=false:=by
   rw[List.any_eq_false];intro y hy;obtain⟨z,t,J⟩:=hk y (Array.mem_toList_iff.mp hy);simp[DictEntry.refKey,J]
  have a':¬ es.toList.any (·.refKey)=true:=by rw[a];exact aF
  rw[iF a'];exact congrArg aT e
def ObjM.look (I:ObjM h x J Cc z):∃ od,PySem.W.InstAt h x (cN Cc J) Cc (aT od)/\∀ name,gd name od=aT (z name) :=
 let⟨od,ho,hl⟩:=be1 I.ns
 ⟨od,⟨I.obj,rfl,rfl,ho⟩,hl⟩
section
variable {prog:aD} {w:World} {A:aV} {E:yB} {s:af} {K:ae} {x dx Cc f:Addr} {mA:yD} {name:Str} {v:Value}
def bL7 {Q:yB}(X:K.In s.heap)(I:ObjM s.heap x dx Cc mA)(hg:d7 K Cc name=ca)(hh:eW K Cc=ca)
  (ha:bh K (.ref Cc) name=aT bY) (hv:mA name=aT v) (Y:kc v=ca) (h:Q v { s with toks:=s.toks+1 }) :
  wpAny (model prog w) A (getAttr (.ref x) name z) Q E s:=by
 obtain⟨od,J,Z⟩:=I.look;exact PySem.W.get_value X J (fS hg).1 (PySem.W.findObj_own hh ha rfl (by rw[Z,hv])) Y h
def bs1 (X:K.In s.heap)(I:ObjM s.heap x dx Cc mA)(hg:d7 K Cc name=ca)
  (Y:bh K (.ref Cc) name=aT (aT (.ref f))) (ht:hZ K (.ref f)=ca) (hv:mA name=bY) (h:Q (.ref f,[.ref x]) s) :
  wpAny (model prog w) A (je (.ref x) name pl) Q E s:=by
 obtain⟨od,J,z⟩:=I.look;exact PySem.W.method_fn X J (fS hg).1 (fS hg).2 Y (beq_iff_eq.mp ht) (by show(gd name od).map (·.isSome)=aT dr;rw[z,hv];rfl) h
def bF3 {ns:yI}(X:K.In s.heap)(I:ObjM s.heap x dx Cc mA)
  (hs:bh K (.ref Cc) "__setattr__"=aT (aT (.builtin "object.__setattr__"))) (hp:gv K Cc=ca) (ht:iy K Cc name=aT bY) (hh:eW K Cc=ca)
  (hw:jK mA ns) (hsz:ns.length<=aX)
  (h:∀ h',ObjM h' x dx Cc (λ y=>if y=name then aT v else mA y)->cr dx s.heap h'->Q () { s with heap:=h',toks:=s.toks+2 }) :
  wpAny (model prog w) A (setAttr (.ref x) name v) Q E s:=by
 obtain⟨od,J,hl⟩:=I.look;refine PySem.W.set_plain X J hs (PySem.W.osa_open X J hp ht λ b=>?_);obtain⟨cd,hc,a1⟩:=PySem.W.any_some hh;have hx:=I.obj;refine ai (aC (ai (ai (wpAny_loadPart hx (ai (mG (PySem.W.looks_clsIn X hc) ?_))))));rw[a1];refine aC (ai (aC (ai ?_)));refine wpAny_nsSet1 I.ns λ h' Y z=>?_;obtain⟨oD,a4,a3,a2,Z,a0⟩:=Y.count (PySem.Within.cons name v hw);refine ai (wpAny_lookBehind a2 (by rw[Z];exact pastItsLine_dict (ak a0 (by rw[aQ];lia))) ?_);exact aC (h _ ⟨(z.2 _ (bP I.ne)).trans I.obj,Y,I.ne⟩ z)
def bs8 {vs:yH}(X:K.In s.heap)(hm:dN K Cc=ca)
  (J:bh K (.ref Cc) "__init__"=aT (aT (.ref f))) (Y:PySem.W.typeIn K (.ref f)=aT (.type "function"))
  (h:fv (model prog w) (A.under (.builtin "type.__call__" ⟨.ref Cc::vs,z⟩)) (.call (.ref f) ⟨.ref (s.heap.objs.size+1)::vs,z⟩) (PySem.W.InitBack (s.heap.objs.size+1) R)
   { s with heap:=(s.heap.push cf).push (cN Cc s.heap.objs.size) }) :
  fv (model prog w) A (.call (.ref Cc) ⟨vs,z⟩) R s:=by
 obtain⟨hh,g,d,t,os⟩:=s;exact PySem.W.make_core (PySem.W.makes_of X hm) (d5 X J) (λ self=>PySem.W.bind_fn X self Y) (.inl rfl) h
end
noncomputable def ao9 (f:Str)(v:V):List (Str×V)->List (Str×V)
 | []=>[(f,v)]
 | (g,x)::r=>if g=f then(g,v)::r else(g,x)::ao9 f v r
theorem ap7 f g v :∀ fs:List (Str×V),(ao9 f v fs).lookup g=if g=f then aT v else fs.lookup g
 | []=>by
  show dE g [(f,v)]=_;by_cases h:g=f
  .have hb:=beq_iff_eq.mpr h;simp only[dE,hb,ij h]
  .have hb:=beq_eq_false_iff_ne.mpr h;simp only[dE,hb,iF h]
 | (k,x)::r=>by
  have z:=ap7 f g v r;rw[show ao9 f v ((k,x)::r)=(if k=f then(k,v)::r else(k,x)::ao9 f v r)from rfl];by_cases hk:k=f
  .rw[ij hk];by_cases h:g=k
   .have hb:=beq_iff_eq.mpr h;simp only[dE,hb,ij (h.trans hk)]
   .have hb:=beq_eq_false_iff_ne.mpr h;simp only[dE,hb,iF (λ e:g=f=>h (e.trans hk.symm))]
  .rw[iF hk];by_cases h:g=k
   .have hb:=beq_iff_eq.mpr h;simp only[dE,hb,iF (λ e:g=f=>hk (h.symm.trans e))]
   .have hb:=beq_eq_false_iff_ne.mpr h;simp only[dE,hb];exact z
theorem ar8 f v :∀ fs:List (Str×V),f∈(ao9 f v fs).map (·.1)/\∀ g,g∈fs.map (·.1)->g∈(ao9 f v fs).map (·.1)
 | []=>⟨by simp[ao9],λ g h=>by simp at h⟩
 | (k,x)::r=>by
  obtain⟨z,J⟩:=ar8 f v r;rw[show ao9 f v ((k,x)::r)=(if k=f then(k,v)::r else(k,x)::ao9 f v r)from rfl];by_cases hk:k=f
  .rw[ij hk];subst hk;exact⟨by simp,λ g h=>by simpa using h⟩
  .rw[iF hk];refine⟨?_,λ g h=>?_⟩
   .rw[aY];exact ah _ z
   .rw[aY]at h ⊢;rcases aw.mp h with e|e
    .exact aw.mpr (.inl e)
    .exact ah _ (J g e)
theorem aq8 f v :∀ fs:List (Str×V),(ao9 f v fs).length<=fs.length+1
 | []=>by simp[ao9]
 | (k,x)::r=>by
  have z:=aq8 f v r;rw[show ao9 f v ((k,x)::r)=(if k=f then(k,v)::r else(k,x)::ao9 f v r)from rfl];by_cases hk:k=f
  .rw[ij hk,aQ,aQ];lia
  .rw[iF hk,aQ,aQ];lia
def aF3.some_of (r:aF3 (aT v) o):∃ u,o=aT u/\RelV v u:=by
 cases o with
 | none=>exact(r).elim
 | some u=>exact⟨u,rfl,r⟩
def aF3.none_of (r:aF3 bY o):o=none:=by
 cases o with
 | none=>rfl
 | some u=>exact(r).elim
def be9 (r:RelV v u):kc u=true:=by
 cases v with
 | N=>cases(r);rfl
 | T b=>cases(r);rfl
 | int i=>obtain⟨t,e⟩:=(r);cases e;rfl
 | str x=>obtain⟨t,e⟩:=(r);cases e;rfl
 | byt b=>obtain⟨t,e⟩:=(r);cases e;rfl
 | flt b=>obtain⟨t,e⟩:=(r);cases e;rfl
 | ref a=>cases(r);rfl
 | ty n=>cases(r);rfl
section
variable {P:aD} {w:World} {H H':Hp} {h h':Heap} {a Cc dx:Addr} {fs fs':List (Str×V)}
def aw4 (hok:HOk P w H h)(e:H a=aT (.ins Cc dx fs)):∃ J,ObjM h a dx Cc J/\(∀ f,aF3 (fs.lookup f) (J f))/\jK J (fs.map (·.1))/\fs.length<=1000/\H dx=aT (.own a):=by
 obtain⟨d,z,ne,ob,J,n,r,q⟩:=(hok a _ e)
 exact⟨J,⟨ob,n,ne⟩,r,q,z,d⟩
end
structure Cls (K:ae)(Cc:Addr):Prop where
 pg:d7 K Cc Str.empty=ca
 hd:eW K Cc=ca
 po:gv K Cc=ca
 sa:bh K (.ref Cc) "__setattr__"=aT (aT (.builtin "object.__setattr__"))
def Cls.get {K}(c:Cls K Cc) f :d7 K Cc f=true:=c.pg
def NoAttr (K:ae)(Cc:Addr)(f:Str):Prop:=bh K (.ref Cc) f=aT bY
def NoAttr.taker {K}(n:NoAttr K Cc f):iy K Cc f=aT none:=by
 unfold iy;rw[n];rfl
structure Meth (K:ae)(Cc:Addr)(m:Str)(f:Addr):Prop where
 at_:bh K (.ref Cc) m=aT (aT (.ref f))
 fn:hZ K (.ref f)=ca
 kp:bF K (.ref f)=ca
section
variable {X:Cx} {pins:yA} {W:St} {H:Hp} {s:af} {a Cc dx:Addr} {fs:List (Str×V)} {f:Str} {v:V} {A:aV} {E:yB}
def aR4 {Q:yB}(I:Inv X pins W H s)(e:H a=aT (.ins Cc dx fs))(c:Cls X.K Cc)(n:NoAttr X.K Cc f)(l:fs.lookup f=aT v)
  (h:∀ u s',Inv X pins W H s'->RelV v u->Q u s'):wpAny (model X.prog X.w) A (getAttr (.ref a) f b) Q E s:=by
 obtain⟨J,O,r,_,_,_⟩:=aw4 I.hok e;obtain⟨u,hu,z⟩:=aF3.some_of (v:=v) (o:=J f) (by rw[<-l];exact r f);exact bL7 I.kIn O (c.get f) c.hd n hu (be9 z) (h u _ (I.tok _) z)
def av3 (I:Inv X pins W H s)(e:H a=aT (.ins Cc dx fs))(c:Cls X.K Cc)(k:Meth X.K Cc m g)(l:fs.lookup m=bY)
  (h:Q (.ref g,[.ref a]) s):wpAny (model X.prog X.w) A (je (.ref a) m pl) Q E s:=by
 obtain⟨z,O,r,_,_,_⟩:=aw4 I.hok e;have hn:z m=none:=aF3.none_of (by rw[<-l];exact r m);exact bs1 I.kIn O (c.get m) k.at_ k.fn hn h
def aS3 (I:Inv X pins W H s)(e:H a=aT (.ins Cc dx fs))(c:Cls X.K Cc)(n:NoAttr X.K Cc f)(hl:fs.length<1000)(ry:RelV y u)
  (h:∀ s',Inv X pins W (upd H a (.ins Cc dx (ao9 f y fs))) s'->Q () s'):wpAny (model X.prog X.w) A (setAttr (.ref a) f u) Q E s:=by
 obtain⟨Z,O,r,Y,_,ho⟩:=aw4 I.hok e;have hz:(fs.map (·.1)).length<=aX:=by rw[aq,dZ];lia
 refine bF3 I.kIn O c.sa c.po n.taker c.hd Y hz λ h' J sb=>h _ ?_;have hd:∃ o,h'.get? dx=aT o:=let⟨o,_,_,e',_⟩:=J.ns;⟨o,e'⟩
 refine I.write (x:=a) (e:=dx) (by rw[e];exact True.intro) (.inr ho) (λ b q hb z=>(sb.2 b hb).trans z) hd ?_;refine⟨by rw[zf O.ne];exact ho,?_,O.ne,J.obj,_,J.ns,λ g=>?_,λ g hg=>?_⟩
 .have:=aq8 f y fs;lia
 .show aF3 ((ao9 f y fs).lookup g) (if g=f then aT u else Z g);rw[ap7];by_cases q:g=f
  .rw[ij q,ij q];exact ry
  .rw[iF q,iF q];exact r g
 .by_cases q:g=f
  .rw[q];exact(ar8 f y fs).1
  .refine(ar8 f y fs).2 g (Y g λ z=>hg ?_);show(if g=f then aT u else Z g)=bY;rw[iF q];exact z
def Inv.made (I:Inv X pins W H s):Inv X pins W (upd (upd H s.heap.objs.size (.own (s.heap.objs.size+1))) (s.heap.objs.size+1) (.ins Cc s.heap.objs.size []))
  { s with heap:=(s.heap.push cf).push (cN Cc s.heap.objs.size) }:=by
 have e1:(s.heap.push cf).get? s.heap.objs.size=aT cf:=aR s.heap rfl;have e2:=by
  have:=aR (s.heap.push cf) (o:=cN Cc s.heap.objs.size) rfl
  rwa [cq]at this
 have z:(s.heap.push cf).Ns s.heap.objs.size (λ _=>bY):=⟨cf,#[],_,e1,rfl,(λ e Y=>nc Y (by simp)),λ _=>rfl⟩
 have J:=I.laid (o:=.own (s.heap.objs.size+1)) (t':=s.toks) (λ b u q=>am _ q) (al _) ⟨_,e1⟩;refine J.laid (λ b u q=>am _ q) (lV (cq _ _)) ?_;have ne:s.heap.objs.size≠s.heap.objs.size+1:=aJ (bV _);refine⟨by rw[zf ne,zq],cW _,ne,e2,λ _=>bY,(Heap.Ns1.of_empty z).at λ o q=>am _ q,λ _=>True.intro,λ y hy=>nc rfl hy⟩
def bN2 {Q:yB}(hb:eG e f env (eval e env)=eval e env)
  (h:wpAny (model prog w) A (eval e env) (λ o z=>wpAny (model prog w) A (getAttr o f ca) Q E z) E s):wpAny (model prog w) A (eval (.Attribute e f pos) env) Q E s :=
 Attribute_any_ h (by rw[arm_eval_Attribute,hb])
end
def cs7 (K:ae)(ta:TE)(f:Str):TE:=λ W H Q=>ta W H λ x H1=>∃ a Cc dx fs v,x=.ref a/\H1 a=aT (.ins Cc dx fs)/\Cls K Cc/\NoAttr K Cc f/\fs.lookup f=aT v/\Q v H1
def cs9 (K:ae)(ta tv:TE)(f:Str):TS:=λ D W H=>tv W H λ y H1=>ta W H1 λ x H2=>∃ a Cc dx fs,x=.ref a/\H2 a=aT (.ins Cc dx fs)/\Cls K Cc/\NoAttr K Cc f/\fs.length<1000 /\
 D.nx W (upd H2 a (.ins Cc dx (ao9 f y fs)))
section
variable {X:Cx} {o e value:Expr} {f:Str} {pos pos' tpos:Pos} {ta tv:TE}
def bV2 (he:PE X e ta)(hb:eG e f X.env (eval e X.env)=eval e X.env):PE X (.Attribute e f pos) (cs7 X.K ta f):=by
 intro z s W H Q I h;refine bN2 hb (thn (he z s W H _ I h) λ u s1 ⟨x,Z,I1,J,a,Cc,dx,fs,v,ex,ea,c,n,l,q⟩=>?_);subst ex;obtain rfl:u=Value.ref a:=J;exact aR4 I1 ea c n l λ u' s2 I2 Y=>⟨v,Z,I2,Y,q⟩
def ca8 (ha:PE X o ta)(hv:PE X value tv)(hs:eQ value (aT (.Attribute o f pos')) pos.line X.env=pure dr):PS X (.Assign [.Attribute o f pos'] value pos) (cs9 X.K ta tv f):=by
 intro z s W H D I h;refine plainObj_wpAny_Assign_Attribute (thn (hv z s W H _ I h) λ u s1 ⟨y,H1,I1,J,q⟩=>thn (ha z s1 W H1 _ I1 q) λ ov s2 ⟨x,H2,I2,Z,a,Cc,dx,fs,ex,ea,c,n,l,q2⟩=>?_) hs;subst ex;obtain rfl:ov=Value.ref a:=Z;exact aS3 I2 ea c n l J λ s3 Y=>⟨W,_,Y,q2⟩
end
section
variable {X:Cx} {pins:yA} {W:St} {H:Hp} {s:af} {A:aV} {E:yB} {Q:yB} {c:Value} {b:Bool}
inductive TyOf (K:ae)(H:Hp):V->Value->Prop where
 | N:TyOf K H .N (.type "NoneType")
 | T (x:Bool):TyOf K H (.T x) (.type "bool")
 | int (i:Int):TyOf K H (.int i) (.type "int")
 | str (x:Str):TyOf K H (.str x) (.type "str")
 | flt (x:UInt64):TyOf K H (.flt x) (.type "float")
 | J {a:Addr} {xs:List V} (e:H a=aT (.J xs)):TyOf K H (.ref a) (.type "list")
 | frz {a:Addr} {o:Obj} {xs:List V} (e:H a=aT (.frz o (.J xs))):TyOf K H (.ref a) (.type "list")
 | tp {a:Addr} {xs:List V} (e:H a=aT (.tp xs)):TyOf K H (.ref a) (.type "tuple")
 | dK {a:Addr} {kvs:List (Key×V)} (e:H a=aT (.dK kvs)):TyOf K H (.ref a) (.type "dict")
 | ins {a Cc dx:Addr} {fs:List (Str×V)} (e:H a=aT (.ins Cc dx fs)) (cl:Cls K Cc) (ha:bh K (.ref Cc) "__class__"=aT (aT (.builtin "object.__class__")))
   (hn:eX K (.builtin "object.__class__") "__get__"=aT (aT (.builtin "getset_descriptor.__get__"))) (htk:fG K (.builtin "object.__class__")=aT ca)
   (hm:gJ K Cc (.type "object")=aT ca):TyOf K H (.ref a) (.ref Cc)
def qL {u t:Value}(I:Inv X pins W H s)(Y:RelV x u)(ty:TyOf X.K H x t)(e:bo X.K t c=aT b)(h:∀ tk,Q (.bool b) { s with toks:=tk }) :
  wpAny (model X.prog X.w) A (call (.builtin "isinstance") [u,c]) Q E s:=by
 cases ty with
 | N=>cases(show u=Value.none from Y);exact bN PySem.W.kitx_none I.kIn True.intro e (λ z=>nomatch z) h
 | T y=>cases(show u=Value.bool y from Y);exact bN PySem.W.kitx_bool I.kIn True.intro e (λ z=>nomatch z) h
 | int i=>obtain⟨t,q⟩:=(show ∃ t,u=Value.int i t from Y);cases q;exact bN PySem.W.kitx_int I.kIn True.intro e (λ z=>nomatch z) h
 | str y=>obtain⟨t,q⟩:=(show ∃ t,u=Value.str y t from Y);cases q;exact bN PySem.W.kitx_str I.kIn True.intro e (λ z=>nomatch z) h
 | flt y=>obtain⟨t,q⟩:=(show ∃ t,u=Value.float y t from Y);cases q;exact bN PySem.W.kitx_float I.kIn True.intro e (λ z=>nomatch z) h
 | @J a xs ea =>
  cases(show u=Value.ref a from Y);obtain⟨_,_,n,_,Z⟩:=(show ac1 X.prog X.w H s.heap a (.J xs)from I.hok a _ ea)
  exact bN jO I.kIn ⟨_,Z,rfl⟩ e (λ z=>nomatch z) h
 | @frz a ob xs ea =>
  cases(show u=Value.ref a from Y);obtain⟨_,_,_,n,_,Z⟩:=(show ac1 X.prog X.w H s.heap a (.frz ob (.J xs))from I.hok a _ ea)
  exact bN jO I.kIn ⟨_,Z,rfl⟩ e (λ z=>nomatch z) h
 | @tp a xs ea =>
  cases(show u=Value.ref a from Y);obtain⟨_,_,_,p⟩:=(show ac1 X.prog X.w H s.heap a (.tp xs)from I.hok a _ ea)
  obtain⟨o,Z,h2,_⟩:=p;exact bN jz I.kIn ⟨o,Z,h2⟩ e (λ z=>nomatch z) h
 | @dK a kvs ea =>
  cases(show u=Value.ref a from Y);obtain⟨_,_,vs,_,p⟩:=(show ac1 X.prog X.w H s.heap a (.dK kvs)from I.hok a _ ea)
  obtain⟨o,es,ep,Z,h2,_⟩:=p;exact bN PySem.W.kitx_dict I.kIn ⟨o,Z,h2.1⟩ e (λ z=>nomatch z) h
 | @ins a Cc dx fs ea cl ha hn htk hm =>
  cases(show u=Value.ref a from Y);obtain⟨mA,O,_⟩:=aw4 I.hok ea;obtain⟨od,J,_⟩:=O.look;exact bN (PySem.W.kitx_own (cl.get _) cl.hd ha hn htk hm) I.kIn J e (λ z=>nomatch z) h
end
structure Room (k:Nat)(A:aV):Prop where
 hd:A.handled=bY
 dp:A.depth+3*k+5<recursionLimit
 un:A.units+16*k+200<cLine
def Room.mono (r:Room k A)(h:j<=k):Room j A:=⟨r.hd,by have:=r.dp;lia,by have:=r.un;lia⟩
theorem Room.deeper (r:Room (k+1) A) env :Room k (A.deeper env) :=
 ⟨r.hd,by have:=r.dp;show A.depth+1+3*k+5<_;lia,by have:=r.un;show A.units+3+16*k+200<_;lia⟩
theorem Room.in1 (r:Room (k+1) A):Room k A.in1 :=
 ⟨r.hd,by have:=r.dp;show A.depth+3*k+5<_;lia,by have:=r.un;show A.units+1+16*k+200<_;lia⟩
def aR1 {A:aV}{us:yH}:(A.under (.builtin "type.__call__" ⟨.ref Cc::us,z⟩)).depth=A.depth+1:=by
 first|rfl|simp[jP,Code.weight,Code.isCreation,Code.isGuard,Code.isCaller,mz,jQ,guardIds]
def aU5 {A:aV}{us:yH}:(A.under (.builtin "type.__call__" ⟨.ref Cc::us,z⟩)).units=A.units+1:=by
 first|rfl|simp[jQ]
def Room.make (r:Room (k+1) A) Cc (us:yH) z :Room k (A.under (.builtin "type.__call__" ⟨.ref Cc::us,z⟩)) :=
 ⟨r.hd,by have:=r.dp;rw[aR1];lia,by have:=r.un;rw[aU5];lia⟩
theorem Room.depth (r:Room k A):A.depth<recursionLimit:=by have:=r.dp;lia
theorem Room.units (r:Room k A):A.units+64<cLine:=by have:=r.un;lia
def Room.units0 (r:Room k A):A.units<cLine:=by have:=r.un;lia
def aF4:TA:=λ _ H Q=>Q [] H
def ak1 (ta:TE)(tr:TA):TA:=λ W H Q=>ta W H λ x H1=>tr W H1 λ xs H2=>Q (x::xs) H2
section
variable {X:Cx} {e:Expr} {es:yL} {te:TE} {t:TA} {pos:Pos}
def ab8:PA X [] aF4:=λ _ _ _ _ H Q I h=>Calls.spliced_nil ⟨[],H,I,.nil,h⟩
def zo (ha:PE X e te)(hr:PA X es t)(hs:autoParam (bf (e::es) X.env=(dr,eval e X.env)::bf es X.env) Zq4._auto_1):PA X (e::es) (ak1 te t):=by
 intro pos z s W H Q I h;rw[hs];refine Calls.spliced_cons (thn (ha z s W H _ I h) λ u s1 ⟨x,H1,Y,r1,q1⟩=>?_);exact thn (hr pos z s1 W H1 _ Y q1) λ us s2 ⟨xs,J,I2,Z,q2⟩=>⟨x::xs,J,I2,.cons r1 Z,q2⟩
def cq5 (t:TA):TE:=λ W H Q=>t W H λ xs H1=>xs.length<=aX/\∀ p,H1 p=bY->Q (.ref p) (upd H1 p (.tp xs))
def cs1 (t:TA):TE:=λ W H Q=>t W H λ xs H1=>xs.length<=aX/\∀ p,H1 p=bY->Q (.ref p) (upd H1 p (.J xs))
def bW0 (h:PA X es t):PE X (.Tuple es x1 pos) (cq5 t):=by
 intro J s W H Q I hq;refine wpAny_Tuple_spliced (thn (h pos J s W H _ I hq) λ us s1 ⟨xs,Z,Y,r,z,q⟩=>⟨by rw[<-r.length];exact z,?_⟩);have hf:=Y.hok.fresh (al _);refine⟨.ref s1.heap.objs.size,upd Z s1.heap.objs.size (.tp xs),Y.laid (λ b u e=>am _ e) (al _) ?_,rfl,q _ hf⟩;exact⟨z,us,r,⟨_,aR _ rfl,rfl,_,rfl⟩⟩
def at5 (h:PA X es t):PE X (.List es pos) (cs1 t):=by
 intro J s W H Q I hq;refine wpAny_List_spliced (thn (h pos J s W H _ I hq) λ us s1 ⟨xs,Z,Y,r,z,q⟩=>⟨by rw[<-r.length];exact z,?_⟩);have hf:=Y.hok.fresh (al _);refine⟨.ref s1.heap.objs.size,upd Z s1.heap.objs.size (.J xs),Y.laid (λ b u e=>am _ e) (al _) ?_,rfl,q _ hf⟩;exact⟨z,us,0,r,aR _ rfl⟩
end
abbrev Sp:=List V->Hp->VK->XK->Prop
abbrev CXT:=List Env->Hp->af->XK->Value->af->Prop
structure Env0 (P:aD)(w:World)(K:ae)(mg:yD)(base:Heap)(A:aV)(outer:List Env)(s:af)(H:Hp):Prop where
 frames:A.frames=aT outer
 mod:Mod K mg base
 bs:∀ b o,base.get? b=aT o->s.heap.get? b=aT o/\H b=bY
 bsz:base.objs.size<=s.heap.objs.size
 funs:s.heap.FunFrames base outer
 frf:∀ b∈frs outer,H b=bY
 hok:HOk P w H s.heap
 bare:fX s.gens
def CE (outer:List Env)(P:aD)(w:World)(H:Hp)(s:af)(Q:VK)(u:Value)(s':af):Prop :=
 ∃ v H',s'.os=s.os/\fX s'.gens/\Un (frs outer) [] H H' s.heap s'.heap/\HOk P w H' s'.heap/\RelV v u/\Q v H'
def CR (CX:CXT)(outer:List Env)(P:aD)(w:World)(H:Hp)(s:af)(Q:VK)(E:XK)(r:jy)(s':af):Prop :=
 match r with
 | .ok (.ret u)=>CE outer P w H s Q u s'
 | .ok _=>False
 | .error e=>CX outer H s E e s'
structure FnOk (P:aD)(w:World)(K:ae)(mg:yD)(base:Heap)(CX:CXT)(k:Nat)(f:Addr)(fd:bX)(ps:yI)(sp:Sp):Prop where
 len:∀ vs H Q E,sp vs H Q E->vs.length=ps.length
 run:∀(A:aV) (outer:List Env) (s:af) (H:Hp) (args:Args) (us:yH) (vs:List V) (Q:VK) (E:XK),Room k A->Env0 P w K mg base A outer s H->kM s fd args (ps.zip us)->Vals vs us->sp vs H Q E ->
  fv (model P w) A (.call (.ref f) args) (CR CX outer P w H s Q E) s
def FnOk.imp {K}(F:FnOk P w K Z base Y k f fd ps sp)
  (h:∀ vs H Q E,J vs H Q E->sp vs H Q E):FnOk P w K Z base Y k f fd ps J :=
 ⟨λ vs H Q E q=>F.len vs H Q E (h _ _ _ _ q),λ A z s H args us vs Q E hr he hb hv hs=>F.run A z s H args us vs Q E hr he hb hv (h _ _ _ _ hs)⟩
def Env0.make {K:ae}(e:Env0 P w K J base A z s H)(Cc:Addr)(us:yH)(Y:List (Str×Value)) :
  Env0 P w K J base (A.under (.builtin "type.__call__" ⟨.ref Cc::us,Y⟩)) z s H:=⟨by first|exact e.frames|(simpa [jP,Code.envs,jQ,pushEnvs]using e.frames),e.mod,e.bs,e.bsz,e.funs,e.frf,e.hok,e.bare⟩
section
variable {X:Cx} {pins:yA} {W:St} {H:Hp} {s s':af}
def Inv.env0 (I:Inv X pins W H s):Env0 X.prog X.w X.K X.mg X.base X.A X.stack s H :=
 ⟨I.ok.frames,I.ok.mod,I.bs,ak I.ok.bsz I.sz,I.stack,I.stkFree,I.hok,I.bare⟩
def Inv.after (I:Inv X pins W H s)(h:CE X.stack X.prog X.w H s Q u s'):EP X pins W Q u s':=by
 obtain⟨v,H',os,bare,un,hok,r,q⟩:=h;obtain⟨hh,g,d,t,J⟩:=s';obtain rfl:J=s.os:=os;exact⟨v,H',I.call un hok bare (λ b z=>nc z (by simp)),r,q⟩
end
def aS9 (sp:Sp)(dvs:List V)(E:XK)(t:TA):TE:=λ W H Q=>t W H λ vs H1=>sp (vs++dvs) H1 Q E
def bq5 (Cc:Addr)(m:Str)(sp:Sp)(dvs:List V)(E:XK)(ta:TE)(t:TA):TE:=λ W H Q=>ta W H λ x H1=>∃ a dx fs,x=.ref a/\H1 a=aT (.ins Cc dx fs)/\fs.lookup m=bY /\
 t W H1 λ vs H2=>sp (x::(vs++dvs)) H2 Q E
def bg0 (Cc:Addr)(sp:Sp)(dvs:List V)(E:XK)(t:TA):TE:=λ W H Q=>t W H λ vs H1=>∀ x dx,H1 x=bY->H1 dx=bY->dx≠x ->
 sp (.ref x::(vs++dvs)) (upd (upd H1 dx (.own x)) x (.ins Cc dx [])) (λ v H2=>v=.N/\Q (.ref x) H2) E
def Binds (K:ae)(fd:bX)(ps:yI)(ds:yH):Prop :=
 ∀ s us ,K.In s.heap->(us++ds).length=ps.length->kM s fd ⟨us,[]⟩ (ps.zip (us++ds))
def Binds.all {K}(h:∀ us:List Value,us.length=ps.length->kU z ⟨us,[]⟩=pure (ps.zip us)):Binds K z ps []:=λ s us _ J=>by
 rw[a8]at J ⊢;exact .of_eq (h us J)
def qj (CX:CXT)(X:Cx)(E:XK):Prop:=∀ pins (W:St) H s e s' ,Inv X pins W H s->CX X.stack H s E e s'->X.xe e s'
section
variable {X:Cx} {CX:CXT} {k:Nat} {f Cc:Addr} {fd:bX} {ps:yI} {sp:Sp} {dvs:List V} {ds:yH} {E:XK} {x m:Str} {p pos apos:Pos} {e o:Expr} {es:yL} {ta:TE} {t:TA}
def aL8 {W:St}{us:yH}(F:FnOk X.prog X.w X.K X.mg X.base CX k f fd ps sp)(hr:Room k X.A)(hb:Binds X.K fd ps ds)(hd:Vals dvs ds)(hx:qj CX X E)
  (I:Inv X z W H s) (r:Vals vs us) (h:sp (vs++dvs) H Q E):wpAny (model X.prog X.w) X.A (call (.ref f) us) (EP X z W Q) X.xe s:=by
 have J:Vals (vs++dvs) (us++ds):=r.append hd;have Y:(us++ds).length=ps.length:=by rw[<-J.length];exact F.len _ _ _ _ h
 refine ic (fY (F.run X.A X.stack s H ⟨us,[]⟩ (us++ds) (vs++dvs) Q E hr I.env0 (hb s us I.kIn Y) J h) λ r s' hq=>?_);cases r with
 | error e=>exact hx z W H s e s' I hq
 | ok fl =>
  cases fl with
  | ret u=>exact I.after hq
  | next=>exact bn hq
  | brk=>exact bn hq
  | cont=>exact bn hq
def aY4 (F:FnOk X.prog X.w X.K X.mg X.base CX k f fd ps sp)(hr:Room k X.A)(hg:Gl X x)(hm:X.mg x=aT (.ref f))(hk:bF X.K (.ref f)=ca)(hb:Binds X.K fd ps ds)(hd:Vals dvs ds)(hx:qj CX X E)
  (ha:PA X (e::es) t) (J:autoParam ((x==("__debug__":Str))=dr) Zq1._auto_1) (he:autoParam (bf (e::es) X.env=(dr,eval e X.env)::bf es X.env) Zq4._auto_1) (Y:autoParam ((du pos (bf es X.env)).any (·.1)=dr) Zq4._auto_1) :
  PE X (.Call (.Name x p) (e::es) [] pos) (aS9 sp dvs E t):=by
 intro z s W H Q I h;refine cw (aj1 I hg hm ?_ J);refine eP I.ok.mod.kin hk (thn (ha pos z s W H _ I h) λ us s1 ⟨vs,H1,Z,r,q⟩=>⟨Z.kIn,?_⟩) he Y;exact aL8 F hr hb hd hx Z r q
def br0 (F:FnOk X.prog X.w X.K X.mg X.base CX k f fd ps sp)(hr:Room k X.A)(hg:Gl X x)(hm:X.mg x=aT (.ref f))(hk:bF X.K (.ref f)=ca)(hb:Binds X.K fd ps ds)(hd:Vals dvs ds)(hx:qj CX X E)
  (z:autoParam ((x==("__debug__":Str))=dr) Zq1._auto_1):PE X (.Call (.Name x p) [] [] pos) (aS9 sp dvs E aF4):=by
 intro J s W H Q I h;refine cw (aj1 I hg hm ?_ z);exact fT I.kIn hk (aL8 F hr hb hd hx I .nil h)
def bH7 {pl}(he:PE X o ta)(c:Cls X.K Cc)(hm:Meth X.K Cc m f)(F:FnOk X.prog X.w X.K X.mg X.base CX k f fd ps sp)(hr:Room k X.A)(hb:Binds X.K fd ps ds)(hd:Vals dvs ds)(hx:qj CX X E)(ha:PA X (e::es) t)
  (J:autoParam (bf (e::es) X.env=(dr,eval e X.env)::bf es X.env) Zq4._auto_1) (Y:autoParam ((du pos (bf es X.env)).any (·.1)=dr) Zq4._auto_1)
  (ht:autoParam (eval (.Call (.Attribute o m apos) (e::es) [] pos) X.env=(do
   let ov <- eval o X.env
   jL apos.atName
   let(f,first) <- gu [ov] (je ov m pl)
   callWith pos f first (du pos (bf (e::es) X.env)) (fA pos (dF [] X.env)))) Zq4._auto_1) :
  PE X (.Call (.Attribute o m apos) (e::es) [] pos) (bq5 Cc m sp dvs E ta t):=by
 intro z s W H Q I h;refine iB (thn (he z s W H _ I h) λ u s1 ⟨x,H1,I1,rx,a,dx,fs,ex,ea,l,q⟩=>?_) ht;subst ex;obtain rfl:u=Value.ref a:=rx;refine av3 I1 ea c hm l ?_;refine eP I.ok.mod.kin hm.kp (thn (ha pos z s1 W H1 _ I1 q) λ us s2 ⟨vs,H2,Z,r,q2⟩=>⟨Z.kIn,?_⟩) J Y;exact aL8 (vs:=.ref a::vs) F hr hb hd hx Z (.cons rfl r) q2
def bm6 (Z:PE X o ta)(c:Cls X.K Cc)(hm:Meth X.K Cc m f)(F:FnOk X.prog X.w X.K X.mg X.base CX k f fd ps sp)(hr:Room k X.A)(hb:Binds X.K fd ps ds)(hd:Vals dvs ds)(hx:qj CX X E)
  (ht:autoParam (eval (.Call (.Attribute o m apos) [] [] pos) X.env=(do
   let ov <- eval o X.env
   jL apos.atName
   let(f,first) <- gu [ov] (je ov m pl)
   callWith pos f first (du pos (bf [] X.env)) (fA pos (dF [] X.env)))) Zq4._auto_1) :
  PE X (.Call (.Attribute o m apos) [] [] pos) (bq5 Cc m sp dvs E ta aF4):=by
 intro z s W H Q I h;refine iB (thn (Z z s W H _ I h) λ u s1 ⟨x,H1,J,Y,a,dx,fs,ex,ea,l,q⟩=>?_) ht;subst ex;obtain rfl:u=Value.ref a:=Y;refine av3 J ea c hm l ?_;exact fT J.kIn hm.kp (aL8 (vs:=[.ref a]) F hr hb hd hx J (.cons rfl .nil) q)
structure Mk (K:ae)(Cc f:Addr):Prop where
 makes:dN K Cc=ca
 init:bh K (.ref Cc) "__init__"=aT (aT (.ref f))
 fn:hZ K (.ref f)=ca
 kp:bF K (.ref Cc)=ca
def aO8 {W:St}{us:yH}(M:Mk X.K Cc f)(F:FnOk X.prog X.w X.K X.mg X.base CX k f fd ps sp)(hr:Room (k+1) X.A)(hb:Binds X.K fd ps ds)(hd:Vals dvs ds)
  (hx:qj CX X E) (I:Inv X z W H s) (r:Vals vs us)
  (h:∀ x Y,H x=bY->H Y=bY->Y≠x->sp (.ref x::(vs++dvs)) (upd (upd H Y (.own x)) x (.ins Cc Y [])) (λ v H2=>v=.N/\Q (.ref x) H2) E) :
  wpAny (model X.prog X.w) X.A (call (.ref Cc) us) (EP X z W Q) X.xe s:=by
 have hq:=h (s.heap.objs.size+1) s.heap.objs.size (I.hok.fresh (cg _)) (I.hok.fresh (al _)) (aJ (bV _));have J:=Inv.made (Cc:=Cc) I;have Z:Vals (V.ref (s.heap.objs.size+1)::(vs++dvs)) (Value.ref (s.heap.objs.size+1)::(us++ds)):=.cons rfl (r.append hd);have hl:(Value.ref (s.heap.objs.size+1)::us++ds).length=ps.length:=by
  have e:=Z.length;rw[F.len _ _ _ _ hq]at e;exact e.symm
 refine ic (bs8 (f:=f) I.kIn M.makes M.init (beq_iff_eq.mp M.fn) (fY (F.run _ X.stack _ _ ⟨Value.ref (s.heap.objs.size+1)::us,[]⟩ (Value.ref (s.heap.objs.size+1)::(us++ds)) _ _ E (hr.make Cc us [])
  (J.env0.make Cc us []) (hb _ (Value.ref (s.heap.objs.size+1)::us) J.kIn hl) Z hq) λ r s' hq'=>?_))
 cases r with
 | error e=>exact hx z W _ _ e s' J hq'
 | ok fl =>
  cases fl with
  | ret u =>
   obtain⟨v,H',I3,rv,ev,q3⟩:=J.after hq';subst ev;exact⟨rv,⟨V.ref (s.heap.objs.size+1),H',I3,rfl,q3⟩⟩
  | next=>exact bn hq'
  | brk=>exact bn hq'
  | cont=>exact bn hq'
def bE6 (M:Mk X.K Cc f)(F:FnOk X.prog X.w X.K X.mg X.base CX k f fd ps sp)(hr:Room (k+1) X.A)(hg:Gl X x)(hm:X.mg x=aT (.ref Cc))(hb:Binds X.K fd ps ds)(hd:Vals dvs ds)(hx:qj CX X E)
  (ha:PA X (e::es) t) (J:autoParam ((x==("__debug__":Str))=dr) Zq1._auto_1) (he:autoParam (bf (e::es) X.env=(dr,eval e X.env)::bf es X.env) Zq4._auto_1) (Y:autoParam ((du pos (bf es X.env)).any (·.1)=dr) Zq4._auto_1) :
  PE X (.Call (.Name x p) (e::es) [] pos) (bg0 Cc sp dvs E t):=by
 intro z s W H Q I h;refine cw (aj1 I hg hm ?_ J);refine eP I.ok.mod.kin M.kp (thn (ha pos z s W H _ I h) λ us s1 ⟨vs,H1,Z,r,q⟩=>⟨Z.kIn,?_⟩) he Y;exact aO8 M F hr hb hd hx Z r q
def br1 (M:Mk X.K Cc f)(F:FnOk X.prog X.w X.K X.mg X.base CX k f fd ps sp)(hr:Room (k+1) X.A)(hg:Gl X x)(hm:X.mg x=aT (.ref Cc))(hb:Binds X.K fd ps ds)(hd:Vals dvs ds)(hx:qj CX X E)
  (z:autoParam ((x==("__debug__":Str))=dr) Zq1._auto_1):PE X (.Call (.Name x p) [] [] pos) (bg0 Cc sp dvs E aF4):=by
 intro J s W H Q I h;refine cw (aj1 I hg hm ?_ z);exact fT I.kIn M.kp (aO8 M F hr hb hd hx I .nil h)
end
section
variable {X:Cx} {CX:CXT} {k:Nat} {f Cc:Addr} {fd:bX} {ps ks:yI} {sp:Sp} {E:XK} {x m:Str} {p pos apos kpos:Pos} {e o:Expr} {es:yL} {kws:List fw} {te ta:TE} {t tk:TA} {nm:Option Str}
variable {g:List Value->List Value->List Value} {gV:List V->List V->List V}
end
structure FnScope (N P:yI)(sc:Scope):Prop where
 kind:sc.kind=.function
 co:sc.isCoroutine=dr
 gen:sc.isGenerator=dr
 nd:N.Nodup
 pre:N.take P.length=P
 par:∀ x∈P,sc.names.lookup x=aT .local\/sc.names.lookup x=aT .cell
 nofree:∀ y∈sc.names,y.2≠.free
def Zsc {N P:yI}{sc:Scope}(a:autoParam (sc.kind=.function) Zq4._auto_1)(b:autoParam (sc.isCoroutine=dr) Zq4._auto_1)(c:autoParam (sc.isGenerator=dr) Zq4._auto_1)(d:autoParam (N.Nodup) Zq7._auto_1)(e:autoParam (N.take P.length=P) Zq4._auto_1)(f:autoParam (∀ x∈P,sc.names.lookup x=aT .local\/sc.names.lookup x=aT .cell) Zq7._auto_1)(g:autoParam (∀ y∈sc.names,y.2≠.free) Zq7._auto_1):FnScope N P sc:=⟨a,b,c,d,e,f,g⟩
theorem aC0 {eD}:∀ {binds} {m:yD},(∀ v,(x,v) ∉ binds)->bindL eD binds m x=m x
 | [],_,_=>rfl
 | (n,v)::r,m,h=>by
  unfold bindL;rw[aC0 λ w hw=>h w (ah _ hw)];split
  .have:x≠n:=by rintro rfl;exact h v ao
   simp[this]
  .rfl
theorem aA8 {eD}:∀ {binds} {m:yD},(∀ v,(x,v) ∉ binds)->bindC eD binds m x=m x
 | [],_,_=>rfl
 | (n,v)::r,m,h=>by
  unfold bindC;rw[aA8 λ w hw=>h w (ah _ hw)];split
  .rfl
  .have:x≠n:=by rintro rfl;exact h v ao
   simp[this]
theorem aB5 {eD}:∀ {P:yI} {vs:yH} {i:Nat} {m:yD},P.Nodup->P[i]?=aT x->vs[i]?=aT v->eD x=aT .local ->
  bindL eD (P.zip vs) m x=aT v
 | [],_,_,_,_,h,_,_=>by simp at h
 | _::_,[],_,_,_,_,h,_=>by simp at h
 | p::P,w::vs,0,m,nd,h1,h2,hk=>by
  simp at h1 h2;subst h1;subst h2;show bindL eD ((p,w)::P.zip vs) m p=_;unfold bindL;rw[aC0 λ v hv=>(dP.mp nd).1 (fI hv).1,ij hk];simp
 | p::P,w::vs,i+1,m,nd,h1,h2,hk=>by
  unfold bindL;exact aB5 (dP.mp nd).2 (by simpa using h1) (by simpa using h2) hk
theorem aE4 {eD}:∀ {P:yI} {vs:yH} {i:Nat} {m:yD},P.Nodup->P[i]?=aT x->vs[i]?=aT v->eD x≠aT .local ->
  bindC eD (P.zip vs) m x=aT v
 | [],_,_,_,_,h,_,_=>by simp at h
 | _::_,[],_,_,_,_,h,_=>by simp at h
 | p::P,w::vs,0,m,nd,h1,h2,hk=>by
  simp at h1 h2;subst h1;subst h2;show bindC eD ((p,w)::P.zip vs) m p=_;unfold bindC;rw[aA8 λ v hv=>(dP.mp nd).1 (fI hv).1,iF hk];simp
 | p::P,w::vs,i+1,m,nd,h1,h2,hk=>by
  unfold bindC;exact aE4 (dP.mp nd).2 (by simpa using h1) (by simpa using h2) hk
noncomputable def qB (N:yI)(vs:List V):St:=vs.map aT++av (N.length - vs.length) bY
noncomputable def al9 (CX:CXT)(P:aD)(w:World)(K:ae)(mg:yD)(base:Heap)(N:yI)(qual:Str)(scope:Scope)(f:Addr)(cd:Value)(A:aV)(outer:List Env)(s:af)(H:Hp)(E:XK):Cx where
 prog:=P
 w:=w
 K:=K
 mg:=mg
 base:=base
 A:=A.deeper (fJ qual scope s.heap.objs.size f cd)
 N:=N
 s₀:=s
 H₀:=H
 env:=fJ qual scope s.heap.objs.size f cd
 outer:=outer
 stack:=fJ qual scope s.heap.objs.size f cd::outer
 ex:=[]
 calm:=ca
 fn:=λ _=>ca
 pn:=[]
 xe:=λ e s'=>wpAny (model P w) (A.deeper (fJ qual scope s.heap.objs.size f cd)) (leaving (fJ qual scope s.heap.objs.size f cd) e) (λ _ s''=>CX outer H s E e s'') (λ e' s''=>CX outer H s E e' s'') s'
def am6 {sc:Scope}(h:sc.names.lookup x=aT .cell):∃ c,(bD n sc.names []).lookup x=aT c:=by
 have q:=eY sc.names n [] (.inl h);exact cG.mp q
def aC4 {K:ae}{A:aV}{J:List Env}{s s1:af}{H:Hp}{E:XK}{us:yH}{vs:List V}
  (S:FnScope N ps scope) (hd:A.handled=bY) (Z:Env0 P w K mg base A J s H) (hl:vs.length=ps.length) (r:Vals vs us)
  (x:InCallC s s.heap.objs.size (bindL (fJ qual scope s.heap.objs.size f cd).kindOf (ps.zip us) λ _=>bY) (bD (s.heap.objs.size+1) scope.names []) (bindC (fJ qual scope s.heap.objs.size f cd).kindOf (ps.zip us) λ _=>bY) s1) :
  Inv (al9 CX P w K mg base N qual scope f cd A J s H E) [] (qB N vs) H s1:=by
 have a2:ps.length<=N.length:=by have:=congrArg List.length S.pre;rw[bW]at this;lia
 obtain⟨h1,tk,rfl,hk⟩:=x.done;have a0:∀ b:Addr,b ∉ (al9 CX P w K mg base N qual scope f cd A J s H E).ex:=λ b z=>nc (show b∈([]:List Addr)from z) (by simp);refine⟨⟨Z.mod,S.kind,rfl,rfl,al _,λ y z c h1 Y=>?_,λ y hy=>?_,λ y c _ h=>?_,λ _=>hd,Around.frames_deeper Z.frames,.inr ⟨rfl,rfl⟩,λ b z=>nc z (a0 b),Z.bs,Z.bsz,λ b _ _=>a0 b,λ b z=>nc z (a0 b),Z.funs,Z.frf⟩,
  rfl,Z.bare,Un.kept hk,⟨_,x.toInCall.ns,λ i y v h1 Y h3=>?_⟩,λ y c h=>⟨_,x.cell y c h⟩,Z.hok.fresh (al _),λ y c h=>?_,λ p hp=>nc (show p∈([]:yA)from hp) (by simp),Z.hok.kept hk,?_⟩
 .exact name_of_addr x.apart (bu h1) (bu Y)
 .have hy:scope.names.lookup y=aT .cell\/scope.names.lookup y=aT .free:=hy;rcases hy with hy|hy
  .exact am6 hy
  .exact nc rfl (S.nofree _ (bu hy))
 .exact eU (x.above y c (bu h))
 .have hi:i<vs.length:=by
   unfold qB at Y;by_cases hi:i<vs.length
   .exact hi
   .rw[aK (by simpa using hi)]at Y;rw[gY]at Y;split at Y<;>cases Y
  have ha:vs[i]?=aT v:=by
   unfold qB at Y;rw[ax (by simpa using hi),aI]at Y;cases e:vs[i]? with
   | none=>rw[e]at Y;cases Y
   | some a=>rw[e]at Y;cases Y;rfl
  obtain⟨u,hu,rv⟩:=r.get ha;have hp:ps[i]?=aT y:=by
   rw[<-S.pre,List.getElem?_take_of_lt (by lia)];exact h1
  have a1:ps.Nodup:=by rw[<-S.pre];exact S.nd.sublist (List.take_sublist _ _)
  refine⟨u,rv,?_⟩;rcases S.par y (aP hp)with k|k
  .exact .inl ⟨k,aB5 a1 hp hu k⟩
  .obtain⟨c,e⟩:=am6 (n:=s.heap.objs.size+1) k;refine .inr ⟨.inl k,c,e,?_⟩;have q:=x.cell y c e;rw[aE4 a1 hp hu (by show scope.names.lookup y≠_;rw[k];decide)]at q;exact q
 .exact Z.hok.fresh (eU (x.above y c (bu h)))
 .unfold qB;show _=N.length;rw[au,aq,List.length_replicate];lia
set_option tactic.hygienic true in
def bR1 {K:ae}{body:yM}{dV kV a1 pm Y ct oc:Value}{an od:yJ}
  {a5:yF} {N ps:yI} {sp:Sp} (lk:K.lookup f=aT ⟨oc,od,.func (cQ name qual params body scope dV kV a1 pm an Y ct),a5⟩) (a4:eZ K Y qual=ca) (S:FnScope N ps scope)
  (len:∀ vs H Q E,sp vs H Q E->vs.length=ps.length)
  (Z:∀(A:aV) (z:List Env) (s:af) (H:Hp) (vs:List V) (Q:VK) (E:XK),Room k (A.deeper (fJ qual scope s.heap.objs.size f Y))->sp vs H Q E ->
   ∃ t,PSs (al9 CX P w K mg base N qual scope f Y A z s H E) body t/\t { nx:=λ _ H'=>Q .N H',rt:=Q } (qB N vs) H) :
  FnOk P w K mg base CX (k+1) f (cQ name qual params body scope dV kV a1 pm an Y ct) ps sp:=by
 refine⟨len,λ A z s H args us vs Q E hr e0 hb r a2=>?_⟩;have hl:=len _ _ _ _ a2;have KX:K.In s.heap:=e0.mod.kin.keeps λ b o e=>(e0.bs b o e).1;have a3:s.heap.NoLimit:=e0.mod.nolimit.keeps λ b o e=>(e0.bs b o e).1;have a0:∀ y∈ps.zip us,scope.names.lookup y.1=aT .local\/(scope.names.lookup y.1=aT .cell/\((bD (s.heap.objs.size+1) scope.names []).lookup y.1).isSome=ca):=λ⟨n,v⟩ hy=>by
  rcases S.par n (fI hy).1 with q|q
  .exact .inl q
  .exact .inr ⟨q,eY _ _ _ (.inl q)⟩
 refine iC hr.depth (KX _ _ lk) rfl S.co S.gen rfl (jA KX a4) (hb _ _ _ _ ?_);refine gf S.kind a0 λ env he s1 x=>?_;subst he;refine⟨a3.keeps x.toInCall.keep,codeAny_func ?_⟩;obtain⟨t,ht,hq⟩:=Z A z s H vs Q E (hr.deeper _) a2;have I:Inv (al9 CX P w K mg base N qual scope f Y A z s H E) [] (qB N vs) H s1:=aC4 S hr.hd e0 hl r x;refine bp (ht [] s1 (qB N vs) H _ I hq) (λ fl s' hs=>?_) λ e s' hs=>hs;have fin:∀ {W':St} {H':Hp} {v:V} {u:Value},Inv (al9 CX P w K mg base N qual scope f Y A z s H E) [] W' H' s'->RelV v u->Q v H'->CE z P w H s Q u s' :=
  λ {W' H' v u} J rv q=>⟨v,H',J.os,J.bare,J.base,J.hok,rv,q⟩
 cases fl with
 | ret u =>
  obtain⟨v,W',H',J,rv,q⟩:=hs;exact fin J rv q
 | next =>
  obtain⟨W',H',J,q⟩:=hs;exact fin (v:=V.N) (u:=Value.none) J rfl q
 | brk =>
  obtain⟨_,_,_,q⟩:=hs;exact bn q
 | cont =>
  obtain⟨_,_,_,q⟩:=hs;exact bn q
section
variable {X:Cx} {x:Str} {p pos:Pos} {e:Expr} {es:yL} {t:TA} {id T:String} {r:List V->Hp->VK->Prop}
def tCB (r:List V->Hp->VK->Prop)(t:TA):TE:=λ W H Q=>t W H λ vs H1=>r vs H1 Q
def qP (hc:ac4 X (.builtin id) r)(hg:Gl X x)(hm:X.mg x=bY)(hv:br x=aT (.builtin id))(ha:PA X (e::es) t)(hn:autoParam (x ≠ "__name__") Zq1._auto_1)(Y:autoParam ((x==("__debug__":Str))=dr) Zq1._auto_1)
  (he:autoParam (bf (e::es) X.env=(dr,eval e X.env)::bf es X.env) Zq4._auto_1) (J:autoParam ((du pos (bf es X.env)).any (·.1)=dr) Zq4._auto_1):PE X (.Call (.Name x p) (e::es) [] pos) (tCB r t):=by
 intro z s W H Q I h;refine cw (aq9 I hg hm hv ?_ hn Y);exact PyProof.Rows.callWith_builtin1 (thn (ha pos z s W H _ I h) λ us s1 ⟨vs,H1,Z,r1,q1⟩=>hc z s1 W H1 vs us Q Z r1 q1) he J
def an7 (hc:ac4 X (.type T) r)(hg:Gl X x)(hm:X.mg x=bY)(hv:br x=aT (.type T))(ha:PA X (e::es) t)(hn:autoParam (x ≠ "__name__") Zq1._auto_1)(Y:autoParam ((x==("__debug__":Str))=dr) Zq1._auto_1)
  (he:autoParam (bf (e::es) X.env=(dr,eval e X.env)::bf es X.env) Zq4._auto_1) (J:autoParam ((du pos (bf es X.env)).any (·.1)=dr) Zq4._auto_1):PE X (.Call (.Name x p) (e::es) [] pos) (tCB r t):=by
 intro z s W H Q I h;refine cw (aq9 I hg hm hv ?_ hn Y);exact cP (thn (ha pos z s W H _ I h) λ us s1 ⟨vs,H1,Z,r1,q1⟩=>hc z s1 W H1 vs us Q Z r1 q1) he J
end
end L2
end
noncomputable section
namespace HT
open PySem PyProof.Rows
section
open PySem.SeqAt
open PySem.AutoSeq1 (wpAny_loadPart')
open PySem.MeetsSeq PySem.MeetsSeq2 PySem.MeetsSeq3
end
section
variable {prog:aD} {w:World} {A:aV} {E:yB} {s:af}
noncomputable def sIx (n d:Nat):Option Int->Nat
 | none=>d
 | some v=>if v<0 then(v+(n)).toNat else min v.toNat n
def sIx_le n d (hd:d<=n) o :sIx n d o<=n:=by
 cases o with
 | none=>exact hd
 | some v =>
  show(if v<0 then(v+(n)).toNat else min v.toNat n)<=n;by_cases hv:v<0
  .rw[ij hv];lia
  .rw[iF hv];exact Nat.min_le_right _ _
def clip_eq v (n d:Nat):(if v<0 then max (v+(n:Int)) 0 else min v (n))=((sIx n d (aT v))):=by
 show(if v<0 then max (v+(n)) 0 else min v (n))=(((if v<0 then(v+(n)).toNat else min v.toNat n)));by_cases hv:v<0
 .simp only[ij hv];lia
 .simp only[iF hv];lia
def adjust_gen z J (n:Nat):eg z J 1 (n)=(((sIx n 0 z):Int),((sIx n n J):Int)):=by
 have Y:=by omega
 unfold eg;simp only[if_false];refine gX ?_ ?_
 .cases z with
  | none=>rfl
  | some v=>exact clip_eq v n 0
 .cases J with
  | none=>rfl
  | some v=>exact clip_eq v n n
def places_gen (i j:Nat):dj (i) (j) 1=j - i:=by
 unfold dj;have z:=by omega
 simp only[lW];split<;>lia
def slicePart_ (p:gK v o)(h:Q o s):wpAny (model prog w) A (kE v) Q E s:=by
 cases p with
 | none=>exact slicePart_none h
 | int i t=>exact slicePart_int h
def sliceApplied_gen {Q:Int×Int×Nat->af->Prop}(hs:s.heap.IsSliceOf sl vl vu .none)(pl:gK vl z)(pu:gK vu Z)
  (h:Q (((sIx n 0 z:Nat):Int),1,sIx n n Z - sIx n 0 z) s):wpAny (model prog w) A (gh (.ref sl) (pure (n))) Q E s:=by
 obtain⟨os,Y,a0,J⟩:=id hs;unfold gh lr;refine ai (ai (dG Y J rfl (ai (dG Y J rfl (ai (dG Y J rfl (aC ?_)))))));refine ai (slicePart_none ?_);rw[iF (by decide)];refine ai (slicePart_ pl (ai (slicePart_ pu (ai (aC ?_)))));show wpAny _ _ (match eg z Z 1 (n)with|(z,Z)=>pure (z,(1:Int),dj z Z 1)) _ _ s;rw[adjust_gen z Z n];show wpAny _ _ (pure (((sIx n 0 z):Int),(1),dj ((sIx n 0 z)) ((sIx n n Z)) 1)) _ _ s;rw[places_gen];exact aC h
def pick_gen (z:yK)(i k:Nat):((aH k).filterMap λ(m:Nat)=>z[((i)+(m:Int)*1).toNat]?).toArray=((z.toList.drop i).take k).toArray:=by
 have e:(λ(m:Nat)=>z[((i)+(m:Int)*1).toNat]?)=λ m=>z[i+m]?:=by
  funext m
  have:((i)+(m:Int)*1).toNat=i+m:=by lia
  rw[this]
 rw[e];have:=pick_run z i k;rw[dg]at this;have e2:((λ x=>z[x]?) ∘ λ x=>i+x)=λ m=>z[i+m]?:=rfl;rw[e2]at this;rw[this]
def getItem_tuple_cut {z:yK}{Q:yB}(ht:IsTup s.heap t z)(hs:s.heap.IsSliceOf sl vl vu .none)(pl:gK vl Y)(pu:gK vu Z)
  (hw:¬(sIx z.size 0 Y=0/\sIx z.size z.size Z=z.size))
  (h:Q (.ref s.heap.objs.size) { s with heap:=s.heap.push { cls:=.type "tuple",data:=.seq ((z.toList.drop (sIx z.size 0 Y)).take (sIx z.size z.size Z - sIx z.size 0 Y)).toArray } })
  (hsz:z.size<=aX):wpAny (model prog w) A (jf (.ref t) (.ref sl)) Q E s:=by
 have J:sizeOk (.seq ((z.toList.drop (sIx z.size 0 Y)).take (sIx z.size z.size Z - sIx z.size 0 Y)).toArray):=by
  show((z.toList.drop (sIx z.size 0 Y)).take (sIx z.size z.size Z - sIx z.size 0 Y)).toArray.size<=aX;rw[ay,bW,dA,fR];omega
 have hj:sIx z.size z.size Z<=z.size:=sIx_le _ _ (al _) Z;obtain⟨os,a3,a1,a4⟩:=id hs;have a2:s.TypeIs (.ref sl) "slice":=⟨os,a3,a1⟩
 unfold jf
 try with_reducible refine cF ?_
 first|refine ai (aC ?_)|skip
 refine ai (jR ht.typeIs (by decide) ?_);refine ai (dB (name:=bj "__getitem__") ht.typeIs bA
  (d6 bA ht.typeIs jl ?_ (jB _ _)))
 show wpAny _ _ (gi (.ref t) >>= _) _ _ s;refine ai (tupleItemsOf_ ht ?_);refine ai (jS a2 ?_);rw[ij (by decide)];refine ai (sliceApplied_gen hs pl pu ?_);have a0:¬((((sIx z.size 0 Y:Nat):Int)==0&&(1:Int)==1&&(sIx z.size z.size Z - sIx z.size 0 Y)==z.size)=ca):=by
  intro q;rw[aj,aj]at q;have q1:((sIx z.size 0 Y:Nat):Int)=0:=ll q.1.1;have q2:sIx z.size z.size Z - sIx z.size 0 Y=z.size:=ll q.2;exact hw ⟨by lia,by omega⟩
 show wpAny _ _ (if(((sIx z.size 0 Y:Nat):Int)==0&&(1:Int)==1&&(sIx z.size z.size Z - sIx z.size 0 Y)==z.size)=ca then _ else _) _ _ s;rw[iF a0,pick_gen]
 first
  | exact ai (m:=dw _) (cL (aC ⟨_,rfl,aC h⟩) J)
  | exact ai (m:=dw _) (cL (ai (aC (aC ⟨_,rfl,aC h⟩))) J)
  | exact ai (ai (m:=dw _) (cL (aC (aC ⟨_,rfl,aC h⟩)) J))
  | exact ai (ai (m:=dw _) (cL (aC ⟨_,rfl,aC h⟩) J))
end
end HT
noncomputable section
namespace L2
open PySem PySem.Spec PyProof.Rows
abbrev TO:=St->Hp->(Option Int->Hp->Prop)->Prop
def PO (X:Cx)(e:Option Expr)(t:TO):Prop :=
 ∀ pins s (W:St) H Q ,Inv X pins W H s->t W H Q ->
  wpAny (model X.prog X.w) X.A (evalPart e X.env) (λ u s'=>∃ o H',Inv X pins W H' s'/\gK u o/\Q o H') X.xe s
noncomputable def aK5:TO:=λ _ H Q=>Q bY H
noncomputable def aX9 (t:TE):TO:=λ W H Q=>t W H λ x H1=>∃ i,x=.int i/\Q (aT i) H1
def aT1 :∀ {us:yH},Vals (ns.map V.int) us->jT us ns:=by
 induction ns with
 | nil=>intro us r;rw[cR]at r;cases r;exact .nil
 | cons n ns ih =>
  intro us r;rw[aY]at r;cases r with
  | cons r1 r2 =>
   obtain⟨t,e⟩:=r1;subst e;exact .cons n t (ih r2)
section
variable {X:Cx} {e:Expr} {te:TE} {lo hi:Option Expr} {tl th:TO} {pos p2:Pos}
def be7:PO X bY aK5:=by
 intro z s W H Q I h;rw[evalPart_none];exact aC ⟨bY,H,I,.none,h⟩
def ax6 (h:PE X e te):PO X (aT e) (aX9 te):=by
 intro z s W H Q I hw;rw[evalPart_some];refine thn (h z s W H _ I hw) λ u s1 ⟨x,Z,J,r1,Y⟩=>?_;obtain⟨i,rfl,q⟩:=Y;obtain⟨t,rfl⟩:=r1;exact⟨aT i,Z,J,.int i t,q⟩
def SlR (X:Cx)(r:V->Option Int->Option Int->Hp->VK->Prop):Prop :=
 ∀ pins s (W:St) H x v vl vu lo hi sl Q ,Inv X pins W H s->RelV x v->s.heap.IsSliceOf sl vl vu .none->gK vl lo->gK vu hi->r x lo hi H Q ->
  ∃ T id,typeLookup (.type T) "__getitem__"=pure (aT (.builtin id))/\s.TypeIs v T/\wpAny (model X.prog X.w) X.A (jf v (.ref sl)) (EP X pins W Q) X.xe s
def tSl (r:V->Option Int->Option Int->Hp->VK->Prop)(te:TE)(tl th:TO):TE:=λ W H Q=>te W H λ x H1=>tl W H1 λ l H2=>th W H2 λ u H3=>r x l u H3 Q
def ay5 (hr:SlR X r)(he:PE X e te)(hl:PO X lo tl)(hu:PO X hi th):PE X (.Subscript e (.Slice lo hi bY p2) pos) (tSl r te tl th):=by
 intro z s W H Q I h;refine Subscript_ (thn (he z s W H _ I h) λ v s1 ⟨x,H1,I1,r1,Y⟩=>?_);refine wpAny_Slice (thn (hl z s1 W H1 _ I1 Y) λ vl s2 ⟨l,Z,I2,pl,q2⟩=>thn (hu z s2 W Z _ I2 q2) λ vu s3 ⟨u,J,I3,pu,q3⟩=>?_);rw[evalPart_none];refine aC ?_;have I4:Inv X z W J { s3 with heap:=s3.heap.push { cls:=.type "slice",data:=.fields #[vl,vu,.none] } }:=I3.kept λ b ob q=>am _ q;obtain⟨T,id,hT,ht,hg⟩:=hr z { s3 with heap:=s3.heap.push { cls:=.type "slice",data:=.fields #[vl,vu,.none] } } W J x v vl vu l u s3.heap.objs.size Q I4 r1 (mH ..) pl pu q3;exact tail_any ht hT hg (by with_unfolding_all rfl)
noncomputable def aU2 (xs:List V)(lo hi:Option Int):List V:=(xs.drop (HT.sIx xs.length 0 lo)).take (HT.sIx xs.length xs.length hi - HT.sIx xs.length 0 lo)
def ao6 z J Y :(aU2 z J Y).length<=z.length:=by
 unfold aU2;rw[bW,dA];lia
def cr8 (K:ae):V->Option Int->Option Int->Hp->VK->Prop:=λ x lo hi H Q=>∃ a xs,x=.ref a/\SqT K H a xs /\
 ¬(HT.sIx xs.length 0 lo=0/\HT.sIx xs.length xs.length hi=xs.length)/\∀ p,H p=bY->Q (.ref p) (upd H p (.tp (aU2 xs lo hi)))
def bT7:SlR X (cr8 X.K):=by
 intro a0 s W H x v vl vu Y Z sl Q I rx hs pl pu h;obtain⟨a,J,rfl,hx,hw,q⟩:=h;cases rx;obtain⟨its,r,ht,hz⟩:=I.tuple hx;have z:its.toArray.size=J.length:=by rw[ay];exact r.length.symm
 refine⟨"tuple",_,bA.lookup,ht.typeIs,?_⟩;refine HT.getItem_tuple_cut ht hs pl pu (by rw[z];exact hw) ?_ (by rw[z];exact hz);rw[z];refine⟨.ref s.heap.objs.size,_,I.laid (λ b ob q=>am _ q) (al _) ?_,rfl,q _ (I.hok.fresh (al _))⟩;exact⟨ak (ao6 J Y Z) hz,_,(r.drop (HT.sIx J.length 0 Y)).take (HT.sIx J.length J.length Z - HT.sIx J.length 0 Y),lP _ _⟩
end
noncomputable def ixN (n:Nat)(i:Int):Option Nat:=if 0<=i then(if i<n then aT i.toNat else bY)else if -(n)<=i then aT (i+n).toNat else bY
def atI {α:Type}(xs:List α)(i:Int):Option α:=(ixN xs.length i).bind λ j=>xs[j]?
def aX2 (h:ixN n i=aT j):seqIndex? i n=aT j/\j<n/\-(n)<=i/\i<n:=by
 unfold ixN at h;by_cases h0:0<=i
 .rw[ij h0]at h;by_cases h1:i<n
  .rw[ij h1]at h;have e:=aM h;exact⟨by rw[kz h0 h1,e],by lia,by lia,h1⟩
  .rw[iF h1]at h;cases h
 .rw[iF h0]at h;by_cases h1:-(n)<=i
  .rw[ij h1]at h;have e:=aM h;exact⟨by rw[jU (by lia) h1,e],by lia,h1,by lia⟩
  .rw[iF h1]at h;cases h
def aK1 (h:atI z i=aT v):∃ j,seqIndex? i z.length=aT j/\z[j]?=aT v/\j<z.length/\-(z.length:Int)<=i/\i<z.length:=by
 unfold atI at h;cases e:ixN z.length i with
 | none=>rw[e]at h;cases h
 | some j =>
  rw[e]at h;obtain⟨J,Y,h3,h4⟩:=aX2 e;exact⟨j,J,h,Y,h3,h4⟩
def aZ5 (b:Expr):Prop:=∀ o i,subscripted b dr o i=operate [o,i] (jf o i)
def IxR (X:Cx)(r:R2):Prop :=
 ∀ value slice pins s (W:St) H x y v u Q ,Inv X pins W H s->RelV x v->RelV y u->r x y H Q ->
  subscripted slice dr v u=operate [v,u] (jf v u)->wpAny (model X.prog X.w) X.A (subscriptTail value slice v u) (EP X pins W Q) X.xe s
def MtR (X:Cx)(id:String)(r:V->List V->Hp->VK->Prop):Prop :=
 ∀ pins s (W:St) H x xs v (us:yH) Q ,Inv X pins W H s->RelV x v->Vals xs us->r x xs H Q ->
  wpAny (model X.prog X.w) X.A (call (.builtin id) (v::us)) (EP X pins W Q) X.xe s
section
variable {X:Cx} {a b:Expr} {ta tb:TE} {pos:Pos}
def bS0 (hr:IxR X r)(ha:PE X a ta)(hb:PE X b tb)(hs:aZ5 b):PE X (.Subscript a b pos) (tOp r ta tb):=by
 intro z s W H Q I h;exact Subscript_ (cg8 ha hb I h λ v u s2 x y J Z Y ry q=>hr a b z s2 W J x y v u Q Z Y ry q (hs _ _))
def cp7 (K:ae):R2:=λ x y H Q=>∃ p xs i v,x=.ref p/\y=.int i/\SqL K H p xs/\atI xs i=aT v/\Q v H
def cp8 (K:ae):R2:=λ x y H Q=>∃ p xs i v,x=.ref p/\y=.int i/\SqT K H p xs/\atI xs i=aT v/\Q v H
def cs2:R2:=λ x y H Q=>∃ z i c,x=.str z/\y=.int i/\z.length<=aX/\atI z.cps.toList i=aT c/\Q (.str ⟨#[c]⟩) H
def ba5:IxR X (cp7 X.K):=by
 intro a1 Z J s W H x y v u Q I rx ry h hs;obtain⟨p,xs,i,z,rfl,rfl,hq,he,q⟩:=h;cases rx;obtain⟨t,rfl⟩:=ry;obtain⟨its,r,pl,hz⟩:=I.list hq;obtain⟨j,Y,h2,h3,h4,h5⟩:=aK1 he;obtain⟨w,ew,a0⟩:=r.get h2;have hl:=r.length;have hn:=au8;have fin:EP X J W Q w s:=⟨z,H,I,a0,q⟩
 by_cases h0:0<=i
 .have hj:=by
   rw[kz h0 h5]at Y;exact aM Y
  exact item_listR pl.isList h0 (by lia) (by rw[hj];simpa using ew) fin hs
 .have hj:(i+(its.toArray.size)).toNat=j:=by
   rw[jU (by lia) h4]at Y;rw[ay,<-hl];exact aM Y
  exact ie pl.isList.typeIs jV.lookup
   (wpAny_getItem_list_neg pl.isList (by omega) (by rw[ay]<;>lia) (by lia) (by rw[hj];simpa using ew) ⟨rfl,fin⟩) hs
def ix_tup:IxR X (cp8 X.K):=by
 intro a0 Y J s W H x y v u Q I rx ry h hs;obtain⟨p,xs,i,z,rfl,rfl,hq,he,q⟩:=h;cases rx;obtain⟨t,rfl⟩:=ry;obtain⟨its,r,pl,hz⟩:=I.tuple hq;obtain⟨j,h1,h2,h3,h4,h5⟩:=aK1 he;obtain⟨w,ew,Z⟩:=r.get h2;have hl:=r.length;have hn:=au8;have fin:EP X J W Q w s:=⟨z,H,I,Z,q⟩
 exact ie pl.typeIs bA.lookup
  (getItem_tuple pl (by lia) (by lia) (by rw[ay,<-hl];exact h1) (by simpa using ew) ⟨rfl,fin⟩) hs
def ix_str:IxR X cs2:=by
 intro Y J Z s W H x y v u Q I rx ry h hs;obtain⟨z,i,c,rfl,rfl,hz,he,q⟩:=h;obtain⟨t,rfl⟩:=rx;obtain⟨t',rfl⟩:=ry;obtain⟨j,h1,h2,h3,h4,h5⟩:=aK1 he;have hl:z.cps.toList.length=z.length:=by simp[Str.length]
 rw[hl]at h1 h4 h5;have hn:=au8;exact tail_any (kW s z t) slot_str_getitem.lookup (getItem_str (by
  have e1:decide (i < -(2^63))=false:=js (by lia);have e2:decide (i ≥ 2^63)=false:=js (by lia);rw[e1,e2,lE]) (by rw[h1];simpa using h2) ⟨.str ⟨#[c]⟩,H,I.tok _,⟨_,rfl⟩,q⟩) hs
def aR3 (its:yH) n j  u :ig (·.setIfInBounds j u) { cls:=.type "list",data:=.seq its.toArray n }={ cls:=.type "list",data:=.seq (its.set j u).toArray n }:=by
 simp[ig]
def Inv.lst {W:St}(I:Inv X J W H s)(h:H p=aT (.J Y)) :
  ∃(its:yH) (n:Nat),Vals Y its/\s.heap.get? p=aT { cls:=.type "list",data:=.seq its.toArray n }/\Y.length<=aX:=by
 obtain⟨z,its,n,r,e⟩:=I.hok p _ h;exact⟨its,n,r,e,z⟩
def Inv.lstUpd {W:St}{its its':yH}(I:Inv X z W H s)(h:H p=aT (.J Z))
  (ho:s.heap.get? p=aT { cls:=.type "list",data:=.seq its.toArray n }) (Y:f { cls:=.type "list",data:=.seq its.toArray n }={ cls:=.type "list",data:=.seq its'.toArray J }) (r:Vals ys its') (hz:ys.length<=aX)  t  :
  Inv X z W (upd H p (.J ys)) { s with heap:=s.heap.update p f,toks:=t }:=by
 have e:(s.heap.update p f).get? p=aT { cls:=.type "list",data:=.seq its'.toArray J }:=by
  rw[fj f ho (by rw[Y]<;>rfl),Y]
 refine I.write (x:=p) (e:=p) (by rw[h];trivial) (.inl rfl) (λ b u hb q=>(cb _ _ (bP hb)).trans q) ⟨_,e⟩ ?_;exact⟨hz,its',J,r,e⟩
def ck9:V->V->V->Hp->(Hp->Prop)->Prop:=λ o i v H Q=>∃ p xs k j,o=.ref p/\i=.int k/\H p=aT (.J xs)/\ixN xs.length k=aT j/\Q (upd H p (.J (xs.set j v)))
def bs7:cj0 X ck9:=by
 intro z s W H o i v ov iv u Q I ro ri rv h;obtain⟨p,xs,k,j,rfl,rfl,hp,hj,q⟩:=h;cases ro;obtain⟨t,rfl⟩:=ri;obtain⟨its,n,r,ho,hz⟩:=I.lst hp;obtain⟨J,h2,h3,h4⟩:=aX2 hj;have Y:=r.length;have hn:=au8;have Z :=
  I.lstUpd hp ho (aR3 its n j u) (r.set rv j) (by rw[aU];exact hz) s.toks
 by_cases h0:0<=k
 .have hk:=by
   rw[kz h0 h4]at J;exact aM J
  exact PySem.W.ki_setAt ho h0 (by lia) (by rw[ay,<-Y];exact h4) (by rw[hk];exact⟨_,Z,q⟩)
 .have hk:(k+(its.toArray.size)).toNat=j:=by
   rw[jU (by lia) h3]at J;rw[ay,<-Y];exact aM J
  exact PySem.W.ki_setBack ho (by omega) (by rw[ay,<-Y];exact h3) (by lia) (by rw[hk];exact⟨_,Z,q⟩)
def aD6 z J n :(eR z J bY n).1=((HT.sIx n 0 z))/\(eR z J bY n).2.1=((HT.sIx n n J))/\(eR z J bY n).2.2=1:=by
 refine⟨?_,?_,rfl⟩
 .cases z with
  | none=>simp[eR,HT.sIx]
  | some i =>
   simp only[eR,HT.sIx,ke,if_true];by_cases h:i<0
   .simp only[h,if_true]<;>lia
   .simp only[h,if_false]<;>lia
 .cases J with
  | none=>simp[eR,HT.sIx]
  | some i =>
   simp only[eR,HT.sIx,ke,if_true];by_cases h:i<0
   .simp only[h,if_true]<;>omega
   .simp only[h,if_false]<;>omega
def ax8 (its:yH) z J :slicePick its.toArray z J bY=((its.drop (HT.sIx its.length 0 z)).take (HT.sIx its.length its.length J - HT.sIx its.length 0 z)).toArray:=by
 obtain⟨Z,Y,h3⟩:=aD6 z J its.toArray.size;unfold slicePick;rw[Z,Y,h3];simp only[sliceRange_one,pick_run,ay]<;>rfl
def cp1 (K:ae):V->Option Int->Option Int->Hp->VK->Prop:=λ x lo hi H Q=>∃ a xs,x=.ref a/\SqL K H a xs/\∀ p,H p=bY->Q (.ref p) (upd H p (.J (aU2 xs lo hi)))
def bE7:SlR X (cp1 X.K):=by
 intro a0 s W H x v vl vu Y Z sl Q I rx hs pl pu h;obtain⟨a,z,rfl,hx,q⟩:=h;cases rx;obtain⟨its,r,ht,hz⟩:=I.list hx;have J:=r.length;refine⟨"list",_,jV.lookup,ht.isList.typeIs,?_⟩;refine wpAny_getItem_list_slice ht.isList hs pl pu .none (by simp) ?_ (by rw[ay]<;>lia);rw[ax8,<-J];refine⟨.ref s.heap.objs.size,_,I.laid (λ b ob q=>am _ q) (al _) ?_,rfl,q _ (I.hok.fresh (al _))⟩;exact⟨ak (ao6 z Y Z) hz,_,0,(r.drop (HT.sIx z.length 0 Y)).take (HT.sIx z.length z.length Z - HT.sIx z.length 0 Y),aR _ rfl⟩
def aA3:ac4 X (.builtin "len") (λ J H Q=>∃ p ys,J=[.ref p]/\(SqL X.K H p ys\/SqT X.K H p ys)/\Q (.int ys.length) H):=by
 intro Y s W H J us Q I r h;obtain⟨p,ys,rfl,hq,q⟩:=h;obtain⟨u,rfl,Z⟩:=qI r;cases Z;have hn:=au8;rcases hq with hq|hq
 .obtain⟨its,r',pl,hz⟩:=I.list hq;have z:=r'.length;exact Calls.call_len_list pl.isList (by simp only[ay]<;>lia) ⟨.int ys.length,H,I.tok _,⟨s.toks+1,by rw[ay,z]⟩,q⟩
 .obtain⟨its,r',pl,hz⟩:=I.tuple hq;have z:=r'.length;exact len_tuple pl (by simp only[ay]<;>omega) ⟨.int ys.length,H,I.tok _,⟨s.toks+1,by rw[ay,z]⟩,q⟩
def aD5:ac4 X (.builtin "len") (λ J H Q=>∃ z,J=[.str z]/\z.length<=aX/\Q (.int z.length) H):=by
 intro Y s W H J us Q I r h;obtain⟨z,rfl,hz,q⟩:=h;obtain⟨u,rfl,t,rfl⟩:=qI r;have hn:=au8;exact len_str (by lia) ⟨.int z.length,H,I.tok _,⟨_,rfl⟩,q⟩
def ac4.or (h:ac4 X f r)(h':ac4 X f r'):ac4 X f (λ J H Q=>r J H Q\/r' J H Q):=by
 intro z s W H J us Q I Y q;rcases q with q|q
 .exact h z s W H J us Q I Y q
 .exact h' z s W H J us Q I Y q
def aD2:ac4 X (.type "list") (λ Z H Q=>∃ p ys,Z=[.ref p]/\(SqL X.K H p ys\/SqT X.K H p ys)/\∀ l,H l=bY->Q (.ref l) (upd H l (.J ys))):=by
 intro J s W H Z us Q I r h;obtain⟨p,ys,rfl,hq,q⟩:=h;obtain⟨u,rfl,rx⟩:=qI r;cases rx;have fin:∀ its ,Vals ys its->ys.length<=aX->∀ h' z ,(∀ b o',s.heap.get? b=aT o'->h'.get? b=aT o') ->
   h'.get? s.heap.objs.size=aT { cls:=.type "list",dict:=bY,data:=.seq its.toArray z,slots:=#[] }->EP X J W Q (.ref s.heap.objs.size) { s with heap:=h' }:=λ its r' hz h' z kp e =>
  ⟨.ref s.heap.objs.size,_,I.laid kp (al _) (show ac1 X.prog X.w _ h' _ (.J ys)from⟨hz,its,z,r',e⟩),rfl,q _ (I.hok.fresh (al _))⟩
 rcases hq with hq|hq
 .obtain⟨its,r',pl,hz⟩:=I.list hq;have Y:=r'.length;obtain⟨o,ho,hc,n,hd⟩:=pl.isList;exact call_list_seq p (.inl rfl) ho hc hd (λ h' z kp e=>fin its r' hz h' z kp e) (by simp only[ay]<;>omega)
 .obtain⟨its,r',pl,hz⟩:=I.tuple hq;have Y:=r'.length;obtain⟨o,ho,hc,n,hd⟩:=pl;exact call_list_seq p (.inr rfl) ho hc hd (λ h' z kp e=>fin its r' hz h' z kp e) (by simp only[ay]<;>omega)
def ay1:ac4 X (.type "tuple") (λ Z H Q=>∃ p ys,Z=[.ref p]/\((SqL X.K H p ys/\∀ l,H l=bY->Q (.ref l) (upd H l (.tp ys)))\/(SqT X.K H p ys/\Q (.ref p) H))):=by
 intro z s W H Z us Q I r h;obtain⟨p,ys,rfl,h⟩:=h;obtain⟨u,rfl,rx⟩:=qI r;cases rx;rcases h with⟨hq,q⟩|⟨hq,q⟩
 .obtain⟨its,r',pl,hz⟩:=I.list hq;have J:=r'.length;refine call_tuple_list pl.isList (λ h' kp=>?_) (by simp only[ay]<;>omega);have Y:=I.kept (t':=s.toks) kp;have I2 :=
   Y.laid (t':=s.toks) (λ b o e=>am _ e) (al _) (show ac1 X.prog X.w _ _ _ (.tp ys)from⟨hz,its,r',lP _ _⟩)
  exact⟨.ref h'.objs.size,_,I2,rfl,q _ (Y.hok.fresh (al _))⟩
 .obtain⟨its,r',pl,hz⟩:=I.tuple hq;exact call_tuple_same pl ⟨.ref p,H,I,rfl,q⟩
def tyV (K:ae)(T:String)(x:V)(H:Hp):Prop:=match x with
 | .str _=>T = "str"
 | .int _=>T = "int"
 | .ref p=>(T = "list"/\∃ xs,SqL K H p xs)\/(T = "tuple"/\∃ o,K.lookup p=aT o/\o.cls=.type "tuple"/\o.dict=bY) \/
   (T = "dict"/\((∃ kvs,H p=aT (.dK kvs))))
 | _=>False
def bw3 {W:St}(I:Inv X J W H s)(r:RelV x v)(Y:tyV X.K T x H) :
  s.TypeIs v T/\∀ a,v=.ref a->∃ ob,s.heap.get? a=aT ob/\ob.dict=none:=by
 cases x with
 | str z =>
  obtain⟨t,rfl⟩:=r;cases(Y);exact⟨kW s z t,λ _ e=>nomatch e⟩
 | int i =>
  obtain⟨t,rfl⟩:=r;cases(Y);exact⟨typeIs_int s i t,λ _ e=>nomatch e⟩
 | ref p =>
  cases r;rcases Y with⟨rfl,Z,hq⟩|⟨rfl,o,hk,hc,hd⟩|⟨rfl,kvs,hk⟩
  .obtain⟨its,_,pl,_⟩:=I.list hq;refine⟨pl.isList.typeIs,λ a e=>?_⟩;cases e;obtain⟨o,n,e,c,hd,_⟩:=pl;exact⟨o,e,hd⟩
  .refine⟨⟨o,I.kIn p o hk,hc⟩,λ a e=>?_⟩;cases e;exact⟨o,I.kIn _ o hk,hd⟩
  .obtain⟨_,_,_,_,o,_,_,e,ex,_⟩:=I.hok p _ hk;refine⟨⟨o,e,ex.1⟩,λ a e2=>?_⟩;cases e2;exact⟨o,e,ex.2.1⟩
 | _=>exact bn Y
def cq7 (K:ae)(T:String)(r:V->List V->Hp->VK->Prop)(to:TE):TE:=λ W H Q=>to W H λ x H1=>tyV K T x H1/\r x [] H1 Q
def tBM (K:ae)(T:String)(r:V->List V->Hp->VK->Prop)(to:TE)(t:TA):TE:=λ W H Q=>to W H λ x H1=>tyV K T x H1/\t W H1 λ xs H2=>r x xs H2 Q
variable {o e:Expr} {es:yL} {to:TE} {t:TA} {name:Str} {apos cpos:Pos} {T id:String} {r:V->List V->Hp->VK->Prop}
def by3 (pa:kX T)(slot:Slot T name id)(Z:jC (.builtin id)=pure (.type "method_descriptor"))(hm:MtR X id r)(ho:PE X o to)
  (J:autoParam (eG o name X.env (eval o X.env)=eval o X.env) Zq4._auto_1) (Y:autoParam ((apos.endLine==cpos.line)=ca) Zq4._auto_1):PE X (.Call (.Attribute o name apos) [] [] cpos) (cq7 X.K T r to):=by
 intro z s W H Q I h;refine wpAny_Call_method0_late J Y (thn (ho z s W H _ I h) λ v s1 ⟨x,H1,I1,r1,ty,q1⟩=>?_);obtain⟨h1,h2⟩:=bw3 I1 r1 ty;exact⟨T,id,pa,slot,Z,h1,h2,ii rfl (PySem.evalArgs_none (hm z s1 W H1 x [] v [] Q I1 r1 .nil q1))⟩
def bt2 (pa:kX T)(slot:Slot T name id)(a1:jC (.builtin id)=pure (.type "method_descriptor"))(hm:MtR X id r)(ho:PE X o to)(ha:PA X (e::es) t)
  (Y:autoParam (eG o name X.env (eval o X.env)=eval o X.env) Zq4._auto_1)
  (a0:autoParam (((du cpos (bf (e::es) X.env)).all (λ x=>!x.1)&&(fA cpos (dF [] X.env)).all (λ x=>x.1.isSome)
   && decide ((e::es).length+([]:List fw).length+(if([]:List fw).isEmpty then 0 else 1)<30))=ca) Zq4._auto_1)
  (Z:autoParam ((apos.endLine==cpos.line)=ca) Zq4._auto_1) (hs:autoParam (bf (e::es) X.env=(dr,eval e X.env)::bf es X.env) Zq4._auto_1) (J:autoParam ((du cpos (bf es X.env)).any (·.1)=dr) Zq4._auto_1) :
  PE X (.Call (.Attribute o name apos) (e::es) [] cpos) (tBM X.K T r to t):=by
 intro z s W H Q I h;refine wpAny_Call_method_late Y a0 Z rfl (thn (ho z s W H _ I h) λ v s1 ⟨x,H1,I1,r1,ty,q1⟩=>?_);obtain⟨h1,h2⟩:=bw3 I1 r1 ty;refine⟨T,id,pa,slot,a1,h1,h2,?_⟩;have hA:=ha cpos z s1 W H1 _ I1 q1;rw[hs]at hA ⊢;refine ii (by show(dr||(du cpos (bf es X.env)).any (·.1))=dr;rw[J]<;>rfl) (iK ?_);exact thn hA λ us s2 ⟨vs,H2,I2,r2,q2⟩=>hm z s2 W H2 x vs v us Q I2 r1 r2 q2
end
def MtM (X:Cx)(id:String)(r:V->List V->Hp->VK->Prop):Prop :=
 ∀ pins s (W:St) H x xs v (us:yH) Q ,Inv X pins W H s->RelV x v->Vals xs us->r x xs H Q ->
  wpAny (model X.prog X.w) X.A (call (.builtin id) (v::us)) (EP X pins W Q) X.xe s
def Vals.one:∀ {x} {us:yH},Vals [x] us->∃ u,us=[u]/\RelV x u
 | _,_,.cons r .nil=>⟨_,rfl,r⟩
def Vals.zero:∀ {us:yH},Vals [] us->us=[]
 | _,.nil=>rfl
theorem Vals.rep {us:yH}(h:Vals z us):∀ k:Nat,Vals (av k z).flatten (av k us).flatten
 | 0=>.nil
 | k+1=>by
  rw[jm,jm,gz,gz];exact Vals.append h (Vals.rep h k)
section
variable {X:Cx} {pins:yA} {W:St} {H:Hp} {s:af} {l b:Addr} {xs ys zs:List V}
def Inv.lset {its its':yH}(I:Inv X pins W H s)(z:H l=aT (.J xs))
  (e:s.heap.get? l=aT { cls:=.type "list",data:=.seq its.toArray n }) (J:f its.toArray=its'.toArray) (hv:Vals ys its') (hz:ys.length<=aX) :
  Inv X pins W (upd H l (.J ys)) { s with heap:=s.heap.update l (ig f),toks:=t' }:=by
 have q:=PySem.IsL.update e f;rw[J]at q;refine I.write (by rw[z];exact trivial) (.inl rfl) (λ Y u hb hu=>(cb s.heap (ig f) (bP hb)).trans hu) ⟨_,q⟩ ?_;exact⟨hz,its',_,hv,q⟩
def Inv.lnew {its:yH}(I:Inv X pins W H s)(hv:Vals ys its)(hz:ys.length<=aX) :
  Inv X pins W (upd H s.heap.objs.size (.J ys)) { s with heap:=s.heap.push { cls:=.type "list",data:=.seq its.toArray },toks:=t' } :=
 I.laid (λ _ _ q=>am _ q) (al _) ⟨hz,its,0,hv,aR _ rfl⟩
theorem Inv.fresh (I:Inv X pins W H s):H s.heap.objs.size=none:=I.hok.fresh (al _)
def Inv.lstM (I:Inv X pins W H s)(J:H l=aT (.J xs)):xs.length<=aX/\∃(its:yH) (n:Nat),Vals xs its/\xs.length=its.length/\s.heap.get? l=aT { cls:=.type "list",data:=.seq its.toArray n }:=by
 obtain⟨z,its,n,r,e⟩:=I.hok l _ J;exact⟨z,its,n,r,r.length,e⟩
def bn5 (h:n<=aX):eI n=false:=by
 unfold eI;exact js (by lia)
end
section
variable {X:Cx}
def bC2:V->List V->Hp->VK->Prop:=λ x vs H Q=>∃ l xs y,x=.ref l/\vs=[y]/\H l=aT (.J xs)/\xs.length<aX/\Q .N (upd H l (.J (xs++[y])))
def an8:MtM X "list.append" bC2:=by
 intro Y s W H x vs v us Q I rx Z h;obtain⟨l,xs,y,rfl,rfl,J,hz,q⟩:=h;cases rx;obtain⟨u,rfl,ru⟩:=Z.one;obtain⟨z,its,n,r,hl,e⟩:=I.lstM J;refine jD e6 ⟨_,e,rfl⟩ F.entry_list_append (F.args_list_append_2 _ _) (PySem.list_append l its.toArray n u (by rw[ay];lia)) ⟨e,?_⟩;refine⟨.N,_,I.lset J e (by simp) (r.append (.cons ru .nil)) ?_,rfl,q⟩;rw[au,dS];lia
def bK2:V->List V->Hp->VK->Prop:=λ x vs H Q=>∃ l b xs zs,x=.ref l/\vs=[.ref b]/\H l=aT (.J xs)/\H b=aT (.J zs)/\xs.length+zs.length<=aX/\Q .N (upd H l (.J (xs++zs)))
def aD9:MtM X "list.extend" bK2:=by
 intro a0 s W H x vs v us Q I rx rv h;obtain⟨l,b,xs,zs,rfl,rfl,Z,hB,hz,q⟩:=h;cases rx;obtain⟨u,rfl,ru⟩:=rv.one;cases ru;obtain⟨z,its,n,r,hl,e⟩:=I.lstM Z;obtain⟨z2,J,n2,r2,a1,e2⟩:=I.lstM hB;have hsz:its.toArray.size+J.toArray.size<=aX:=by rw[ay,ay];lia
 have Y:¬(!its.toArray.isEmpty&&eI (its.toArray.size+J.toArray.size))=true:=by
  rw[bn5 hsz,Bool.and_false];exact aF
 refine jD e7 ⟨_,e,rfl⟩ F.entry_list_extend (F.args_list_extend_2 _ _)
  (AutoSeq1.list_extend_list_list_0 l its.toArray n b J.toArray n2 Y (by rw[ay];lia) (by lia)) ⟨e,e2,?_⟩
 refine⟨.N,_,I.lset Z e (by simp) (r.append r2) ?_,rfl,q⟩;rw[au];omega
def cs4:R2:=λ x y H Q=>∃ l b xs zs,x=.ref l/\y=.ref b/\H l=aT (.J xs)/\H b=aT (.J zs)/\xs.length+zs.length<=aX/\∀ p,H p=bY->Q (.ref p) (upd H p (.J (xs++zs)))
def bx8:OpR X (dz .Add) cs4:=by
 intro Y s W H x y v u Q I rx ry h;obtain⟨l,b,xs,zs,rfl,rfl,Z,hB,hz,q⟩:=h;cases rx;cases ry;obtain⟨z,its,n,r,hl,e⟩:=I.lstM Z;obtain⟨z2,J,n2,r2,a0,e2⟩:=I.lstM hB;refine PySem.P.add_list e e2 ?_ (by rw[ay,ay];omega);have ea:its.toArray++J.toArray=(its++J).toArray:=by simp
 rw[ea];exact⟨.ref _,_,I.lnew (r.append r2) (by rw[au];omega),rfl,q _ I.fresh⟩
end
section
variable {prog:aD} {w:World} {A:aV} {E:yB} {s:af}
end
section
variable {X:Cx}
end
end L2
end
noncomputable section
namespace Att
open PySem PySem.W PySem.Calls PyProof.Rows
def ints_of_wellAll :∀ ns (vs:yH),WellAll P h vs (ns.map WData.int)->jT vs ns:=by
 intro ns
 induction ns with
 | nil =>
  intro vs w;rw[cR]at w;cases w;exact .nil
 | cons n ns ih =>
  intro vs w;rw[aY]at w;cases w with
  | cons a b =>
   cases a;exact .cons _ _ (ih _ b)
def script_of {l:OpenLaw}(hn:l.most=aT n){z:yH}
  (J:l.row.toRowW.claim.pre args=ca) (a0:WellAll P h z args) :
  ∃ a vs ns,z=[Value.ref a]/\args=[WData.list (ns.map WData.int)]/\h.get? a=aT { cls:=.type "list",data:=.seq vs.toArray }/\jT vs ns/\ns.length<=n:=by
 have a1:=(pre_splitW J).1;have hc:l.pre.holds [] { args:=args }=true:=(pre_splitW J).2;obtain⟨d,r,rfl,h1,h2⟩:=hasAllW_cons a1;obtain rfl:=hasAllW_nil h2;obtain⟨xs,rfl,h3⟩:=hasW_list h1;obtain⟨ns,rfl⟩:=items_int h3;have Y:ns.length<=n:=by
  unfold OpenLaw.pre at hc;have h4:=by
   have h4:=(holds_andW hc).1;rw[hn]at h4;exact h4
  have Z:=condW_of h4 (w_not (w_lt w_lit (w_len_list (w_arg rfl))));rw[aq]at Z;refine kg λ q=>?_;have q':=by omega
  first
   | (rw[iN q']at Z;exact nc Z (by decide))
   | (simp at Z;omega)
 cases a0 with
 | cons w1 w2 =>
  cases w2;cases w1 with
  | list ho hall=>exact⟨_,_,ns,rfl,rfl,ho,ints_of_wellAll ns _ hall,Y⟩
def post_true (l:OpenLaw) args :l.row.toRowW.claim.post args (.bool ca) args=true :=
 postW_of 
  (show WShape.has [] (.bool ca) .bool=ca by first|rfl|decide|simp[WShape.armsAll])
  (w_eq_bool (w_res rfl) w_lit) rfl
def attach_call {l:OpenLaw}{loose:yI}
  (hn:l.most=aT n) (a6:d.params.defaults=[])
  (call:∀(w:World) (s₀ z:af) (mg mb:yD) (fa:Addr) (o:Obj) (pm cd Z:Value) (a:Addr) (vs:yH) (ns:List Int),
   Ground q loose [] XP w s₀ mg mb z.heap->YP w z.heap ->
   z.heap.get? fa=aT o->o.data=.func (docDef d.name d.params d.body d.scope pm cd Z)->z.heap.CodeRec cd d.name->mg d.name=aT (.ref fa) ->
   z.heap.get? a=aT { cls:=.type "list",data:=.seq vs.toArray }->jT vs ns->ns.length<=n->z.gens=#[] ->
   fv (model l.prog w) jg (.call (.ref fa) ⟨[.ref a],[]⟩) (λ r s'=>r=.ok (.ret (.bool ca))/\OldK z.heap s'.heap/\s'.os=z.os/\fX s'.gens) z) :
  WalkO q loose XP YP l.row.toRowW d [] (λ f vs=>kO f vs):=by
 intro w s₀ z mg mb G Y fa o pm cd Z dV kV ho hd a5 hD a4 hg args b0 as a1 b1 b2 a3 b3;obtain rfl:dV=.none:=Dflts.none hD a6;obtain rfl:kV=.none:=Dflts.noKw hD;obtain⟨a,vs,ns,rfl,rfl,a0,J,a2⟩:=script_of hn a1 a3;refine enter_call (fY (call w s₀ z mg mb fa o pm cd Z a vs ns G Y ho (fd_plain hd) a5 a4 a0 J a2 hg) λ r s' hq=>?_);obtain⟨rfl,h2,h3,h4⟩:=hq;exact⟨.inl ⟨.bool ca,.bool ca,[],rfl,λ _=>rfl,.bool ca,post_true l _,λ _=>⟨List.Pairwise.nil,λ _ hm=>(nomatch hm)⟩⟩,h2,h3,h4⟩
section
variable {prog:aD} {w:World} {A:aV} {E:yB} {s:af} {K:Frag}
end
end Att
noncomputable section
namespace L2
open PySem PySem.Spec PyProof.Rows
theorem aq0:∀ {vs:yH} {ns},jT vs ns->Vals (ns.map V.int) vs
 | _,_,.nil=>.nil
 | _,_,.cons n t h=>.cons ⟨t,rfl⟩ (aq0 h)
noncomputable def defArgs (s:Stmt):d8:=match s with
 | .FunctionDef _ a _ _ _ _ _ _ _ _=>a
 | _=>{ posonlyargs:=[],args:=[],vararg:=bY,kwonlyargs:=[],kw_defaults:=[],kwarg:=bY,defaults:=[] }
noncomputable def defBody (s:Stmt):List Stmt:=match s with
 | .FunctionDef _ _ b _ _ _ _ _ _ _=>b
 | _=>[]
noncomputable def defScope (s:Stmt):Scope:=match s with
 | .FunctionDef _ _ _ _ _ _ sc _ _ _=>sc
 | _=>{ kind:=.function,names:=[],isGenerator:=dr,isCoroutine:=dr }
noncomputable abbrev CX0:CXT:=λ _ _ _ _ _ _=>False
abbrev E0:XK:=λ _ _ _=>False
def aV3 :qj CX0 X E0:=λ _ _ _ _ _ _ _ h=>h.elim
structure Fun (K:ae)(x qual:Str)(st:Stmt)(f:Addr)(fd:bX):Prop where
 ex:∃(oc:Value) (od:yJ) (kV doc pm:Value) (an:yJ) (cdv ct:Value) (osl:yF),
  fd=cQ x qual (defArgs st) (defBody st) (defScope st) .none kV doc pm an cdv ct/\K.lookup f=aT ⟨oc,od,.func fd,osl⟩/\eZ K cdv qual=ca
 kp:bF K (.ref f)=ca
section
variable {P:aD} {w:World} {K:ae} {mg:yD} {base:Heap}
def Fun.ok {st}(F:Fun K x qual st f fd)(S:FnScope N ps (defScope st))(len:∀ vs H Q E,sp vs H Q E->vs.length=ps.length)
  (Y:∀(J:Value) (A:aV) (z:List Env) (s:af) (H:Hp) (vs:List V) (Q:VK) (E:XK),Room k (A.deeper (fJ qual (defScope st) s.heap.objs.size f J))->sp vs H Q E ->
   ∃ t,PSs (al9 CX0 P w K mg base N qual (defScope st) f J A z s H E).nox (defBody st) t/\t { nx:=λ _ H'=>Q .N H',rt:=Q } (qB N vs) H):FnOk P w K mg base CX0 (k+1) f fd ps sp:=by
 obtain⟨oc,od,kV,a1,pm,an,J,ct,a2,rfl,lk,Z⟩:=F.ex;refine bR1 lk Z S len λ A z s H vs Q E hr a0=>?_;obtain⟨t,h,q⟩:=Y J A z s H vs Q E hr a0;exact⟨t,h.nox,q⟩
def Fun.binds {st}(F:Fun K x qual st f fd)
  (h:∀(kV z Z:Value) (Y:yJ) (J ct:Value) (us:yH),us.length=ps.length->kU (cQ x qual (defArgs st) (defBody st) (defScope st) .none kV z Z Y J ct) ⟨us,[]⟩=pure (ps.zip us)):Binds K fd ps []:=by
 obtain⟨oc,od,kV,z,Z,Y,J,ct,a1,rfl,lk,a0⟩:=F.ex;exact .all (h kV z Z Y J ct)
def be4 {st}{od Z:yJ}{Y:yF}{kV }(l:K.lookup f=aT ⟨oc,od,.func (cQ x qual (defArgs st) (defBody st) (defScope st) .none kV J pm Z z ct),Y⟩)
  (c:eZ K z qual=ca) (k:bF K (.ref f)=ca):Fun K x qual st f (cQ x qual (defArgs st) (defBody st) (defScope st) .none kV J pm Z z ct):=⟨⟨oc,od,kV,J,pm,Z,z,ct,Y,rfl,l,c⟩,k⟩
end
def ap8 (h:n<=1000):n<aX:=gj h (by decide)
section
variable {X:Cx}
end
def ct0 { B:Prop}(h:B):if dr=ca then A else B:=by
 rw[iF aF];exact h
def iteT { B:Prop}(h:A):if ca=ca then A else B:=by
 rw[ij rfl];exact h
def ae1 (H H':Hp):Prop:=∀ b o,H b=aT o->H' b=aT o
def ae1.refl H :ae1 H H:=λ _ _ h=>h
def ae1.trans (a:ae1 H J)(b:ae1 J z):ae1 H z:=λ c o h=>b c o (a c o h)
def aW8 {Y:yL}(I:Nat->af->Prop)
  (turn:∀ n s,I n s->wpAny (model prog w) A (iI it) (λ r s₁=>match r with
   | none=>R (.ok .next) s₁
   | some v=>wpAny (model prog w) A (fF z it v) (λ _ Z=>wpAny (model prog w) A (hV z env v) (λ _ s₂ =>
     wpAny (model prog w) A (forIn Y ca λ c r=>if r=ca then do let ok <- gG c env (eval c env);pure (ForInStep.yield ok)else pure (ForInStep.yield r)) (λ ok s₃ =>
      if ok=ca then wpAny (model prog w) A (eval elt env) (λ x s₄ =>
       wpAny (model prog w) A (call (.builtin "list.append") [J,x]) (λ _ s₅=>∃ m,m<n/\I m s₅) (fZ (model prog w) A env λ e s'=>R (.error e) s') s₄) (fZ (model prog w) A env λ e s'=>R (.error e) s') s₃
      else ∃ m,m<n/\I m s₃) (fZ (model prog w) A env λ e s'=>R (.error e) s') s₂) (fZ (model prog w) A env λ e s'=>R (.error e) s') Z) (fZ (model prog w) A env λ e s'=>R (.error e) s') s₁) (fZ (model prog w) A env λ e s'=>R (.error e) s') s)
   n (h:I n s) :
  fv (model prog w) A (.compLoop (.ListComp elt [⟨z,iter,Y,0⟩] scope pos) 0 it J env) R s:=by
 refine codeAny_loop rfl I (λ n s hI=>?_) n h;refine wpAny_noted ?_;rw[compTurn_list];refine ai (jr (ai (bp (turn n s hI) (λ r s₁ h₁=>?_) λ _ _ h'=>h')));cases r with
 | none=>exact aC h₁
 | some v =>
  refine ai (bp h₁ (λ _ Z a0=>?_) λ _ _ h'=>h');refine ai (bp a0 (λ _ s₂ h₂=>ai (bp h₂ (λ ok s₃ h₃=>?_) λ _ _ h'=>h')) λ _ _ h'=>h');cases ok with
  | false=>exact aC ⟨rfl,h₃⟩
  | true =>
   exact ai (ai (bp h₃ (λ x s₄ h₄=>ai (bp h₄ (λ _ s₅ h₅=>aC (aC ⟨rfl,h₅⟩)) λ _ _ h'=>h')) λ _ _ h'=>h'))
noncomputable def at0 (cells:yC):List (Str×cI)->List (Str×Addr)->List (Str×Addr)
 | [],acc=>acc
 | (n,k)::r,acc=>at0 cells r (if k==.free then(match cells.lookup n with|some c=>(n,c)::acc|none=>acc)else acc)
theorem ai3 :∀ names z ,(∀ y∈names,y.2=.free->∃ c,env.cells.lookup y.1=aT c) ->
  (forIn names z λ(x) (Y:yC)=>(if x.2==.free then do let c <- cellOf env x.1;pure (ForInStep.yield ((x.1,c)::Y))else pure (ForInStep.yield Y):Sem (ForInStep (List (Str×Addr)))))=pure (at0 env.cells names z)
 | [],z,_=>by rw[kY];rfl
 | (n,k)::r,z,h=>by
  have J:=λ a=>ai3 r a λ y hy=>h y (ah _ hy);rw[List.forIn_cons];unfold at0;cases e:(k==NameKind.free)with
  | false =>
   simp only[if_false];exact J z
  | true =>
   have hk:=by simpa using e
   obtain⟨c,hc⟩:=h (n,k) ao hk;have e1:cellOf env n=pure c:=by unfold cellOf;rw[hc]
   simp only[e1,hc];exact J _
def ai6 (h:∀ y∈scope.names,y.2=.free->∃ c,env.cells.lookup y.1=aT c):closureFor scope env=pure (at0 env.cells scope.names []):=by
 have:=ai3 scope.names [] h;show(forIn scope.names [] (λ(x) (z)=>(if x.2==.free then do let c <- cellOf env x.1;pure (ForInStep.yield ((x.1,c)::z))else pure (ForInStep.yield z):Sem (ForInStep (List (Str×Addr))))) >>= λ z=>pure z)=_;rw[this];rfl
theorem clOf_mem :∀ {names} {J:yC},(n,c)∈at0 cells names J->cells.lookup n=aT c\/(n,c)∈J
 | [],_,h=>.inr h
 | (m,k)::r,J,h=>by
  unfold at0 at h;rcases clOf_mem h with z|z
  .exact .inl z
  .cases e:(k==NameKind.free)with
   | false=>simp only[e,if_false]at z;exact .inr z
   | true =>
    simp only[e]at z;cases q:cells.lookup m with
    | none=>rw[q]at z;exact .inr z
    | some d =>
     rw[q]at z;rcases aw.mp z with y|y
     .cases y;exact .inl q
     .exact .inr y
theorem aN6 (hc:cells.lookup n=aT c):∀ {names} {z:yC},((n,NameKind.free)∈names\/(n,c)∈z)->(n,c)∈at0 cells names z
 | [],_,h=>by rcases h with h|h;(exact nc h (by simp));exact h
 | (m,k)::r,z,h=>by
  unfold at0;refine aN6 hc ?_;rcases h with h|h
  .rcases aw.mp h with e|h
   .cases e
    right
    simp[hc]
   .exact .inl h
  .right
   cases e:(k==NameKind.free)with
   | false=>simpa using h
   | true =>
    simp only[];cases q:cells.lookup m with
    | none=>exact h
    | some d=>exact ah _ h
theorem ah4 {α:Type}{c}:∀ {l:List (Str×α)},(n,c)∈l->(∀ d,(n,d)∈l->d=c)->l.lookup n=aT c
 | (m,d)::r,h,u=>by
  rw[a9];cases e:n==m with
  | true =>
   have e':=beq_iff_eq.mp e;subst e';rw[u d ao]
  | false =>
   rcases aw.mp h with z|z
   .cases z;simp at e
   .exact ah4 z λ d' h'=>u d' (ah _ h')
def aH1 (hc:cells.lookup n=aT c)(h:(n,NameKind.free)∈names):(at0 cells names []).lookup n=aT c:=by
 refine ah4 (aN6 hc (.inl h)) λ d hd=>?_;rcases clOf_mem hd with z|z
 .rw[hc]at z;exact(aM z).symm
 .exact nc z (by simp)
theorem zN:∀ names n (z:yC),bD n names z=bD n names []++z
 | [],_,z=>by simp[bD]
 | (x,k)::r,n,z=>by
  unfold bD;split
  .rw[zN r (n+1) ((x,n)::z),zN r (n+1) [(x,n)]];simp
  .exact zN r n z
set_option tactic.hygienic true in
theorem zR:∀ {names} {n} {J:yC} {x} {c},(x,c)∈bD n names J->(x,NameKind.cell)∈names\/(x,c)∈J
 | [],_,_,_,_,h=>.inr h
 | (y,k)::r,n,J,x,c,h=>by
  unfold bD at h;split at h
  .rename_i hk;rcases zR h with z|z
   .exact .inl (ah _ z)
   .rcases aw.mp z with e|z
    .cases e;have:=by simpa using hk
     subst this;exact .inl ao
    .exact .inr z
  .rcases zR h with z|z
   .exact .inl (ah _ z)
   .exact .inr z
theorem qS {α:Type} x :∀(l r:List (Str×α)),(l++r).lookup x=(l.lookup x).or (r.lookup x)
 | [],r=>by simp
 | (y,v)::l,r=>by
  rw[cZ,a9,a9];cases x==y with
  | true=>rfl
  | false=>exact qS x l r
noncomputable def zU (N':yI)(src:yE)(scope:Scope)(XN:yI)(xs:Scope):Bool :=
 (scope.kind==.function) &&
 (scope.names.all λ y=>!(y.2==.free)||(xs.names.lookup y.1==aT .cell||xs.names.lookup y.1==aT .free)) &&
 (scope.names.all λ y=>!(y.2==.local)||scope.names.lookup y.1==aT .local) &&
 (scope.names.all λ y=>!(y.2==.cell)||(scope.names.all λ z=>!(z.1==y.1)||z.2==.cell)) &&
 (src.length==N'.length) &&
 ((N'.zip src).all λ y=>match y.2 with|none=>ca|some j=>XN[j]?==aT y.1&&scope.names.lookup y.1==aT .free)
structure CompCk (N':yI)(src:yE)(scope:Scope)(XN:yI)(xs:Scope):Prop where
 kind:scope.kind=.function
 fr:∀ y∈scope.names,y.2=.free->xs.names.lookup y.1=aT .cell\/xs.names.lookup y.1=aT .free
 loc:∀ y∈scope.names,y.2=.local->scope.names.lookup y.1=aT .local
 cel:∀ y∈scope.names,y.2=.cell->∀ z∈scope.names,z.1=y.1->z.2=.cell
 len:src.length=N'.length
 sr:∀(i j:Nat) (x:Str),src[i]?=aT (aT j)->N'[i]?=aT x->XN[j]?=aT x/\scope.names.lookup x=aT .free
def bw5 (h:zU J src scope Y Z=ca):CompCk J src scope Y Z:=by
 unfold zU at h;simp only[aj]at h;obtain⟨⟨⟨⟨⟨h1,h2⟩,h3⟩,h4⟩,h5⟩,h6⟩:=h;refine⟨by simpa using h1,λ y hy e=>?_,λ y hy e=>?_,λ y hy e z hz ez=>?_,by simpa using h5,λ i j x e1 e2=>?_⟩
 .have:=aA.mp h2 y hy;simpa [e]using this
 .have:=aA.mp h3 y hy;simpa [e]using this
 .have:=aA.mp h4 y hy;simp only[e,lF]at this;have:=aA.mp this z hz;simpa [ez]using this
 .have hm:(x,aT j)∈J.zip src:=by
   refine aP (i:=i) ?_;rw[List.getElem?_zip_eq_some];exact⟨e2,e1⟩
  have:=aA.mp h6 _ hm;simpa using this
noncomputable abbrev zK (X:Cx)(N':yI)(scope:Scope)(Cc:Addr)(cells:yC)(s:af)(H:Hp)(ex:List Addr):Cx where
 prog:=X.prog
 w:=X.w
 K:=X.K
 mg:=X.mg
 base:=X.base
 A:=X.A
 N:=N'
 s₀:=s
 H₀:=H
 env:={ scope:=fx scope X.env,locals:=Cc,globals:=X.env.globals,cells:=cells,qual:=X.env.qual,func:=bY,code:=X.env.code,frame:=X.env.frame,builtins:=X.env.builtins }
 outer:=X.stack
 stack:=X.stack
 ex:=ex
 fn:=λ x=>scope.names.lookup x==aT .cell
 calm:=X.calm
 pn:=[]
 xe:=λ _ _=>False
def PIf (X:Cx)(ifs:yL)(t:TT):Prop :=
 ∀ pins s (W:St) H Q ,Inv X pins W H s->t W H Q ->
  wpAny (model X.prog X.w) X.A (forIn ifs ca λ c r=>if r=ca then do let ok <- gG c X.env (eval c X.env);pure (ForInStep.yield ok)else pure (ForInStep.yield r)) (TP X pins W Q) X.xe s
def cr1:TT:=λ _ H Q=>Q ca H
def bb2 :PIf X [] cr1:=λ _ _ _ H _ I h=>wpAny_tests_nil ⟨H,I,h⟩
def bD7 (h:PT X c t):PIf X [c] t:=λ z s W H Q I hw=>wpAny_tests_one (h z s W H Q I hw)
noncomputable def aC3 (src:yE)(W:St):St:=src.map λ o=>match o with|none=>bY|some j=>(W[j]?).join
def tComp (src:yE)(wi:TI)(g:TG)(tc:TT)(te:TE):TE:=λ W H Q=>wi W H λ J H1=>∀ D,H1 D=bY ->
 ∃ Ww:Nat->Nat->St->Hp->Prop,(∃ m,Ww 0 m (aC3 src W) (upd H1 D (.J [])))/\∀ i m W' H',Ww i m W' H' ->
  (J.stop i H'/\Q (.ref D) H')\/(J.go i H'/\∃ N:St->Hp->Prop,(∀ W2 H2,N W2 H2->∃ m',m'<m/\Ww (i+1) m' W2 H2) /\
   ∀ x H2,J.yld i H' x H2->g x W' H2 λ W3 H3=>tc W3 H3 λ b H4=>if b=ca then te W3 H4 λ v H5=>∃ ys,H5 D=aT (.J ys)/\ys.length<aX/\N W3 (upd H5 D (.J (ys++[v])))else N W3 H4)
theorem qp {env:Env}:∀ {names:List (Str×cI)} {x:Str} {k:cI},names.lookup x=aT k ->
  (names.map λ(n,k)=>if(k==NameKind.free&&env.scope.kind==.function&&env.kindOf n==aT .cell)then(n,NameKind.cell)else(n,k)).lookup x =
   aT (if(k==NameKind.free&&env.scope.kind==.function&&env.kindOf x==aT .cell)then NameKind.cell else k)
 | [],_,_,h=>by simp at h
 | (n,k)::r,x,k',h=>by
  have z:=@qp env r x k';show dE x ((if(k==NameKind.free&&env.scope.kind==.function&&env.kindOf n==aT .cell)=ca then(n,NameKind.cell)else(n,k))::_)=_;cases hx:x==n with
  | true =>
   have e:=beq_iff_eq.mp hx;subst e;simp only[a9,hx]at h;cases h;by_cases hc:(k==NameKind.free&&env.scope.kind==.function&&env.kindOf x==aT .cell)=ca
   .rw[ij hc,ij hc];simp only[a9,hx]
   .rw[iF hc,iF hc];simp only[a9,hx]
  | false =>
   simp only[a9,hx]at h;by_cases hc:(k==NameKind.free&&env.scope.kind==.function&&env.kindOf n==aT .cell)=ca
   .rw[ij hc];simp only[a9,hx];exact z h
   .rw[iF hc];simp only[a9,hx];exact z h
theorem qb {env:Env}:∀ {names:List (Str×cI)} {x},names.lookup x=bY ->
  (names.map λ(n,k)=>if(k==NameKind.free&&env.scope.kind==.function&&env.kindOf n==aT .cell)then(n,NameKind.cell)else(n,k)).lookup x=bY
 | [],_,_=>rfl
 | (n,k)::r,x,h=>by
  have z:=@qb env r x;show dE x ((if(k==NameKind.free&&env.scope.kind==.function&&env.kindOf n==aT .cell)=ca then(n,NameKind.cell)else(n,k))::_)=_;cases hx:x==n with
  | true=>simp only[a9,hx]at h;cases h
  | false =>
   simp only[a9,hx]at h;by_cases hc:(k==NameKind.free&&env.scope.kind==.function&&env.kindOf n==aT .cell)=ca
   .rw[ij hc];simp only[a9,hx];exact z h
   .rw[iF hc];simp only[a9,hx];exact z h
def au5 {W:St}{s s4:af}{fp:List Addr}
  (J:CompCk N' src scope X.N X.env.scope) (I:Inv X b0 W H s) (hf:∀ b∈fp,FpOk X b0 H b) (b6:∀ b∈fp,b<s.heap.objs.size)
  (e4:∃ tk,s4={ s with heap:=ft (s.heap.push { cls:=.type "dict",data:=.dict #[] }) scope.names,toks:=tk }) :
  Inv (zK X N' scope s.heap.objs.size (bD (s.heap.objs.size+1) scope.names (at0 X.env.cells scope.names [])) s H fp) [] (aC3 src W) H s4:=by
 obtain⟨tk,rfl⟩:=e4;have hk:∀ b o,s.heap.get? b=aT o->(ft (s.heap.push { cls:=.type "dict",data:=.dict #[] }) scope.names).get? b=aT o:=λ b o e=>fK _ _ b o (am _ e);have ok:=cellsFrom_ok scope.names (s.heap.push { cls:=.type "dict",data:=.dict #[] }) (s.heap.objs.size+1) [] ⟨λ _ _ hm=>(nomatch hm),List.Pairwise.nil⟩ (by rw[cq];exact al _);rw[cq]at ok;have a4:=zN scope.names (s.heap.objs.size+1) (at0 X.env.cells scope.names []);have lk:∀ x c,(bD (s.heap.objs.size+1) scope.names (at0 X.env.cells scope.names [])).lookup x=aT c ->
   ((x,c)∈bD (s.heap.objs.size+1) scope.names []/\(x,NameKind.cell)∈scope.names)\/(X.env.cells.lookup x=aT c/\(bD (s.heap.objs.size+1) scope.names []).lookup x=bY):=λ x c e=>by
  rw[a4,qS]at e;cases q:(bD (s.heap.objs.size+1) scope.names []).lookup x with
  | some d =>
   rw[q]at e;have e':d=c:=aM e;subst e';have hm:=bu q;refine .inl ⟨hm,?_⟩;rcases zR hm with z|z
   .exact z
   .exact nc z (by simp)
  | none =>
   rw[q]at e;have e':(at0 X.env.cells scope.names []).lookup x=aT c:=e;rcases clOf_mem (bu e')with z|z
   .exact .inr ⟨z,rfl⟩
   .exact nc z (by simp)
 have up:∀ x c,(x,c)∈bD (s.heap.objs.size+1) scope.names []->s.heap.objs.size+1<=c:=λ x c h=>(ok.empty x c h).2;have b3:∀ x c,X.env.cells.lookup x=aT c->c<s.heap.objs.size:=λ x c h=>by
  obtain⟨v,q⟩:=I.cell x c h;exact q.lt
 have a5:∀ b,b<s.heap.objs.size->b≠s.heap.objs.size:=λ b h=>aJ h;have b5:∀ b∈fp,H b=bY/\b≠X.env.locals/\b ∉ X.fs:=λ b hb=>⟨(hf b hb).1,(hf b hb).2.1,(hf b hb).2.2.1⟩
 have b9:(ft (s.heap.push { cls:=.type "dict",data:=.dict #[] }) scope.names).Ns s.heap.objs.size (λ _=>bY):=(Heap.Ns.new s.heap (.type "dict")).keeps (fK _ _);have a3:∀ x k,scope.names.lookup x=aT k->(fx scope X.env).names.lookup x=aT (if(k==NameKind.free&&X.env.scope.kind==.function&&X.env.kindOf x==aT .cell)then NameKind.cell else k):=λ x k e=>qp (env:=X.env) e;have a6:∀ x,scope.names.lookup x=bY->(fx scope X.env).names.lookup x=none:=λ x e=>qb (env:=X.env) e;have b4:∀ x c,(x,NameKind.free)∈scope.names->X.env.cells.lookup x=aT c->(bD (s.heap.objs.size+1) scope.names (at0 X.env.cells scope.names [])).lookup x=aT c:=λ x c hx hc=>by
  rw[a4,qS];cases q:(bD (s.heap.objs.size+1) scope.names []).lookup x with
  | some d =>
   rcases zR (bu q)with z|z
   .have:=J.cel _ z rfl _ hx rfl;cases this
   .exact nc z (by simp)
  | none=>exact aH1 hc hx
 have b1:∀ x,(x,NameKind.free)∈scope.names->∃ c,X.env.cells.lookup x=aT c:=λ x hx=>I.ok.has x (J.fr _ hx rfl);refine⟨⟨I.ok.mod,J.kind,I.ok.glob,I.ok.blt,al _,λ x y c e1 e2=>?_,λ x hx=>?_,λ x c hx e=>?_,I.ok.hd,I.ok.frames,.inl rfl,λ b hb=>⟨a5 b (b6 b hb),λ x c e z=>?_⟩,I.bs,ak I.ok.bsz I.sz,λ b o e hb=>?_,λ b hb z=>?_,I.stack,I.stkFree⟩,
  rfl,I.bare,Un.kept hk,⟨_,b9,λ i x v e1 e2 e3=>?_⟩,λ x c e=>?_,I.hok.fresh (al _),λ x c e=>?_,λ p hp=>nc (show p∈([]:yA)from hp) (by simp),I.hok.kept hk,by unfold aC3;rw[aq];exact J.len⟩
 .rcases lk x c e1 with⟨a1,_⟩|⟨a1,_⟩<;>rcases lk y c e2 with⟨a2,_⟩|⟨a2,_⟩
  .exact name_of_addr ok.apart a1 a2
  .exact nc (aG (b3 _ _ a2) (gA (up _ _ a1))) (bH _)
  .exact nc (aG (b3 _ _ a1) (gA (up _ _ a2))) (bH _)
  .exact I.ok.inj x y c a1 a2
 .cases q:scope.names.lookup x with
  | none =>
   have Z:(fx scope X.env).names.lookup x=aT .cell\/(fx scope X.env).names.lookup x=aT .free:=hx;rw[a6 x q]at Z;rcases Z with z|z<;>cases z
  | some k =>
   have Z:(fx scope X.env).names.lookup x=aT .cell\/(fx scope X.env).names.lookup x=aT .free:=hx;rw[a3 x k q]at Z;cases k with
   | free =>
    obtain⟨c,hc⟩:=b1 x (bu q);exact⟨c,b4 x c (bu q) hc⟩
   | cell =>
    obtain⟨c,hc⟩:=am6 (n:=s.heap.objs.size+1) q;exact⟨c,by show(bD _ _ _).lookup x=_;rw[a4,qS,hc];rfl⟩
   | _=>rcases Z with z|z<;>cases z
 .have Z:(scope.names.lookup x==aT .cell)=true:=hx;have q:scope.names.lookup x=aT .cell:=by simpa using Z
  rcases lk x c e with⟨a,_⟩|⟨a,b⟩
  .have:=up _ _ a;show s.heap.objs.size<=c;lia
  .obtain⟨d,hd⟩:=am6 (n:=s.heap.objs.size+1) q;rw[hd]at b;cases b
 .subst z;rcases lk x c e with⟨a,_⟩|⟨a,_⟩
  .exact nc (aG (b6 c hb) (gA (up _ _ a))) (bH _)
  .exact(hf c hb).2.2.2.2.1 x c a rfl
 .rcases(hf b hb).2.2.2.1 with z|z
  .exact I.ok.noex b o e z
  .exact nc (aG (aL e) (ak I.ok.bsz z)) (bH _)
 .rcases aw.mp (I.stkSub b z)with y|y
  .exact(b5 b hb).2.1 y
  .exact(b5 b hb).2.2 y
 .have Y:(aC3 src W)[i]?=aT (aT v):=e2;unfold aC3 at Y;rw[aI]at Y;cases q:src[i]? with
  | none=>rw[q]at Y;cases Y
  | some o =>
   rw[q]at Y;cases o with
   | none=>cases Y
   | some j =>
    have a0:(W[j]?).join=aT v:=aM Y;have ej:W[j]?=aT (aT v):=by
     cases q2:W[j]? with
     | none=>rw[q2]at a0;cases a0
     | some o2=>rw[q2]at a0;exact congrArg aT a0
    obtain⟨h1,h2⟩:=J.sr i j x q e1;have hm:=bu h2;obtain⟨mX,c3,c0⟩:=I.loc;have b2:Vis X.env.scope x:=by
     rcases J.fr _ hm rfl with z|z
     .exact .inr (.inl z)
     .exact .inr (.inr z)
    obtain⟨u,ru,look⟩:=c0 j x v h1 ej b2;refine⟨u,ru,.inr ?_⟩;have hcell:∃ c,X.env.cells.lookup x=aT c/\s.heap.IsCell c (aT u):=by
     rcases look with⟨z,_⟩|⟨_,c,z1,z2⟩
     .have z':X.env.scope.names.lookup x=aT .local:=z;rcases J.fr _ hm rfl with y|y<;>(rw[z']at y;cases y)
     .exact⟨c,z1,z2⟩
    obtain⟨c,c1,c2⟩:=hcell;refine⟨?_,c,b4 x c hm c1,c2.keeps hk⟩;show(fx scope X.env).names.lookup x=aT .cell\/(fx scope X.env).names.lookup x=aT .free;rw[a3 x _ h2];by_cases hc:(NameKind.free==NameKind.free&&X.env.scope.kind==.function&&X.env.kindOf x==aT .cell)=ca
    .rw[ij hc];exact .inl rfl
    .rw[iF hc];exact .inr rfl
 .rcases lk x c e with⟨a,_⟩|⟨a,_⟩
  .exact⟨_,(ok.empty x c a).1⟩
  .obtain⟨v,q⟩:=I.cell x c a;exact⟨v,q.keeps hk⟩
 .rcases lk x c e with⟨a,_⟩|⟨a,_⟩
  .exact I.hok.fresh (by have:=up _ _ a;lia)
  .exact I.freeC x c a
def aO1 {W W':St}
  (I:Inv X Y W H s) (hf:∀ b∈fp,FpOk X Y H b) (J:Inv (zK X N' scope s.heap.objs.size cells s H fp) [] W' H5 s5) (hs:cr s.heap.objs.size s5.heap h') :
  Inv X Y W H5 { s5 with heap:=h' }:=by
 have Z:∀ b o,s.heap.get? b=aT o->b≠s.heap.objs.size:=λ b o e=>aJ (aL e);have u:=J.base;refine I.call' J.os ⟨λ b o e n hb hx=>?_,λ b o e n hb hx=>?_,λ b o e n hx=>u.free b o e n hx,λ b o e hx=>?_,u.tups,u.frzs,u.tbls⟩ (λ b o e=>?_) J.bare λ b hb=>⟨(hf b hb).2.2.2.1,(hf b hb).2.1,(hf b hb).2.2.2.2.1,(hf b hb).2.2.2.2.2⟩
 .exact(hs.2 b (Z b o e)).trans (u.keep b o e n hb hx)
 .obtain⟨sl,q⟩:=u.slot b o e n hb hx;exact⟨sl,(hs.2 b (Z b o e)).trans q⟩
 .obtain⟨o',q⟩:=u.there b o e hx;exact⟨o',(hs.2 b (Z b o e)).trans q⟩
 .have fr:=J.free;refine(J.hok b o e).stay (λ c w' hc q=>(hs.2 c ?_).trans q) (λ _ q=>q) λ _ _ q=>q
  rintro rfl
  rcases hc with z|hc
  .rw[<-z,fr]at e;cases e
  .rw[fr]at hc;cases hc
def ai0 {E:yB}{J:yC}
  (h:Q { scope:=scope,locals:=s.heap.objs.size,globals:=globals,cells:=bD (s.heap.objs.size+1) scope.names J,qual:=qual,func:=bY,code:=z.code,frame:=z.frame,builtins:=z.builtins }
   { s with heap:=ft (s.heap.push { cls:=.type "dict",data:=.dict #[] }) scope.names }) :
  wpAny M A (newFunctionEnv scope globals J [] qual bY .none (aT z)) Q E s:=by
 simp only[newFunctionEnv,if_true];refine ai (wpAny_alloc ?_);refine ai (wpAny_layCells _ (λ name kind cells=>by cases hkc:kind==NameKind.cell<;>simp[]) _ _ _ _ ?_);rw[cq ..];refine ai ?_;rw[kY];exact aC (aC h)
def aC1 {Ww:Nat->Nat->St->Hp->Prop}
  {QD:Hp->Prop} {W0:St} (hx:X'.xe=λ _ _=>False) (Y:X'.calm=ca) (I4:Inv X' [] W0 H0 s4) (T:Turn X'.prog X'.w X'.K tg J fp it tn) (b2:tn 0 s4.heap)
  (Z:∀ H':Hp,(∀ b∈fp,H' b=bY)->∀ b∈fp,FpOk X' [] H' b) (a5:∀ b∈fp,H0 b=bY) (w0:Ww 0 m0 W0 H0)
  (turn:∀ i m W' H',Ww i m W' H'->(J.stop i H'/\QD H')\/(J.go i H'/\∃ N:St->Hp->Prop,(∀ W2 H2,N W2 H2->∃ m',m'<m/\Ww (i+1) m' W2 H2) /\
   ∀ x H2,J.yld i H' x H2->g x W' H2 λ W3 H3=>tc W3 H3 λ b H4=>if b=ca then te W3 H4 λ v H5=>∃ ys,H5 D=aT (.J ys)/\ys.length<aX/\N W3 (upd H5 D (.J (ys++[v])))else N W3 H4))
  (hg:PG X' tg g) (b1:PIf X' a4 tc) (he:PE X' elt te) (a2:∀ W' H' s',Inv X' [] W' H' s'->QD H'->R (.ok .next) s') :
  fv (model X'.prog X'.w) X'.A (.compLoop (.ListComp elt [⟨tg,iter,a4,0⟩] scope pos) 0 (.ref it) (.ref D) X'.env) R s4:=by
 have nox:∀ {α:Type} {t:Sem α} {Q Q':α->af->Prop} {E:yB} {s:af},wpAny (model X'.prog X'.w) X'.A t Q X'.xe s->(∀ a s,Q a s->Q' a s)->wpAny (model X'.prog X'.w) X'.A t Q' E s :=
  λ h hQ=>bp h hQ λ _ _ z=>by rw[hx]at z;exact z.elim
 refine aW8 (λ n s'=>∃ i W' H',Inv X' [] W' H' s'/\tn i s'.heap/\(∀ b∈fp,H' b=bY)/\Ww i n W' H') ?_ m0 ⟨0,W0,H0,I4,b2,a5,w0⟩
 rintro n s3 ⟨i,W3,H3,I3,a3,a1,w3⟩
 rcases turn i n W3 H3 w3 with⟨stop,qn⟩|⟨go,N,hN,step⟩
 .refine nox (T.done X' rfl rfl rfl Y i [] s3 W3 H3 X'.xe I3 (Z H3 a1) a3 stop) λ r s4 ⟨hr,I4⟩=>?_;subst hr;exact a2 W3 H3 s4 I4 qn
 .refine nox (T.item X' rfl rfl rfl Y i [] s3 W3 H3 X'.xe I3 (Z H3 a1) a3 go) λ r s4 ⟨u,hr,h4⟩=>?_;subst hr;refine nox h4 λ _ s5 ⟨x,H5,I5,r5,y5,a0,b0⟩=>?_;have a6:=I5.pinned (Z H5 b0) (T.obj _ _ a0);refine nox (hg _ s5 W3 H5 x u _ a6 r5 (step x H5 y5)) λ _ s6 ⟨W6,H6,I6,q6⟩=>?_;have again:∀ {W7:St} {H7:Hp} {s7:af},Inv X' ([]++aD7 fp s5.heap) W7 H7 s7->N W7 H7->∃ m,m<n/\∃ i W' H',Inv X' [] W' H' s7/\tn i s7.heap/\(∀ b∈fp,H' b=bY)/\Ww i m W' H':=λ {W7 H7 s7} I7 n7=>by
   obtain⟨m',hm,w7⟩:=hN W7 H7 n7;refine⟨m',hm,i+1,W7,H7,I7.unpinned,T.keep _ _ _ a0 λ b hb o e=>(I7.pin (b,o) (aO _ (aO _ (qO hb e)))).1,λ b hb=>?_,w7⟩;obtain⟨o,e,d⟩:=T.obj _ _ a0 b hb;exact(I7.pin (b,o) (aO _ (aO _ (qO hb e)))).2.1
  refine nox (b1 _ s6 W6 H6 _ I6 q6) λ b s7 ⟨H7,I7,q7⟩=>?_;cases b with
  | false =>
   rw[iF aF]at q7 ⊢;exact again I7 q7
  | true =>
   rw[ij rfl]at q7 ⊢;refine nox (he _ s7 W6 H7 _ I7 q7) λ v s8 ⟨y,H8,I8,r8,ys,hy,hz,q8⟩=>?_;refine nox (an8 _ s8 W6 H8 (.ref D) [y] (.ref D) [v] (λ _ H9=>N W6 H9) I8 rfl (.cons r8 .nil) ⟨D,ys,y,rfl,rfl,hy,hz,q8⟩) λ v9 s9 ⟨_,H9,I9,_,q9⟩=>?_;exact again I9 q9
def aI8 N' src 
  (a6:zU N' src scope X.N X.env.scope=ca) (hi:PI X tg iter wi) (Z:X.calm=ca)
  (b0:∀(Cc:Addr) (cells:yC) (s:af) (H:Hp) (ex:List Addr),PG (zK X N' scope Cc cells s H ex) tg g/\PIf (zK X N' scope Cc cells s H ex) a4 tc/\PE (zK X N' scope Cc cells s H ex) elt te)
  (hs:autoParam (∀ x,dX iter X.env x=pure x) Zq3._auto_1):PE X (.ListComp elt [⟨tg,iter,a4,0⟩] scope pos) (tComp src wi g tc te):=by
 intro z s W H Q I h;have ck:=bw5 a6;rw[eval_ListComp];have hcl:=ai6 λ y hy e=>I.ok.has y.1 (ck.fr y hy e);refine gM rfl hs hcl ck.kind ck.loc (thn (hi z s W H _ I h) λ v s1 h1=>thn h1 λ b6 s2 h2=>?_);obtain⟨it,Y,tn,J,H2,e,I2,T,a1,f2,Ww⟩:=h2;subst e;have hD:=I2.fresh;obtain⟨Ww,⟨m0,w0⟩,turn⟩:=Ww _ hD;have I3:=I2.lnew (t':=s2.toks) .nil (cW _);have a2:∀ b∈Y,b<s2.heap.objs.size:=λ b hb=>by obtain⟨o,q,_⟩:=T.obj _ _ a1 b hb;exact aL q
 have f3:∀ b∈Y,FpOk X z (upd H2 s2.heap.objs.size (.J [])) b:=λ b hb=>⟨by rw[zf (aJ (a2 b hb))];exact(f2 b hb).1,(f2 b hb).2⟩
 refine cL (ai0 ?_);generalize a0:({ s2 with heap:=s2.heap.push { cls:=.type "list",data:=.seq ([]).toArray },toks:=s2.toks })=s3 at I3;have b5:=a0;have b4:∀ b∈Y,b<s3.heap.objs.size:=λ b hb=>by
  rw[<-a0];rw[cq];exact e8 (a2 b hb)
 have I4:=au5 (s4:={ s3 with heap:=ft (s3.heap.push { cls:=.type "dict",data:=.dict #[] }) scope.names }) ck I3 f3 b4 ⟨_,rfl⟩;have a5:tn 0 (ft (s3.heap.push { cls:=.type "dict",data:=.dict #[] }) scope.names):=T.keep _ _ _ a1 λ b hb o e=>fK _ _ b o (am _ (by rw[<-a0];exact am _ e));obtain⟨hg,b3,he⟩:=b0 s3.heap.objs.size (bD (s3.heap.objs.size+1) scope.names (at0 X.env.cells scope.names [])) s3 (upd H2 s2.heap.objs.size (.J [])) Y;have a3:∀ H':Hp,(∀ b∈Y,H' b=bY)->∀ b∈Y,FpOk (zK X N' scope s3.heap.objs.size (bD (s3.heap.objs.size+1) scope.names (at0 X.env.cells scope.names [])) s3 (upd H2 s2.heap.objs.size (.J [])) Y) [] H' b:=λ H' hn b hb =>
  ⟨hn b hb,(I4.ok.exf b hb).1,I4.ok.exfs b hb,.inl hb,λ x c e=>(I4.ok.exf b hb).2 x c e,λ p hp=>nc (hp) (by simp)⟩
 have T':=T;have b2:=λ b hb=>(f3 b hb).1;have L:=aC1 (X':=zK X N' scope s3.heap.objs.size (bD (s3.heap.objs.size+1) scope.names (at0 X.env.cells scope.names [])) s3 (upd H2 s2.heap.objs.size (.J [])) Y) (R:=compPost (model X.prog X.w) X.A X.xe bY (EP X z W Q) (Value.ref s2.heap.objs.size) s3.heap.objs.size) (iter:=iter) (scope:=scope) (pos:=pos) rfl Z I4 T' a5 a3 b2 w0 turn hg b3 he
  (λ W' H' s' J' q=>by
   obtain⟨mm,hn,_⟩:=J'.loc;exact⟨mm,hn,λ h' b1=>⟨.ref s2.heap.objs.size,H',aO1 I3 f3 J' b1,rfl,q⟩⟩)
 exact ik L (T.self _ _ _ _ _ a5 L)
section
variable {X:Cx}
def ch9:br "abs"=aT (.builtin "abs"):=by decide +kernel
def cm9:br "len"=aT (.builtin "len"):=by decide +kernel
def bJ4:br "min"=aT (.builtin "min"):=by decide +kernel
def cj5:br "sum"=aT (.builtin "sum"):=by decide +kernel
def cl7:br "all"=aT (.builtin "all"):=by decide +kernel
def qG:br "isinstance"=aT (.builtin "isinstance"):=by decide +kernel
def bQ6:br "int"=aT (.type "int"):=by decide +kernel
def ca1:br "bool"=aT (.type "bool"):=by decide +kernel
def bT9:br "str"=aT (.type "str"):=by decide +kernel
def bc5:br "tuple"=aT (.type "tuple"):=by decide +kernel
def bx6:br "list"=aT (.type "list"):=by decide +kernel
def ci5 (i j:Int):Prop:=0<j/\j<2^4096
def aR8 {y:Int}(h0:0<y)(h:y<2^4096):y.natAbs.log2<9000:=by
 have hn:=by
  have:(y.natAbs)=y:=by lia
  have z:(y.natAbs)<((2^4096):Int):=by rw[this];simpa using h
  exact jW.mp z
 have:=(Nat.log2_lt (by lia)).mpr hn;lia
def bu5:OpR X (dz .FloorDiv) (rI ci5 λ i j=>.int (i / j)):=opI λ i j _ _ _ _ _ hc q=>by
 refine floordiv_int (by have:=hc.1;omega) ?_ (.inl (PyProof.noPylong_of_log2 (aR8 hc.1 hc.2)));rw[gc i (by have:=hc.1;lia)];exact q
def aQ5 {K}(z:X.K=K):IxR X (cp7 K):=by subst z;exact ba5
def bH9 {K}(z:X.K=K):IxR X (cp8 K):=by subst z;exact ix_tup
def ar0 {K}(z:X.K=K):ac4 X (.builtin "len") (λ J H Q=>∃ p ys,J=[.ref p]/\(SqL K H p ys\/SqT K H p ys)/\Q (.int ys.length) H):=by subst z;exact aA3
def aF5 {K}(z:X.K=K):ac4 X (.type "tuple") (λ J H Q=>∃ p ys,J=[.ref p]/\((SqL K H p ys/\∀ l,H l=bY->Q (.ref l) (upd H l (.tp ys)))\/(SqT K H p ys/\Q (.ref p) H))):=by subst z;exact ay1
def aU8 {K}(z:X.K=K):ac4 X (.type "list") (λ J H Q=>∃ p ys,J=[.ref p]/\(SqL K H p ys\/SqT K H p ys)/\∀ l,H l=bY->Q (.ref l) (upd H l (.J ys))):=by subst z;exact aD2
def bt6 {K}(z:X.K=K)(J:PE X l tl):PI X tg l (bD2 K tl):=by subst z;exact bL2 J
def bN9 {K}(z:X.K=K)(J:PE X l tl):PI X tg l (ck8 K tl):=by subst z;exact bV4 J
def bM1 {K}{pos}{k}(J:X.K=K)(hc:X.calm=ca)(h:PGs X es t)
  (hn:autoParam ((c9 es X.env).length=n) Zq4._auto_1) (z:autoParam ((c9 es X.env).findIdx? (·.1)=bY) Zq4._auto_1):PG X (.Tuple es k pos) (cn1 K n t):=by subst J;exact bR3 hc h hn z
end
structure DefAt (K:ae)(mg:yD)(x:Str)(st:Stmt)(ps:yI)(f:Addr)(fd:bX):Prop where
 fn:Fun K x x st f fd
 mg:mg x=aT (.ref f)
 bi:Binds K fd ps []
@[irreducible] noncomputable def ct2 (p:Prop):Prop:=p
def ae1.new (h:ae1 H z)(hp:z p=bY):ae1 H (L2.upd z p o):=λ x o e=>by
 have e1:=h x o e;rw[zf (zl e1 hp)];exact e1
section
variable {prog:aD} {w:World} {A:aV} {R:jy->af->Prop} {I:Addr} {fp wr:List Addr} {n:Nat} {P:Nat->Value->Prop} {St:Nat->Heap->Prop} {kw:List (Str×Value)}
def aY3 (Ww:Walks prog w A.in1 I fp wr n P St) bt (b4:CmpOf prog w A.in1 .Lt P bt) S (b2:S ∉ fp) :
  ∀ k j s vb c ,n - (j+1)=k->j+1<=n->St (j+1) s.heap->P (d9 bt j) vb ->
  s.heap.get? S=aT { cls:=.type "list",dict:=bY,data:=.seq #[vb,vb] c,slots:=#[] } ->
  (∀ v h' tk,P (d9 bt (n - 1)) v->(∀ b o,b ∉ wr->b≠S->s.heap.get? b=aT o->h'.get? b=aT o)->R (.ok (.ret v)) { s with heap:=h',toks:=tk }) ->
  fv (model prog w) A (.builtin "min.loop" ⟨[.ref I,.none,.ref S],kw⟩) R s:=by
 have b3:=λ h=>b2 (Ww.sub _ h);have a2:(toString "min"++toString ".loop":String) = "min.loop":=by decide
 intro k
 induction k with
 | zero =>
  intro j s vb c hk hj a6 a3 hS hR;have b1:j+1=n:=by lia
  refine fL gZ ?_;rw[fB c8 _];refine ai (iL hS rfl ?_);show wpAny _ A.in1 (tryCatch (iI (.ref I)) _ >>= _) _ _ s;refine ai (e9 (Ww.done s _ _ (b1▸a6) λ h' tk Y=>?_));have Z:=Y S _ b3 hS;show wpAny _ A.in1 (updateSeq S (λ _=>#[]) >>= _) _ _ _;refine ai ?_;refine iz Z rfl (ai (gB (aC ?_)));refine hR vb _ tk (by rw[<-b1];exact a3) λ b o z J e=>(cb _ _ (bP J)).trans (Y b o z e)
 | succ k ih =>
  intro j s vb c hk hj a6 a3 hS hR;have hlt:j+1<n:=by omega
  refine fL gZ ?_;rw[fB c8 _];show wpAny _ A.in1 (lQ (.ref S) >>= _) _ _ s;refine ai (iL hS rfl ?_);show wpAny _ A.in1 (tryCatch (iI (.ref I)) _ >>= _) _ _ s;refine ai (e9 (Ww.item (j+1) s _ _ hlt a6 λ v h' tk hP a4 Y=>?_));have Z:=Y S _ b3 hS;show wpAny _ A.in1 (tryCatch (gu [v,v] (richCompare .Lt v vb >>= _)) _ >>= _) _ _ _;refine ai (e9 (cF (ai (b4 (j+1) (d9 bt j) v vb _ _ _ hP a3 ?_))));refine ai (cF (bQ ?_));refine ai (gB (aC ?_));cases hb:bt (j+1) (d9 bt j)with
  | true =>
   simp only[if_true];refine ai ?_;refine iz Z rfl (ai (gB ?_));rw[a2];refine aC ⟨gN c8 _,ih (j+1) _ v _ (by omega) hlt (Ww.frame _ _ _ a4 λ b b5 o e=>?_) (by simp only[d9,hb,if_true];exact hP) (fj _ Z rfl)
    λ v' a5 a0 b0 a1=>?_⟩
   .exact(cb _ _ (λ h:S=b=>b2 (by rw[h];exact b5))).trans e
   .exact hR v' a5 a0 b0 λ b o z J e=>a1 b o z J ((cb _ _ (bP J)).trans (Y b o z e))
  | false =>
   simp only[bI,if_false];refine ai (gB ?_);rw[a2];refine aC ⟨gN c8 _,ih (j+1) _ vb c (by omega) hlt a4 (by simp only[d9,hb,bI,if_false];exact a3) Z λ v' a5 a0 b0 a1=>?_⟩;exact hR v' a5 a0 b0 λ b o z J e=>a1 b o z J (Y b o z e)
def aV2 (Ww:Walks prog w A.in1 I fp wr n P St) bt (a6:CmpOf prog w A.in1 .Lt P bt) S (Z:S ∉ fp)(a4:St 0 s.heap)
  (hS:s.heap.get? S=aT { cls:=.type "list",dict:=bY,data:=.seq #[] c,slots:=#[] })
  (h0:n=0->∀ h' tk,(∀ b o,b ∉ wr->b≠S->s.heap.get? b=aT o->h'.get? b=aT o)->R (.ok (.ret d)) { s with heap:=h',toks:=tk })
  (hR:0<n->∀ v h' tk,P (d9 bt (n - 1)) v->(∀ b o,b ∉ wr->b≠S->s.heap.get? b=aT o->h'.get? b=aT o)->R (.ok (.ret v)) { s with heap:=h',toks:=tk }) :
  fv (model prog w) A (.builtin "min.loop" ⟨[.ref I,.none,.ref S],[(bj "default",d)]⟩) R s:=by
 have b3:S ∉ wr:=λ h=>Z (Ww.sub _ h);have Y:(toString "min"++toString ".loop":String) = "min.loop":=by decide
 refine fL gZ ?_;rw[fB c8 _];show wpAny _ A.in1 (lQ (.ref S) >>= _) _ _ s;refine ai (iL hS rfl ?_);show wpAny _ A.in1 (tryCatch (iI (.ref I)) _ >>= _) _ _ s;rcases Nat.eq_zero_or_pos n with hn|hn
 .refine ai (e9 (Ww.done s _ _ (hn▸a4) λ h' tk J=>?_));show wpAny _ A.in1 (rule _ >>= _) _ _ _;refine ai (kZ (aC ?_));exact h0 hn h' tk λ b o z _ e=>J b o z e
 .refine ai (e9 (Ww.item 0 s _ _ hn a4 λ v h' tk hP a3 J=>?_));have a0:=J S _ b3 hS;show wpAny _ A.in1 (updateSeq S (λ _=>#[v,v]) >>= _) _ _ _;refine ai ?_;refine iz a0 rfl ?_;rw[Y];refine aC ⟨gN c8 _,aY3 Ww bt a6 S Z _ 0 _ v _ rfl hn (Ww.frame _ _ _ a3 λ b b1 o e=>?_) hP (fj _ a0 rfl) λ v' b0 a1 b2 a2=>?_⟩
  .exact(cb _ _ (λ h:S=b=>Z (by rw[h];exact b1))).trans e
  .exact hR hn v' b0 a1 b2 λ b o z a5 e=>a2 b o z a5 ((cb _ _ (bP a5)).trans (J b o z e))
end
def be0  a d :argsOk "min" ⟨[a],[(bj "default",d)]⟩:=by unfold argsOk;kernel_rfl
theorem ja (val : Nat -> Int) : ∀ k j, j <= k -> val (d9 (λ i j => decide (val i < val j)) k) <= val j
  | 0, j, h => by have : j = 0 := by lia
                  subst this; exact eS _
  | k + 1, j, h => by
    have ih := ja val k;unfold d9;by_cases hb : val (k + 1) < val (d9 (λ i j => decide (val i < val j)) k)
    . rw[ij (by simpa using hb)]
      by_cases hj : j = k + 1
      . subst hj; exact eS _
      . have := ih j (by lia); lia
    . rw[iF (by simpa using hb)]
      by_cases hj : j = k + 1
      . subst hj; omega
      . exact ih j (by omega)
def bL8 (K:ae):V->V->Hp->VK->Prop:=λ x d H Q=>∃ a ns,x=.ref a/\SqL K H a (ns.map V.int)/\(ns=[]->Q d H)/\∀ m∈ns,(∀ y∈ns,m<=y)->Q (.int m) H
def ar5 {ns:List Int}{its:yH}(r:Vals (ns.map V.int) its){i:Nat}(h:its[i]?=aT v):∃ z t,ns[i]?=aT z/\v=Value.int z t:=by
 have J:=r.length;rw[aq]at J;have Y:=(ac.mp h).1;obtain⟨u,e1,q⟩:=r.get (i:=i) (by rw[aI,ag (by omega)];rfl);rw[h]at e1;cases e1;obtain⟨t,rfl⟩:=q;exact⟨_,t,ag (by omega),rfl⟩
def bl5 {W:St}(hc:X.calm=ca)(I:Inv X J W H s)(rx:RelV x u)(rd:RelV d w')(h:bL8 X.K x d H Q) :
  wpAny (model X.prog X.w) X.A (call (.builtin "min") [u] [(bj "default",w')]) (EP X J W Q) X.xe s:=by
 obtain⟨a,ns,rfl,hS,q0,qm⟩:=h;cases rx;obtain⟨its,rv,pl,hz⟩:=I.list hS;have hl:=rv.length;rw[aq]at hl;have a0:(toString "min"++toString ".loop":String) = "min.loop":=by decide
 refine kmb_tree F.kind_min F.plain_min F.entry_min (be0 _ _) ?_;refine ai (wpAny_of_eq (rfl) ?_);refine ai (aC ?_);refine ai (dq pl.isList ?_);have a1:a<s.heap.objs.size:=by obtain⟨o,_,e,_⟩:=pl;exact aL e
 have Ww:=jF (prog:=X.prog) (w:=X.w) (A:=X.A.in1) (I.ok.hd hc) s.heap.objs.size a (aJ a1) its.toArray;refine ai (cL ?_);generalize Z:s.heap.push _=h2;have Y:h2.objs.size=s.heap.objs.size+1:=by rw[<-Z,cq]
 have a2:∀ b o,s.heap.get? b=aT o->h2.get? b=aT o:=λ b o e=>by rw[<-Z];exact am _ e
 have a5:h2.objs.size ∉ [s.heap.objs.size,a]:=by
  rw[Y];intro z;rcases aw.mp z with z|z
  .exact nc z (Nat.succ_ne_self _)
  .have z':s.heap.objs.size+1=a:=by simpa using z
   exact nc (aG a1 (by rw[<-z'];exact cg _)) (bH _)
 have a4:(h2.push { cls:=.type "list",data:=.seq ([]:yH).toArray }).IsListIter s.heap.objs.size a 0/\(h2.push { cls:=.type "list",data:=.seq ([]:yH).toArray }).IsList a its.toArray:=by
  refine⟨⟨_,am _ (by rw[<-Z];exact aR _ rfl),rfl,rfl⟩,?_⟩;obtain⟨o,e,r⟩:=pl.isList;exact⟨o,am _ (a2 _ _ e),r⟩
 let val:Nat->Int:=λ i=>ns.getD i 0
 have a3:∀ i v,its.toArray[i]?=aT v->∃ t,v=Value.int (val i) t:=λ i v e=>by
  obtain⟨z,t,e1,e2⟩:=ar5 rv (i:=i) (v:=v) (by rw[cD]at e;exact e);refine⟨t,?_⟩;rw[e2];show Value.int z t=Value.int (ns.getD i 0) t;rw[aB,e1];rfl
 rw[a0];have nx:∀(h':Heap) (tk:Nat),(∀ b o,b ∉ [s.heap.objs.size]->b≠h2.objs.size->(h2.push { cls:=.type "list",data:=.seq ([]:yH).toArray }).get? b=aT o->h'.get? b=aT o)->Inv X J W H { s with heap:=h',toks:=tk }:=λ h' tk k=>I.kept λ b o e=>by
  refine k b o ?_ ?_ (am _ (a2 b o e))
  .intro z;have z':b=s.heap.objs.size:=by simpa using z
   exact nc (aL e) (by rw[z'];exact bH _)
  .intro z;exact nc (aL e) (by rw[z,Y];exact im.mpr (cg _))
 refine aC ⟨gN c8 _,aV2 (d:=w') Ww _ (lG val a3) h2.objs.size a5 a4 (aR _ rfl) (λ hn h' tk k=>?_) λ hn v h' tk hP k=>?_⟩
 .have e:ns=[]:=by
   have:its.toArray.size=0:=hn;have:its.length=0:=by simpa using this
   exact g6.mp (by lia)
  exact⟨d,H,nx h' tk k,rd,q0 e⟩
 .obtain⟨z,t,e1,e2⟩:=ar5 rv (i:=d9 (λ i j=>decide (val i<val j)) (its.toArray.size - 1)) (v:=v) (by rw[cD]at hP;exact hP);subst e2;have hv:val (d9 (λ i j=>decide (val i<val j)) (its.toArray.size - 1))=z:=by
   show ns.getD _ 0=z;rw[aB,e1];rfl
  refine⟨.int z,H,nx h' tk k,⟨t,rfl⟩,qm z (aP e1) λ y hy=>?_⟩;obtain⟨j,hj,e3⟩:=cJ.mp hy;have:=ja val (its.toArray.size - 1) j (by simp only[ay];lia);rw[hv]at this;have e4:val j=y:=by
   show ns.getD j 0=y;rw[aB,ag hj];exact e3
  lia
def ch7 (K:ae)(ta td:TE):TE:=λ W H Q=>ta W H λ x H1=>td W H1 λ d H2=>bL8 K x d H2 Q
def bK8 {K}(hK:X.K=K)(hc:X.calm=ca)(hg:Gl X "min")(hm:X.mg "min"=bY)(ha:PE X e J)(hd:PE X de td)
  (hs:autoParam (bf [e] X.env=[(dr,eval e X.env)]) Zq4._auto_1) :
  PE X (.Call (.Name "min" p) [e] [⟨aT "default",de,kp⟩] pos) (ch7 K J td):=by
 subst hK;intro z s W H Q I h;refine cw (aq9 I hg hm bJ4 ?_);have h':ak1 J aF4 W H (λ vs Z=>match vs with|[x]=>td W Z λ d H2=>bL8 X.K x d H2 Q|_=>False):=h;refine callWith_kw (thn ((zo ha ab8 hs) pos z s W H _ I h') λ us s1 ⟨vs,Z,I1,r1,Y⟩=>?_) (by rw[hs];rfl) (by rw[hs];rfl)
 match vs,Y,r1 with
 | [x],Y,r1 =>
  obtain⟨u,rfl,ru⟩:=qI r1;refine kws_cons (thn (hd z s1 W Z _ I1 Y) λ v s2 ⟨d,H2,I2,rd,q2⟩=>kws_nil ?_);exact bl5 hc I2 ru rd q2
inductive D where
 | N|T (b:Bool)|int (i:Int)|str (x:Str)|tp (l:List D)|J (l:List D)
noncomputable abbrev D.ctorIdx (x:D):Nat:=D.casesOn x 0 (λ _=>1) (λ _=>2) (λ _=>3) (λ _=>4) (λ _=>5)
mutual
noncomputable def D.deep:D->Nat
 | .tp l=>D.deepL l+1
 | .J l=>D.deepL l+1
 | _=>0
noncomputable def D.deepL:List D->Nat
 | []=>0
 | d::l=>max (D.deep d) (D.deepL l)
end
section
variable {X:Cx}
end
section
variable {X:Cx}
def cs6 (K:ae):V->Option Int->Option Int->Hp->VK->Prop:=λ x lo hi H Q=>∃ a xs,x=.ref a/\SqT K H a xs/\∀ p H',ae1 H H'->SqT K H' p (aU2 xs lo hi)->(H' p=aT (.tp (aU2 xs lo hi))\/(p=a/\aU2 xs lo hi=xs))->Q (.ref p) H'
def av9 {E:yB}{z:yK}{Q:yB}(ht:IsTup s.heap t z)(hs:s.heap.IsSliceOf sl vl vu .none)(pl:gK vl J)(pu:gK vu Z)
  (hw:HT.sIx z.size 0 J=0/\HT.sIx z.size z.size Z=z.size) (h:Q (.ref t) s):wpAny (model prog w) A (jf (.ref t) (.ref sl)) Q E s:=by
 obtain⟨os,a2,a0,a3⟩:=id hs;have a1:s.TypeIs (.ref sl) "slice":=⟨os,a2,a0⟩
 unfold jf
 try with_reducible refine cF ?_
 first|refine ai (aC ?_)|skip
 refine ai (jR ht.typeIs (by decide) ?_);refine ai (dB (name:=bj "__getitem__") ht.typeIs bA
  (d6 bA ht.typeIs jl ?_ (jB _ _)))
 show wpAny _ _ (gi (.ref t) >>= _) _ _ s;refine ai (tupleItemsOf_ ht ?_);refine ai (jS a1 ?_);rw[ij (by decide)];refine ai (HT.sliceApplied_gen hs pl pu ?_);have Y:((((HT.sIx z.size 0 J:Nat):Int)==0&&(1:Int)==1&&(HT.sIx z.size z.size Z - HT.sIx z.size 0 J)==z.size)=ca):=by
  rw[hw.1,hw.2];simp
 show wpAny _ _ (if(((HT.sIx z.size 0 J:Nat):Int)==0&&(1:Int)==1&&(HT.sIx z.size z.size Z - HT.sIx z.size 0 J)==z.size)=ca then _ else _) _ _ s;rw[ij Y];refine ai (ai (jS ht.typeIs (aC ?_)));rw[ij (by decide)];exact ai (kZ (aC ⟨_,rfl,aC h⟩))
def at6 (h:HT.sIx z.length 0 J=0/\HT.sIx z.length z.length Y=z.length):aU2 z J Y=z:=by
 unfold aU2;rw[h.1,h.2];simp
def bN0 {K}(hK:X.K=K):SlR X (cs6 K):=by
 subst hK;intro J s W H x v vl vu Z hi sl Q I rx hs pl pu h;obtain⟨a,z,e1,hx,q⟩:=h;by_cases hw:HT.sIx z.length 0 Z=0/\HT.sIx z.length z.length hi=z.length
 .subst e1;cases rx;obtain⟨its,r,ht,hz⟩:=I.tuple hx;have Y:its.toArray.size=z.length:=by rw[ay];exact r.length.symm
  refine⟨"tuple",_,bA.lookup,ht.typeIs,?_⟩;exact av9 ht hs pl pu (by rw[Y];exact hw) ⟨.ref a,H,I,rfl,q a H (ae1.refl H) (by rw[at6 hw];exact hx) (.inr ⟨rfl,at6 hw⟩)⟩
 .exact bT7 J s W H x v vl vu Z hi sl Q I rx hs pl pu ⟨a,z,e1,hx,hw,λ p hp=>q p _ ((ae1.refl H).new hp) (SqT.of zq) (.inl zq)⟩
def bn9 {K}(z:X.K=K):SlR X (cp1 K):=by subst z;exact bE7
def bd6 {K}(hc:X.calm=ca)(hK:X.K=K):ac4 X (.builtin "sum") (λ xs H Q=>∃ a ns,xs=[.ref a]/\SqL K H a (ns.map V.int)/\lH ns/\Q (.int ns.sum) H):=by
 subst hK;intro a0 s W H xs us Q I r h;obtain⟨a,ns,rfl,hS,J,q⟩:=h;obtain⟨u,rfl,ru⟩:=qI r;cases ru;obtain⟨its,rv,pl,hz⟩:=I.list hS;have hl:=rv.length;rw[aq]at hl;refine call_sum_walk (dq pl.isList ?_);have Y:a<s.heap.objs.size:=by obtain⟨o,_,e,_⟩:=pl;exact aL e
 have Ww:=jF (prog:=X.prog) (w:=X.w) (A:=X.A.in1) (I.ok.hd hc) s.heap.objs.size a (aJ Y) its.toArray
 let val:=λ i=>ns.getD i 0
 have Z:∀ i v,its.toArray[i]?=aT v->∃ t,v=Value.int (val i) t:=λ i v e=>by
  obtain⟨z,t,e1,e2⟩:=ar5 rv (by rw[cD]at e;exact e);refine⟨t,?_⟩;rw[e2];show Value.int z t=Value.int (ns.getD i 0) t;rw[aB,e1];rfl
 have es:its.toArray.size=ns.length:=by rw[ay];lia
 refine⟨_,_,_,_,_,_,val,rfl,Ww,⟨⟨_,aR _ rfl,rfl,rfl⟩,?_⟩,λ b hb=>?_,Z,λ j hj=>?_,λ h' tk t' k=>?_⟩
 .obtain⟨o,e,r⟩:=pl.isList;exact⟨o,am _ e,r⟩
 .skip
  rw[cq];rcases aw.mp hb with z|z
  .rw[z];exact bV _
  .have z':=by simpa using z
   rw[z'];exact e8 Y
 .rw[es]at hj;obtain⟨h1,h2⟩:=J j hj;refine⟨h1,?_⟩;rw[gO];exact h2
 .have e:preSum val its.toArray.size=ns.sum:=by
   rw[gO,es,cE]
  refine⟨.int ns.sum,H,I.kept λ b o q=>k b o ?_ (am _ q),⟨t',by rw[e]⟩,q⟩;intro z;have z':=by simpa using z
  exact nc (aL q) (by rw[z'];exact bH _)
end
noncomputable def Its (x:Str):It:=⟨λ i _=>i<x.cps.size,λ i H v H'=>H'=H/\∃ c,x.cps[i]?=aT c/\v=.str ⟨#[c]⟩,λ i _=>x.cps.size<=i⟩
def aQ2 {K} it (hn:["enumerate", "zip", "dict_itemiterator", "dict_reverseitemiterator", "odict_iterator", "itertools.zip_longest", "itertools.pairwise"].contains Z=dr)
  (Ww:∀ A:aV,A.handled=bY->Walks P w A it [it] [it] x.cps.size (SignAt x) (λ i h=>h.IsStrIter it Z x t i))
  (a0:∀(A:aV) (s:af) (i:Nat) (Q:Option Value->af->Prop) (E:yB),A.handled=bY->s.heap.IsStrIter it Z x t i->x.cps[i]?=bY->(∀ h',mB it s.heap h'->Q bY { s with heap:=h' })->wpAny (model P w) A (iI (.ref it)) Q E s)
  (Y:∀(A:aV) (i:Nat) (s:af) (Q:yB) (E:yB),s.heap.IsStrIter it Z x t i->Q (.ref it) s->wpAny (model P w) A (kR (.ref it)) Q E s):Turn P w K tg (Its x) [it] it (λ i h=>h.IsStrIter it Z x t i) where
 mem:=by simp
 obj:=λ i h st b hb=>by
  have e:=by simpa using hb
  subst e;obtain⟨o,ho,hc,hd⟩:=st;exact⟨o,ho,λ v z=>by rw[hd]at z;cases z⟩
 keep:=λ i h h' st k=>by
  obtain⟨o,ho,r⟩:=st;exact⟨o,k it (by simp) _ ho,r⟩
 item:=by
  intro X hP hw hK hc i J s W H E I hf st hg;subst hP hw hK;obtain⟨f0,f1,f2,f3,f4,f5⟩:=hf it (by simp);refine(Ww X.A (I.ok.hd hc)).item i s _ _ hg st λ v h' tk hv a1 kk=>?_;obtain⟨c,u,a2,rfl⟩:=hv;have I1:Inv X J W H { s with heap:=h',toks:=tk }:=I.turned (λ b o hb e=>kk b o (by simpa using hb) e) f0 f1 f3 f4 f5;obtain⟨o,ho,hcl,hd⟩:=id a1;exact⟨_,rfl,aS7 ho hcl hd hn ⟨.str ⟨#[c]⟩,H,I1,⟨u,rfl⟩,⟨rfl,c,a2,rfl⟩,a1,λ b hb=>(hf b hb).1⟩⟩
 done:=by
  intro X hP hw hK hc i J s W H E I hf st hg;subst hP hw hK;obtain⟨f0,f1,f2,f3,f4,f5⟩:=hf it (by simp);have a3:x.cps.size<=i:=hg;exact a0 X.A s i _ E (I.ok.hd hc) st (by simp;omega) λ h' eb=>⟨rfl,I.turned (λ b o hb e=>eb b o hb e) f0 f1 f3 f4 f5⟩
 self:=λ A i s Q E st h=>Y A i s Q E st h
def cq3 (tl:TE):TI:=λ W H R=>tl W H λ v H1=>∃ x,v=.str x/\R (Its x) H1
def bS4 (hl:PE X l tl):PI X tg l (cq3 tl):=by
 intro z s W H R I h;refine thn (hl z s W H _ I h) λ v s1 ⟨v0,H1,I1,r1,q1⟩=>?_;obtain⟨x,e,q⟩:=q1;subst e;obtain⟨t,rfl⟩:=r1;have fin:∀ Z o ,o={ cls:=.type Z,data:=.fields #[.str x t,.int 0 0] }->Turn X.prog X.w X.K tg (Its x) [s1.heap.objs.size] s1.heap.objs.size (λ i h=>h.IsStrIter s1.heap.objs.size Z x t i)->PIE X z W tg R (.ref s1.heap.objs.size) { s1 with heap:=s1.heap.push o }:=λ Z o eo T=>by
  subst eo;refine⟨s1.heap.objs.size,[s1.heap.objs.size],_,_,H1,rfl,I1.kept λ b o e=>am _ e,T,⟨_,aR _ rfl,rfl,rfl⟩,λ b hb=>?_,q⟩;have e:=by simpa using hb
  subst e;exact I1.fpOk (al _) (I1.hok.fresh (al _))
 cases ha:x.cps.all (·<128)
 .exact wpAny_pyIter_wide ha (fin "str_iterator" _ rfl (aQ2 _ (by decide) (λ A J=>Walks.strWide J _ x t) (λ A s i Q E J st hx Y=>wpAny_pyNext_wide_end J st hx Y) λ A i s Q E st h=>wpAny_pyIter_striter_wide st h))
 .exact wpAny_pyIter_ascii ha (fin "str_ascii_iterator" _ rfl (aQ2 _ (by decide) (λ A J=>Walks.strAscii J _ x t) (λ A s i Q E J st hx Y=>wpAny_pyNext_ascii_end J st hx Y) λ A i s Q E st h=>wpAny_pyIter_striter_ascii st h))
section
variable {X:Cx} {K:ae} {T id:String} {name:Str} {o e:Expr} {es:yL} {to:TE} {t:TA} {r:V->List V->Hp->VK->Prop} {apos cpos:Pos}
def bb4 (hK:X.K=K)(pa:kX T)(slot:Slot T name id)(a0:jC (.builtin id)=pure (.type "method_descriptor"))(hm:MtR X id r)(ho:PE X o to)(ha:PA X (e::es) t)
  (J:autoParam (eG o name X.env (eval o X.env)=eval o X.env) Zq4._auto_1)
  (Z:autoParam (((du cpos (bf (e::es) X.env)).all (λ x=>!x.1)&&(fA cpos (dF [] X.env)).all (λ x=>x.1.isSome)
   && decide ((e::es).length+([]:List fw).length+(if([]:List fw).isEmpty then 0 else 1)<30))=ca) Zq4._auto_1)
  (Y:autoParam ((apos.endLine==cpos.line)=ca) Zq4._auto_1) (hs:autoParam (bf (e::es) X.env=(dr,eval e X.env)::bf es X.env) Zq4._auto_1) (z:autoParam ((du cpos (bf es X.env)).any (·.1)=dr) Zq4._auto_1) :
  PE X (.Call (.Attribute o name apos) (e::es) [] cpos) (tBM K T r to t):=by
 subst hK;exact bt2 pa slot a0 hm ho ha J Z Y hs z
end
structure Mach where
 letters:Int
 rooms:Int
 begins:List Int
 ends:List Int
 doors:List (Int×Str×Int×Int)
noncomputable def cl3 (q:Int×Str×Int×Int):D:=.tp [.int q.1,.str q.2.1,.int q.2.2.1,.int q.2.2.2]
def Mach.D (M:Mach):D:=.tp [.int M.letters,.int M.rooms,.tp (M.begins.map .int),.tp (M.ends.map .int),.tp (M.doors.map cl3)]
noncomputable def ltr (i:Nat):Str:=⟨#[97+i]⟩
structure DoorOk (letters rooms:Int)(q:Int×Str×Int×Int):Prop where
 s0:0<=q.1
 s1:q.1<rooms
 l:∃ i:Nat,(i:Int)<letters/\q.2.1=ltr i
 g0:0<=q.2.2.1
 g1:q.2.2.1<rooms
 t0:0<=q.2.2.2
 t1:q.2.2.2<=3
structure RoomsOk (rooms:Int)(l:List Int):Prop where
 mem:∀ r∈l,0<=r/\r<rooms
 up:l.Pairwise (· < ·)
structure Mach.Ok (most:Nat)(M:Mach):Prop where
 l0:1<=M.letters
 l1:M.letters<=3
 r0:1<=M.rooms
 r1:M.rooms<=5
 b:RoomsOk M.rooms M.begins
 e:RoomsOk M.rooms M.ends
 d:∀ q∈M.doors,DoorOk M.letters M.rooms q
 m:M.doors.length<=most
mutual
noncomputable def D.tups:D->Bool
 | .J _=>dr
 | .tp l=>D.tupsL l
 | _=>ca
noncomputable def D.tupsL:List D->Bool
 | []=>ca
 | d::l=>D.tups d&&D.tupsL l
end
end L2
end
noncomputable section
namespace L2
end L2
end
noncomputable section
namespace L2
open PySem PySem.Spec PyProof.Rows
noncomputable def minO:List Int->Option Int
 | []=>bY
 | a::l=>aT (match minO l with|none=>a|some b=>if b<a then b else a)
set_option tactic.hygienic true in
def aU4 {pos a1 py} N' src 
  (hN:X.N.Nodup) (b5:X.N[i]?=aT y) (a4:X.env.scope.names.lookup y=aT .local)
  (b9:zU N' src scope X.N X.env.scope=ca) (hi:PI X tg iter wi) (a2:X.calm=ca)
  (c0:∀(Cc:Addr) (cells:yC) (s:af) (H:Hp) (ex:List Addr),PG (zK X N' scope Cc cells s H ex) tg g/\PIf (zK X N' scope Cc cells s H ex) a0 tc/\PE (zK X N' scope Cc cells s H ex) elt te)
  (hs:autoParam (∀ x,dX iter X.env x=pure x) Zq3._auto_1)
  (c1:autoParam (eQ (.ListComp elt [⟨tg,iter,a0,0⟩] scope pos) (aT (.Name y py)) a1.line X.env=pure ca) Zq4._auto_1) :
  PS X (.Assign [.Name y py] (.ListComp elt [⟨tg,iter,a0,0⟩] scope pos) a1) (bl4 (tComp src wi g tc te) (aD1 i)):=by
 intro Y s W H D0 I h;have ck:=bw5 b9;rw[exec_Assign_Name_used _ _ _ _ c1];refine ai (jr (ai ?_));show wpAny _ X.A (do let _ <- comprehension (.ListComp elt [⟨tg,iter,a0,0⟩] scope pos) scope X.env _ (newList []) dr (eval iter X.env) (aT (hV (.Name y py) X.env))) _ _ s;have hcl:=ai6 (scope:=scope) (env:=X.env) λ y hy e=>I.ok.has y.1 (ck.fr y hy e);refine ai (bp (gM (use:=aT (hV (.Name y py) X.env)) (Q:=λ _ s'=>SP X Y D0 .next s') rfl hs hcl ck.kind ck.loc (thn (hi Y s W H _ I h) λ v s1 h1=>thn h1 λ c3 s2 h2=>?_)) (λ _ s' hq=>aC (aC hq)) λ _ _ e=>e);obtain⟨it,Z,tn,J,H2,e,I2,T,a5,f2,Ww⟩:=h2;subst e;have hD:=I2.fresh;obtain⟨Ww,⟨m0,w0⟩,turn⟩:=Ww _ hD;have I3:=I2.lnew (its:=[]) (ys:=[]) (t':=s2.toks) .nil (cW _);have b0:∀ b∈Z,b<s2.heap.objs.size:=λ b hb=>by obtain⟨o,q,_⟩:=T.obj _ _ a5 b hb;exact aL q
 have f3:∀ b∈Z,FpOk X Y (upd H2 s2.heap.objs.size (.J [])) b:=λ b hb=>⟨by rw[zf (aJ (b0 b hb))];exact(f2 b hb).1,(f2 b hb).2⟩
 refine cL (ai0 ?_);generalize a3:({ s2 with heap:=s2.heap.push { cls:=.type "list",data:=.seq ([]:yH).toArray },toks:=s2.toks }:af)=s3 at I3;have c2:({ s2 with heap:=s2.heap.push { cls:=.type "list",data:=.seq ([]:yH).toArray } }:af)=s3:=a3;have b3:∀ b∈Z,b<s3.heap.objs.size:=λ b hb=>by
  rw[<-a3];show b<(s2.heap.push _).objs.size;rw[cq];exact e8 (b0 b hb)
 have I4:=au5 (s4:={ s3 with heap:=ft (s3.heap.push { cls:=.type "dict",data:=.dict #[] }) scope.names }) ck I3 f3 b3 ⟨_,rfl⟩;have b1:tn 0 (ft (s3.heap.push { cls:=.type "dict",data:=.dict #[] }) scope.names):=T.keep _ _ _ a5 λ b hb o e=>fK _ _ b o (am _ (by rw[<-a3];exact am _ e));obtain⟨hg,b6,he⟩:=c0 s3.heap.objs.size (bD (s3.heap.objs.size+1) scope.names (at0 X.env.cells scope.names [])) s3 (upd H2 s2.heap.objs.size (.J [])) Z;have a6:∀ H':Hp,(∀ b∈Z,H' b=bY)->∀ b∈Z,FpOk (zK X N' scope s3.heap.objs.size (bD (s3.heap.objs.size+1) scope.names (at0 X.env.cells scope.names [])) s3 (upd H2 s2.heap.objs.size (.J [])) Z) [] H' b:=λ H' hn b hb =>
  ⟨hn b hb,(I4.ok.exf b hb).1,I4.ok.exfs b hb,.inl hb,λ x c e=>(I4.ok.exf b hb).2 x c e,λ p hp=>nc (show p∈([]:yA)from hp) (by simp)⟩
 have T':Turn X.prog X.w X.K tg J Z it tn:=T;have b2:∀ b∈Z,upd H2 s2.heap.objs.size (.J []) b=none:=λ b hb=>(f3 b hb).1;have L:=aC1 (X':=zK X N' scope s3.heap.objs.size (bD (s3.heap.objs.size+1) scope.names (at0 X.env.cells scope.names [])) s3 (upd H2 s2.heap.objs.size (.J [])) Z) (R:=compPost (model X.prog X.w) X.A X.xe (aT (hV (.Name y py) X.env)) (λ _ s'=>SP X Y D0 .next s') (Value.ref s2.heap.objs.size) s3.heap.objs.size) (iter:=iter) (scope:=scope) (pos:=pos) (QD:=λ H'=>D0.nx (W.set i (aT (.ref s2.heap.objs.size))) H') rfl a2 I4 T' b1 a6 b2 w0 turn hg b6 he
  (λ W' H' s' J' q=>by
   have J2:=aO1 I3 f3 J' (Heap.SameBut.refl _ _);obtain⟨mm,hn,_⟩:=J'.loc;have nL:s3.heap.objs.size≠X.env.locals:=eV I3.lt;have nC:∀ x c,X.env.cells.lookup x=aT c->c≠s3.heap.objs.size:=λ x c e=>by
    obtain⟨v,z⟩:=I3.cell x c e;exact aJ z.lt
   show wpAny _ X.A (hV (.Name y py) X.env (.ref s2.heap.objs.size)) _ _ _;refine jN (aF0 (v:=.ref s2.heap.objs.size) J2 hN b5 (.inl a4) rfl (λ s5 I5 sb=>?_) (.inr a4));obtain⟨aa,sb,ha⟩:=sb;have na:s3.heap.objs.size≠aa:=by
    rcases ha with z|z
    .rw[z];exact nL
    .exact λ e=>nC _ _ z e.symm
   refine⟨mm,hn.sameBut sb na,λ h' b4=>⟨_,H',I5.turned (t':=s5.toks) (λ b o hb e=>(b4.2 b hb).trans e) J'.free nL (.inr I3.sz) nC λ p hp z=>?_,q⟩⟩;exact nc (aL (I3.pin p hp).1) (by rw[z];exact bH _))
 exact ik L (T.self _ _ _ _ _ b1 L)
def cs0:V->Option Int->Option Int->Hp->VK->Prop:=λ x lo hi H Q=>∃ z,x=.str z/\z.length<=aX/\Q (.str (fM z lo hi)) H
def aE1 (p:gK v o):∃ q,v=partValue q/\q.map (·.1)=o:=by
 cases p with
 | none=>exact⟨bY,rfl,rfl⟩
 | int i t=>exact⟨aT (i,t),rfl,rfl⟩
set_option tactic.hygienic true in
def cd5 :SlR X cs0:=by
 intro a1 s W H x v vl vu Y Z sl Q I rx hs pl pu h;obtain⟨z,rfl,hz,q⟩:=h;obtain⟨t,rfl⟩:=rx;obtain⟨l,rfl,el⟩:=aE1 pl;obtain⟨u,rfl,eu⟩:=aE1 pu;refine⟨"str",_,F.slot_str_getitem.lookup,kW s z t,?_⟩;refine wpAny_getItem_str_slice (st:=bY) hs rfl ?_;unfold sliceMade;have e:slicePicked z l u bY=bK Y Z 1 z.length:=by
  unfold slicePicked;rw[el,eu];rfl
 rw[e];unfold fM at q;split
 .rename_i hc;have J:((1:Int)==1&&(bK Y Z 1 z.length).length==z.length)=true:=hc;rw[ij J]at q;exact⟨.str z,H,I,⟨t,rfl⟩,q⟩
 .rename_i hc;have J:¬((1:Int)==1&&(bK Y Z 1 z.length).length==z.length)=true:=hc;rw[iF J]at q;have a0:=by
   show(iM (λ x=>z.cps[x]?) (bK Y Z 1 z.length)).toArray.size<=aX;rw[ay];exact ak (List.length_filterMap_le _ _) (ak (sliceIndices_le Y Z z.length) hz)
  exact⟨a0,.str _,H,I.tok _,⟨_,rfl⟩,q⟩
section
variable {M:Model} {A:aV} {E:yB} {s₀ s:af} {m cm:yD} {env:Env} {cs:yC}
end
noncomputable def aR5 (c:Addr)(qual:Str):HO:=.ext λ h=>h.CodeRec (.ref c) qual
noncomputable def bO9 (f:Addr)(fd:bX):HO:=.ext λ h=>h.get? f=aT { cls:=.type "function",data:=.func fd }
def bn6 (x:HOk P w H h)(e:H f=aT (bO9 f z)):h.get? f=aT { cls:=.type "function",data:=.func z }:=(x f _ e).1
noncomputable def isC (cells:yC)(b:Addr):Bool:=cells.any λ p=>cells.lookup p.1==aT b
def bC3 :isC cells b=ca↔∃ x,cells.lookup x=aT b:=by
 unfold isC;rw[ki];constructor
 .rintro⟨p,_,e⟩;exact⟨p.1,by simpa using e⟩
 .rintro⟨x,e⟩;exact⟨(x,b),bu e,by simpa using e⟩
def au1 (cells:yC)(H:Hp):Hp:=λ b=>if isC cells b=ca then bY else H b
def Put (cells:yC)(H H':Hp):Hp:=λ b=>if isC cells b=ca then H b else H' b
def au1.cell (h:isC cells b=ca):au1 cells H b=none:=ij h
def au1.ne (h:isC cells b≠ca):au1 cells H b=H b:=iF h
set_option tactic.hygienic true in
def au1.some (h:au1 cells H b=aT o):isC cells b≠ca/\H b=aT o:=by
 unfold au1 at h;split at h
 .cases h
 .rename_i z;exact⟨z,h⟩
def au1.none (h:H b=bY):au1 cells H b=none:=by
 unfold au1;split
 .rfl
 .exact h
def Put.cell (h:isC cells b=ca):Put cells H H' b=H b:=ij h
def Put.ne (h:isC cells b≠ca):Put cells H H' b=H' b:=iF h
def Cells (clos:yC)(H:Hp):Prop:=∀ x c,clos.lookup x=aT c->∃ o v,H c=aT (.frz o (.own c))/\o.data=.cell v
def Cells.at (z:Cells J H)(h:isC J b=ca):∃ o v,H b=aT (.frz o (.own b))/\o.data=.cell v:=by
 obtain⟨x,e⟩:=bC3.mp h;exact z x b e
def Cap (clos:yC)(H:Hp)(fr:yI)(cap:List V):Prop:=∀(i:Nat) (x:Str) (v:V),fr[i]?=aT x->cap[i]?=aT v->∃ c o u,clos.lookup x=aT c/\H c=aT (.frz o (.own c))/\o.data=.cell (aT u)/\RelV v u
def HOk.drop (x:HOk P w H h)(z:Cells J H):HOk P w (au1 J H) h:=λ b o e=>by
 obtain⟨_,e'⟩:=au1.some e;have Y:∀ c u,H c=aT u->(∀ o v,u≠.frz o v)->isC J c≠true:=λ c u q d y=>by
  obtain⟨o,v,q',_⟩:=z.at y;rw[q]at q';cases q';exact d _ _ rfl
 exact(x b o e').stay (λ _ _ _ q=>q) (λ c q=>by rw[au1.ne (Y c _ q λ _ _=>by nofun)];exact q) λ c Z q=>by rw[au1.ne (Y c _ q λ _ _=>by nofun)];exact q
def bi7 (H:Hp)(f:Addr)(qual:Str)(params:d8)(body:Expr)(scope:Scope)(fr:yI)(cap:List V)(clos:yC):Prop :=
 ∃ pm c' ctv,H f=aT (bO9 f (k7 "<lambda>" qual params body scope clos pm (.ref c') ctv))/\H c'=aT (aR5 c' qual)/\Cells clos H /\
  (∀ x y c,clos.lookup x=aT c->clos.lookup y=aT c->x=y)/\(∀ x,scope.names.lookup x=aT .free->∃ c,clos.lookup x=aT c)/\Cap clos H fr cap
def BM (mg:yD)(base:Heap):Prop:=∃ bm ob,mg "__builtins__"=aT (.ref bm)/\bm≠hJ/\base.get? bm=aT ob/\ob.cls=.type "module"/\ob.dict=aT hJ/\ob.data=.plain
noncomputable def bl0 (scope xs:Scope):Bool:=scope.names.all λ y=>!(y.2==.free)||(xs.names.lookup y.1==aT .cell||xs.names.lookup y.1==aT .free)
structure Caught (cl:yC)(N:yI)(kd:Str->Option cI)(W:St)(H1 H2:Hp):Prop where
 ne:∀ b,isC cl b≠ca->H2 b=H1 b
 free:∀ b,isC cl b=ca->H1 b=bY
 cells:Cells cl H2
 cap:∀(i:Nat) (x:Str) (v:V) (c:Addr),N[i]?=aT x->W[i]?=aT (aT v)->(kd x=aT .cell\/kd x=aT .free)->cl.lookup x=aT c->∃ o u,H2 c=aT (.frz o (.own c))/\o.data=.cell (aT u)/\RelV v u
 inj:∀ x y c,cl.lookup x=aT c->cl.lookup y=aT c->x=y
def cg3 (K:ae)(H:Hp)(f:Addr):Prop:=(∃ fd,H f=aT (bO9 f fd))\/∃ oc od fd sl,K.lookup f=aT ⟨oc,od,.func fd,sl⟩
def cg3.at {W:St}(h:cg3 X.K H f)(I:Inv X z W H s):PySem.W.FnAt f s.heap:=by
 rcases h with⟨J,h⟩|⟨oc,od,J,sl,h⟩
 .exact⟨_,_,_,_,bn6 I.hok h⟩
 .exact⟨_,_,_,_,I.kIn _ _ h⟩
noncomputable def aE7 (K:ae)(names:yI):List (Str×Addr×Addr):=names.filterMap λ x=>(bC K x).map λ p=>(x,p)
def at9 {K}:y∈aE7 K names↔y.1∈names/\bC K y.1=aT y.2:=by
 unfold aE7;rw[eO];constructor
 .rintro⟨x,hx,e⟩
  obtain⟨p,hp,rfl⟩:=b8.mp e;exact⟨hx,hp⟩
 .rintro⟨hx,e⟩
  exact⟨y.1,hx,by rw[e];rfl⟩
def bA5 (K:ae)(names:yI)(base:Heap):Prop:=∀ x∈names,∀ c P,bC K x=aT (c,P)->b7 base c P
def bM5 (K:ae)(names:yI)(H:Hp):Prop:=∀ x∈names,∀ c P,bC K x=aT (c,P)->H P=aT (.tbl #[])
noncomputable def ce4 (K:ae)(names:yI)(ts:List Addr):Bool:=names.all λ x=>match bC K x with
 | some (c,P)=>kj K c P&&ts.contains P
 | none=>ca
def aL0 {K}(h:(bC K x).isSome=ca):bC K x=aT (((bC K x).getD (0,0)).1,((bC K x).getD (0,0)).2):=by
 obtain⟨p,e⟩:=cG.mp h;rw[e];rfl
def bR9 (H:Hp)(P:Addr)(q:Str):Prop:=∃ ps:Array Value,H P=aT (.tbl ps)/\TriplesOk ps.toList/\∀ pos cv,codeAmong pos ps.toList=aT cv->∃ c',cv=.ref c'/\H c'=aT (aR5 c' q)
def TabsH (T:List (Addr×Str))(H:Hp):Prop:=∀ y∈T,bR9 H y.1 y.2
def bW7 (H H':Hp):Prop:=∀ b o,(∀ ps,o≠.tbl ps)->H b=aT o->H' b=aT o
def bW7.of (a:ae1 H z):bW7 H z:=λ c o _ h=>a c o h
def TabsH.keep (h:TabsH T H)(k:∀ b o,(∀ z,o≠.J z)->H b=aT o->H' b=aT o):TabsH T H':=λ y hy=>by
 obtain⟨ps,e,t,c⟩:=h y hy;refine⟨ps,k _ _ (λ _=>by nofun) e,t,λ pos Y q=>?_⟩;obtain⟨J,e1,e2⟩:=c pos Y q;exact⟨J,e1,k _ _ (λ _=>by unfold aR5;nofun) e2⟩
def TabsH.same (h:TabsH T H)(s:ae1 H H'):TabsH T H':=h.keep λ b o _ e=>s b o e
theorem TabsH.new (h:TabsH T H)(n:H a=bY):TabsH T (upd H a o):=h.same ((ae1.refl H).new n)
def TabsH.put (h:TabsH T H)(n:H a=aT (.J J)):TabsH T (upd H a o):=h.keep λ b u d e=>by
 rw[zf λ z=>by subst z;rw[n]at e;cases e;exact d _ rfl];exact e
def TabsH.init (h:∀ p∈T.map (·.1),H p=aT (.tbl #[])):TabsH T H:=λ y hy =>
 ⟨#[],h _ (bL hy),trivial,λ pos z e=>by simp[codeAmong]at e⟩
def Caught.same {cells}(J:Caught cells N kd W Z Y):ae1 Z Y:=λ b o e=>by
 rw[J.ne b λ z=>by rw[J.free b z]at e;cases e];exact e
def bh9 {K}(hc:X.calm=ca)(hK:X.K=K):ac4 X (.builtin "min") (λ xs H Q=>∃ a ns,xs=[.ref a]/\SqL K H a (ns.map V.int)/\ns≠[]/\∀ m∈ns,(∀ y∈ns,m<=y)->Q (.int m) H):=by
 subst hK;intro a1 s W H xs us Q I r h;obtain⟨a,ns,rfl,hS,a0,q⟩:=h;obtain⟨u,rfl,ru⟩:=qI r;cases ru;obtain⟨its,rv,pl,hz⟩:=I.list hS;have hl:=rv.length;rw[aq]at hl;have a2:=jn.mpr a0;refine call_min_walk (dq pl.isList ?_);have J:a<s.heap.objs.size:=by obtain⟨o,_,e,_⟩:=pl;exact aL e
 have Ww:=jF (prog:=X.prog) (w:=X.w) (A:=X.A.in1) (I.ok.hd hc) s.heap.objs.size a (aJ J) its.toArray
 let val:=λ i=>ns.getD i 0
 have Y:∀ i v,its.toArray[i]?=aT v->∃ t,v=Value.int (val i) t:=λ i v e=>by
  obtain⟨z,t,e1,e2⟩:=ar5 rv (by rw[cD]at e;exact e);refine⟨t,?_⟩;rw[e2];show Value.int z t=Value.int (ns.getD i 0) t;rw[aB,e1];rfl
 refine⟨_,_,_,_,_,_,_,rfl,Ww,⟨⟨_,aR _ rfl,rfl,rfl⟩,?_⟩,λ b hb=>?_,by rw[ay];lia,lG val Y,λ v h' tk hP k=>?_⟩
 .obtain⟨o,e,r⟩:=pl.isList;exact⟨o,am _ e,r⟩
 .skip
  rw[cq];rcases aw.mp hb with z|z
  .rw[z];exact bV _
  .have Z:=by simpa using z
   rw[Z];exact e8 J
 .obtain⟨z,t,e1,e2⟩:=ar5 rv (by rw[cD]at hP;exact hP);subst e2;have hv:val (d9 (λ i j=>decide (val i<val j)) (its.toArray.size - 1))=z:=by
   show ns.getD _ 0=z;rw[aB,e1];rfl
  refine⟨.int z,H,I.kept λ b o q=>k b o ?_ (am _ q),⟨t,rfl⟩,q z (aP e1) λ y hy=>?_⟩
  .intro z;have Z:=by simpa using z
   exact nc (aL q) (by rw[Z];exact bH _)
  .obtain⟨j,hj,e3⟩:=cJ.mp hy;have:=ja val (its.toArray.size - 1) j (by simp only[ay];lia);rw[hv]at this;have e4:val j=y:=by
    show ns.getD j 0=y;rw[aB,ag hj];exact e3
   lia
noncomputable def mx (a b:Int):Int:=if b > a then b else a
section
variable {X:Cx}
end
def mx3 (a b c:Int):Int:=mx (mx a b) c
noncomputable def rnd (x:Int):Int:=if x=0\/x=3 then x else 2
def sharp (n:Nat)(s:Nat->Nat->Int)(i j:Nat):Int:=(minO ((aH n).map λ k=>mx3 (s i k) (rnd (s k k)) (s k j))).getD 3
section
variable {n:Nat} {s:Nat->Nat->Int}
end
def aE0 (H:Hp)(f:Addr)(name qual:Str)(params:d8)(body:yM)(scope:Scope)(fr:yI)(cap:List V)(clos:yC):Prop :=
 ∃ doc pm c' ctv,H f=aT (bO9 f (mD name qual params body scope clos .none .none doc pm bY (.ref c') ctv))/\H c'=aT (aR5 c' qual)/\Cells clos H /\
  (∀ x y c,clos.lookup x=aT c->clos.lookup y=aT c->x=y)/\(∀ x,scope.names.lookup x=aT .free->∃ c,clos.lookup x=aT c)/\Cap clos H fr cap
def aE0.fn {K}(h:aE0 H f name qual params body scope fr cap z):cg3 K H f:=by
 obtain⟨J,pm,c',Z,Y,_⟩:=h;exact .inl ⟨_,Y⟩
end L2
end
noncomputable section
namespace L2
open PySem PySem.Spec PyProof.Rows Builtin
section
variable {P:aD} {w:World} {A:aV} {E:yB} {s:af}
end
structure Dw (P:aD)(w:World)(K:ae)(J:It)(it:Addr)(tn:Nat->Heap->Prop):Prop where
 obj:∀ i h,tn i h->∃ o,h.get? it=aT o/\∀ v,o.data≠.cell v
 keep:∀ i h h',tn i h->(∀ o,h.get? it=aT o->h'.get? it=aT o)->tn i h'
 item:∀(X:Cx),X.prog=P->X.w=w->X.K=K->∀(A:aV) (i:Nat) (pins:yA) (s:af) (W:St) (H:Hp) (Q:yB) (E:yB),Inv X pins W H s->tn i s.heap->J.go i H ->
  (∀ x u h' tk,RelV x u->J.yld i H x H->tn (i+1) h'->cr it s.heap h'->Q u { s with heap:=h',toks:=tk })->wpAny (model P w) A (gm (.ref it)) Q E s
 done:∀(X:Cx),X.prog=P->X.w=w->X.K=K->∀(A:aV) (i:Nat) (pins:yA) (s:af) (W:St) (H:Hp) (Q:yB) (E:yB),A.handled=bY->Inv X pins W H s->tn i s.heap->J.stop i H ->
  (∀ h' e,mB it s.heap h'->(∃ o,h'.get? e=aT o/\o.cls=.type "StopIteration")->E (.ref e) { s with heap:=h' })->wpAny (model P w) A (gm (.ref it)) Q E s
def bD5 {K} a it :Dw P w K (Itl K a) it (λ i h=>h.IsListIter it a i) where
 obj:=λ i h st=>by
  obtain⟨o,e,c,d⟩:=st;exact⟨o,e,λ v z=>by rw[d]at z;cases z⟩
 keep:=λ i h h' st k=>st.at k
 item:=by
  intro X Z hw hK A i J s W H Q E I st hg k;subst Z hw hK;obtain⟨xs,x,hq,hx⟩:=hg;obtain⟨its,Y,p,hz⟩:=I.list hq;obtain⟨u,hu,ru⟩:=Y.get hx;exact wpAny_nextOf_list_item st p.isList (by simpa using hu) λ h' a0 sb=>k x u h' s.toks ru ⟨rfl,λ ys hy=>by rw[I.list_inj hy hq];exact hx⟩ a0 sb
 done:=by
  intro X Z hw hK A i J s W H Q E hA I st hg k;subst Z hw hK;obtain⟨xs,hq,hx⟩:=hg;obtain⟨its,Y,p,hz⟩:=I.list hq;have hl:=Y.length;exact wpAny_nextOf_list_end hA st p.isList (by simp;omega) k
def Inv.turnedL {W:St}{Z:List Addr}(I:Inv X J W H s)(f:∀ b∈Z,FpOk X J H b)(k:∀ b o,b ∉ Z->s.heap.get? b=aT o->h'.get? b=aT o):Inv X J W H { s with heap:=h',toks:=t' }:=by
 have Y:∀ b u,H b=aT u->b ∉ Z:=λ b u e z=>by rw[(f b z).1]at e;cases e
 refine I.step (g':=s.gens) (d':=s.drawn) (ch:=Z) (λ b hb=>?_) (λ b o _ _ hc e _=>k b o hc e) (λ b o _ _ hc e _=>⟨o.slots,k b o hc e⟩) (λ _ _ _ _ n=>n)
  (λ b o hc e=>⟨o,k b o hc e⟩) (λ _ _ e=>e) (λ _ _ _ e=>e) (λ b ps e=>⟨#[],by rw[e];simp⟩) (λ m hm=>?_) (λ b u e=>?_) I.bare
 .obtain⟨f0,f1,f2,f3,f4,f5⟩:=f b hb;exact⟨f3,f1,f4,f5⟩
 .obtain⟨o,es,ep,ho,r⟩:=hm;exact⟨o,es,ep,k _ o (λ z=>(f _ z).2.1 rfl) ho,r⟩
 .refine(I.hok b u e).stay (λ c v hc q=>k c v ?_ q) (λ _ q=>q) λ _ _ q=>q;rcases hc with z|z
  .rw[z];exact Y b u e
  .exact Y c _ z
section
variable {X:Cx} {pins:yA} {W:St} {H:Hp} {s:af} {A:aV} {E:yB} {J1 J2:It} {t1 t2:Nat->Heap->Prop} {z ti to i1 i2:Addr} {n:Nat} {a b:Value}
end
def Mkr (v:Value)(o:Obj)(h:Heap):Prop:=∀ P w A (E:yB) s (Q:yB),(∀ b u,h.get? b=aT u->s.heap.get? b=aT u) ->
 Q (.ref s.heap.objs.size) { s with heap:=s.heap.push o }->wpAny (model P w) A (kR v) Q E s
def Sr (K:ae)(H:Hp)(x:V)(J:It):Prop:=∃ a,x=.ref a/\(∃ xs,SqL K H a xs)/\J=Itl K a
def Sr.mk {W:St}(I:Inv X z W H s)(h:Sr X.K H x J)(r:RelV x u) :
  ∃(o:Obj) (Y:Addr->Nat->Heap->Prop),o.isFreed=dr/\Mkr u o s.heap/\(∀ it,Dw X.prog X.w X.K J it (Y it))/\∀ it h',h'.get? it=aT o->Y it 0 h':=by
 obtain⟨a,e,⟨xs,hq⟩,e'⟩:=h;subst e e';cases r;obtain⟨its,Z,p,hz⟩:=I.list hq;exact⟨_,λ it i h=>h.IsListIter it a i,rfl,λ P w A E s' Q hk q=>dq (p.isList.at λ o e=>hk _ _ e) q,λ it=>bD5 a it,λ it h' e=>⟨_,e,rfl,rfl⟩⟩
end L2
end
noncomputable section
namespace L2
open PySem PySem.Spec PyProof.Rows Builtin
open AutoSeq1 (wpAny_loadPart')
section
variable {X:Cx} {pins:yA} {W:St} {H:Hp} {s:af} {A:aV} {E:yB} {J1:It} {t1:Nat->Heap->Prop} {z it:Addr} {n:Nat} {old:Value}
def aT9 {Q:yB}(D1:Dw X.prog X.w X.K J1 it t1)(ne:z≠it)(I:Inv X pins W H s)(he:iO s.heap z it n old)(h1:t1 n s.heap)(g1:J1.go n H)
  (k:∀ x u t h' tk,RelV x u->J1.yld n H x H->lR h' z it ((n:Int)+1) u s.heap.objs.size->t1 (n+1) h'->IsPair h' s.heap.objs.size (.int n t) u ->
   (∀ c o,c≠z->c≠it->s.heap.get? c=aT o->h'.get? c=aT o)->Q (.ref s.heap.objs.size) { s with heap:=h',toks:=tk }) :
  wpAny (model X.prog X.w) A (Builtin.«enumerate.__next__» ⟨[.ref z],[]⟩) (λ fin s'=>∃ v,fin=.done (.ret v)/\Q v s') E s:=by
 obtain⟨hp,g,d,b4,os⟩:=s;show wpAny _ _ (field (.ref z) 2 >>= _) _ _ (_:af);refine ai (dG he rfl rfl ?_);refine ai (D1.item X rfl rfl rfl _ n pins _ W H _ _ I h1 g1 λ x u p1 tk rx yx a6 s1=>?_)
 replace s1:=s1
 have Y:=(s1.2 z ne).trans he;refine ai (dG Y rfl rfl ?_);refine ai (dG Y rfl rfl ?_);refine ai (wpAny_mkInt ?_);refine ai (dI Y (by simp) λ p2 a1 s2=>?_)
 replace s2:=s2
 replace a1:=a1
 refine ai (dI a1 (by simp) λ p3 Z s3=>?_)
 replace s3:=s3
 replace Z:=Z
 refine ai (wpAny_newTuple ?_);have J:iO (p3.push { cls:=.type "tuple",data:=.seq #[.int n tk,u] }) z it ((n:Int)+1) old:=am _ Z;generalize a0:p3.push { cls:=.type "tuple",data:=.seq #[.int n tk,u] }=p4 at J;have hsz:p3.objs.size=hp.objs.size:=by rw[s3.1,s2.1,s1.1]
 have b0:=aL he;have b3:p4.get? hp.objs.size=aT { cls:=.type "tuple",data:=.seq #[.int n tk,u] }:=by rw[<-a0,<-hsz];exact aR _ rfl
 have b1:∀ b o,b≠z->b≠it->hp.get? b=aT o->p4.get? b=aT o:=λ b o hbe a4 hb=>by
  rw[<-a0];exact am _ (s3.extBut b o hbe (s2.extBut b o hbe (s1.extBut b o a4 hb)))
 have b2:t1 (n+1) p4:=D1.keep _ _ _ a6 λ o y=>by
  rw[<-a0];exact am _ (s3.extBut it o ne.symm (s2.extBut it o ne.symm y))
 show wpAny _ _ (eJ (.ref z) >>= _) _ _ ⟨p4,g,d,tk+1,os⟩;rw[hsz];clear a0 Z s3 a1 s2 Y s1 a6 hsz p3 p2 p1;refine ai ?_;unfold eJ;refine ai (dG J rfl (x:=.none) rfl (aC ?_));simp only[if_true];refine ai (kZ (ai (dG J rfl (x:=old) rfl ?_)));refine ai (dI J (by simp) λ p5 a2 s5=>?_)
 replace s5:cr z p4 p5:=s5
 replace a2:iO p5 z it ((n:Int)+1) u:=a2
 show wpAny _ _ (eE (.ref z) (.ref hp.objs.size) >>= _) _ _ ⟨p5,g,d,tk+1,os⟩;refine ai ?_;unfold eE;refine ai (dI a2 (by simp) λ p6 a3 s6=>?_)
 replace s6:cr z p5 p6:=s6
 replace a3:lR p6 z it ((n:Int)+1) u hp.objs.size:=a3
 refine dI a3 (by simp) λ p7 a5 s7=>?_
 replace s7:cr z p6 p7:=s7
 replace a5:lR p7 z it ((n:Int)+1) u hp.objs.size:=a5
 have up:∀ b o,b≠z->p4.get? b=aT o->p7.get? b=aT o:=λ b o hb e=>s7.extBut b o hb (s6.extBut b o hb (s5.extBut b o hb e));exact ai (gB (aC ⟨_,rfl,k x u tk p7 (tk+1) rx yx a5 (D1.keep _ _ _ b2 λ o e=>up it o ne.symm e) (up _ _ (eV b0) b3) λ b o hbe a4 hb=>up b o hbe (b1 b o hbe a4 hb)⟩))
end
def Je (J1:It):It:=⟨λ i H=>J1.go i H,
 λ i H x H'=>∃ a x1,J1.yld i H x1 H/\H a=bY/\x=.ref a/\H'=upd H a (.tp [.int i,x1]),λ i H=>J1.stop i H⟩
def bj6 {K}{elts:yL}(D1:Dw P w K J1 it t1)(ne:z≠it) :
  Turn P w K (.Tuple elts ek epos) (Je J1) [z,it] z (λ i h=>(∃ Y,iO h z it i Y)/\t1 i h) where
 mem:=by simp
 obj:=λ i h st b hb=>by
  obtain⟨⟨Y,hz⟩,h1⟩:=st;simp only[aw,bw,or_false]at hb;rcases hb with rfl|rfl
  .exact⟨_,hz,λ v y=>by cases y⟩
  .exact D1.obj _ _ h1
 keep:=λ i h h' st k=>by
  obtain⟨⟨Y,hz⟩,h1⟩:=st;exact⟨⟨Y,k _ (by simp) _ hz⟩,D1.keep _ _ _ h1 λ o e=>k _ (by simp) o e⟩
 item:=by
  intro X hP hw hK hc i J s W H E I hf st hg;subst hP hw hK;obtain⟨⟨Y,hz⟩,h1⟩:=st;have hT:s.TypeIs (.ref z) "enumerate":=⟨_,hz,rfl⟩
  unfold iI;refine ai (gP (dB (name:=bj "__next__") hT dT (d6 dT hT io
   (aT9 D1 ne I hz h1 hg λ x u t h' tk rx yx z' a2 T' kk=>aC ?_) (g7 _))))
  refine⟨_,rfl,wpAny_letOwnedTupleGo_enum (s:={ s with heap:=h',toks:=tk }) z' λ a0 a3 Z=>?_⟩
  replace Z:cr z h' a0:=Z
  have lt:∀ {c o},s.heap.get? c=aT o->s.heap.objs.size≠c:=λ e=>eV (aL e);obtain⟨o1,e1,_⟩:=D1.obj _ _ h1;have I1:Inv X J W (upd H s.heap.objs.size (.tp [.int i,x])) { s with heap:=s.heap.push { cls:=.type "tuple",data:=.seq #[.int i t,u] },toks:=tk } :=
   I.laid (λ b u e=>am _ e) (al _) ⟨by simp[aX],[.int i t,u],.cons ⟨t,rfl⟩ (.cons rx .nil),_,aR _ rfl,rfl,_,rfl⟩
  have a1:∀ b∈[z,it],FpOk X J (upd H s.heap.objs.size (.tp [.int i,x])) b:=λ b hb=>by
   have q:=hf b hb;refine⟨?_,q.2⟩;unfold upd;rw[iF ?_]
   .exact q.1
   .simp only[aw,bw,or_false]at hb;rcases hb with rfl|rfl
    .exact(lt hz).symm
    .exact(lt e1).symm
  have I2:Inv X J W (upd H s.heap.objs.size (.tp [.int i,x])) { s with heap:=a0,toks:=tk }:=by
   refine I1.turnedL (s:={ s with heap:=s.heap.push { cls:=.type "tuple",data:=.seq #[.int i t,u] },toks:=tk }) a1 λ b o hb e=>?_;simp only[aw,bw,or_false,not_or]at hb;refine Z.extBut _ _ hb.1 ?_;by_cases hbT:b=s.heap.objs.size
   .subst hbT;have:=aR s.heap (o:={ cls:=.type "tuple",data:=.seq #[.int i t,u] }) rfl;rw[show(s.heap.push { cls:=.type "tuple",data:=.seq #[.int i t,u] }).get? s.heap.objs.size=aT o from e]at this;cases this;exact T'
   .exact kk b o hb.1 hb.2 (by
     have e':(s.heap.push { cls:=.type "tuple",data:=.seq #[.int i t,u] }).get? b=aT o:=e;rw[Heap.get?_push_ne _ _ _ hbT]at e';exact e')
  exact⟨.ref s.heap.objs.size,_,I2,rfl,⟨_,x,yx,I.hok.fresh (al _),rfl,rfl⟩,⟨⟨u,by simpa using a3⟩,D1.keep _ _ _ a2 λ o e=>Z.extBut _ _ ne.symm e⟩,λ b hb=>(a1 b hb).1⟩
 done:=by
  intro X hP hw hK hc i J s W H E I hf st hg;subst hP hw hK;obtain⟨⟨Y,hz⟩,h1⟩:=st;have hT:s.TypeIs (.ref z) "enumerate":=⟨_,hz,rfl⟩
  unfold iI;refine ai (gP (dB (name:=bj "__next__") hT dT (d6 dT hT io ?_ (g7 _))));show wpAny _ _ (field (.ref z) 2 >>= _) _ _ (_:af);refine ai (dG hz rfl (x:=.ref it) rfl ?_);refine ai (D1.done X rfl rfl rfl _ i J s W H _ _ (I.ok.hd hc) I h1 hg λ h' e he hx=>?_);obtain⟨o,ho,hcl⟩:=hx;refine ai (wpAny_isInstance (T := "StopIteration") (b:=ca) ⟨o,ho,hcl⟩ isSubtype_stop ?_);exact aC ⟨rfl,I.turnedL (t':=s.toks) hf λ b o hb e=>by
   simp only[aw,bw,or_false,not_or]at hb;exact he b o hb.2 e⟩
 self:=λ A i s Q E st h=>by
  obtain⟨⟨Y,hz⟩,_⟩:=st;exact jX hz h
set_option tactic.hygienic true in
def aI2 l o (z:yK)(n:Nat)(Y:yJ)(sl:yF) :
  Meets (Builtin.«enumerate.__new__» ⟨[.type "enumerate",.ref l],[]⟩) (λ _ R s=>s.heap.get? l=aT { cls:=.type "list",dict:=Y,data:=.seq z n,slots:=sl }/\Mkr (.ref l) o s.heap /\
   R (.ok (.ret (.ref (s.heap.push o).objs.size))) { s with heap:=(s.heap.push o).push { cls:=.type "enumerate",data:=.fields #[.none,.bool dr,.ref s.heap.objs.size,kS 0,.none,.none] } }) :=
 .of_wp λ prog w A R s h=>by
  obtain⟨hp,g,d,tk,os⟩:=s;obtain⟨J,m1,h⟩:=h;have Z:=sub_enumerate;have r1:∀ {P:aD} {w:World} {A:aV} {E:yB} {Q:yB},Q (.ref hp.objs.size) ⟨hp.push o,g,d,tk,os⟩->wpAny (model P w) A (kR (.ref l)) Q E ⟨hp,g,d,tk,os⟩:=λ {P w A E Q} q=>m1 P w A E ⟨hp,g,d,tk,os⟩ Q (λ b u e=>e) q
  wp_walk using fN J
  refine wpAny_stack_any λ st=>aC ?_;split
  .rename_i c _ _ _ _ _;cases(c==Value.type "enumerate")
   .wp_walk using fN J,r1
    exact⟨_,rfl,h⟩
   .wp_walk using fN J,r1
    exact⟨_,rfl,h⟩
  .wp_walk using fN J,r1
   exact⟨_,rfl,h⟩
def aS6 {E:yB}{s:af}{Q:yB}(f1:o.isFreed=dr)(m1:Mkr (.ref l) o s.heap)
  (J:∃ z,s.heap.IsList l z)
  (k:∀ h',iO h' (s.heap.objs.size+1) s.heap.objs.size 0 .none->h'.get? s.heap.objs.size=aT o->(∀ c o,s.heap.get? c=aT o->h'.get? c=aT o)->Q (.ref (s.heap.objs.size+1)) { s with heap:=h' }) :
  wpAny (model P w) A (call (.type "enumerate") [.ref l]) Q E s:=by
 have hz:(s.heap.push o).objs.size=s.heap.objs.size+1:=cq ..;have Z:=by
  have:=aR (s.heap.push o) (o:={ cls:=.type "enumerate",data:=.fields #[.none,.bool dr,.ref s.heap.objs.size,kS 0,.none,.none] }) rfl;rw[hz]at this;exact this
 obtain⟨z,⟨c,Y,dt,sl⟩,J,hc,n,hd⟩:=J
 replace hc:=hc
 replace hd:=hd
 subst hc hd;refine callType_new F.called_enumerate (by decide) (F.typeCall_enumerate_1 _) (F.newCall_enumerate_1 _) (λ obj=>F.args_object_init_2 obj _) F.entry_enumerate_new (aI2 l o z n Y sl) ⟨J,m1,?_⟩;rw[hz];exact⟨⟨_,Z,rfl⟩,k _ Z (am _ (aR _ f1)) λ b o x=>am _ (am _ x)⟩
def bP5 (K:ae)(ta:TA):TI:=λ W H R=>ta W H λ vs H1=>∃ a J1,vs=[.ref a]/\((∃ xs,SqL K H1 a xs)/\J1=Itl K a)/\R (Je J1) H1
def bH0 {elts:yL}(hg:Gl X "enumerate")(hm:X.mg "enumerate"=bY)(ha:PA X [a] ta)(hs:autoParam (bf [a] X.env=[(dr,eval a X.env)]) Zq4._auto_1) :
  PI X (.Tuple elts ek epos) (.Call (.Name "enumerate" p) [a] [] pos) (bP5 X.K ta):=by
 intro J s W H R I h;refine Call_ (aq9 I hg hm boot_enumerate (cP (thn (ha pos J s W H _ I h) λ us s1 ⟨vs,H1,Z,r1,q1⟩=>?_) hs rfl));obtain⟨l,J1,e,S1,q⟩:=q1;subst e;cases r1 with
 | cons r rr =>
  cases rr;have S:Sr X.K H1 (.ref l) J1:=⟨l,rfl,S1.1,S1.2⟩
  have L:∃ z,s1.heap.IsList l z:=by
   obtain⟨⟨xs,a⟩,b⟩:=S1;obtain⟨its,rv,p,hz⟩:=Z.list a;exact⟨_,p.isList⟩
  obtain⟨o1,n1,f1,m1,d1,z1⟩:=S.mk Z r;cases r;refine aS6 f1 m1 L λ h' hz g1 kk=>jX hz ?_;refine⟨s1.heap.objs.size+1,[s1.heap.objs.size+1,s1.heap.objs.size],_,_,H1,rfl,Z.kept kk,bj6 (d1 _) (eV (bV _)),⟨⟨_,hz⟩,z1 _ _ g1⟩,λ b hb=>?_,q⟩;have Y:s1.heap.objs.size<=b:=by
   simp only[aw,bw,or_false]at hb;rcases hb with e|e<;>rw[e]<;>first|exact al _|exact Nat.le_add_right _ _
  exact Z.fpOk Y (Z.hok.fresh Y)
end L2
end
noncomputable section
namespace L2
open PySem PySem.Spec PyProof.Rows Builtin
open AutoSeq1 (wpAny_loadPart')
end L2
end
noncomputable section
namespace L2
open PySem PySem.Spec PyProof.Rows
def bx3 (hr:Room k A):A.units+2<cLine:=gj (Nat.add_le_add_left (by decide) _) hr.units
section
variable {κ:Type} [DecidableEq κ]
noncomputable def aV5 (kvs:List (κ×V))(k:κ):Option V:=(kvs.find? λ kv=>decide (kv.1=k)).map (·.2)
noncomputable def az1 (kvs:List (κ×V))(k:κ)(v:V):List (κ×V) :=
 if(kvs.any λ kv=>decide (kv.1=k))=ca then kvs.map (λ kv=>if kv.1=k then(kv.1,v)else kv)else kvs++[(k,v)]
def am2 {k:κ}(e:p.1=k):aV5 (p::r) k=aT p.2:=by simp[aV5,e]
def an5 {k:κ}(e:¬ p.1=k):aV5 (p::r) k=aV5 r k:=by simp[aV5,e]
theorem ay6 k :∀ kvs:List (κ×V),(kvs.any λ z=>decide (z.1=k))=(aV5 kvs k).isSome
 | []=>rfl
 | p::r=>by
  rw[gQ];by_cases e:p.1=k
  .simp only[am2 e,iN e,Bool.true_or,jE]
  .rw[an5 e,js e,lF];exact ay6 k r
def aq4 kvs (k:κ) v :(az1 kvs k v).length<=kvs.length+1:=by
 unfold az1;split
 .rw[aq];lia
 .rw[au,aQ,fO];lia
def aF3.isSome_eq (r:aF3 o u):o.isSome=u.isSome:=by
 cases o with
 | none=>cases u with
  | none=>rfl
  | some _=>exact(r).elim
 | some _=>cases u with
  | none=>exact(r).elim
  | some _=>rfl
theorem aF3.getD (r:aF3 o u)(z:RelV d d'):RelV (o.getD d) (u.getD d'):=by
 cases o with
 | none=>cases u with
  | none=>exact z
  | some _=>exact(r).elim
 | some _=>cases u with
  | none=>exact(r).elim
  | some _=>exact r
def KV.val (r:KV kvs vs)(k:κ):aF3 (aV5 kvs k) (jY vs k):=by
 unfold KV at r
 induction r with
 | nil=>exact True.intro
 | @cons p q ps qs h t ih =>
  obtain⟨J,Y⟩:=h;by_cases e:p.1=k
  .have e':=J.symm.trans e;have b:jY (q::qs) k=aT q.2:=by simp[jY,e']
   rw[am2 e,b];exact Y
  .have e':¬ q.1=k:=λ z=>e (J.trans z);have b:jY (q::qs) k=jY qs k:=by simp[jY,e']
   rw[an5 e,b];exact ih
theorem KV.any (r:KV kvs vs)(k:κ):(kvs.any λ z=>decide (z.1=k))=vs.any λ z=>decide (z.1=k):=by
 unfold KV at r
 induction r with
 | nil=>rfl
 | cons h t ih=>rw[gQ,gQ,ih,h.1]
def KV.repl (r:KV kvs vs)(k:κ)(ry:RelV y u) :
  KV (kvs.map λ J=>if J.1=k then(J.1,y)else J) (vs.map λ J=>if J.1=k then(J.1,u)else J):=by
 unfold KV at r ⊢
 induction r with
 | nil=>exact .nil
 | @cons p q ps qs h t ih =>
  rw[aY,aY];refine .cons ?_ ih;obtain⟨Y,Z⟩:=h;by_cases e:p.1=k
  .rw[ij e,ij (Y.symm.trans e)];exact⟨Y,ry⟩
  .rw[iF e,iF (λ z=>e (Y.trans z))];exact⟨Y,Z⟩
def KV.put (r:KV kvs vs)(k:κ)(z:RelV y u):KV (az1 kvs k y) (stored vs k u):=by
 unfold az1 stored;rw[r.any k];by_cases e:(vs.any λ J=>decide (J.1=k))=ca
 .rw[ij e,ij e];exact r.repl k z
 .rw[iF e,iF e];exact mF r ⟨rfl,z⟩
theorem KV.length {vs:List (κ×Value)}(r:KV kvs vs):kvs.length=vs.length:=fu r
end
def ca3 (r:RelV (kV k) u):(zG P w).is k u=true:=by
 cases k with
 | inl i=>obtain⟨t,e⟩:=(r);subst e;exact aJ9 P w i t
 | inr x=>obtain⟨t,e⟩:=(r);subst e;exact aH4 P w x t
abbrev KT (H:Hp):List (List NI×V)->List (List NI×Addr×Value)->Prop:=fD λ p q=>p.1=q.1/\NK H p.1 q.2.1/\RelV p.2 q.2.2
def KT.val (r:KT H kvs Y) k :aF3 (aV5 kvs k) ((atKey Y k).map (·.2)):=by
 induction r with
 | nil=>exact True.intro
 | @cons p q ps qs h t ih =>
  obtain⟨J,_,Z⟩:=h;by_cases e:p.1=k
  .have e':=J.symm.trans e;have b:atKey (q::qs) k=aT q.2:=by simp[atKey,e']
   rw[am2 e,b];exact Z
  .have e':¬ q.1=k:=λ z=>e (J.trans z);have b:atKey (q::qs) k=atKey qs k:=by simp[atKey,e']
   rw[an5 e,b];exact ih
def KT.repl (r:KT H kvs xs) k (ry:RelV y u) :
  KT H (kvs.map λ Y=>if Y.1=k then(Y.1,y)else Y) (xs.map (putAt k u)):=by
 induction r with
 | nil=>exact .nil
 | @cons p q ps qs h t ih =>
  rw[aY,aY];refine .cons ?_ ih;obtain⟨J,Z,h3⟩:=h;unfold putAt;by_cases e:p.1=k
  .rw[ij e,ij (J.symm.trans e)];exact⟨J,Z,ry⟩
  .rw[iF e,iF (λ z=>e (J.trans z))];exact⟨J,Z,h3⟩
def KT.put {z:List (List NI×Addr×Value)}(r:KT H kvs z)(k:List NI){b:Addr}{y:V}{u:Value}(hb:NK H k b)(J:RelV y u) :
  KT H (az1 kvs k y) (storedH z k b u):=by
 have e:(kvs.any λ Y=>decide (Y.1=k))=(atKey z k).isSome:=by
  rw[ay6,(r.val k).isSome_eq,Option.isSome_map]
 unfold az1 storedH;rw[e];by_cases q:(atKey z k).isSome=ca
 .rw[ij q,ij q];exact r.repl k J
 .rw[iF q,iF q];exact mF r ⟨rfl,hb,J⟩
def KT.keeps (r:KT H kvs J)(ht:∀ b ys,H b=aT (.tp ys)->H' b=aT (.tp ys)):KT H' kvs J :=
 fD.mapP r λ _ _ z=>⟨z.1,z.2.1.mono ht,z.2.2⟩
section
variable {P:aD} {w:World} {H:Hp} {h:Heap} {a:Addr}
def ck7 (ok:HOk P w H h)(e:Rd H a u):ac1 P w H h a u:=e.ok ok
def ch4 (ok:HOk P w H h)(e:Rd H a (.dK kvs)):kvs.length<=aX/\(a==f9)=dr/\∃ vs,KV kvs vs/\h.DictOf (zG P w) a vs :=
 ck7 ok e
def bT1 (ok:HOk P w H h)(e:H a=aT (.dK kvs)):kvs.length<=aX/\(a==f9)=dr/\∃ vs,KV kvs vs/\h.DictOf (zG P w) a vs:=ch4 ok (.inl e)
end
def cn3 (H:Hp)(a:Addr)(y:V)(r:Option V):Prop :=
 (∃ kvs k,Rd H a (.dK kvs)/\y=kV k/\r=aV5 kvs k)\/False
def cf7 (H:Hp)(a:Addr)(y v:V)(H':Hp):Prop :=
 (∃ kvs k,H a=aT (.dK kvs)/\y=kV k/\kvs.length<aX/\H'=upd H a (.dK (az1 kvs k v)))\/False
def cn3.k {k}(e:H a=aT (.dK kvs)):cn3 H a (kV k) (aV5 kvs k):=.inl ⟨kvs,k,.inl e,rfl,rfl⟩
def cf7.k {k}(e:H a=aT (.dK kvs))(z:kvs.length<aX):cf7 H a (kV k) v (upd H a (.dK (az1 kvs k v))):=.inl ⟨kvs,k,e,rfl,z,rfl⟩
section
variable {X:Cx} {pins:yA} {W:St} {H:Hp} {s:af} {a:Addr} {y v:V} {u r:Value} {o:Option V} {A:aV} {E:yB}
def Inv.big (I:Inv X pins W H s):f9<s.heap.objs.size:=by
 have h:=(I.mod.glob.keeps I.bk).lt;exact lX (by decide) h
def bf2 (I:Inv X pins W H s)(mu:Mut (H a))(hs:cr a s.heap h')(J:∃ q,h'.get? a=aT q)(new:ac1 X.prog X.w (upd H a ob) h' a ob) :
  Inv X pins W (upd H a ob) { s with heap:=h',toks:=t' } :=
 I.write mu (.inl rfl) (λ b q hb z=>(hs.2 b hb).trans z) J new
def bv7 (z:kvs.length<=aX)(hd:(a==f9)=dr)(J:KV kvs vs)(dd:h'.DictOf (zG P w) a vs) :
  ac1 P w H' h' a (.dK kvs):=⟨z,hd,vs,J,dd⟩
def bb8 (hu:A.units+2<cLine)(I:Inv X pins W H s)(g:cf7 H a y v H')(Z:RelV y u)(rv:RelV v r)(h:∀ s',Inv X pins W H' s'->Q () s') :
  wpAny (model X.prog X.w) A (setItem (.ref a) u r) Q E s:=by
 rcases g with⟨kvs,k,e,ey,l,eH⟩|g
 .subst ey eH;obtain⟨z,hd,vs,J,dd⟩:=bT1 I.hok e;have hz:vs.length<=aX:=by rw[<-J.length];exact z
  have hl:(az1 kvs k v).length<=aX:=by have:=aq4 kvs k v;lia
  refine wpAny_setItem_pairs (ca3 Z) dd λ h' Y hs=>h _ ?_;have he:∃ q,h'.get? a=aT q:=let⟨q,_,_,hq,_⟩:=Y;⟨q,hq⟩
  exact bf2 I (by rw[e];exact True.intro) hs he (bv7 hl hd (J.put k rv) Y)
 .exact g.elim
end
section
variable {X:Cx} {pins:yA} {W:St} {H:Hp} {s:af} {a:Addr} {kvs:List (Key×V)} {k:Key} {u:Value} {A:aV} {E:yB}
end
section
variable {X:Cx} {o i e value:Expr} {pos pos' tpos:Pos} {td ty tv:TE}
end
def aQ3 (h:Heap)(hb:f9<h.objs.size):ac1 P w H (h.push { cls:=.type "dict",data:=.dict #[] }) h.objs.size (.dK []) :=
 ⟨cW _,beq_eq_false_iff_ne.mpr (bP (aJ hb)),[],.nil,Heap.DictOf.new h⟩
def bx2:TE:=λ _ H Q=>∀ p,H p=bY->Q (.ref p) (upd H p (.dK []))
section
variable {X:Cx} {pos:Pos}
def bs3:PE X (.Dict [] [] pos) bx2:=λ z s W H Q I h =>
 wpAny_Dict_empty ⟨.ref s.heap.objs.size,_,I.laid (λ _ _ q=>am _ q) (al _) (aQ3 s.heap I.big),rfl,h _ (I.hok.fresh (al _))⟩
end
noncomputable def bc6:List (TE×TE)->St->Hp->(List (V×V)->Hp->Prop)->Prop
 | [],_,H,Q=>Q [] H
 | (tk,tv)::r,W,H,Q=>tk W H λ x H1=>tv W H1 λ y H2=>bc6 r W H2 λ ps H3=>Q ((x,y)::ps) H3
abbrev VV:List (V×V)->List (Value×Value)->Prop:=fD λ p q=>RelV p.1 q.1/\RelV p.2 q.2
def PPs (X:Cx)(pos:Pos)(keys:List (Option Expr))(values:yL)(trs:List (TE×TE)):Prop :=
 ∀ pins s (W:St) H Q ,Inv X pins W H s->bc6 trs W H Q ->
  wpAny (model X.prog X.w) X.A (evalPairs (pairTrees keys values X.env pos)) (λ vs s'=>∃ ps H',Inv X pins W H' s'/\VV ps vs/\Q ps H') X.xe s
def bC1 :PPs X pos [] [] []:=λ z s W H Q I h=>pairTrees_nil_walk ⟨[],H,I,.nil,h⟩
def bq6 (hk:PE X k tk)(hv:PE X v tv)(hr:PPs X pos Z vs J) :
  PPs X pos (aT k::Z) (v::vs) ((tk,tv)::J):=λ z s W H Q I h =>
 pairTrees_cons_walk (thn (hk z s W H _ I h) λ u s1 ⟨x,H1,I1,rx,q1⟩=>thn (hv z s1 W H1 _ I1 q1) λ w2 s2 ⟨y,H2,I2,ry,q2⟩ =>
  thn (hr z s2 W H2 _ I2 q2) λ ws s3 ⟨ps,H3,I3,Y,q3⟩=>⟨(x,y)::ps,H3,I3,.cons ⟨rx,ry⟩ Y,q3⟩)
def ao2 (kvs more:List (Key×V)):List (Key×V):=more.foldl (λ acc kv=>az1 acc kv.1 kv.2) kvs
def KV.merge:∀ {more} {z} {kvs} {vs},KV more z->KV kvs vs->KV (ao2 kvs more) (merged vs z):=by
 intro more z kvs vs r;unfold KV at r
 induction r generalizing kvs vs with
 | nil=>intro q;exact q
 | @cons p q ps qs h t ih =>
  intro r0;have e:KV (az1 kvs p.1 p.2) (stored vs q.1 q.2):=by
   have:=r0.put p.1 h.2;rw[<-h.1];exact this
  exact ih e
theorem ag5:∀ more kvs ,(ao2 kvs more).length<=kvs.length+more.length
 | [],kvs=>by show kvs.length<=kvs.length+0;lia
 | p::r,kvs=>by
  have z:=ag5 r (az1 kvs p.1 p.2);have J:=aq4 kvs p.1 p.2;show(ao2 (az1 kvs p.1 p.2) r).length<=_;rw[aQ];lia
theorem au7 :∀ {kvs} {ws},VV (kvs.map λ J=>(kV J.1,J.2)) ws->∃ z,Carries (zG P w) ws z/\KV kvs z
 | [],_,r=>by rw[cR]at r;cases r;exact⟨[],True.intro,.nil⟩
 | p::kvs,_,r=>by
  rw[aY]at r;cases r with
  | @cons a b as bs h t =>
   obtain⟨z,c,q⟩:=au7 t;obtain⟨Z,Y⟩:=b;exact⟨(p.1,Y)::z,⟨ca3 h.1,rfl,c⟩,.cons ⟨rfl,h.2⟩ q⟩
def bQ3 (trs:List (TE×TE)):TE:=λ W H Q=>∀ p,H p=bY->bc6 trs W (upd H p (.dK [])) λ ps H2=>H2 p=aT (.dK [])/\∃ kvs,ps=kvs.map (λ kv=>(kV kv.1,kv.2))/\kvs.length<=15/\Q (.ref p) (upd H2 p (.dK (ao2 [] kvs)))
def bN7 (h:PPs X pos keys J a0)(Y:keys.all (·.isSome)=ca)(hl:keys.length=J.length)(h0:keys≠[])
  (a3:keys.length<=15):PE X (.Dict keys J pos) (bQ3 a0):=by
 intro Z s W H Q I q;have hn:=I.hok.fresh (al s.heap.objs.size);have I1:=I.laid (t':=s.toks) (λ _ _ q=>am _ q) (al _) (aQ3 s.heap I.big);refine wpAny_Dict_walk (knd:=zG X.prog X.w) Y hl h0 a3 (thn (h Z _ W _ _ I1 (q _ hn)) λ ws s2 ⟨ps,H2,I2,a2,e,kvs,ep,lk,q2⟩=>?_);subst ep;obtain⟨rs,c,rk⟩:=au7 a2;obtain⟨z,hd,a4,r0,dd⟩:=bT1 I2.hok e;cases r0;refine⟨rs,c,dd,λ h' a1 hs=>⟨.ref s.heap.objs.size,_,?_,rfl,q2⟩⟩;have hz:(ao2 [] kvs).length<=aX:=by
  have h1:=ag5 kvs [];rw[fO]at h1;rw[dZ];lia
 have he:∃ q,h'.get? s.heap.objs.size=aT q:=let⟨q,_,_,hq,_⟩:=a1;⟨q,hq⟩
 exact bf2 I2 (by rw[e];exact True.intro) hs he (bv7 hz hd (rk.merge .nil) a1)
section
variable {X:Cx} {pins:yA} {W:St} {H:Hp} {s:af} {a:Addr} {y d:V} {u r:Value} {o:Option V} {A:aV} {E:yB}
end
section
variable {X:Cx} {o e f:Expr} {apos cpos:Pos} {td ty tx:TE}
end
section
variable {P:aD} {w:World} {A:aV} {E:yB} {s:af}
end
section
variable {X:Cx} {pins:yA} {W:St} {H:Hp} {s:af}
def HOk.tw (ok:HOk P w H h)(hu:H a=aT u)(n1:∀ y,u≠.own y)(n2:∀ J,u≠.tp J)(new:ac1 P w H h a v):HOk P w (upd H a v) h:=λ b q e=>by
 have Y:∀ c y,H c=aT (.own y)->upd H a v c=aT (.own y):=λ c y r=>by rw[zf λ z=>by subst z;rw[hu]at r;cases r;exact n1 _ rfl];exact r
 have Z:∀ c J,H c=aT (.tp J)->upd H a v c=aT (.tp J):=λ c J r=>by rw[zf λ z=>by subst z;rw[hu]at r;cases r;exact n2 _ rfl];exact r
 by_cases hb:b=a
 .subst hb;rw[zq]at e;cases e;exact new.stay (λ _ _ _ r=>r) (λ c r=>Y c _ r) Z
 .rw[zf hb]at e;exact(ok b q e).stay (λ _ _ _ r=>r) (λ c r=>Y c _ r) Z
end
section
variable {prog:aD} {w:World} {A:aV} {R:jy->af->Prop} {I:Addr} {fp wr:List Addr} {n:Nat} {P:Nat->Value->Prop} {St:Nat->Heap->Prop} {kw:List (Str×Value)}
end
def bG2 i (h:0<=i):k8 i 1=i % 2:=by
 unfold k8;rw[iN h];show((i.toNat &&& (1:Int).toNat):Int)=_;rw[show(1:Int).toNat=1 from rfl,Nat.and_one_is_mod];lia
def bO0 :OpR X (dz .BitAnd) (rI (λ i j=>0<=i/\j=1) λ i j=>.int (i % 2)):=opI λ i j _ _ _ _ _ hc q=>by
 obtain⟨h0,rfl⟩:=hc;refine and_int ?_;rw[bG2 i h0];exact q
def bK0 :MtR X "int.bit_length" (λ x vs H Q=>∃ i,x=.int i/\vs=[]/\Q (.int (fU i)) H):=by
 intro z s W H x vs v us Q I Y J h;obtain⟨i,rfl,rfl,q⟩:=h;obtain⟨t,rfl⟩:=Y;cases J;refine call_gives f7 (typeIs_int s _ t) PySem.F.entry_int_bit_length (PySem.F.args_int_bit_length_1 _) (jo i t) ?_;exact⟨.int _,H,I.tok _,⟨_,rfl⟩,q⟩
def aT8 {K}
 (X:K.In s.heap) (J:eK (model prog w) s.heap (jC (Value.ref x)) (Value.ref Cc))
 (hm:gJ K Cc (Value.type "object")=aT ca) (h:R (Except.ok (Flow.ret (Value.ref Cc))) s) :
   fv (model prog w) A
    (Code.call (Value.builtin "getset_descriptor.__get__")
     { pos:=[Value.builtin "object.__class__",Value.ref x,z] }) R s:=by
 obtain⟨hh,g,Y,t,os⟩:=s;have L1:=PySem.W.looks_mroIn (M:=model prog w) X hm;refine iP jG.plain PySem.W.KF.entry_gs (jG.check (model prog w) A.in1 _ _ _ _ _ _ PySem.W.KF.type_class (PySem.W.KF.args_gs _ _ _) ?_);show wpAny (model prog w) A.in1 (do
   let __x <- iQ { pos:=[Value.builtin "object.__class__",Value.ref x,z] }
   match __x with
    | (d,obj,snd)=>ee d obj) _ _ _
 rw[PySem.W.dga_obj];refine ai (aC ?_);simp only[];unfold ee;refine ai ?_;unfold dC;have e1:g9 (Value.builtin "object.__class__")=pure (bj "__class__",Value.type "object"):=by
  show pure (bj (dD "object.__class__").2,Value.type (dD "object.__class__").1)=_;rw[PySem.W.KF.owner_class]
 rw[e1];refine ai (aC ?_);refine ai (ai (PySem.W.Looks.at J (PySem.W.Looks.at L1 (aC ?_))));refine aC ⟨Code.quiet_builtin _ (by decide +kernel),fL PySem.W.KF.entry_class ?_⟩;refine ai ?_;unfold shownTypeOf;exact ai (PySem.W.Looks.at J (aC (aC h)))
def cj1 {K}{ D}(X:K.In h)
 (z:bh K (Value.ref D) name=aT (aT a)) (J:eX K a (bj "__get__")=aT (aT g)) (h3:fG K a=aT ca) :
 eK M h (eT (Value.ref x) (Value.ref D) name) (Builtin.ObjectAttr.Found.bind g a):=by
 have L1:=d5 (M:=M) X z;have L2:=PySem.W.looks_specialIn (M:=M) X J;have L3:=PySem.W.looks_takesIn (M:=M) X h3;unfold eT;refine dh L1 (dh L2 ?_);refine dh (dh L3 gC) (mK gC)
def XAt (h:Heap)(x Cc:Addr):Prop:=∃ ox,h.get? x=aT ox/\ox.cls=Value.ref Cc
def XAt.type (I:XAt h x Cc):eK M h (jC (Value.ref x)) (Value.ref Cc):=by
 obtain⟨Y,z,J⟩:=I;exact J▸dh (kl z) gC
def bZ6 {E:yB}{K:ae}
 {x D:Addr} 
 (X:K.In s.heap) (L0:eK (model prog w) s.heap (jC (Value.ref x)) (Value.ref D))
 (L1:eK (model prog w) s.heap (eT (Value.ref x) (Value.ref D) name) (Builtin.ObjectAttr.Found.bind g a))
 (Z:bh K (Value.ref D) (bj "__getattribute__")=aT (aT (Value.builtin "BaseException.__getattribute__")))
 (hk:bh K (Value.ref D) (bj "__getattr__")=aT bY)
 {bs bm:yH} {sn:yI} {sub:yH} {dd:yJ} 
 (hC:s.heap.get? D=aT (excClassObj nm q D N bs bm hdct sn sub ab col dd k0 k1 k2 k3 k5 J)) (T:OwnTailQ s.heap [.type "ValueError",.type "Exception",.type "BaseException",.type "object"] bm) (hx:s.heap.get? x=aT o) (hc:o.cls=.ref D)
 (h:wpAny (model prog w) A.in1 (call g [a,Value.ref x,Value.ref D]) (λ v s'=>wpAny (model prog w) A (handedOut v) (λ v Y=>Q (aT v) Y) (λ _ _=>False) s') (λ _ _=>False) { heap:=s.heap,gens:=s.gens,drawn:=s.drawn,toks:=s.toks+1,os:=s.os }) :
   wpAny (model prog w) A (getAttr? (Value.ref x) name) Q E s:=by
 obtain⟨hh,gg,d,t,os⟩:=s;have Lg:=d5 (M:=model prog w) X Z;have L2:=d5 (M:=model prog w) X hk;have f3:=fm.ga.bind (Value.ref x);unfold getAttr?;refine ai (wpAny_mkText ?_);unfold getAttrBy?;refine ai (gP (cF (ai (PySem.W.Looks.at L0 (ai (PySem.W.Looks.at Lg ?_))))));refine wpAny_ite_false rfl ?_;refine ai (wpAny_ite_true rfl (PySem.W.Looks.at L2 ?_));refine ai (gP (cF ?_));refine wpAny_ite_false rfl ?_;refine ai (wpAny_of_eq f3 (ic ?_));refine iP fm.ga.plain F.entry_bexc_ga ?_;refine wpAny_check_ga_own fm hC T hx hc ?_;refine ai (aC ?_);refine ai (aC (ai (PySem.W.Looks.at L0 (ai (PySem.W.Looks.at L1 ?_)))));refine ai (cF (bp h (λ v s' z=>aC ?_) λ _ _ z=>z.elim));exact bp z (λ v Y hv=>aC hv) λ _ _ z=>z.elim
noncomputable def zA (h:Heap)(l:List Addr):Heap:={ h with objs:=h.objs.mapIdx λ i o=>if i∈l then { o with data:=.freed } else o }
def zx (hb:b∈l):(zA h l).get? b=none:=by
 unfold Heap.get? zA;simp only[iD];cases e:h.objs[b]? with
 | none=>rfl
 | some o=>simp only[cO,ij hb]
def qy (hb:b ∉ l):(zA h l).get? b=h.get? b:=by
 unfold Heap.get? zA;simp only[iD];cases e:h.objs[b]? with
 | none=>rfl
 | some o=>simp only[cO,iF hb]
def zY :(zA h l).StaysIn h:=λ b o e=>by
 by_cases hb:b∈l
 .rw[zx hb]at e;cases e
 .rwa [qy hb]at e
def without_none (e:(zA h l).get? b=bY):b∈l\/h.get? b=none:=by
 by_cases hb:b∈l
 .exact .inl hb
 .rw[qy hb]at e;exact .inr e
theorem ao3 {h :Heap}:∀ {l},h.FunFrames base l->(∀ b∈frs l,J.get? b=bY)->h.FunFrames J l
 | [],_,_=>True.intro
 | env::l,⟨k,⟨L,o,hf,_,ho,hd⟩,r⟩,hb=>by
  have hm:frs (env::l)=L::frs l:=by unfold frs;rw[bB,hf]
  rw[hm]at hb;exact⟨k,⟨L,o,hf,hb L (ao ..),ho,hd⟩,ao3 r λ b z=>hb b (ah _ z)⟩
def HOk.part (x:HOk P w H h)(k:∀ b u o,H b=aT u->h.get? b=aT o->h'.get? b=aT o):HOk P w H h':=λ a o e =>
 (x a o e).stay (λ b u hb q=>by
  rcases hb with rfl|hb
  .exact k _ _ _ e q
  .exact k _ _ _ hb q) (λ _ q=>q) λ _ _ q=>q
def ac1.at_ (x:ac1 P w H h a o):∃ u,h.get? a=aT u:=by
 cases o with
 | J xs=>obtain⟨_,_,_,_,e⟩:=x;exact⟨_,e⟩
 | tp xs=>obtain⟨_,_,_,ob,e,_⟩:=x;exact⟨_,e⟩
 | dK kvs=>obtain⟨_,_,_,_,o,_,_,e,_⟩:=x;exact⟨_,e⟩
 | ins Cc dx fs=>obtain⟨_,_,_,e,_⟩:=x;exact⟨_,e⟩
 | own y=>exact x
 | xd fs=>obtain⟨_,⟨_,_,_,e,_⟩,_⟩:=x;exact⟨_,e⟩
 | rng lo hi=>obtain⟨_,_,_,e⟩:=x;exact⟨_,e⟩
 | frz ob u=>obtain⟨e,_⟩:=x;exact⟨_,e⟩
 | tbl ps=>exact⟨_,(x)⟩
 | met f y=>exact⟨_,(x)⟩
 | ext C=>obtain⟨_,e,_⟩:=x;exact e
structure Fly (h0:Heap)(H:Hp)(h:Heap)(a Cc:Addr):Prop where
 new:h0.get? a=bY
 free:H a=bY
 at_:∃ a0 oe vs T oT ts,h.get? a=aT oe/\(oe.cls=.ref Cc/\vs[0]?=aT a0)/\oe.data=.fields vs/\vs[1]?=aT (.ref T)/\h0.get? T=bY/\H T=bY/\T≠a/\h.get? T=aT oT/\oT.data=.fields ts/\ts[3]?=aT .none
section
variable {X:Cx} {pins:yA} {W:St} {H:Hp} {s:af} {a Cc:Addr} {a0:Value}
def ba0 (I:Inv X pins W H s)(Z:X.ex=[])(a3:∀ b∈frs X.stack,b∈bs)(hb:∀ b∈bs,b∈frs X.stack\/(X.s₀.heap.get? b=bY/\H b=bY))(n0:X.s₀.heap.get? a=bY)(nH:H a=bY)(J:∀ b∈X.fs,b∈frs X.stack)
  (L:Heap.LeftW (zA s.heap bs) X.stack a (.ref Cc) a0 s.heap h'):Un X.fs [] X.H₀ H X.s₀.heap h'/\HOk X.prog X.w H h'/\Fly X.s₀.heap H h' a Cc:=by
 obtain⟨st,ff,tr,sl⟩:=L;have un:=I.base;rw[Z]at un;have keep:=λ b o n e=>st b o (by rw[qy n];exact e);have slot:∀ b o,b∈frs X.stack->s.heap.get? b=aT o->∃ sl,h'.get? b=aT { o with slots:=sl }:=λ b o n e=>by
  obtain⟨_,o',e',d⟩:=I.stack.mem n;rw[e]at e';cases e';exact sl b o e d
 have out:∀ b o,X.s₀.heap.get? b=aT o->b ∉ frs X.stack->b ∉ bs:=λ b o e n z=>by
  rcases hb b z with q|⟨q,_⟩
  .exact n q
  .rw[e]at q;cases q
 have Y:∀ b o,X.s₀.heap.get? b=aT o->b ∉ X.fs->b ∉ frs X.stack:=λ b o e n z=>by
  rcases aw.mp (I.stkSub b z)with q|q
  .subst q;exact nc (aL e) (im.mpr I.ok.above)
  .exact n q
 refine⟨⟨λ b o e n nf nx=>?_,λ b o e n nf nx=>?_,un.free,λ b o e nx=>?_,un.tups,un.frzs,un.tbls⟩,I.hok.part λ b u o e q=>?_,⟨n0,nH,?_⟩⟩
 .exact keep b o (out b o e (Y b o e nf)) (un.keep b o e n nf nx)
 .obtain⟨a2,e1⟩:=un.slot b o e n nf nx;obtain⟨a1,e2⟩:=slot b _ (J b nf) e1;exact⟨a1,e2⟩
 .obtain⟨o1,e1⟩:=un.there b o e nx;by_cases z:b∈frs X.stack
  .obtain⟨_,e2⟩:=slot b _ z e1;exact⟨_,e2⟩
  .exact⟨_,keep b o1 (out b o e z) e1⟩
 .refine keep b o (λ z=>?_) q;rcases hb b z with y|⟨_,y⟩
  .rw[I.stkFree b y]at e;cases e
  .rw[y]at e;cases e
 .obtain⟨oe,vs,T,oT,ts,h1,h2,h3,h4,h5,h6,h7,h8,h9⟩:=tr;have key:X.s₀.heap.get? T=bY/\H T=none:=by
   rcases without_none h5 with z|z
   .rcases hb T z with y|y
    .obtain⟨_,o',e',d⟩:=ff.mem y;rw[h7]at e';cases e';exact nc h8 (d _)
    .exact y
   .refine⟨?_,?_⟩
    .cases e:X.s₀.heap.get? T with
     | none=>rfl
     | some o=>obtain⟨o',e'⟩:=un.there T o e (by simp);rw[z]at e';cases e'
    .cases e:H T with
     | none=>rfl
     | some o=>obtain⟨u,e'⟩:=(I.hok T o e).at_;rw[z]at e';cases e'
  exact⟨a0,oe,vs,T,oT,ts,h1,h2,h3,h4,key.1,key.2,h6,h7,h8,h9⟩
def aY8 {vs:yK}(I:Inv X pins W H s)(a2:X.ex=[])(z:X.stack=X.env::X.outer)(J:X.env.frame=aT X.env.locals)(n0:X.s₀.heap.get? a=bY)(nH:H a=bY)
  (h1:s.heap.get? a=aT oe) (h2:oe.cls=.ref Cc) (h3:oe.data=.fields vs) (h4:vs[1]?=aT .none) (h5:vs[0]?=aT a0) {Q:Unit->af->Prop} {E:yB}
  (k:∀ h',Un X.fs [] X.H₀ H X.s₀.heap h'->HOk X.prog X.w H h'->Fly X.s₀.heap H h' a Cc->Q () { s with heap:=h' }):wpAny (model X.prog X.w) X.A (leaving X.env (.ref a)) Q E s:=by
 have a1:s.heap.FunFrames (zA s.heap (a::frs X.stack)) X.stack:=ao3 I.stack λ b hb=>zx (ah _ hb);have Y:∀ b∈X.fs,b∈frs X.stack:=λ b hb=>by rw[z];unfold frs;rw[bB,J];exact ah _ hb
 have Z:=I.ok.frames;rw[z]at Z;refine wpAny_leaving_firstW (base:=zA s.heap (a::frs X.stack)) Z (by rw[<-z];exact a1) J h1 zY (zx (ao ..)) h3 h4 h5 λ h' L=>?_;rw[h2,<-z]at L;obtain⟨u,o,f⟩:=ba0 I a2 (λ b hb=>ah _ hb) (λ b hb=>by
  rcases aw.mp hb with q|q
  .subst q;exact .inr ⟨n0,nH⟩
  .exact .inl q) n0 nH Y L
 exact k h' u o f
def aU7 (I:Inv X pins W H s)(a3:X.ex=[])(z:X.stack=X.env::X.outer)(J:X.env.frame=aT X.env.locals)(F:Fly X.s₀.heap H s.heap a Cc){E:yB}
  (k:∀ h',Un X.fs [] X.H₀ H X.s₀.heap h'->HOk X.prog X.w H h'->Fly X.s₀.heap H h' a Cc->Q () { s with heap:=h' }):wpAny (model X.prog X.w) X.A (leaving X.env (.ref a)) Q E s:=by
 obtain⟨n0,nH,a0,oe,vs,T,oT,ts,h1,h2,h3,h4,h5,h6,h7,h8,h9,a1⟩:=F;have a2:s.heap.FunFrames (zA s.heap (a::T::frs X.stack)) X.stack:=ao3 I.stack λ b hb=>zx (ah _ (ah _ hb));have Y:∀ b∈X.fs,b∈frs X.stack:=λ b hb=>by rw[z];unfold frs;rw[bB,J];exact ah _ hb
 have Z:=I.ok.frames;rw[z]at Z;refine wpAny_leaving_nextW Z (by rw[<-z];exact a2) J ⟨oe,vs,T,oT,ts,h1,h2,h3,h4,zx (by simp),h7,h8,h9,a1⟩ zY (zx (ao ..)) λ h' L=>?_;rw[<-z]at L;obtain⟨u,o,f⟩:=ba0 I a3 (λ b hb=>ah _ (ah _ hb)) (λ b hb=>by
  rcases aw.mp hb with q|q
  .subst q;exact .inr ⟨n0,nH⟩
  .rcases aw.mp q with q|q
   .subst q;exact .inr ⟨h5,h6⟩
   .exact .inl q) n0 nH Y L
 exact k h' u o f
end
def CX1 (P:aD)(w:World):CXT:=λ outer H s E e s'=>∃ a Cc H',e=.ref a/\s'.os=s.os/\fX s'.gens/\Un (frs outer) [] H H' s.heap s'.heap/\HOk P w H' s'.heap/\Fly s.heap H' s'.heap a Cc/\E e (aT Cc) H'
def CX1.inv {W:St}(I:Inv X J W H s)(Z:X.ex=[])(h:CX1 X.prog X.w X.stack H s E e s') :
  ∃ a Cc H',e=.ref a/\Inv X J W H' s'/\Fly X.s₀.heap H' s'.heap a Cc/\E e (aT Cc) H':=by
 obtain⟨a,Cc,H',rfl,os,bare,un,hok,F,q⟩:=h;have Y:∀ b,s.heap.get? b=bY->X.s₀.heap.get? b=none:=λ b z=>by
  cases e:X.s₀.heap.get? b with
  | none=>rfl
  | some o=>obtain⟨o',e'⟩:=I.base.there b o e (by rw[Z];simp);rw[z]at e';cases e'
 obtain⟨n0,nH,a0,oe,vs,T,oT,ts,h1,h2,h3,h4,h5,h6,h7⟩:=F;exact⟨a,Cc,H',rfl,I.call' os un hok bare (λ b z=>nc z (by simp)),⟨Y _ n0,nH,a0,oe,vs,T,oT,ts,h1,h2,h3,h4,Y _ h5,h6,h7⟩,q⟩
section
variable {P:aD} {w:World} {K:ae} {mg:yD} {base:Heap} {N:yI} {qual:Str} {scope:Scope} {f:Addr} {cd:Value} {A:aV} {outer:List Env} {s0:af} {H0:Hp} {E:XK}
def cm1:qj (CX1 P w) (al9 (CX1 P w) P w K mg base N qual scope f cd A outer s0 H0 E) E:=by
 intro z W H s e s' I h;obtain⟨a,Cc,H',rfl,J,F,q⟩:=CX1.inv I rfl h;exact aU7 J rfl rfl rfl F λ h' u o Y=>⟨a,Cc,H',rfl,J.os,J.bare,u,o,Y,q⟩
def aU6 (X:Cx)(E:XK):Prop:=∀ pins (W:St) H s h' a Cc (args:yH),Inv X pins W H s->Heap.MadeExcOf s.heap h' a (.ref Cc) args->E (.ref a) (aT Cc) H->X.xe (.ref a) { s with heap:=h' }
def cm5:aU6 (al9 (CX1 P w) P w K mg base N qual scope f cd A outer s0 H0 E) E:=by
 intro z W H s h' a Cc args I M q;have J:=I.kept (t':=s.toks) M.keeps;obtain⟨t,Y,_⟩:=M.there;refine aY8 J rfl rfl rfl ?_ ?_ Y rfl rfl rfl rfl λ Z u o F=>⟨a,Cc,H,rfl,J.os,J.bare,u,o,F,q⟩
 .show s0.heap.get? a=bY;cases e:s0.heap.get? a with
  | none=>rfl
  | some o =>
   obtain⟨o',e'⟩:=I.base.there a o e (by show a ∉ ([]);simp);rw[M.new]at e';cases e'
 .cases e:H a with
  | none=>rfl
  | some o =>
   obtain⟨u,e'⟩:=(I.hok a o e).at_;rw[M.new]at e';cases e'
end
def ffx {p:Prop}(h:dr=ca):p:=km h
noncomputable def excTail:List Value:=[.type "ValueError",.type "Exception",.type "BaseException",.type "object"]
noncomputable def nsQ (K:ae)(N:Addr):Bool:=match K.lookup N with
 | some ⟨_,_,.dict es _,_⟩=>(es.all λ e=>match e.key with|.str _ _=>ca|_=>dr)&&k9.all λ n=>(nsFind es n).isNone
 | _=>dr
def bL9 (K:ae):List Value->Bool
 | .ref A::tl=>(match K.lookup A with|some ⟨_,_,.cls cd,_⟩=>nsQ K cd.ns|_=>dr)&&bL9 K tl
 | l=>l==excTail
def cj9 (K:ae)(Cc:Addr):Bool:=match K.lookup Cc with
 | some ⟨c,_,.cls cd,⟨[_,_,_,_,k4,_]⟩⟩=>c==.type "type"&&(!cd.hasDel&&(nsQ K cd.ns&&((match cd.mro with|m::tl=>m==.ref Cc&&bL9 K tl|[]=>dr)&&k4==aT (.builtin "ValueError.__new__"))))
 | _=>dr
def by7 {K}(h:nsQ K N=ca):∃ z,(∀ n∈k9,z n=bY)/\∀ h:Heap,K.In h->h.Ns N z:=by
 unfold nsQ at h;cases e:K.lookup N with
 | none=>rw[e]at h;exact ffx h
 | some o =>
  rw[e]at h;obtain⟨c,d,J,sl⟩:=o;cases J with
  | dict es ep =>
   have h:=(aj _ _).mp h;refine⟨nsFind es,λ n hn=>?_,λ hp Y=>⟨_,es,ep,Y _ _ e,rfl,λ x hx=>?_,λ _=>rfl⟩⟩
   .have:=aA.mp h.2 n hn;exact Option.isNone_iff_eq_none.mp this
   .have:=Array.all_eq_true'.mp h.1 x hx;cases q:x.key with
    | str _ _=>exact⟨_,_,rfl⟩
    | _=>rw[q]at this;exact ffx this
  | _=>exact ffx h
theorem aN9 {K}:∀ {l:yH},bL9 K l=ca->∀ h:Heap,K.In h->OwnTailQ h excTail l
 | [],h,hp,hK=>by
  cases ll h
 | v::tl,h,hp,hK=>by
  cases v with
  | ref A =>
   obtain⟨z,J⟩:=(aj _ _).mp h;cases e:K.lookup A with
   | none=>rw[e]at z;exact ffx z
   | some o =>
    rw[e]at z;obtain⟨c,d,Y,sl⟩:=o;cases Y with
    | cls cd =>
     obtain⟨Z,q,n⟩:=by7 z;exact .own (hK _ _ e) (n hp hK) q (aN9 J hp hK)
    | _=>exact ffx z
  | type n =>
   cases ll h;exact .base
  | _=>cases ll h
structure ExcCls (K:ae)(Cc:Addr):Prop where
 obj:∃ bm N nm q bs hdct sn sub ab col dd k0 k1 k2 k3 k5 mN,K.lookup Cc=aT (excClassObj nm q Cc N bs bm hdct sn sub ab col dd k0 k1 k2 k3 k5 "ValueError.__new__")/\(∀ n∈k9,mN n=bY)/\∀ h:Heap,K.In h->h.Ns N mN/\OwnTailQ h excTail bm
def bJ0 {K}(h:cj9 K Cc=ca):ExcCls K Cc:=by
 unfold cj9 at h;cases e:K.lookup Cc with
 | none=>rw[e]at h;exact ffx h
 | some o =>
  rw[e]at h;obtain⟨c,dd,dt,⟨sl⟩⟩:=o;cases dt with
  | cls cd =>
   rcases sl with _|⟨k0,_|⟨k1,_|⟨k2,_|⟨k3,_|⟨k4,_|⟨k5,_|⟨k6,sl⟩⟩⟩⟩⟩⟩⟩
   case cons.cons.cons.cons.cons.cons.nil =>
    obtain⟨nm,bs,z,N,q,hdct,sn,sub,ab,col,J⟩:=cd;obtain⟨h1,h⟩:=(aj _ _).mp h;obtain⟨Y,h⟩:=(aj _ _).mp h;obtain⟨h3,h⟩:=(aj _ _).mp h;obtain⟨h4,h5⟩:=(aj _ _).mp h;cases z with
    | nil=>exact ffx h4
    | cons m tl =>
     obtain⟨h4,h6⟩:=(aj _ _).mp h4;have e1:=ll h1;have e5:=ll h5;have e4:=ll h4;subst e1 e5 e4;have Y:=(gD _).mp Y;subst Y;obtain⟨mN,q',n⟩:=by7 h3;exact⟨tl,N,nm,q,bs,hdct,sn,sub,ab,col,dd,k0,k1,k2,k3,k5,mN,e,q',λ hp Z=>⟨n hp Z,aN9 h6 hp Z⟩⟩
   all_goals exact ffx h
  | _=>exact ffx h
def bq9 {K}{ D}(hc:ExcCls K D)(J:bh K (.ref D) (bj "__getattribute__")=aT (aT (.builtin "BaseException.__getattribute__")))(hk:bh K (.ref D) (bj "__getattr__")=aT bY)
  (hf:bh K (.ref D) (bj "__class__")=aT (aT (.builtin "object.__class__")))
  (hs:eX K (.builtin "object.__class__") (bj "__get__")=aT (aT (.builtin "getset_descriptor.__get__")))
  (ht:fG K (.builtin "object.__class__")=aT ca) (hm:gJ K D (.type "object")=aT ca) :
  cS K (.ref x) (.ref D) (λ h=>XAt h x D):=by
 obtain⟨bm,N,nm,q,bs,hdct,sn,sub,ab,col,dd,k0,k1,k2,k3,k5,mN,Y,hq,hN⟩:=hc.obj;refine⟨λ M h _ I=>I.type,λ M h X I=>?_,λ h Z dd its n sl X z=>?_,λ {prog w A E Q s} X I h=>?_⟩
 .intro A' Q' E' s' k q;exact ai (wpAny_loadPart (k _ _ (X _ _ Y)) (aC q))
 .cases e:(Value.ref D==Value.ref Z)with
  | false=>rfl
  | true =>
   have e:=ll e;cases e;rw[X _ _ Y]at z;cases congrArg (λ o:Option Obj=>o.map Obj.data) z
 .obtain⟨o,ho,hcl⟩:=I;have L:=XAt.type (M:=model prog w) ⟨o,ho,hcl⟩;exact bZ6 X L (cj1 X hf hs ht) J hk (X _ _ Y) (hN _ X).2 ho hcl (ic (aT8 X L hm (PySem.W.handed_on rfl h)))
noncomputable def excI (K:ae)(Cc:Addr):Bool:=bh K (.ref Cc) (bj "__getattribute__")==aT (aT (.builtin "BaseException.__getattribute__"))&&(bh K (.ref Cc) (bj "__getattr__")==aT bY&&(bh K (.ref Cc) (bj "__class__")==aT (aT (.builtin "object.__class__"))&&(eX K (.builtin "object.__class__") (bj "__get__")==aT (aT (.builtin "getset_descriptor.__get__"))&&(fG K (.builtin "object.__class__")==aT ca&&gJ K Cc (.type "object")==aT ca))))
def bM4 {K}(hc:ExcCls K Cc)(h:excI K Cc=ca):cS K (.ref x) (.ref Cc) (λ h=>XAt h x Cc):=by
 unfold excI at h;simp only[aj]at h;obtain⟨h0,J,Y,h3,h4,z⟩:=h;exact bq9 hc (ll h0) (ll J) (ll Y) (ll h3) (ll h4) (ll z)
section
variable {X:Cx} {E:XK} {Cc:Addr} {x:Str}
def bt5 (T:aU6 X E)(hc:ExcCls X.K Cc)(hg:Gl X x)(hm:X.mg x=aT (.ref Cc))(hh:X.A.handled=bY)(hd:(x==("__debug__":Str))=dr) :
  PS X (.Raise (aT (.Call (.Name x np) [.Constant (.str y) j p] [] J)) bY pos) (λ D W H=>∀ a,E (.ref a) (aT Cc) H):=by
 intro z s W H D I q;obtain⟨bm,N,nm,q',bs,hdct,sn,sub,ab,col,dd,k0,k1,k2,k3,k5,mN,e,hq,hN⟩:=hc.obj;have a0:=hN _ I.kIn;refine wpAny_Raise_call_subT (nm:=nm) (q:=q') (C:=Cc) (N:=N) (bs:=bs) (hdct:=hdct) (sn:=sn) (sub:=sub) (ab:=ab) (col:=col) (dd:=dd) (k0:=k0) (k1:=k1) (k2:=k2) (k3:=k3) (k5:=k5) iR (OwnTail.hasType a0.2.tail iR.hasBase) hh rfl (hq _ (ao ..)) ?_;refine thn (ax9 (v:=.ref Cc) hg hm rfl hd z s W H (λ v Y=>v=.ref Cc/\Y=H) I ⟨rfl,rfl⟩) λ u s1 ⟨v,Y,I1,r,e1,e2⟩=>?_;subst e1 e2;refine⟨r,iK ?_⟩;have pa:PA X [.Constant (.str y) j p] (ak1 (tC (.str y)) aF4):=zo av2 ab8;refine thn (pa J z s1 W Y (λ vs H2=>vs.length=1/\H2=Y) I1 ⟨rfl,rfl⟩) λ us s2 ⟨vs,H2,Z,r2,e3,e4⟩=>?_;subst e4;have hl:us.length=1:=by rw[<-r2.length];exact e3
 refine⟨rfl,by show us.length<=_;rw[hl];decide,Z.kIn _ _ e,(hN _ Z.kIn).1,(hN _ Z.kIn).2.tail,λ h' a M=>?_⟩;exact T z W H2 s2 h' a Cc us Z M (q a)
end
structure Tr (X:Cx)(pins:yA)(W:St)(H:Hp)(s:af)(a Cc:Addr)(fl:Value):Prop where
 inv:Inv X pins W H s
 n0:X.s₀.heap.get? a=bY
 nH:H a=bY
 np:∀ p∈X.pn++pins,p.1≠a
 tr:∃ a0 oe vs T oT ts,s.heap.get? a=aT oe/\(oe.cls=.ref Cc/\vs[0]?=aT a0)/\oe.data=.fields vs/\vs[1]?=aT (.ref T)/\X.s₀.heap.get? T=bY/\H T=bY/\(∀ p∈X.pn++pins,p.1≠T)/\T≠a/\s.heap.get? T=aT oT/\oT.data=.fields ts/\ts[3]?=aT fl
section
variable {X:Cx} {pins:yA} {W:St} {H:Hp} {s:af} {a Cc T:Addr} {fl fl' a0:Value} {h':Heap}
def Tr.stk (J:X.stack=X.env::X.outer)(z:X.env.frame=aT X.env.locals):∀ b∈X.fs,b∈frs X.stack:=λ b hb=>by rw[J];unfold frs;rw[bB,z];exact ah _ hb
def Tr.moved (t:Tr X pins W H s a Cc fl)(a4:X.ex=[])(c1:X.stack=X.env::X.outer)(b5:X.env.frame=aT X.env.locals){ts:yK}(a6:X.s₀.heap.get? T=bY)(a1:H T=bY)(a2:∀ p∈X.pn++pins,p.1≠T)(c0:s.heap.get? T=aT oT)(c3:oT.data=.fields ts)
  (st:(zA s.heap (a::T::frs X.stack)).StaysIn h') (ff:h'.FunFrames (zA s.heap (a::T::frs X.stack)) X.stack) (tr:h'.TracedAtW (zA s.heap (a::T::frs X.stack)) a (.ref Cc) a0 fl')
  (sl:∀ b o,s.heap.get? b=aT o->(∀ vs,o.data≠.fields vs)->∃ sl,h'.get? b=aT { o with slots:=sl }):Tr X pins W H { s with heap:=h' } a Cc fl':=by
 have I:=t.inv;have un:=I.base;rw[a4]at un;have a5:=Tr.stk c1 b5;obtain⟨b0,oe,vs,_,_,_,g1,_,g3,_⟩:=t.tr;have b1:∀ b,b∈a::T::frs X.stack->b=a\/b=T\/b∈frs X.stack:=λ b hb=>by
  rcases aw.mp hb with q|q
  .exact .inl q
  .exact .inr (aw.mp q)
 have keep:∀ b o,b≠a->b≠T->b ∉ frs X.stack->s.heap.get? b=aT o->h'.get? b=aT o:=λ b o n1 n2 n3 e=>st b o (by
  rw[qy λ z=>(b1 b z).elim n1 λ z=>z.elim n2 n3];exact e)
 have slot:∀ b o,b∈frs X.stack->s.heap.get? b=aT o->∃ sl,h'.get? b=aT { o with slots:=sl }:=λ b o n e=>by
  obtain⟨_,o',e',d⟩:=I.stack.mem n;rw[e]at e';cases e';exact sl b o e d
 have b3:∀ b o,X.s₀.heap.get? b=aT o->b ∉ X.fs->b ∉ frs X.stack:=λ b o e n z=>by
  rcases aw.mp (I.stkSub b z)with q|q
  .subst q;exact nc (aL e) (im.mpr I.ok.above)
  .exact n q
 have J:∀ b o,X.s₀.heap.get? b=aT o->b≠a/\b≠T:=λ b o e=>⟨λ z=>(by rw[z,t.n0]at e;cases e),λ z=>(by rw[z,a6]at e;cases e)⟩
 have c4:∀ b o,s.heap.get? b=aT o->(∀ vs,o.data≠.fields vs)->b≠a/\b≠T:=λ b o e d=>⟨λ z=>(by rw[z,g1]at e;cases e;exact d _ g3),λ z=>(by rw[z,c0]at e;cases e;exact d _ c3)⟩
 have up:∀ b o,s.heap.get? b=aT o->(∀ vs,o.data≠.fields vs)->∃ sl,h'.get? b=aT { o with slots:=sl }:=sl;have a3:Inv X pins W H { s with heap:=h' }:=by
  refine⟨I.ok,I.os,I.bare,?_,?_,λ x c e=>?_,I.free,I.freeC,λ p hp=>?_,I.hok.part λ b u o e q=>?_,I.len⟩
  .rw[a4];refine⟨λ b o e n nf nx=>?_,λ b o e n nf nx=>?_,un.free,λ b o e nx=>?_,un.tups,un.frzs,un.tbls⟩
   .exact keep b o (J b o e).1 (J b o e).2 (b3 b o e nf) (un.keep b o e n nf nx)
   .obtain⟨c2,e1⟩:=un.slot b o e n nf nx;obtain⟨Z,e2⟩:=slot b _ (a5 b nf) e1;exact⟨Z,e2⟩
   .obtain⟨o1,e1⟩:=un.there b o e nx;by_cases z:b∈frs X.stack
    .obtain⟨_,e2⟩:=slot b _ z e1;exact⟨_,e2⟩
    .exact⟨_,keep b o1 (J b o e).1 (J b o e).2 z e1⟩
  .obtain⟨m,⟨o,es,ep,ho,hd,hr⟩,hl⟩:=I.loc;obtain⟨c2,e1⟩:=up _ o ho (λ vs z=>by rw[hd]at z;cases z);refine⟨m,⟨_,es,ep,e1,hd,hr⟩,λ i x v h1 h2 h3=>?_⟩;obtain⟨u,r,lk⟩:=hl i x v h1 h2 h3;refine⟨u,r,?_⟩;rcases lk with z|⟨z1,c,z2,oc,z3,z4⟩
   .exact .inl z
   .obtain⟨Z,e2⟩:=up c oc z3 (λ vs z=>by rw[z4]at z;cases z);exact .inr ⟨z1,c,z2,_,e2,z4⟩
  .obtain⟨v,oc,z3,z4⟩:=I.cell x c e;obtain⟨Z,e2⟩:=up c oc z3 (λ vs z=>by rw[z4]at z;cases z);exact⟨v,_,e2,z4⟩
  .obtain⟨q1,q2,q3,q4,q5⟩:=I.pin p hp;refine⟨keep _ _ (t.np p hp) (a2 p hp) (λ z=>?_) q1,q2,q3,q4,q5⟩;rcases aw.mp (I.stkSub _ z)with q|q
   .exact q3 q
   .exact q4 q
  .refine keep b o (λ z=>?_) (λ z=>?_) (λ z=>?_) q
   .rw[z,t.nH]at e;cases e
   .rw[z,a1]at e;cases e
   .rw[I.stkFree b z]at e;cases e
 refine⟨a3,t.n0,t.nH,t.np,?_⟩;obtain⟨b4,b6,Y,b2,b9,h1,h2,h3,h4,h5,h6,h7,h8,h9⟩:=tr;have key:X.s₀.heap.get? Y=bY/\H Y=bY/\∀ p∈X.pn++pins,p.1≠Y:=by
  rcases without_none h5 with z|z
  .rcases b1 Y z with y|y|y
   .exact nc y h6
   .subst y;exact⟨a6,a1,a2⟩
   .obtain⟨_,o',e',d⟩:=ff.mem y;rw[h7]at e';cases e';exact nc h8 (d _)
  .refine⟨?_,?_,λ p hp y=>?_⟩
   .cases e:X.s₀.heap.get? Y with
    | none=>rfl
    | some o=>obtain⟨o',e'⟩:=un.there Y o e (by simp);rw[z]at e';cases e'
   .cases e:H Y with
    | none=>rfl
    | some o=>obtain⟨u,e'⟩:=(I.hok Y o e).at_;rw[z]at e';cases e'
   .have:=(I.pin p hp).1;rw[y,z]at this;cases this
 exact⟨a0,b4,b6,Y,b2,b9,h1,h2,h3,h4,key.1,key.2.1,key.2.2,h6,h7,h8,h9⟩
def Tr.noted (t:Tr X pins W H s a Cc .none)(a3:X.ex=[])(z:X.stack=X.env::X.outer)(J:X.env.frame=aT X.env.locals){E:yB}
  (k:∀ h' fl,Tr X pins W H { s with heap:=h' } a Cc fl->Q () { s with heap:=h' }):wpAny (model X.prog X.w) X.A (kh (.ref a) X.env) Q E s:=by
 have I:=t.inv;obtain⟨a0,oe,vs,T,oT,ts,h1,h2,h3,h4,h5,h6,a2,h7,h8,h9,Z⟩:=t.tr;have a1:s.heap.FunFrames (zA s.heap (a::T::frs X.stack)) X.stack:=ao3 I.stack λ b hb=>zx (ah _ (ah _ hb));have Y:=I.ok.frames;rw[z]at Y;refine wpAny_noteFrame_onW Y (by rw[<-z];exact a1) J ⟨oe,vs,T,oT,ts,h1,h2,h3,h4,zx (by simp),h7,h8,h9,Z⟩ zY (zx (ao ..)) λ h' L=>?_;rw[<-z]at L;obtain⟨st,ff,tr,sl⟩:=L;exact k h' _ (t.moved a3 z J h5 h6 a2 h8 h9 st ff tr sl)
def Tr.down (t:Tr X pins W H s a Cc fl)(a1:X.ex=[])(a2:X.stack=X.env::X.outer)(Y:X.env.frame=aT X.env.locals){E:yB}
  (k:∀ h',Tr X pins W H { s with heap:=h' } a Cc .none->Q () { s with heap:=h' }):wpAny (model X.prog X.w) A (ko (.ref a) bY) Q E s:=by
 have I:=t.inv;obtain⟨a0,oe,vs,T,oT,ts,h1,h2,h3,h4,h5,h6,Z,h7,h8,h9,z⟩:=t.tr;have J:s.heap.FunFrames (zA s.heap (a::T::frs X.stack)) X.stack:=ao3 I.stack λ b hb=>zx (ah _ (ah _ hb));refine wpAny_setFlight_noneW zY J ⟨oe,vs,T,oT,ts,h1,h2,h3,h4,zx (by simp),h7,h8,h9,z⟩ λ h' st ff tr sl=>?_;exact k h' (t.moved a1 a2 Y h5 h6 Z h8 h9 st ff tr.at λ b o e d=>⟨o.slots,sl b o e d⟩)
def CX1.tr (I:Inv X pins W H s)(Z:X.ex=[])(h:CX1 X.prog X.w X.stack H s E e s') :
  ∃ a Cc H',e=.ref a/\Tr X pins W H' s' a Cc .none/\E e (aT Cc) H':=by
 have h0:=h;obtain⟨a,Cc,H',rfl,os,bare,un,hok,F,q⟩:=h;obtain⟨a',Cc',a1,e,J,G,q'⟩:=CX1.inv I Z h0;have Y:∀ b,s.heap.get? b=bY->X.s₀.heap.get? b=none:=λ b z=>by
  cases e:X.s₀.heap.get? b with
  | none=>rfl
  | some o=>obtain⟨o',e'⟩:=I.base.there b o e (by rw[Z];simp);rw[z]at e';cases e'
 have pn:∀ b,s.heap.get? b=bY->∀ p∈X.pn++pins,p.1≠b:=λ b z p hp y=>by
  have:=(I.pin p hp).1;rw[y,z]at this;cases this
 obtain⟨n0,nH,a0,oe,vs,T,oT,ts,h1,h2,h3,h4,h5,h6,h7⟩:=F;exact⟨a,Cc,H',rfl,⟨I.call' os un hok bare (λ b z=>nc z (by simp)),Y _ n0,nH,pn _ n0,a0,oe,vs,T,oT,ts,h1,h2,h3,h4,Y _ h5,h6,pn _ h5,h7⟩,q⟩
end
noncomputable abbrev Cx.hnd (X:Cx)(a:Addr)(oe:Obj):Cx:={ X with A:=X.A.mark (aT (.ref a)),calm:=dr,pn:=(a,oe)::X.pn,xe:=λ _ _=>False }
section
variable {X:Cx} {pins:yA} {W:St} {H:Hp} {s:af} {a Cc:Addr} {oe:Obj} {fl:Value}
theorem Cx.Ok.hnd (ok:X.Ok)(a:Addr)(oe:Obj):(X.hnd a oe).Ok:=⟨ok.mod,ok.kind,ok.glob,ok.blt,ok.above,ok.inj,ok.has,ok.cab,(λ z=>by cases z),ok.frames,ok.stk,ok.exf,ok.bs,ok.bsz,ok.noex,ok.exfs,ok.funs,ok.frf⟩
def Inv.apart (I:Inv X pins W H s){vs:yK}(e:s.heap.get? b=aT o)(d:o.data=.fields vs):b≠X.env.locals/\b ∉ X.fs/\∀ v,o.data≠.cell v:=by
 refine⟨λ z=>?_,λ z=>?_,λ v z=>by rw[d]at z;cases z⟩
 .obtain⟨m,⟨o',es,ep,ho,hd,_⟩,_⟩:=I.loc;rw[<-z,e]at ho;cases ho;rw[d]at hd;cases hd
 .obtain⟨_,o',e',d'⟩:=I.funs.mem z;rw[e]at e';cases e';exact d' _ d
theorem Inv.hnd {vs:yK}(I:Inv X pins W H s)(e:s.heap.get? a=aT oe)(n:H a=bY)(d:oe.data=.fields vs):Inv (X.hnd a oe) pins W H s :=
 ⟨I.ok.hnd a oe,I.os,I.bare,I.base,I.loc,I.cell,I.free,I.freeC,λ p hp=>by
  rcases aw.mp hp with z|z
  .subst z;exact⟨e,n,I.apart e d⟩
  .exact I.pin p z,I.hok,I.len⟩
def Inv.unhnd (ok:X.Ok)(I:Inv (X.hnd a oe) pins W H s):Inv X pins W H s:=⟨ok,I.os,I.bare,I.base,I.loc,I.cell,I.free,I.freeC,λ p hp=>I.pin p (ah _ hp),I.hok,I.len⟩
def bd9 {E:yB}(I:Inv X pins W H s)(hN:X.N.Nodup)(hi:X.N[i]?=aT x)(hx:X.env.scope.names.lookup x=aT .local)(hv:W[i]?=aT (aT v))
  (h:∀ s',Inv X pins (W.set i bY) H s'->Q () s'):wpAny M A (unbindName X.env x) Q E s:=by
 obtain⟨m,hn,hl⟩:=id I.loc;have Y:(X.env.scope.kind==.class||(X.env.scope.kind==.module&&X.env.locals != X.env.globals))=false:=by rw[I.ok.kind];rfl
 obtain⟨u,r,lk⟩:=hl i x v hi hv (.inl hx);have hm:m x=aT u:=by
  rcases lk with⟨_,e⟩|⟨e,_⟩
  .exact e
  .have a0:X.env.kindOf x=aT .local:=hx;rw[a0]at e;rcases e with e|e<;>cases e
 have cne:=I.cne;refine wpAny_unbindName_local hx hn hm Y λ h' u' Z hs=>?_;obtain⟨oL,_,_,a1,_⟩:=id hn;have J:∀ b o,X.s₀.heap.get? b=aT o->b≠X.env.locals:=λ b o e=>aJ (aG (aL e) I.ok.above);refine h _ ⟨I.ok,I.os,I.bare,⟨λ b o e n hb hx=>?_,λ b o e n hb hx=>?_,I.base.free,λ b o e hx=>?_,I.base.tups,I.base.frzs,I.base.tbls⟩,⟨_,Z,λ j y v' e1 e2 e3=>?_⟩,λ y c e=>?_,I.free,I.freeC,λ p hp=>?_,I.hok.part λ b w o e q=>?_,by rw[aU];exact I.len⟩
 .exact(hs.2 b (J b o e)).trans (I.base.keep b o e n hb hx)
 .obtain⟨sl,e1⟩:=I.base.slot b o e n hb hx;exact⟨sl,(hs.2 b (J b o e)).trans e1⟩
 .obtain⟨o',e1⟩:=I.base.there b o e hx;exact⟨o',(hs.2 b (J b o e)).trans e1⟩
 .have hj:j≠i:=λ z=>by
   subst z;rw[aW (ac.mp hv).1]at e2;cases e2
  rw[ar (bP hj)]at e2;obtain⟨w,r',q⟩:=hl j y v' e1 e2 e3;refine⟨w,r',?_⟩;rcases q with⟨k,e⟩|⟨k,c,e,z⟩
  .refine .inl ⟨k,?_⟩;have:y≠x:=λ e=>hj (ax7 hN e1 (e▸hi));simp[this,e]
  .exact .inr ⟨k,c,e,z.sameBut hs (cne y c e)⟩
 .obtain⟨w',z⟩:=I.cell y c e;exact⟨w',z.sameBut hs (cne y c e)⟩
 .obtain⟨e,n,ne,nf,d⟩:=I.pin p hp;exact⟨(hs.2 p.1 ne).trans e,n,ne,nf,d⟩
 .refine(hs.2 b λ z=>?_).trans q;rw[z,I.free]at e;cases e
def Tr.own (t:Tr X pins W H s a Cc fl):∃ oe vs,s.heap.get? a=aT oe/\oe.cls=.ref Cc/\oe.data=.fields vs:=by
 obtain⟨a0,oe,vs,T,Y,ts,z,J,h3,_⟩:=t.tr;exact⟨oe,vs,z,J.1,h3⟩
def Tr.again (t:Tr X pins W H s a Cc fl){Q:V->Hp->Prop}(he:∀ oe,PE (X.hnd a oe) e (tC v)){E:yB}{R:yB}
  (k:∀ u s',RelV v u->Tr X pins W H s' a Cc fl->R u s'):wpAny (model X.prog X.w) (X.A.mark (aT (.ref a))) (eval e X.env) R E s:=by
 obtain⟨a0,oe,vs,T,Y,ts,h1,h2,h3,h4,h5,h6,a2,h7,h8,h9,a1⟩:=t.tr;have I:=t.inv;have J:Inv (X.hnd a oe) ((T,Y)::pins) W H s:=(I.hnd h1 t.nH h3).pins_of λ p hp=>by
  rcases aw.mp hp with z|z
  .subst z;exact⟨h8,h6,I.apart h8 h9⟩
  .exact I.pin p (aO _ z)
 refine bp (he oe ((T,Y)::pins) s W H (λ w H1=>w=v/\H1=H) J ⟨rfl,rfl⟩) (λ u s1 ⟨w,H1,Z,r,e1,e2⟩=>?_) (λ _ _ z=>bn z);subst e1 e2;refine k u s1 r ⟨(Z.pins_of λ p hp=>Z.pin p (aO _ (ah _ hp))).unhnd I.ok,t.n0,t.nH,t.np,a0,oe,vs,T,Y,ts,(Z.pin (a,oe) (ao ..)).1,h2,h3,h4,h5,h6,a2,h7,(Z.pin (T,Y) (aO _ (ao ..))).1,h9,a1⟩
end
section
variable {prog:aD} {w:World} {A:aV} {R:jy->af->Prop} {I:Addr} {fp wr:List Addr} {n:Nat} {P:Nat->Value->Prop} {St:Nat->Heap->Prop} {h₀:Heap}
end
noncomputable def cm0 (lo:Int)(n:Nat):It:=⟨λ i _=>i<n,λ i H x H'=>H'=H/\x=.int (lo+i*(-1)),λ i _=>n<=i⟩
def aI7 {K} it Z n :Turn P w K tg (cm0 Z n) [it] it (λ i h=>iJ h it (Z+(i)*(-1)) ((n) - (i)) (-1)) where
 mem:=by simp
 obj:=λ i h st b hb=>by
  have e:=by simpa using hb
  subst e;exact⟨_,st,λ v z=>by
   have z':=z;cases z'⟩
 keep:=λ i h h' st k=>k it (by simp) _ st
 item:=by
  intro X hP hw hK hc i J s W H E I hf st hg;subst hP hw hK;obtain⟨f0,f1,f2,f3,f4,f5⟩:=hf it (by simp);have Ww:=mw (prog:=X.prog) (w:=X.w) (I.ok.hd hc) it Z (-1) n;refine Ww.item i s _ _ hg st λ v h' tk hv Y kk=>?_;obtain⟨t,rfl⟩:=hv;have I1:Inv X J W H { s with heap:=h',toks:=tk }:=I.turned (λ b o hb e=>kk b o (by simpa using hb) e) f0 f1 f3 f4 f5;exact⟨_,rfl,aS7 Y rfl rfl (by decide) ⟨.int (Z+i*(-1)),H,I1,⟨t,rfl⟩,⟨rfl,rfl⟩,Y,λ b hb=>(hf b hb).1⟩⟩
 done:=by
  intro X hP hw hK hc i J s W H E I hf st hg;subst hP hw hK;obtain⟨f0,f1,f2,f3,f4,f5⟩:=hf it (by simp);exact hW (I.ok.hd hc) st (by have:n<=i:=hg;omega) λ h' eb=>⟨rfl,I.turned (λ b o hb e=>eb b o hb e) f0 f1 f3 f4 f5⟩
 self:=λ _ _ _ _ _ st h=>hX st h
def aB7 (h:-1<=a):dy a (-1) (-1)=a+1:=by
 by_cases z:a=-1
 .subst z;rfl
 unfold dy;rw[iF (by decide),ij (by lia),show(-(-1))=1 from rfl,lW];lia
def aS4 (ha:-1<=a)(z:a<2^20):jp a (-1) (-1)=true:=by
 unfold jp;rw[aB7 ha];simp only[kN,aj,bz,oR,show ¬((-1:Int) > 0)by decide,if_false];lia
def bV3 (ta:TA):TI:=λ W H R=>ta W H λ vs H1=>∃ i,vs=[.int i,.int (-1),.int (-1)]/\(-1<=i/\i<2^20)/\R (cm0 i (i+1).toNat) H1
def aW6 {tg   }{p pos}(hg:Gl X "range")(hm:X.mg "range"=bY)(ha:PA X [a,b,c] ta)(hs:autoParam (bf [a,b,c] X.env=(dr,eval a X.env)::bf [b,c] X.env) Zq4._auto_1)(a0:autoParam (bf [b,c] X.env=[(dr,eval b X.env),(dr,eval c X.env)]) Zq4._auto_1) :
  PI X tg (.Call (.Name "range" p) [a,b,c] [] pos) (bV3 ta):=by
 intro Y s W H R I h;refine Call_ (aq9 I hg hm boot_range (cP (thn (ha pos Y s W H _ I h) λ us s1 ⟨vs,H1,I1,r1,Z⟩=>?_) hs (by rw[a0];rfl)));obtain⟨z,e,⟨Z,q2⟩,q⟩:=Z;subst e;cases r1 with
 | cons r rr =>
  cases rr with
  | cons r' rr =>
   cases rr with
   | cons r'' rr =>
    cases rr;obtain⟨t,rfl⟩:=r;obtain⟨t',rfl⟩:=r';obtain⟨J,rfl⟩:=r'';refine call_range_3 (by decide) ?_;refine jx (my ..) (aS4 Z q2) ?_;have I2:Inv X Y W H1 { s1 with heap:=s1.heap.push { cls:=.type "range",data:=.fields #[.int z t,.int (-1) t',.int (-1) J] },toks:=s1.toks }:=I1.kept λ b o e=>am _ e;refine⟨(s1.heap.push { cls:=.type "range",data:=.fields #[.int z t,.int (-1) t',.int (-1) J] }).objs.size,[(s1.heap.push { cls:=.type "range",data:=.fields #[.int z t,.int (-1) t',.int (-1) J] }).objs.size],_,_,H1,rfl,
     I2.kept λ b o e=>am _ e,aI7 _ z (z+1).toNat,?_,λ b hb=>?_,q⟩
    .skip
     have e1:z+((0:Nat))*(-1)=z:=by simp
     have e2:(((z+1).toNat)) - ((0:Nat))=dy z (-1) (-1):=by rw[aB7 Z];lia
     rw[e1,e2];exact aR _ rfl
    .have e:b=(s1.heap.push { cls:=.type "range",data:=.fields #[.int z t,.int (-1) t',.int (-1) J] }).objs.size:=by simpa using hb
     subst e;exact I2.fpOk (al _) (I2.hok.fresh (al _))
def aC5 :PE X (.UnaryOp .USub (.Constant (.int 1) k p1) J) (tC (.int (-1))) :=
 λ z s W H Q I h=>bX6 by9 aW7 z s W H Q I ⟨1,rfl,h⟩
section
variable {X:Cx} {pins:yA} {W:St} {H:Hp} {s:af} {a Cc:Addr} {oe:Obj} {fl:Value}
end
def bo7 :PG X e (λ _ _ _ _=>False):=λ _ _ _ _ _ _ _ _ _ z=>z.elim
theorem PG.nox (h:PG X.nox e t):PG X e t:=λ J s W H v u Q I r hw =>
 bp (h J s W H v u Q (I.wish _) r hw) (λ _ _ ⟨W',H',Y,q⟩=>⟨W',H',Y.unwish,q⟩) λ _ _ z=>bn z
theorem PI.nox (h:PI X.nox tg e t):PI X tg e t:=λ Y s W H R I hw =>
 bp (h Y s W H R (I.wish _) hw) (λ _ _ z=>bp z (λ _ _ z=>by
  obtain⟨it,fp,tn,J,H2,e,I2,T,Z,f2,q⟩:=z;exact⟨it,fp,tn,J,H2,e,I2.unwish,T,Z,f2,q⟩) λ _ _ z=>bn z) λ _ _ z=>bn z
def bW8 {E:yB}{K:ae}{e Cc D:Addr}{z:yM}{rest:List fy}{Q:Flow->af->Prop}(hx:bU K (.ref Cc) (.ref D)=aT ca)
  (h:wpAny (model P w) (A.mark (aT (.ref e))) (eval t env) (λ c Y=>c=.ref D/\K.In Y.heap/\(∃ oe,Y.heap.get? e=aT oe/\oe.cls=.ref Cc) /\
   wpAny (model P w) (A.mark (aT (.ref e))) (ko (.ref e) bY) (λ _ s₂=>wpAny (model P w) (A.mark (aT (.ref e))) (lM env n (.ref e)) (λ _ s₃=>wpAny (model P w) (A.mark (aT (.ref e))) (execs (Z::z) env)
    (λ f s₄=>wpAny (model P w) A (do bindName env n .none;unbindBehindTheSuite env n pos) (λ _ s₅=>Q f s₅) E s₄)
    (AsSuiteRaised (model P w) (A.mark (aT (.ref e))) env n pos (fZ (model P w) (A.mark (aT (.ref e))) env (jH (model P w) A env E))) s₃) (fZ (model P w) (A.mark (aT (.ref e))) env (jH (model P w) A env E)) s₂) (fZ (model P w) (A.mark (aT (.ref e))) env (jH (model P w) A env E)) Y) (fZ (model P w) (A.mark (aT (.ref e))) env (jH (model P w) A env E)) s) :
  wpAny (model P w) A (handleBy (.ref e) env (.ExceptHandler (aT t) (aT n) (Z::z) pos::rest)) Q E s:=by
 refine wpAny_handleBy_cons (codeAny_handlers_test (bp h (λ c Y h₁=>?_) λ _ _ y=>y)) (by intro q;cases q);obtain⟨rfl,X,⟨oe,he,J⟩,hk⟩:=h₁;have LT:eK (model P w) Y.heap (jC (.ref e)) (.ref Cc):=by
  rw[<-J];exact(kl he).andThen .now
 exact(PySem.W.exm_one X LT hx).here (codeAny_handlers_suite_as hk)
section
variable {X:Cx} {pins:yA} {W:St} {H:Hp} {s:af} {a Cc D':Addr} {oe:Obj} {fl:Value}
def aU3 {J:yM}{rest:List fy}{D:Ends}(t:Tr X pins W H s a Cc .none)(a0:X.ex=[])(a1:X.stack=X.env::X.outer)(Z:X.env.frame=aT X.env.locals)
  (hx:bU X.K (.ref Cc) (.ref D')=aT ca) (hg:Gl X x) (hm:X.mg x=aT (.ref D')) (hd:(x==("__debug__":Str))=dr) (hN:X.N.Nodup) (hi:X.N[i]?=aT n) (hl:X.env.scope.names.lookup n=aT .local)
  (hb:∀ oe,oe.cls=.ref Cc->PSs (X.hnd a oe) (b₀::J) th) (hq:th { nx:=λ _ _=>False,rt:=D.rt } (W.set i (aT (.ref a))) H) :
  wpAny (model X.prog X.w) X.A (kh (.ref a) X.env) (λ _ s₂=>wpAny (model X.prog X.w) X.A (ko (.ref a) bY) (λ _ s₃=>wpAny (model X.prog X.w) X.A (handleBy (.ref a) X.env (.ExceptHandler (aT (.Name x np)) (aT n) (b₀::J) pos::rest)) (SP X pins D) X.xe s₃) X.xe s₂) X.xe s:=by
 refine t.noted a0 a1 Z λ h2 fl t2=>t2.down a0 a1 Z λ h3 t3=>?_;refine bW8 (K:=X.K) hx ?_;refine t3.again (Q:=λ _ _=>True) (v:=.ref D') (λ oe=>ax9 (X:=X.hnd a oe) hg hm rfl hd) λ u s4 r t4=>?_;obtain⟨b1,b4,a5,b0,b5⟩:=t4.own;refine⟨r,t4.inv.kIn,⟨b1,a5,b0⟩,?_⟩;refine t4.down a0 a1 Z λ h5 t5=>?_;obtain⟨Y,b3,a2,b2,a3⟩:=t5.own;have J5:Inv X ((a,Y)::pins) W H { s4 with heap:=h5 }:=t5.inv.pins_of λ p hp=>by
  rcases aw.mp hp with z|z
  .subst z;exact⟨a2,t5.nH,t5.inv.apart a2 a3⟩
  .exact t5.inv.pin p (aO _ z)
 refine an1 J5 hN hi (.inl hl) (v:=.ref a) rfl (λ s6 J6=>?_) (.inr hl);have J7:Inv (X.hnd a Y) pins (W.set i (aT (.ref a))) H s6:=(J6.pins_of λ p hp=>J6.pin p (aO _ (ah _ hp))).hnd (J6.pin (a,Y) (aO _ (ao ..))).1 t5.nH a3;refine bp (hb Y b2 pins s6 _ H { nx:=λ _ _=>False,rt:=D.rt } J7 hq) (λ f s8 z=>?_) (λ _ _ z=>bn z);cases f with
 | next=>obtain⟨_,_,_,z⟩:=z;exact bn z
 | brk=>obtain⟨_,_,_,z⟩:=z;exact bn z
 | cont=>obtain⟨_,_,_,z⟩:=z;exact bn z
 | ret u8 =>
  obtain⟨v8,W8,H8,J8,r8,q8⟩:=z;have J8:=J8.unhnd t5.inv.ok;refine ai (wpAny_bindName (an1 J8 hN hi (.inl hl) (v:=.N) (u:=.none) rfl (λ s9 J9=>?_) (.inr hl)));have a4:i < W8.length:=by rw[J8.len];exact(ac.mp hi).1
  exact wpAny_onRaise (bd9 J9 hN hi hl (by rw[aW a4]) λ b6 a6=>⟨v8,_,H8,a6,r8,q8⟩)
end
section
open PySem.AutoSeq1 (wpAny_loadPart')
open PySem.MeetsSeq PySem.MeetsSeq2 PySem.MeetsSeq3 PySem.SeqAt
end
section
variable {A:aV} {s:af}
end
section
variable {prog:aD} {w:World} {A:aV} {E:yB} {s:af} {x y:Str} {t u:Tok}
end
section
variable {X:Cx} {a:Addr} {oe:Obj}
set_option tactic.hygienic true in
def bk5 {st:Stmt}{t0:Hp->VK->Prop}(F:Fun X.K nm nm st f fd)(S:FnScope N [p] (defScope st))(hb:Binds X.K fd [p] [])(hr:Room (k+1) X.A)(hg:Gl X nm)(hm:X.mg nm=aT (.ref f))
  (a3:(nm==("__debug__":Str))=dr) (ha:PE (X.hnd a oe) (.Name x px) (bv5 i))
  (a0:∀(Y:Value),fd.code=Y->∀(s:af) (H:Hp) (Q:VK),Room k (X.A.deeper (fJ nm (defScope st) s.heap.objs.size f Y))->t0 H Q ->
   ∃ t,PSs ((al9 CX0 X.prog X.w X.K X.mg X.base N nm (defScope st) f Y X.A X.stack s H (λ _ _ _=>False)).hnd a oe) (defBody st) t/\t { nx:=λ _ H'=>Q .N H',rt:=Q } (qB N [.ref a]) H) :
  PE (X.hnd a oe) (.Call (.Name nm pn) [.Name x px] [] pos) (λ W H Q=>W[i]?=aT (aT (.ref a))/\t0 H Q):=by
 obtain⟨oc,od,kV,a6,pm,an,Y,ct,b0,rfl,lk,a5⟩:=F.ex;intro a2 s W H Q I h;have pa:PA (X.hnd a oe) [.Name x px] (ak1 (bv5 i) aF4):=zo ha ab8;refine cw (aj1 (X:=X.hnd a oe) I hg hm ?_ a3);refine eP (h₀:=X.base) I.ok.mod.kin F.kp (thn (pa pos a2 s W H (λ vs Z=>vs=[.ref a]/\t0 Z Q) I ⟨.ref a,h.1,rfl,h.2⟩) λ us s1 ⟨vs,Z,I1,r,q0,q⟩=>⟨I1.kIn,?_⟩) rfl rfl;subst q0;obtain⟨u,rfl,ru⟩:=r.one;cases(show u=Value.ref a from ru);have e1:=I1.env0;have e0:Env0 X.prog X.w X.K X.mg X.base X.A X.stack s1 Z:=⟨e1.frames,e1.mod,e1.bs,e1.bsz,e1.funs,e1.frf,e1.hok,e1.bare⟩
 obtain⟨p1,p2,p3,p4,p5⟩:=I1.pin (a,oe) (ao ..);refine ic (fY (R:=CR CX0 X.stack X.prog X.w Z s1 Q (λ _ _ _=>False)) ?_ λ r s' hq=>?_)
 .have KX:X.K.In s1.heap:=I1.kIn;have a4:s1.heap.NoLimit:=I1.nolimit;have a1:∀ y∈[p].zip [Value.ref a],(defScope st).names.lookup y.1=aT .local\/((defScope st).names.lookup y.1=aT .cell/\((bD (s1.heap.objs.size+1) (defScope st).names []).lookup y.1).isSome=ca):=λ⟨n,v⟩ hy=>by
   rcases S.par n (fI hy).1 with q|q
   .exact .inl q
   .exact .inr ⟨q,eY _ _ _ (.inl q)⟩
  refine iC (show(X.A.mark (aT (.ref a))).depth<_ from hr.depth) (KX _ _ lk) rfl S.co S.gen rfl (jA KX a5) (hb s1 [.ref a] KX rfl _ _ _ _ ?_);refine gf S.kind a1 λ env he s2 x=>?_;subst he;refine⟨a4.keeps x.toInCall.keep,codeAny_func ?_⟩;obtain⟨t,ht,hq⟩:=a0 Y rfl s1 Z Q (hr.deeper _) q;have J:Inv (al9 CX0 X.prog X.w X.K X.mg X.base N nm (defScope st) f Y X.A X.stack s1 Z (λ _ _ _=>False)) [] (qB N [.ref a]) Z s2:=aC4 S hr.hd e0 rfl (.cons rfl .nil) x;have J2:Inv ((al9 CX0 X.prog X.w X.K X.mg X.base N nm (defScope st) f Y X.A X.stack s1 Z (λ _ _ _=>False)).hnd a oe) [] (qB N [.ref a]) Z s2 :=
   ⟨J.ok.hnd a oe,J.os,J.bare,J.base,J.loc,J.cell,J.free,J.freeC,λ y hy=>by
    rcases aw.mp hy with z|z
    .subst z;refine⟨x.toInCall.keep _ _ p1,p2,aJ (aL p1),λ z=>?_,p5⟩;rcases aw.mp (I1.stkSub a z)with q|q
     .exact p3 q
     .exact p4 q
    .exact J.pin y z,J.hok,J.len⟩
  refine bp (ht [] s2 (qB N [.ref a]) Z _ J2 hq) (λ fl s' hs=>?_) λ e s' hs=>hs.elim;have fin:∀ {W':St} {H':Hp} {v:V} {u:Value},Inv ((al9 CX0 X.prog X.w X.K X.mg X.base N nm (defScope st) f Y X.A X.stack s1 Z (λ _ _ _=>False)).hnd a oe) [] W' H' s'->RelV v u->Q v H'->CE X.stack X.prog X.w Z s1 Q u s' :=
   λ {W' H' v u} J rv q=>⟨v,H',J.os,J.bare,J.base,J.hok,rv,q⟩
  cases fl with
  | ret u =>
   obtain⟨v,W',H',J,rv,q⟩:=hs;exact fin J rv q
  | next =>
   obtain⟨W',H',J,q⟩:=hs;exact fin (v:=V.N) (u:=Value.none) J rfl q
  | brk =>
   obtain⟨_,_,_,q⟩:=hs;exact bn q
  | cont =>
   obtain⟨_,_,_,q⟩:=hs;exact bn q
 .cases r with
  | error e=>exact hq.elim
  | ok fl =>
   cases fl with
   | ret u=>exact I1.after hq
   | next=>exact bn hq
   | brk=>exact bn hq
   | cont=>exact bn hq
noncomputable def isT:Value->Bool
 | .bool b=>b
 | _=>dr
theorem aw2:∀ {bs:List Bool} {us:yH},Vals (bs.map V.T) us->us=bs.map Value.bool
 | [],_,.nil=>rfl
 | b::bs,_,.cons r t=>by
  have e:=aw2 t;subst e;cases(r);rfl
def bz6 {bs:List Bool}:∀ y,y∈(bs.map Value.bool).toArray->ip A s y (.bool ca) (isT y):=λ y hy=>by
 obtain⟨b,_,rfl⟩:=aS.mp (List.mem_toArray.mp hy);have:=iU (A:=A) (s:=s) b ca;have e:(b==ca)=isT (.bool b):=by cases b<;>rfl
 rwa [e]at this
def ba4:MtR X "list.count" (λ x vs H Q=>∃(l:Addr) (bs:List Bool),x=.ref l/\vs=[.T ca]/\H l=aT (.J (bs.map V.T))/\Q (.int (bs.countP id:Nat)) H):=by
 intro J s W H x vs v us Q I rx rv h;obtain⟨l,bs,rfl,rfl,Z,q⟩:=h;cases rx;obtain⟨u,rfl,ru⟩:=rv.one;cases(show u=Value.bool ca from ru);obtain⟨z,its,n,r,hl,e⟩:=I.lstM Z;have ei:=aw2 r;subst ei;refine jD iV ⟨_,e,rfl⟩ F.entry_list_count (F.args_list_count_2 _ _) (SeqAt.list_countAt l _ n bY #[] (.bool ca) isT) ⟨e,bz6,?_⟩;have ec:(bs.map Value.bool).toArray.toList.countP isT=bs.countP id:=by
  rw[List.toList_toArray,List.countP_map];rfl
 rw[ec];exact⟨.int (bs.countP id:Nat),H,I.tok _,⟨_,rfl⟩,q⟩
def bi3:MtR X "list.index" (λ x vs H Q=>∃(l:Addr) (bs:List Bool) (j:Nat),x=.ref l/\vs=[.T ca]/\H l=aT (.J (bs.map V.T))/\bs[j]?=aT ca/\(∀ i:Nat,i<j->bs[i]?=aT dr)/\Q (.int (j)) H):=by
 intro J s W H x vs v us Q I rx rv h;obtain⟨l,bs,j,rfl,rfl,Z,Y,h2,q⟩:=h;cases rx;obtain⟨u,rfl,ru⟩:=rv.one;cases(ru);obtain⟨z,its,n,r,hl,e⟩:=I.lstM Z;have ei:=aw2 r;subst ei;have hj:=(ac.mp Y).1;have hz:=by rw[aq]at z;exact z
 rw[dZ]at hz;refine jD iW ⟨_,e,rfl⟩ F.entry_list_index (F.args_list_index_2 _ _) (SeqAt.list_indexAt l _ n bY #[] (.bool ca) isT j (by simp;omega) (by lia) ?_ ?_) ⟨e,bz6,?_⟩
 .have:=(ac.mp Y).2;simp[isT,this]
 .intro m hm hlt;have a0:=by simpa using hm
  have:=(ac.mp (h2 m hlt)).2;simp[isT,this]
 .exact⟨.int (j),H,I.tok _,⟨_,rfl⟩,q⟩
end
def bR6 (h:(zG P w).is k u=ca):RelV (kV k) u:=by
 rcases zn h with⟨i,t,rfl,rfl⟩|⟨x,t,rfl,rfl⟩
 .exact⟨t,rfl⟩
 .exact⟨t,rfl⟩
def KV.get :∀ {l} {m} {i:Nat} {k:κ} {v},KV l m->l[i]?=aT (k,v)->∃ u,m[i]?=aT (k,u)/\RelV v u:=by
 intro l m i k v r
 induction r generalizing i with
 | nil=>intro e;simp at e
 | cons h t ih =>
  intro e;cases i with
  | zero=>cases(aM e);exact⟨_,congrArg aT (gX h.1.symm rfl),h.2⟩
  | succ i=>exact ih (by simpa using e)
section
variable {X:Cx} {pins:yA} {W:St} {H:Hp} {s:af}
def Inv.freezeK (I:Inv X pins W H s)(e:H a=aT (.dK kvs))(ho:s.heap.get? a=aT o):Inv X pins W (upd H a (.frz o (.dK kvs))) s :=
 I.un (Un.write (by rw[e];trivial) (.inl rfl) (λ _ _ _ q=>q) ⟨o,ho⟩) (I.hok.tw e (by nofun) (by nofun) ⟨ho,I.hok a _ e⟩)
def Inv.thawK (I:Inv X pins W H s)(e:H a=aT (.frz o (.dK kvs)))(h0:∀ o u,X.H₀ a≠aT (.frz o u)):Inv X pins W (upd H a (.dK kvs)) s:=by
 have J:∀ b,H b=bY->upd H a (.dK kvs) b=none:=λ b n=>by rw[zf λ z=>by subst z;rw[e]at n;cases n];exact n
 have B:=I.base;refine⟨I.ok,I.os,I.bare,⟨B.keep,B.slot,λ b o q n hx=>J b (B.free b o q n hx),B.there,λ b Z q=>?_,λ b ob u q=>?_,λ b ps q=>?_⟩,I.loc,I.cell,J _ I.free,λ x c q=>J _ (I.freeC x c q),λ p hp=>?_,I.hok.tw e (by nofun) (by nofun) ?_,I.len⟩
 .have r:=B.tups b Z q;rw[zf λ z=>by subst z;rw[e]at r;cases r];exact r
 .rw[zf λ z=>by subst z;exact h0 _ _ q];exact B.frzs b ob u q
 .obtain⟨m,r⟩:=B.tbls b ps q;exact⟨m,by rw[zf λ z=>by subst z;rw[e]at r;cases r];exact r⟩
 .obtain⟨p1,Y,p3⟩:=I.pin p hp;exact⟨p1,J _ Y,p3⟩
 .exact(I.hok a _ e).2
end
def Jk (a:Addr)(o:Obj)(kvs:List (Key×V)):It:=⟨λ i H=>H a=aT (.frz o (.dK kvs))/\i<kvs.length,
 λ i H x H'=>H'=H/\∃ k v,kvs[i]?=aT (k,v)/\x=kV k,λ i H=>H a=aT (.frz o (.dK kvs))/\kvs.length<=i⟩
def bz7 (ok:HOk P w H h)(z:H a=aT (.frz o (.dK kvs)))(ho:o.data=.dict J ep):∃ vs,KV kvs vs/\h.DictAt (zG P w) a vs ep:=by
 obtain⟨e,zz,y,vs,r,o',es,Z,Y,h2,h3,h4,h5,h6⟩:=(ok a _ z)
 rw[e]at Y;cases Y;rw[ho]at h3;cases h3;exact⟨vs,r,o,J,e,h2,ho,h4,h5,h6⟩
def ba3 {K} a it o kvs ep a0 (ho:o.data=.dict a0 ep) :
  Turn P w K tg (Jk a o kvs) [it] it (λ i h=>h.IsKeyIter it a i kvs.length ep) where
 mem:=by simp
 obj:=λ i h st b hb=>by
  have e:=by simpa using hb
  subst e;obtain⟨o,e,c,d⟩:=st;exact⟨o,e,λ v z=>by rw[d]at z;cases z⟩
 keep:=λ i h h' st k=>st.at λ o e=>k it (by simp) o e
 item:=by
  intro X hP hw hK hc i J s W H E I Z st hg;subst hP hw hK;obtain⟨fz,hlt⟩:=hg;obtain⟨vs,r,da⟩:=bz7 I.hok fz ho;have hl:=fu r;obtain⟨u,hu,_⟩:=KV.get r (ag hlt);obtain⟨f0,f1,f2,f3,f4,f5⟩:=Z it (by simp);refine wpAny_pyNext_dict_item (by rw[<-hl];exact st) da hu λ key h' hk Y sb=>?_;rw[<-hl]at Y;have I1:=I.turned (t':=s.toks) (λ b o hb e=>(sb.2 b hb).trans e) f0 f1 f3 f4 f5;obtain⟨o',e,c,d⟩:=id Y;exact⟨key,rfl,aS7 e c d (by decide) ⟨kV kvs[i].1,H,I1,bR6 hk,⟨rfl,_,_,ag hlt,rfl⟩,Y,λ b hb=>(Z b hb).1⟩⟩
 done:=by
  intro X hP hw hK hc i J s W H E I Z st hg;subst hP hw hK;obtain⟨fz,a1⟩:=hg;obtain⟨vs,r,da⟩:=bz7 I.hok fz ho;have hl:=fu r;obtain⟨f0,f1,f2,f3,f4,f5⟩:=Z it (by simp);exact wpAny_pyNext_dict_end (I.ok.hd hc) (by rw[<-hl];exact st) da (cj (by lia)) λ h' eb=>⟨rfl,I.turned (λ b o hb e=>eb b o hb e) f0 f1 f3 f4 f5⟩
 self:=λ _ _ _ _ _ st h=>wpAny_pyIter_keyiter st h
section
variable {X:Cx} {tg:Expr}
def cd9 (tl:TE):TI:=λ W H R=>tl W H λ x H1=>∃ a kvs,x=.ref a/\H1 a=aT (.dK kvs)/\∀ o,R (Jk a o kvs) (upd H1 a (.frz o (.dK kvs)))
def bg6 (hl:PE X l tl):PI X tg l (cd9 tl):=by
 intro J s W H R I h;refine thn (hl J s W H _ I h) λ v s1 ⟨x,H1,Z,r1,a,kvs,ex,ha,q⟩=>?_;subst ex;cases r1;obtain⟨zz,y,vs,r,o,es,z,Y,h2,h3,h4,h5,h6⟩:=(Z.hok a _ ha)
 have hl:=fu r;refine wpAny_pyIter_dict y ⟨o,es,Y,h2,h3,h4,h5,h6⟩ ?_;have I2:=(Z.freezeK ha Y).kept (t':=s1.toks) (h':=s1.heap.push { cls:=.type "dict_keyiterator",data:=.fields #[.ref a,.int 0 0,.int vs.length 0,.int z 0] }) λ b u r=>am _ r;refine⟨s1.heap.objs.size,[s1.heap.objs.size],_,_,_,rfl,I2,ba3 a s1.heap.objs.size o kvs z es h3,⟨_,aR _ rfl,rfl,by rw[hl];rfl⟩,λ b hb=>?_,q o⟩;have e:=by simpa using hb
 subst e;exact(Z.freezeK ha Y).fpOk (al _) ((Z.freezeK ha Y).hok.fresh (al _))
def aH5:ac4 X (.builtin "sorted") (λ xs H Q=>∃ p   ns ,xs=[.ref p]/\H p=aT (.J (ns.map V.int))/\ns.length<64/\∀ l  (J:List Int),H l=bY->J.Perm ns->J.Pairwise (·<=·)->Q (.ref l) (upd H l (.J (J.map V.int)))):=by
 intro Y s W H xs us Q I r h;obtain⟨p,ns,rfl,hd,a4,q⟩:=h;obtain⟨u,rfl,rx⟩:=qI r;cases rx;obtain⟨its,Z,pl,hz⟩:=I.list (SqL.of hd);have hI:=aT1 Z;have a0:its.length=ns.length:=by have:=Z.length;rw[aq]at this;exact this.symm
 refine sorted_ints pl.isList hI (by lia) λ out z a1 a2 a3=>?_;obtain⟨e,he⟩:=sortedAll_at s.heap its out;refine⟨.ref (s.heap.objs.size+1),_,I.laid (t':=s.toks) (λ b o hb=>sortedAll_old hb) (cg _) (show ac1 X.prog X.w _ _ _ (.J (z.map V.int))from⟨?_,out.toList,e,aq0 a1,by rw[Array.toArray_toList];exact he⟩),rfl,q _ z (I.hok.fresh (cg _)) a2 a3⟩;rw[aq,a2.length_eq,dZ];lia
end
end L2
end
noncomputable section
namespace L2
open PySem PyProof.Rows
noncomputable def kk (p:Keyed):Int:=numOf p.1
section
variable {prog:aD} {w:World} {A:aV} {E:yB} {s:af}
end
end L2
end
noncomputable section
namespace L2
open PySem PyProof.Rows
abbrev Srt (κ:Keyed->Int)(l:List Keyed):Prop:=l.Pairwise λ x y=>κ x<=κ y
def Mg (κ:Keyed->Int)(A B out:List Keyed)(i j:Nat):Prop :=
 out.Perm (A.take i++B.take j)/\Srt κ out/\(∀ x∈out,∀ y∈A.drop i,κ x<=κ y)/\∀ x∈out,∀ y∈B.drop j,κ x<=κ y
section
variable {κ:Keyed->Int} {A B out:List Keyed} {i j k:Nat}
def Mg.swap (h:Mg κ A B out i j):Mg κ B A out j i:=⟨h.1.trans iE,h.2.1,h.2.2.2,h.2.2.1⟩
def Mg.add (h:Mg κ A B out i j)(Z:Srt κ A) k (hk:∀ x∈(A.drop i).take k,∀ y∈B.drop j,κ x<=κ y):Mg κ A B (out++(A.drop i).take k) (i+k) j:=by
 obtain⟨p,s,z,Y⟩:=h;have e:A.drop i=(A.drop i).take k++A.drop (i+k):=by rw[<-List.drop_drop,fo]
 have J:Srt κ (A.drop i):=Z.sublist (jZ _ _);rw[e]at J;obtain⟨s1,_,s3⟩:=fC.mp J;refine⟨?_,fC.mpr ⟨s,s1,λ x hx y hy=>z x hx y (cK hy)⟩,λ x hx y hy=>?_,λ x hx y hy=>?_⟩
 .rw[List.take_add,aN];refine(p.append_right _).trans ?_;rw[aN];exact List.Perm.append_left _ iE
 .rcases aE.mp hx with hx|hx
  .exact z x hx y (by rw[e];exact aO _ hy)
  .exact s3 x hx y hy
 .rcases aE.mp hx with hx|hx
  .exact Y x hx y hy
  .exact hk x hx y hy
def Mg.fin (h:Mg κ A B out i j)(z:A.length<=i)(hj:B.length<=j):out.Perm (A++B)/\Srt κ out:=by
 obtain⟨p,s,_⟩:=h;rw[cA z,cA hj]at p;exact⟨p,s⟩
def aN8 (s:Srt κ A)(h:A[i]?=aT x):∀ y∈A.drop i,κ x<=κ y:=by
 have e:A.drop i=x::A.drop (i+1):=by
  obtain⟨J,e⟩:=ac.mp h;rw[ce J,e]
 have z:Srt κ (A.drop i):=s.sublist (jZ _ _);rw[e]at z ⊢;intro y hy;rcases aw.mp hy with rfl|hy
 .exact eS _
 .exact(bJ.mp z).1 y hy
def aQ8 (h:A[i]?=aT x):(A.drop i).take 1=[x]:=by
 obtain⟨z,e⟩:=ac.mp h;rw[ce z,e];rfl
def Mg.one (h:Mg κ A B out i j)(J:Srt κ A)(Y:Srt κ B)(hx:A[i]?=aT x)(hy:B[j]?=aT y)(hxy:κ x<=κ y):Mg κ A B (out++[x]) (i+1) j:=by
 have:=h.add J 1 λ z hz u hu=>by
  rw[aQ8 hx]at hz;cases az.mp hz;exact iq hxy (aN8 Y hy u hu)
 rwa [aQ8 hx]at this
def Mg.more (h:Mg κ A B out i j)(J:Srt κ A)(Y:Srt κ B)(hy:B[j]?=aT y)(hk:∀ x∈(A.drop i).take k,κ x<=κ y):Mg κ A B (out++(A.drop i).take k) (i+k) j :=
 h.add J k λ z hz u hu=>iq (hk z hz) (aN8 Y hy u hu)
end
section
variable {prog:aD} {w:World} {A:aV} {E:yB} {s:af}
def Sm (st st':kq):Prop:=arrOf st'=arrOf st/\lS st'=lS st/\eD st'=eD st/\failedOf st'=failedOf st
def Sm.refl st :Sm st st:=⟨rfl,rfl,rfl,rfl⟩
theorem Sm.trans (h:Sm a b)(g:Sm b c):Sm a c:=⟨g.1.trans h.1,g.2.1.trans h.2.1,g.2.2.1.trans h.2.2.1,g.2.2.2.trans h.2.2.2⟩
section
variable {a b:Array Keyed} (sa:Srt kk a.toList) (sb:Srt kk b.toList) (hl:∀ x∈b.toList,∀ i,i+1=a.size->∀ y∈a.toList.drop i,kk x<=kk y)
include sa sb
end
def tl {a:Array Keyed}{i:Nat}(h:a[i]?=aT p):a.toList[i]?=aT p:=by rw[iG];exact h
end
end L2
end
noncomputable section
namespace L2
open PySem PyProof.Rows
section
variable {a b:Array Keyed}
variable (sa:Srt kk a.toList) (sb:Srt kk b.toList) (hf:∀ x∈a.toList,∀ y,b[0]?=aT y->kk y<=kk x)
include sa sb
end
section
variable {prog:aD} {w:World} {A:aV} {E:yB} {s:af}
end
end L2
end
noncomputable section
namespace L2
open PySem PyProof.Rows
section
variable {prog:aD} {w:World} {A:aV} {E:yB} {s:af}
end
end L2
end
noncomputable section
namespace L2
open PySem PyProof.Rows
structure SB (P:Array (Nat×Nat×Nat))(a₀:Array Keyed)(lo:Nat)(st:kq):Prop where
 perm:(arrOf st).Perm a₀
 kind:eD st=oneType'
 failed:failedOf st=bY
 pend:lS st=P
 pre:∀ i,i<lo->(arrOf st)[i]?=a₀[i]?
section
variable {prog:aD} {w:World} {A:aV} {E:yB} {s:af} {P:Array (Nat×Nat×Nat)} {a₀:Array Keyed} {lo:Nat}
theorem SB.size {st}(h:SB P a₀ lo st):(arrOf st).size=a₀.size:=h.perm.size_eq
def SB.lt {st}(J:SB P a₀ lo st)(h0:IntKeys a₀)(Y:i<a₀.size)(hj:j<a₀.size)
  (h:Q (aT (decide (K (arrOf st) i<K (arrOf st) j))) st):wpS (model prog w) A E s (ltAt' i j) Q st:=by
 have at_:∀ i,i<a₀.size->∃ t q,(arrOf st)[i]?=aT (.int (K (arrOf st) i) t,q):=λ i Y=>by
  have z:i<(arrOf st).size:=by rw[J.size];exact Y
  obtain⟨n,t,hn⟩:=h0 _ ((Array.perm_iff_toList_perm.mp J.perm).mem_iff.mp (aP (tl (gp z))));refine⟨t,(arrOf st)[i].2,?_⟩;have e2:(arrOf st)[i]=(.int n t,(arrOf st)[i].2):=gX hn rfl;rw[gp z,K_eq z,e2];rfl
 obtain⟨t,p,e1⟩:=at_ i Y;obtain⟨u,q,e2⟩:=at_ j hj;exact wpS_ltAt J.kind e1 e2 h
end
end L2
end
noncomputable section
namespace L2
open PySem PyProof.Rows
section
variable {prog:aD} {w:World} {A:aV} {E:yB} {s:af} {P:Array (Nat×Nat×Nat)} {a₀:Array Keyed} {lo:Nat}
end
end L2
end
noncomputable section
namespace L2
open PySem PyProof.Rows
section
variable {prog:aD} {w:World} {A:aV} {E:yB} {s:af} {a₀:Array Keyed}
end
end L2
end
noncomputable section
namespace L2
open PySem PyProof.Rows
section
variable {prog:aD} {w:World} {A:aV} {E:yB} {s:af}
end
end L2
end
noncomputable section
namespace L2
open PySem PySem.Spec PyProof.Rows
section
variable {X:Cx} {o e f:Expr} {apos cpos:Pos} {td ty tx:TE}
end
end L2
end
noncomputable section
namespace DV
set_option genInjectivity true in
inductive D where
 | N|T (b:Bool)|int (i:Int)|str (x:List Nat)|tp (l:List D)|ref (n:Nat)|fn (f:String)|clo (f:String) (cs:List D)
noncomputable abbrev D.ctorIdx (x:D):Nat:=D.casesOn x 0 (λ _=>1) (λ _=>2) (λ _=>3) (λ _=>4) (λ _=>5) (λ _=>6) (λ _ _=>7)
noncomputable instance:DecidableEq D:=λ a b=>cM (a=b)
noncomputable instance (x:D):Decidable (x=.N):=match x with
 | .N=>.isTrue rfl
 | .T _=>.isFalse nofun
 | .int _=>.isFalse nofun
 | .str _=>.isFalse nofun
 | .tp _=>.isFalse nofun
 | .ref _=>.isFalse nofun
 | .fn _=>.isFalse nofun
 | .clo _ _=>.isFalse nofun
inductive O where
 | J (l:List D)|ro (l:List D)|dc (l:List (D×D))|ins (c:String) (fs:List (D×D))|dicF (l:List (D×D))
noncomputable abbrev O.ctorIdx (x:O):Nat:=O.casesOn x (λ _=>0) (λ _=>1) (λ _=>2) (λ _ _=>3) (λ _=>4)
noncomputable instance:DecidableEq O:=λ a b=>cM (a=b)
abbrev Sto:=List O
noncomputable def O.kd:O->Nat
 | .J _=>0|.ro _=>1|.dc _=>2|.ins _ _=>3|.dicF _=>2
set_option genInjectivity true in
inductive R (α:Type) where
 | ok (a:α) (s:Sto)|exc (e:D) (s:Sto)|B
noncomputable abbrev R.ctorIdx {α:Type} (x:R α):Nat:=R.casesOn x (λ _ _=>0) (λ _ _=>1) 2
noncomputable abbrev M α :=Sto->R α
noncomputable def R.bind (r:R α)(f:α->Sto->R β):R β:=match r with
 | .ok a s=>f a s
 | .exc e s=>.exc e s
 | .B=>.B
@[simp] theorem R.bind_ok a s (f:α->Sto->R β):(R.ok a s).bind f=f a s:=rfl
@[simp] theorem R.bind_bad (f:α->Sto->R β):(R.B).bind f=.B:=rfl
@[simp] theorem R.bind_exc e s (f:α->Sto->R β):(R.exc e s).bind f=.exc e s:=rfl
def R.bind_inv {r:R α}{b:β}(h:r.bind f=.ok b t):∃ a s,r=.ok a s/\f a s=.ok b t:=by
 cases r with
 | ok a s=>exact⟨a,s,rfl,h⟩
 | exc e s=>cases h
 | B=>cases h
@[simp] theorem R.bind_assoc (r:R α) f (g:β->Sto->R γ):(r.bind f).bind g=r.bind λ a s=>(f a s).bind g:=by cases r<;>rfl
mutual
noncomputable def D.bnd (n:Nat):D->Bool
 | .tp l=>D.bndL n l
 | .ref k=>decide (k<n)
 | .clo _ l=>D.bndL n l
 | _=>ca
noncomputable def D.bndL (n:Nat):List D->Bool
 | []=>ca
 | d::l=>D.bnd n d&&D.bndL n l
end
def O.bnd (n:Nat):O->Bool
 | .J l=>D.bndL n l
 | .ro l=>D.bndL n l
 | .dc l=>D.bndL n (l.map (·.1))&&D.bndL n (l.map (·.2))
 | .ins _ l=>D.bndL n (l.map (·.1))&&D.bndL n (l.map (·.2))
 | .dicF l=>D.bndL n (l.map (·.1))&&D.bndL n (l.map (·.2))
mutual
noncomputable def D.plain:D->Bool
 | .N=>ca|.int _=>ca|.str _=>ca
 | .tp l=>D.plainL l
 | _=>dr
noncomputable def D.plainL:List D->Bool
 | []=>ca
 | d::l=>D.plain d&&D.plainL l
end
mutual
noncomputable def D.ncl:D->Bool
 | .tp l=>D.nclL l
 | .clo _ _=>dr
 | _=>ca
noncomputable def D.nclL:List D->Bool
 | []=>ca
 | d::l=>D.ncl d&&D.nclL l
end
def O.ncl:O->Bool
 | .J l=>D.nclL l
 | .ro l=>D.nclL l
 | .dc l=>D.nclL (l.map (·.2))
 | .dicF l=>D.nclL (l.map (·.2))
 | .ins _ l=>D.nclL (l.map (·.2))
noncomputable def D.key:D->Bool
 | .int _=>ca|.str _=>ca|_=>dr
noncomputable def D.hdI:List D->Bool
 | .int _::_=>ca|.N::_=>ca|.tp _::_=>ca|_=>dr
noncomputable def D.keyF:D->Bool
 | .int _=>ca|.N=>ca|.str x=>decide (x.length<=1000)|_=>dr
noncomputable def LIM:Nat:=1000000
@[irreducible] noncomputable def BIG:Nat:=2^60000
@[irreducible] noncomputable def DIVL:Nat:=2^4096
set_option genCtorIdx true in
inductive BOp where
 | add|sub|mul|fdiv|mod|pow|shl|shr|band|bor
 deriving DecidableEq
set_option genCtorIdx true in
inductive COp where
 | eq|ne|lt|le|gt|ge|isin|notin
 deriving DecidableEq
set_option genCtorIdx true in
inductive Cn where
 | N|T (b:Bool)|int (i:Int)|str (x:List Nat)
 deriving DecidableEq
noncomputable def Cn.d:Cn->D
 | .N=>.N|.T b=>.T b|.int i=>.int i|.str x=>.str x
set_option genCtorIdx true in
inductive Bi where
 | len|abs|int|str|min2|max2|max3|min3|isInt|isBool|isStr|isTup|isList|ord
 deriving DecidableEq
set_option genCtorIdx true in
inductive Mk where
 | tuple|list|all|any|sum|min|max|sorted|lenset
 deriving DecidableEq
set_option genCtorIdx true in
inductive Mt where
 | append|partition
 deriving DecidableEq
set_option genCtorIdx true in
inductive Tg where
 | Y (i:Nat)|tp (is:List Nat)
 deriving DecidableEq
mutual
inductive E where
 | X (i:Nat)|K (c:Cn)|gl (x:String)
 | G (op:BOp) (a b:E)|neg (a:E)|not (a:E)
 | Z (op:COp) (a b:E)|chain (o p:COp) (a b c:E)
 | isN (a:E)|notN (a:E)
 | and (a b:E)|or (a b:E)|ite (c a b:E)
 | tp (es:Es)|J (es:Es)|dc (ks vs:Es)|bitl (a:E)
 | ix (a b:E)|slL (a lo:E)|slU (a hi:E)|slLU (a lo hi:E)
 | call (f:String) (as:As)
 | bi (b:Bi) (es:Es)|mk (k:Mk) (l:L)|mkD (k:Mk) (l:L) (d:E)
 | me (m:Mt) (o:E) (es:Es)|ext (o:E) (l:L)|extS (o e:E)
 | attr (o:E) (f:List Nat)|new (c:String) (as:As)|mcall (o:E) (m:String) (as:As)|srt (e:E)
inductive Es where
 | nil|cons (e:E) (es:Es)
inductive As where
 | nil|ex (e:E) (as:As)|fn (f:String) (as:As)
inductive I where
 | seq (e:E)|rg (a:E)|rngD (a:E)|enum (it:I)|keys (e:E)
inductive L where
 | comp (tg:Tg) (it:I) (e:E) (caps:yE)|compIf (tg:Tg) (it:I) (c e:E) (caps:yE)|disp (es:Es)|seq (e:E)|compK (tg:Tg) (e b:E) (caps:yE)
end
noncomputable abbrev I.ctorIdx (x:I):Nat:=I.casesOn x (λ _=>0) (λ _=>1) (λ _=>2) (λ _=>3) (λ _=>4)
mutual
inductive S where
 | A (tg:Tg) (e:E)|setIx (o i e:E)|ex (e:E)|ret (e:E)
 | ite (c:E) (a b:Ss)|whl (c:E) (b:Ss)|fo (tg:Tg) (it:I) (b:Ss)|raise|setA (o:E) (f:List Nat) (e:E)
inductive Ss where
 | nil|cons (s:S) (ss:Ss)
end
abbrev Env:=List (Option D)
noncomputable def af3 (o:O):M D:=λ s=>.ok (.ref s.length) (s++[o])
noncomputable def pur (d:D):M D:=λ s=>.ok d s
noncomputable def bad :M α:=λ _=>.B
def mulOk (a b:Int):Bool:=decide (a.natAbs<2^64)||decide (b.natAbs<2^64)||(decide (a.natAbs<BIG)&&decide (b.natAbs<BIG))
noncomputable def rep:Nat->List Nat->List Nat
 | 0,_=>[]
 | n+1,a=>a++rep n a
def qi:BOp->D->D->M D
 | .add,.int a,.int b=>pur (.int (a+b))
 | .add,.str a,.str b=>if a.length+b.length<=LIM then pur (.str (a++b))else bad
 | .add,.ref a,.ref b=>λ s=>match s[a]?,s[b]? with
  | some (.J l),aT (.J m)=>if l.length+m.length<=LIM then af3 (.J (l++m)) s else .B
  | _,_=>.B
 | .sub,.int a,.int b=>pur (.int (a - b))
 | .mul,.int a,.int b=>if mulOk a b then pur (.int (a*b))else bad
 | .fdiv,.int a,.int b=>if 0<b/\b<(DIVL)then pur (.int (a / b))else bad
 | .mod,.int a,.int b=>if 0<b then pur (.int (a % b))else bad
 | .pow,.int a,.int b=>if 0<=b/\b<=1000000/\a.natAbs<2^64 then pur (.int (a^b.toNat))else bad
 | .shl,.int a,.int b=>if 0<=b/\b<=1000000/\a.natAbs<2^128 then pur (.int (a*2^b.toNat))else bad
 | .shr,.int a,.int b=>if 0<=b then pur (.int (a / 2^b.toNat))else bad
 | .band,.int a,.int b=>if 0<=a/\b=1 then pur (.int (a % 2))else bad
 | .bor,.int a,.int b=>if 0<=a/\0<=b then pur (.int ((a.toNat ||| b.toNat)))else bad
 | _,_,_=>bad
noncomputable def kd (s:Sto):D->Nat
 | .N=>0|.T _=>1|.int _=>1|.str _=>2|_=>9
noncomputable def bg9 (a b:Nat):Bool:=a==9||b==9||a==b
noncomputable def b2i (b:Bool):Int:=if b then 1 else 0
def aZ3:D->D->Option Bool
 | .N,.N=>aT ca
 | .T a,.T b=>aT (a==b)
 | .int a,.int b=>aT (a==b)
 | .T a,.int b=>aT (b2i a==b)
 | .int a,.T b=>aT (a==b2i b)
 | .str a,.str b=>aT (a==b)
 | _,_=>bY
def aB1 (s:Sto)(a b:D):Option Bool:=match aZ3 a b with
 | some z=>aT z
 | none=>if bg9 (kd s a) (kd s b)then bY else aT dr
def eqv (s:Sto)(_:Nat)(a b:D):Option Bool:=aB1 s a b
noncomputable def DEEP:Nat:=30
def eqM (a b:D):M D:=λ s=>match eqv s DEEP a b with
 | some r=>.ok (.T r) s
 | none=>.B
def inL (s:Sto)(x:D):List D->Option Bool
 | []=>aT dr
 | y::l=>match eqv s DEEP y x,inL s x l with
  | some a,aT b=>aT (a||b)
  | _,_=>bY
noncomputable def look (k:D):List (D×D)->Option D
 | []=>bY
 | (a,v)::l=>if a=k then aT v else look k l
def inM (a b:D):M Bool:=λ s=>match b with
 | .tp l=>match inL s a l with|some r=>.ok r s|none=>.B
 | .str y=>match a with|.str [c]=>.ok (decide (c∈y)) s|_=>.B
 | _=>.B
noncomputable def br4:D->Option (Int×List Nat)
 | .tp [.int i,.str x]=>aT (i,x)
 | _=>bY
def cn4 (f:Int->List Nat->Int->List Nat->Bool)(a b:D):M D:=λ s=>match br4 a,br4 b with
 | some (i,x),aT (j,y)=>.ok (.T (f i x j y)) s
 | _,_=>.B
def zh:COp->D->D->M D
 | .eq,a,b=>eqM a b
 | .ne,a,b=>λ s=>match eqv s DEEP a b with|some r=>.ok (.T (!r)) s|none=>.B
 | .lt,.int a,.int b=>pur (.T (decide (a<b)))
 | .le,.int a,.int b=>pur (.T (decide (a<=b)))
 | .gt,.int a,.int b=>pur (.T (decide (b<a)))
 | .isin,a,b=>λ s=>(inM a b s).bind λ r s=>.ok (.T r) s
 | .notin,a,b=>λ s=>(inM a b s).bind λ r s=>.ok (.T (!r)) s
 | _,_,_=>bad
noncomputable def ixn (n:Nat)(i:Int):Option Nat:=if 0<=i then(if i<n then aT i.toNat else bY)else if -(n)<=i then aT (i+n).toNat else bY
noncomputable def sbd (n:Nat)(i:Int):Nat:=if 0<=i then min i.toNat n else(i+n).toNat
def loB (n:Nat):Option Int->Nat
 | none=>0
 | some i=>sbd n i
def hiB (n:Nat):Option Int->Nat
 | none=>n
 | some i=>sbd n i
def ag1 {α:Type}(l:List α)(lo hi:Option Int):List α:=(l.drop (loB l.length lo)).take (hiB l.length hi - loB l.length lo)
def ixM (a b:D):M D:=λ s=>match a,b with
 | .tp l,.int i=>match(ixn l.length i).bind λ j=>l[j]? with|some d=>.ok d s|none=>.B
 | .str l,.int i=>match(ixn l.length i).bind λ j=>l[j]? with|some c=>.ok (.str [c]) s|none=>.B
 | .ref r,b=>match s[r]? with
  | some (.J l)=>match b with
   | .int i=>match(ixn l.length i).bind λ j=>l[j]? with|some d=>.ok d s|none=>.B
   | _=>.B
  | some (.ro l)=>match b with
   | .int i=>match(ixn l.length i).bind λ j=>l[j]? with|some d=>.ok d s|none=>.B
   | _=>.B
  | _=>.B
 | _,_=>.B
def slM (a:D)(lo hi:Option Int):M D:=λ s=>match a with
 | .tp l=>.ok (.tp (ag1 l lo hi)) s
 | .str l=>.ok (.str (ag1 l lo hi)) s
 | .ref r=>match s[r]? with
  | some (.J l)=>af3 (.J (ag1 l lo hi)) s
  | _=>.B
 | _=>.B
noncomputable def ag0:List D->Option (List Bool)
 | []=>aT []
 | .T b::l=>(ag0 l).map (b::·)
 | _=>bY
noncomputable def zP:List D->Option (List Int)
 | []=>aT []
 | .int i::l=>(zP l).map (i::·)
 | _=>bY
noncomputable def au6:List D->Option (List (List Nat))
 | []=>aT []
 | .str i::l=>(au6 l).map (i::·)
 | _=>bY
noncomputable def bJ7 (d:D):M D:=λ s=>match d with
 | .tp l=>.ok (.int l.length) s
 | .str l=>.ok (.int l.length) s
 | .ref r=>match s[r]? with
  | some (.J l)=>.ok (.int l.length) s
  | some (.ro l)=>.ok (.int l.length) s
  | _=>.B
 | _=>.B
noncomputable def isK (k:Nat)(d:D):M D:=λ s=>match d with
 | .N=>.ok (.T dr) s
 | .T _=>.ok (.T (k==1||k==2)) s
 | .int _=>.ok (.T (k==1)) s
 | .str _=>.ok (.T (k==3)) s
 | .tp _=>.ok (.T (k==4)) s
 | .ref r=>match s[r]? with
  | some (.J _)=>.ok (.T (k==5)) s
  | _=>.B
 | _=>.B
def bi1 (f:D->M D):List D->M D
 | [d]=>f d
 | _=>bad
def bD6:List D->M D
 | [.str [c]]=>λ s=>if 48<=c/\c<=57 then .ok (.int ((c - 48:Nat))) s else .B
 | _=>bad
def bN6:List D->M D
 | [.int i]=>λ s=>if 0<=i/\i<=9 then .ok (.str [48+i.toNat]) s else .B
 | [.str w]=>λ s=>.ok (.str w) s
 | _=>bad
def bi:Bi->List D->M D
 | .len,l=>bi1 bJ7 l
 | .abs,l=>λ s=>match zP l with|some [i]=>.ok (.int (if i<0 then -i else i)) s|_=>.B
 | .int,l=>λ s=>match ag0 l with|some [b]=>.ok (.int (if b then 1 else 0)) s|some _=>.B|none=>bD6 l s
 | .str,l=>bN6 l
 | .min2,l=>λ s=>match zP l with|some [a,b]=>.ok (.int (if b<a then b else a)) s|_=>.B
 | .max2,l=>λ s=>match zP l with|some [a,b]=>.ok (.int (if b > a then b else a)) s|_=>.B
 | .max3,l=>λ s=>match zP l with|some [a,b,c]=>.ok (.int (max (max a b) c)) s|_=>.B
 | .isInt,l=>bi1 (isK 1) l
 | .isBool,l=>bi1 (isK 2) l
 | .isStr,l=>bi1 (isK 3) l
 | .isTup,l=>bi1 (isK 4) l
 | .isList,l=>bi1 (isK 5) l
 | _,_=>bad
noncomputable def minI:List Int->Option Int
 | []=>bY
 | a::l=>aT (l.foldl min a)
noncomputable def cq0:List Int->Option Int
 | []=>bY
 | a::l=>aT (l.foldl max a)
noncomputable def ins (a:Int):List Int->List Int
 | []=>[a]
 | b::l=>if a<=b then a::b::l else b::ins a l
def as4:List Int->List Int
 | []=>[]
 | a::l=>ins a (as4 l)
noncomputable def cc9 (is:List Int):Bool:=is.all (λ i=>decide (-1000000000<=i/\i<=1000000000))&&decide (is.length<=1000000)
def mk:Mk->List D->M D
 | .tuple,l=>λ s=>.ok (.tp l) s
 | .list,l=>af3 (.J l)
 | .all,l=>λ s=>match ag0 l with|some bs=>.ok (.T (bs.all id)) s|none=>.B
 | .any,l=>λ s=>match ag0 l with|some bs=>.ok (.T (bs.any id)) s|none=>.B
 | .sum,l=>λ s=>match zP l with|some is=>if cc9 is then .ok (.int is.sum) s else .B|none=>.B
 | .min,l=>λ s=>match(zP l).bind minI with|some m=>.ok (.int m) s|none=>.B
 | .max,l=>λ s=>match(zP l).bind cq0 with|some m=>.ok (.int m) s|none=>.B
 | .sorted,l=>λ s=>match zP l with|some is=>af3 (.J ((as4 is).map D.int)) s|none=>.B
 | .lenset,l=>bad
def mkD (k:Mk)(l:List D)(d:D):M D:=λ s=>match k with
 | .min=>match zP l with|some is=>(match minI is with|some m=>.ok (.int m) s|none=>.ok d s)|none=>.B
 | .max=>match zP l with|some is=>(match cq0 is with|some m=>.ok (.int m) s|none=>.ok d s)|none=>.B
 | _=>.B
def aG4 (k v:D)(l:List (D×D)):List (D×D):=if(look k l).isSome then l.map (λ p=>if p.1=k then(p.1,v)else p)else l++[(k,v)]
def setIx (o i v:D):Sto->R Unit:=λ s=>match o with
 | .ref r=>match s[r]? with
  | some (.J l)=>match i with
   | .int i=>match ixn l.length i with|some j=>.ok () (s.set r (.J (l.set j v)))|none=>.B
   | _=>.B
  | some (.dc l)=>if i.key&&decide (l.length<LIM)then .ok () (s.set r (.dc (aG4 i v l)))else .B
  | _=>.B
 | _=>.B
def meth:Mt->D->List D->M D
 | .append,.ref r,[d]=>λ s=>match s[r]? with
  | some (.J l)=>if l.length<LIM then .ok .N (s.set r (.J (l++[d])))else .B
  | _=>.B
 | _,_,_=>bad
def bL3 (o:D)(l:List D):M D:=λ s=>match o with
 | .ref r=>match s[r]? with
  | some (.J m)=>if m.length+l.length<=LIM then .ok .N (s.set r (.J (m++l)))else .B
  | _=>.B
 | _=>.B
def extS (o d:D):M D:=λ s=>match d with
 | .ref k=>match s[k]? with
  | some (.J l)=>bL3 o l s
  | _=>.B
 | _=>.B
structure Fns where
 call:String->List D->M D
 lam:String->List D->List D->M D
 con:String->Option D
 xcall:String->List D->Sto->Option (String×Sto)
 xc:String->Bool
 xt:String->Bool
 cdc:String->Option (List (List Nat×List Nat))
 kd:String->Bool
 mcall:String->String->List D->M D
 new:String->List D->M D
 att:String->List Nat->Bool
noncomputable def by6 (U:Env)(i:Nat):M D:=λ s=>match U[i]? with|some (aT d)=>.ok d s|_=>.B
noncomputable def zM (U:Env)(caps:yE):Env:=caps.map λ o=>match o with|none=>bY|some j=>(U[j]?).join
noncomputable def aN7 (U:Env)(i:Nat)(d:D):Option Env:=if i < U.length then aT (U.set i (aT d))else bY
noncomputable def aP6 (U:Env)(i:Nat):Option Env:=if i < U.length then aT (U.set i bY)else bY
def ap0 (U:Env):List Nat->List D->Option Env
 | [],[]=>aT U
 | i::is,d::l=>(aN7 U i d).bind λ U=>ap0 U is l
 | _,_=>bY
def ac9 (U:Env):Tg->D->Option Env
 | .Y i,d=>aN7 U i d
 | .tp is,.tp l=>ap0 U is l
 | _,_=>bY
structure Sq where
 its:List D
 src:List Nat
noncomputable def am0 (d:D):M Sq:=λ s=>match d with
 | .tp l=>.ok ⟨l,[]⟩ s
 | .str l=>.ok ⟨l.map λ c=>.str [c],[]⟩ s
 | .ref r=>match s[r]? with
  | some (.J l)=>.ok ⟨l,[r]⟩ s
  | some (.ro l)=>.ok ⟨l,[]⟩ s
  | _=>.B
 | _=>.B
noncomputable def bn8 (d:D):M Sq:=λ s=>match d with
 | .ref r=>match s[r]? with
  | some (.J l)=>.ok ⟨l,[r]⟩ s
  | some (.ro l)=>.ok ⟨l,[]⟩ s
  | _=>.B
 | _=>.B
noncomputable def aH3 (d:D):M Sq:=λ s=>match d with
 | .ref r=>match s[r]? with
  | some (.J l)=>.ok ⟨l,[r]⟩ s
  | some (.ro l)=>.ok ⟨l,[]⟩ s
  | _=>.B
 | _=>.B
noncomputable def aB4 (d:D):M Sq:=λ s=>match d with
 | .ref r=>match s[r]? with
  | some (.dc l)=>if l.all (λ p=>p.1.keyF)then .ok ⟨l.map (·.1),[r]⟩ (s.set r (.dicF l))else .B
  | _=>.B
 | _=>.B
noncomputable def az6 (s:Sto)(src:List Nat):Bool:=src.all λ r=>match s[r]? with|some (.dicF _)=>dr|_=>ca
noncomputable def aA4 (src:List Nat)(a:α):Sto->R α:=λ s=>match src with
 | [r]=>match s[r]? with
  | some (.dicF l)=>.ok a (s.set r (.dc l))
  | _=>.B
 | _=>.B
def bu2 (l:List D):M D:=λ s=>match zP l with
 | some is=>if is.length<64 then af3 (.J ((as4 is).map D.int)) s else .B
 | none=>.B
def cq9 (l m:List (D×D)):List (D×D):=m.foldl (λ a p=>aG4 p.1 p.2 a) l
def aq6 (f:List Nat)(x:D):M D:=λ s=>match x with
 | .ref r=>match s[r]? with
  | some (.ins _ fs)=>match look (.str f) fs with|some d=>.ok d s|none=>.B
  | _=>.B
 | _=>.B
noncomputable def ao0 (k v:D):List (D×D)->List (D×D)
 | []=>[(k,v)]
 | (a,x)::r=>if a=k then(a,v)::r else(a,x)::ao0 k v r
def ax0 (ok:String->Bool)(f:List Nat)(x v:D):Sto->R Unit:=λ s=>match x with
 | .ref r=>match s[r]? with
  | some (.ins c fs)=>if ok c&&decide (fs.length<1000)then .ok () (s.set r (.ins c (ao0 (.str f) v fs)))else .B
  | _=>.B
 | _=>.B
noncomputable def bO7 (x:D):Sto->R String:=λ s=>match x with
 | .ref r=>match s[r]? with
  | some (.ins c _)=>.ok c s
  | _=>.B
 | _=>.B
noncomputable def ca2 (d:D):Sto->R (List D):=λ s=>match d with
 | .tp l=>.ok l s
 | .str l=>.ok (l.map λ c=>.str [c]) s
 | .ref r=>match s[r]? with
  | some (.J l)=>.ok l s
  | some (.ro l)=>.ok l s
  | _=>.B
 | _=>.B
noncomputable def bj5 (d:D):Sto->R (List D):=λ s=>match d with
 | .ref r=>match s[r]? with
  | some (.J l)=>.ok l s
  | _=>.B
 | _=>.B
noncomputable def Ww62:Int:=4611686018427387904
noncomputable def af8 (a b:Int):List D:=(aH (b - a).toNat).map λ(k:Nat)=>.int (a+k)
noncomputable def bitsN (i:Int):Nat:=if i=0 then 0 else i.natAbs.log2+1
def bh1 (x:D):M D:=λ s=>match x with|.int i=>.ok (.int (bitsN i)) s|_=>.B
noncomputable def ag6 (a:Int):List D:=(aH (a+1).toNat).map λ(k:Nat)=>.int (a+(k)*(-1))
noncomputable def ae2 (n:Nat):List D->List D
 | []=>[]
 | d::l=>.tp [.int n,d]::ae2 (n+1) l
noncomputable def chk (s0 s:Sto)(src:List Nat):Bool:=src.all λ r=>decide (s[r]?=s0[r]?)
noncomputable def tru (r:R D)(f:Bool->Sto->R α):R α:=r.bind λ d s=>match d with|.T b=>f b s|_=>.B
@[simp] theorem tru_bl b s (f:Bool->Sto->R α):tru (.ok (.T b) s) f=f b s:=rfl
noncomputable def zX (ok:Sto->Bool)(g:D->Env->Sto->R (Option D×Env)):List D->Env->Sto->R (List D)
 | [],_,s=>if ok s then .ok [] s else .B
 | d::l,U,s=>if ok s then(g d U s).bind λ p s=>(zX ok g l p.2 s).bind λ r s=>.ok (match p.1 with|some v=>v::r|none=>r) s else .B
def kAt (x:D)(s:Sto):Option Nat:=match x with
 | .ref r=>s[r]?.map O.kd
 | _=>bY
def mkq (x:D)(s t:Sto)(r:R D):R D:=if kAt x s=kAt x t then r else .B
mutual
noncomputable def ev (F:Fns):E->Env->Sto->R D
 | .X i,U,s=>by6 U i s
 | .K c,_,s=>.ok c.d s
 | .gl x,_,s=>match F.con x with|some d=>.ok d s|none=>.B
 | .G op a b,U,s=>(ev F a U s).bind λ x s=>(ev F b U s).bind λ y s=>qi op x y s
 | .neg a,U,s=>(ev F a U s).bind λ x s=>match x with|.int i=>.ok (.int (-i)) s|_=>.B
 | .not a,U,s=>tru (ev F a U s) λ b s=>.ok (.T (!b)) s
 | .Z op a b,U,s=>(ev F a U s).bind λ x s=>(ev F b U s).bind λ y s=>zh op x y s
 | .chain o p a b c,U,s=>(ev F a U s).bind λ x s=>(ev F b U s).bind λ y s=>tru (zh o x y s) λ k s=>if k then(ev F c U s).bind λ z s=>zh p y z s else .ok (.T dr) s
 | .isN a,U,s=>(ev F a U s).bind λ x s=>.ok (.T (decide (x=.N))) s
 | .notN a,U,s=>(ev F a U s).bind λ x s=>.ok (.T (!decide (x=.N))) s
 | .and a b,U,s=>tru (ev F a U s) λ c s=>if c then tru (ev F b U s) λ c s=>.ok (.T c) s else .ok (.T dr) s
 | .or a b,U,s=>tru (ev F a U s) λ c s=>if c then .ok (.T ca) s else tru (ev F b U s) λ c s=>.ok (.T c) s
 | .ite c a b,U,s=>tru (ev F c U s) λ k s=>if k then ev F a U s else ev F b U s
 | .tp es,U,s=>(evs F es U s).bind λ l s=>.ok (.tp l) s
 | .J es,U,s=>(evs F es U s).bind λ l s=>af3 (.J l) s
 | .dc .nil .nil,U,s=>af3 (.dc []) s
 | .dc (.cons k .nil) (.cons v .nil),U,s=>(ev F k U (s++[.dc []])).bind λ kd s1=>(ev F v U s1).bind λ vd s2=>if kd.key=ca/\s2[s.length]?=aT (.dc [])then .ok (.ref s.length) (s2.set s.length (.dc [(kd,vd)]))else .B
 | .dc _ _,U,s=>.B
 | .bitl a,U,s=>(ev F a U s).bind λ x s=>bh1 x s
 | .ix a b,U,s=>(ev F a U s).bind λ x s=>(ev F b U s).bind λ y s=>ixM x y s
 | .slL a lo,U,s=>(ev F a U s).bind λ x s=>(ev F lo U s).bind λ y s=>match y with|.int i=>slM x (aT i) bY s|_=>.B
 | .slU a hi,U,s=>(ev F a U s).bind λ x s=>(ev F hi U s).bind λ y s=>match y with|.int i=>slM x bY (aT i) s|_=>.B
 | .slLU a lo hi,U,s=>(ev F a U s).bind λ x s=>(ev F lo U s).bind λ y s=>match y with|.int i=>(ev F hi U s).bind (λ z s=>match z with|.int j=>slM x (aT i) (aT j) s|_=>.B)|_=>.B
 | .call f as,U,s=>(ag3 F as U s).bind λ l s=>F.call f l s
 | .bi b es,U,s=>(evs F es U s).bind λ l s=>bi b l s
 | .mk k it,U,s=>(evL F it U s).bind λ q s=>mk k q s
 | .mkD k it d,U,s=>(evL F it U s).bind λ q s=>(ev F d U s).bind λ d s=>mkD k q d s
 | .me m o es,U,s=>(ev F o U s).bind λ x s=>(evs F es U s).bind λ l t=>mkq x s t (meth m x l t)
 | .ext o it,U,s=>(ev F o U s).bind λ x s=>(evL F it U s).bind λ q t=>mkq x s t (bL3 x q t)
 | .extS o e,U,s=>(ev F o U s).bind λ x s=>(ev F e U s).bind λ y t=>mkq x s t (extS x y t)
 | .attr o f,U,s=>(ev F o U s).bind λ x s=>aq6 f x s
 | .srt e,U,s=>(ev F e U s).bind λ x s=>(bj5 x s).bind λ q s=>bu2 q s
 | .new c as,U,s=>(ag3 F as U s).bind λ l s=>(F.new c (.ref s.length::l) (s++[.ins c []])).bind λ d s'=>if d=.N then .ok (.ref s.length) s' else .B
 | .mcall o m as,U,s=>(ev F o U s).bind λ x s=>(bO7 x s).bind λ c s=>(ag3 F as U s).bind λ l s=>F.mcall c m (x::l) s
noncomputable def evs (F:Fns):Es->Env->Sto->R (List D)
 | .nil,_,s=>.ok [] s
 | .cons e es,U,s=>(ev F e U s).bind λ d s=>(evs F es U s).bind λ l s=>.ok (d::l) s
noncomputable def ag3 (F:Fns):As->Env->Sto->R (List D)
 | .nil,_,s=>.ok [] s
 | .ex e as,U,s=>(ev F e U s).bind λ d s=>(ag3 F as U s).bind λ l s=>.ok (d::l) s
 | .fn f as,U,s=>(ag3 F as U s).bind λ l s=>.ok (.fn f::l) s
noncomputable def evI (F:Fns):I->Env->Sto->R Sq
 | .seq e,U,s=>(ev F e U s).bind λ d s=>am0 d s
 | .rg a,U,s=>(ev F a U s).bind λ x s=>match x with|.int i=>if -Ww62<=i/\i<Ww62 then .ok ⟨af8 0 i,[]⟩ s else .B|_=>.B
 | .rngD a,U,s=>(ev F a U s).bind λ x s=>match x with|.int i=>if -1<=i/\i<1048576 then .ok ⟨ag6 i,[]⟩ s else .B|_=>.B
 | .enum (.seq e),U,s=>(ev F e U s).bind λ d s=>(aH3 d s).bind λ q s=>.ok ⟨ae2 0 q.its,q.src⟩ s
 | .enum _,_,_=>.B
 | .keys e,U,s=>(ev F e U s).bind λ d s=>aB4 d s
noncomputable def evL (F:Fns):L->Env->Sto->R (List D)
 | .comp tg it e caps,U,s=>(evI F it U s).bind λ q s0=>if q.its.length<=LIM then zX (λ s=>chk s0 s q.src) (λ d U s=>match ac9 U tg d with
   | some U=>(ev F e U s).bind λ v s=>.ok (aT v,U) s
   | none=>.B) q.its (zM U caps) s0 else .B
 | .compIf tg it c e caps,U,s=>(evI F it U s).bind λ q s0=>if q.its.length<=LIM then zX (λ s=>chk s0 s q.src) (λ d U s=>match ac9 U tg d with
   | some U=>tru (ev F c U s) λ k s=>if k then(ev F e U s).bind λ v s=>.ok (aT v,U) s else .ok (bY,U) s
   | none=>.B) q.its (zM U caps) s0 else .B
 | .disp es,U,s=>evs F es U s
 | .seq e,U,s=>(ev F e U s).bind λ d s=>ca2 d s
 | .compK tg e b caps,U,s=>((ev F e U s).bind λ d s=>aB4 d s).bind λ q s0=>if az6 s q.src=ca/\q.its.length<=LIM then(zX (λ s=>chk s0 s q.src) (λ d U s=>match ac9 U tg d with
   | some U=>(ev F b U s).bind λ v s=>.ok (aT v,U) s
   | none=>.B) q.its (zM U caps) s0).bind λ l s=>aA4 q.src l s else .B
end
inductive Ct where
 | next (U:Env)|ret (d:D)|cont (U:Env)|brk (U:Env)
noncomputable abbrev Ct.ctorIdx (x:Ct):Nat:=Ct.casesOn x (λ _=>0) (λ _=>1) (λ _=>2) (λ _=>3)
set_option tactic.hygienic true
noncomputable def ba2 (ok:Sto->Bool)(g:D->Env->Sto->R Ct):List D->Env->Sto->R Ct
 | [],U,s=>if ok s then .ok (.next U) s else .B
 | d::l,U,s=>if ok s then(g d U s).bind λ c s=>match c with
   | .next U=>ba2 ok g l U s
   | .cont U=>ba2 ok g l U s
   | .brk U=>.ok (.next U) s
   | .ret d=>.ok (.ret d) s
  else .B
def af6 (c:Env->Sto->R D)(g:Env->Sto->R Ct):Nat->Env->Sto->R Ct
 | 0,_,_=>.B
 | n+1,U,s=>tru (c U s) λ b s=>if b then(g U s).bind λ c' s=>match c' with
   | .next U=>af6 c g n U s
   | .cont U=>af6 c g n U s
   | .brk U=>.ok (.next U) s
   | .ret d=>.ok (.ret d) s
  else .ok (.next U) s
set_option tactic.hygienic false
open Classical in
def whl (c:Env->Sto->R D)(g:Env->Sto->R Ct)(U:Env)(s:Sto):R Ct :=
 if h:∃ n,af6 c g n U s≠.B then af6 c g h.choose U s else .B
mutual
noncomputable def ex (F:Fns):S->Env->Sto->R Ct
 | .A tg e,U,s=>(ev F e U s).bind λ d s=>match ac9 U tg d with|some U=>.ok (.next U) s|none=>.B
 | .setIx o i e,U,s=>(ev F e U s).bind λ d s=>(ev F o U s).bind λ x s=>(ev F i U s).bind λ y s=>(setIx x y d s).bind λ _ s=>.ok (.next U) s
 | .ex e,U,s=>(ev F e U s).bind λ _ s=>.ok (.next U) s
 | .ret e,U,s=>(ev F e U s).bind λ d s=>.ok (.ret d) s
 | .ite c a b,U,s=>tru (ev F c U s) λ k s=>if k then exs F a U s else exs F b U s
 | .whl c b,U,s=>whl (ev F c) (exs F b) U s
 | .fo tg it b,U,s=>(evI F it U s).bind λ q s0=>ba2 (λ s=>chk s0 s q.src) (λ d U s=>match ac9 U tg d with
   | some U=>exs F b U s
   | none=>.B) q.its U s0
 | .raise,_,_=>.B
 | .setA o f e,U,s=>(ev F e U s).bind λ d s=>(ev F o U s).bind λ x s=>(ax0 (λ c=>F.att c f) f x d s).bind λ _ s=>.ok (.next U) s
noncomputable def exs (F:Fns):Ss->Env->Sto->R Ct
 | .nil,U,s=>.ok (.next U) s
 | .cons st ss,U,s=>(ex F st U s).bind λ c s=>match c with|.next U=>exs F ss U s|c=>.ok c s
end
structure Df where
 name:String
 ps:Nat
 vs:Nat
 body:Ss
structure Lm where
 id:String
 ps:Nat
 cs:Nat
 body:E
inductive HT where
 | ve
 | isi (cs:List String)|Y (c:String)|not (t:HT)|or (a b:HT)
noncomputable abbrev HT.ctorIdx (x:HT):Nat:=HT.casesOn x 0 (λ _=>1) (λ _=>2) (λ _=>3) (λ _ _=>4)
inductive KO where
 | pl|ls|eq (t:List Nat)
noncomputable abbrev KO.ctorIdx (x:KO):Nat:=KO.casesOn x 0 1 (λ _=>2)
inductive Hd where
 | ret (t:HT)|iff (t:HT) (b:Bool) (h:Hd)|nob (b:Bool)|noe|iffN (t:HT) (h:Hd)|aoN (a b:HT)|sup (x:String) (h:Hd)
 | kin (f:String) (l:KO)
noncomputable abbrev Hd.ctorIdx (x:Hd):Nat:=Hd.casesOn x (λ _=>0) (λ _ _ _=>1) (λ _=>2) 3 (λ _ _=>4) (λ _ _=>5) (λ _ _=>6) (λ _ _=>7)
noncomputable def subC (c d:String):Bool:=c==d||(d == "TollError"||d == "ValueError")
noncomputable def ab6:List String:=["NotSteady", "TooMuch", "TooLong", "NoMaking", "NoPaper", "NoPair", "NoText", "NoRow", "NoName"]
noncomputable def ae6:List (List Nat):=[[115,116,101,97,100,121],[109,117,99,104],[108,111,110,103],[109,97,107,105,110,103],[112,97,112,101,114],[112,97,105,114],[116,101,120,116],[114,111,119],[110,97,109,101]]
noncomputable def am3:List Nat:=[97,110,111,116,104,101,114]
def cc0 (bs:List Bool):List Nat:=if bs.countP id=1 then ae6.getD (bs.findIdx id) []else am3
def ad3 (c:String):List Nat:=cc0 (ab6.map (subC c))
def HT.val (c:String):HT->Bool
 | .isi cs=>cs.any (subC c)
 | .Y d=>subC c d
 | .not t=>!t.val c
 | .or a b=>if a.val c then ca else b.val c
 | .ve=>ca
noncomputable def HT.ok (p:String->Bool):HT->Bool
 | .isi cs=>cs.all p
 | .Y d=>p d
 | .not t=>t.ok p
 | .or a b=>a.ok p&&b.ok p
 | .ve=>ca
noncomputable def Hd.val (c:String):Hd->Bool
 | .ret t=>t.val c
 | .iff t b h=>if t.val c then b else h.val c
 | .nob b=>b
 | .noe=>dr
 | .iffN _ h=>h.val c
 | .aoN a b=>a.val c&&b.val c
 | .sup _ h=>h.val c
 | .kin _ _=>dr
noncomputable def Hd.ok (p:String->Bool):Hd->Bool
 | .ret t=>t.ok p
 | .iff t _ h=>t.ok p&&h.ok p
 | .nob _=>ca
 | .noe=>ca
 | .iffN t h=>t.ok p&&h.ok p
 | .aoN a b=>a.ok p&&b.ok p
 | .sup x h=>p x&&h.ok p
 | .kin _ _=>ab6.all p
noncomputable def Hd.vD (c:String):Hd->D
 | .ret t=>.T (t.val c)
 | .iff t b h=>if t.val c then .T b else h.vD c
 | .nob b=>.T b
 | .noe=>.N
 | .iffN t h=>if t.val c then .N else h.vD c
 | .aoN a b=>if a.val c then(if b.val c then .T ca else .N)else .N
 | .sup _ h=>h.vD c
 | .kin _ _=>.N
noncomputable def Hd.kn:Hd->Option (String×KO)
 | .kin f l=>aT (f,l)
 | .sup _ h=>h.kn
 | _=>bY
noncomputable def Hd.kok (k:String->Bool)(h:Hd):Bool:=match h.kn with|some (f,_)=>k f|none=>ca
noncomputable def Hd.cls (c:String):Hd->String
 | .sup x _=>x|_=>c
def Hd.supOk (c:String):Hd->Bool
 | .sup x _=>subC c x|_=>ca
noncomputable def Hd.nn:Hd->Bool
 | .nob _=>ca|.noe=>ca|_=>dr
set_option tactic.hygienic true
noncomputable def bN5 (ok:Sto->Bool)(g:D->Env->Sto->R Ct)(gx:D->Env->Sto->Option (String×Sto)):List D->Env->Sto->Option (String×Sto)
 | [],_,_=>bY
 | d::l,U,s=>if ok s then match g d U s with
   | .ok (.next U1) s1=>bN5 ok g gx l U1 s1
   | .ok (.cont U1) s1=>bN5 ok g gx l U1 s1
   | .ok _ _=>bY
   | _=>gx d U s
  else bY
noncomputable def bt0 (c:Env->Sto->R D)(g:Env->Sto->R Ct)(gx:Env->Sto->Option (String×Sto)):Nat->Env->Sto->Option (String×Sto)
 | 0,_,_=>bY
 | n+1,U,s=>match c U s with
  | .ok (.T ca) s1=>match g U s1 with
   | .ok (.next U1) s2=>bt0 c g gx n U1 s2
   | .ok (.cont U1) s2=>bt0 c g gx n U1 s2
   | .ok _ _=>bY
   | _=>gx U s1
  | _=>bY
set_option tactic.hygienic false
open Classical in
def whlX (c:Env->Sto->R D)(g:Env->Sto->R Ct)(gx:Env->Sto->Option (String×Sto))(U:Env)(s:Sto):Option (String×Sto):=if h:∃ n,(bt0 c g gx n U s).isSome=ca then bt0 c g gx h.choose U s else bY
inductive XB where
 | no|rais (c:String)|call (f:String) (as:As)|iteT (c:E) (a r:XB)|seq (s:S) (b:XB)
 | kind|alt (a b:XB)
 | iteE (c:E) (a r:XB)|forX (tg:Tg) (it:I) (b:Ss) (x:XB)|whlX (c:E) (b:Ss) (x:XB)
noncomputable abbrev XB.ctorIdx (x:XB):Nat:=XB.casesOn x 0 (λ _=>1) (λ _ _=>2) (λ _ _ _=>3) (λ _ _=>4) 5 (λ _ _=>6) (λ _ _ _=>7) (λ _ _ _ _=>8) (λ _ _ _=>9)
set_option tactic.hygienic true in
def xB (F:Fns):XB->Env->Sto->Option (String×Sto)
 | .no,_,_=>bY
 | .kind,_,_=>bY
 | .alt a b,U,s=>match xB F a U s with|some r=>aT r|none=>xB F b U s
 | .rais c,_,s=>if F.xc c=ca then aT (c,s)else bY
 | .call f as,U,s=>match ag3 F as U s with|.ok l s1=>F.xcall f l s1|_=>bY
 | .iteT c a r,U,s=>match ev F c U s with|.ok (.T b) s1=>if b then xB F a U s1 else xB F r U s1|_=>bY
 | .seq st b,U,s=>match ex F st U s with|.ok (.next U1) s1=>xB F b U1 s1|_=>bY
 | .forX tg it b x,U,s=>match evI F it U s with
  | .ok q s0=>bN5 (λ s=>chk s0 s q.src) (λ d U s=>match ac9 U tg d with
   | some U=>exs F b U s
   | none=>.B) (λ d U s=>match ac9 U tg d with
   | some U=>xB F x U s
   | none=>bY) q.its U s0
  | _=>bY
 | .iteE c a r,U,s=>match ev F c U s with|.ok (.T b) s1=>if b then xB F a U s1 else xB F r U s1|_=>bY
 | .whlX c b x,U,s=>DV.whlX (ev F c) (exs F b) (xB F x) U s
structure Xf where
 ps:Nat
 vs:Nat
 body:XB
structure Tf where
 ps:Nat
 vs:Nat
 body:Ss
 xb:XB
 c:String
 i:Nat
 h:Hd
 tl:Ss
 pre:Ss
structure Pr where
 df:String->Option Df
 lm:String->Option Lm
 con:String->Option D
 xf:String->Option Xf
 tf:String->Option Tf
 xc:String->Bool
 xt:String->Bool
 cdc:String->Option (List (List Nat×List Nat))
 mt:String->String->Option Df
 att:String->List Nat->Bool
noncomputable def af1 (st st':Sto):Bool:=(aH st.length).all λ i=>decide (st'[i]?=st[i]?)||(match st'[i]? with|some o=>o.bnd st.length|none=>dr)
def zp (st:Sto)(d:D)(st':Sto):R D :=
 if af1 st st' then
  match d with
  | .ref r=>if r<st.length then .ok d (st'.take st.length)else match st'[r]? with
   | some o=>if o.bnd st.length then .ok (.ref st.length) (st'.take st.length++[o])else .ok d st'
   | none=>.B
  | d=>if d.bnd st.length then .ok d (st'.take st.length)else .ok d st'
 else .ok d st'
def Hd.out (h:Hd)(c:String)(s s':Sto):R D:=match h with
 | .noe=>zp s (.ref s'.length) (s'++[.J []])
 | h=>match h.kn with
  | some (_,.ls)=>zp s (.ref s'.length) (s'++[.J [.str (ad3 c)]])
  | some (_,.pl)=>zp s (.str (ad3 c)) s'
  | some (_,.eq t)=>zp s (.T (decide (ad3 c=t))) s'
  | none=>zp s (h.vD c) s'
def Tf.tk (d:Tf)(c:String):Bool:=match d.h with|.sup x _=>subC c x|_=>c==d.c
noncomputable def XB.isK:XB->Bool
 | .kind=>ca|_=>dr
noncomputable def bO5 (P:Pr)(f:String):Bool:=match P.xf f with|some d=>d.ps==1&&(d.vs==1&&d.body.isK)|none=>dr
set_option tactic.hygienic true
def bp3 (F:Fns)(d:Tf)(s:Sto)(U0:Env)(s0:Sto):R D:=match xB F d.xb U0 s0 with
 | some (c,s')=>if d.tk c=ca/\F.xc c=ca/\d.h.ok F.xt=ca/\d.h.kok F.kd=ca then d.h.out c s s' else .B
 | none=>(exs F d.body U0 s0).bind λ c s1=>match c with
  | .ret v=>zp s v s1
  | .next U=>(exs F d.tl U s1).bind λ c s2=>match c with
   | .ret v=>zp s v s2
   | .next _=>zp s .N s2
   | _=>.B
  | _=>.B
def bG6 (F:Fns)(d:Tf)(l:List D)(s:Sto):R D:=match exs F d.pre (l.map aT++av d.vs bY) s with
 | .ok (.next U0) s0=>bp3 F d s U0 s0
 | _=>.B
def bk6 (F:Fns)(d:Df)(l:List D)(s:Sto):R D:=if l.length=d.ps then(exs F d.body (l.map aT++av d.vs bY) s).bind λ c s'=>match c with
 | .ret v=>zp s v s'
 | .next _=>zp s .N s'
 | _=>.B else .B
def aa0 (P:Pr):Nat->Fns
 | 0=>⟨λ _ _ _=>.B,λ _ _ _ _=>.B,P.con,λ _ _ _=>bY,P.xc,P.xt,P.cdc,bO5 P,λ _ _ _ _=>.B,λ _ _ _=>.B,P.att⟩
 | n+1=>⟨λ f l s=>match P.df f with
   | some d=>if l.length=d.ps then(exs (aa0 P n) d.body (l.map aT++av d.vs bY) s).bind λ c s'=>match c with
     | .ret v=>zp s v s'
     | .next _=>zp s .N s'
     | _=>.B else .B
   | none=>match P.tf f with
    | some d=>if l.length=d.ps then bG6 (aa0 P n) d l s else .B
    | none=>.B,
  λ id cs l s=>match P.lm id with
   | some d=>if l.length=d.ps/\cs.length=d.cs/\(D.nclL l&&D.nclL cs&&s.all O.ncl)=ca then(ev (aa0 P n) d.body (l.map aT++cs.map aT) s).bind λ v s'=>zp s v s' else .B
   | none=>.B,P.con,
  λ f l s=>match P.xf f with
   | some d=>if l.length=d.ps then xB (aa0 P n) d.body (l.map aT++av d.vs bY) s else bY
   | none=>bY,P.xc,P.xt,P.cdc,bO5 P,λ c m l s=>match P.mt c m with|some d=>bk6 (aa0 P n) d l s|none=>.B,λ c l s=>(aa0 P n).mcall c "__init__" l s,P.att⟩
set_option tactic.hygienic false
end DV
end
open DV renaming Sto->mM,D->mO,Env->mQ,ev->mR,R->mU,aa0->mV,subC->mZ,LIM->nh,Fns->ni,ad3->nj,Pr->nk,tru->nq,DEEP->nu,ac9->nv,Es->ny,ag3->nz,O->nA,look->nB,ag1->nD,aG4->nE,ae2->nF,chk->nG,evs->nI,kd->nJ,Sq->nK,Tg->nM,Df->nN,eqv->nO,zP->nP,ao0->nQ,Bi->nR,Ct->nS,sbd->nT,E->nU,As->nW,loB->nX,ixn->nY,bk6->nZ,zM->n6,Hd->n8,xB->n9,zp->og,minI->oh,af3->ol,inL->om,ag0->on,af8->oq,ag6->ot,aN7->ou,zX->ow,mk->oy,evI->oz,COp->oA,M->oB,hiB->oC,slM->oE,ap0->oF,kAt->oG,au6->oH,ins->oI,exs->oJ,bi->oK,Mk->oM,Mt->oN,aB1->oO,aZ3->oP,bg9->oQ,pur->oS,inM->oU,bi1->oV,bn8->oW,ba2->oX,aA4->oY,az6->oZ,mkq->o3,ae6->o4,cc0->o5,meth->o6,BOp->o8,isK->o9,Ww62->pb,aB4->pd,aH3->pf,Ss->ph,bj5->pi,aq6->pj,ax0->pk,as4->pp,bu2->pq,XB->pr,af1->pv,Tf->pw
open DV.D renaming bndL->mP,bnd->mY,hdI->nV
open DV.O renaming bnd->mW
open DV.Hd renaming out->o7
noncomputable section
namespace L2
def fb {p:Prop}(h:(DV.R.B:mU α)=.ok d s):p:=nomatch h
open PySem PySem.Spec PyProof.Rows
structure LamI where
 qual:Str
 params:d8
 body:Expr
 scope:Scope
 ps:List Str
 fr:List Str
 nm:Option (Str×Pos)
def aA6 (H:Hp)(f:Addr)(J:LamI)(cap:List V)(clos:yC):Prop:=match J.nm with
 | none=>bi7 H f J.qual J.params J.body J.scope J.fr cap clos
 | some p=>aE0 H f p.1 J.qual J.params [.Return (aT J.body) p.2] J.scope J.fr cap clos
def aE8 (H:Hp)(f:Addr)(J:LamI)(clos:yC):Prop:=match J.nm with
 | none=>∃ pm c' ctv,H f=aT (bO9 f (k7 "<lambda>" J.qual J.params J.body J.scope clos pm (.ref c') ctv))/\H c'=aT (aR5 c' J.qual)
 | some p=>∃ doc pm c' ctv,H f=aT (bO9 f (mD p.1 J.qual J.params [.Return (aT J.body) p.2] J.scope clos .none .none doc pm bY (.ref c') ctv))/\H c'=aT (aR5 c' J.qual)
structure Gm where
 K:ae
 fa:String->Option Addr
 lg:String->LamI->Prop
 T:List (Addr×Str)
 cls:String->Option Addr
variable (Γ:Gm)
mutual
noncomputable def RV (C:Nat->Addr)(H:Hp):mO->V->Prop
 | .N,v=>v=.N
 | .T b,v=>v=.T b
 | .int i,v=>v=.int i
 | .str x,v=>v=.str ⟨x.toArray⟩/\x.length<=nh
 | .tp l,v=>∃ a xs,v=.ref a/\(SqT Γ.K H a xs/\(nV l=ca->H a=aT (.tp xs)))/\RVL C H l xs
 | .ref n,v=>v=.ref (C n)
 | .fn f,v=>∃ a,Γ.fa f=aT a/\v=.ref a
 | .clo id cs,v=>∃ f cap J clos,v=.ref f/\Γ.lg id J/\aA6 H f J cap clos/\cap.length=J.fr.length/\RVL C H cs cap
noncomputable def RVL (C:Nat->Addr)(H:Hp):List mO->List V->Prop
 | [],xs=>xs=[]
 | d::l,xs=>∃ x r,xs=x::r/\RV C H d x/\RVL C H l r
end
noncomputable def bR7:HO->Bool
 | .tp _=>ca
 | .frz _ (.dK _)=>dr
 | .frz _ _=>ca
 | .ext _=>ca
 | _=>dr
def Kp (H H':Hp):Prop:=∀ b o,H b=aT o->bR7 o=ca->H' b=aT o
def Kp.refl H :Kp H H:=λ _ _ h _=>h
def Kp.trans (a:Kp H J)(b:Kp J z):Kp H z:=λ c o h f=>b c o (a c o h f) f
def Kp.new (a:Kp H z)(h:z p=bY):Kp H (upd z p o):=λ c u e f=>by
 have e1:=a c u e f;rw[zf (zl e1 h)];exact e1
def Kp.put (a:Kp H J)(h:J p=aT u)(hu:bR7 u=dr):Kp H (upd J p o):=λ c v e f=>by
 have e1:=a c v e f;rw[zf (λ z=>by subst z;rw[h]at e1;cases e1;rw[hu]at f;cases f)];exact e1
def Kp.sqT {K}(e:Kp H H')(h:SqT K H a z):SqT K H' a z:=by
 rcases h with(h|⟨o,h⟩)|h
 .exact .inl (.inl (e _ _ h rfl))
 .exact .inl (.inr ⟨o,e _ _ h rfl⟩)
 .exact .inr h
def bi7.kp (h:bi7 H f qual params body scope fr cap J)(e:Kp H H'):bi7 H' f qual params body scope fr cap J:=by
 obtain⟨pm,c',Y,Z,h2,h3,h4,h5,h6⟩:=h;refine⟨pm,c',Y,e _ _ Z rfl,e _ _ h2 rfl,λ x c q=>?_,h4,h5,λ i x v a b=>?_⟩
 .obtain⟨o,v,z,d⟩:=h3 x c q;exact⟨o,v,e _ _ z rfl,d⟩
 .obtain⟨c,o,u,z1,z2,z3⟩:=h6 i x v a b;exact⟨c,o,u,z1,e _ _ z2 rfl,z3⟩
def aE0.kp (h:aE0 H f name qual params body scope fr cap J)(e:Kp H H'):aE0 H' f name qual params body scope fr cap J:=by
 obtain⟨Y,pm,c',Z,h1,h2,h3,h4,h5,h6⟩:=h;refine⟨Y,pm,c',Z,e _ _ h1 rfl,e _ _ h2 rfl,λ x c q=>?_,h4,h5,λ i x v a b=>?_⟩
 .obtain⟨o,v,z,d⟩:=h3 x c q;exact⟨o,v,e _ _ z rfl,d⟩
 .obtain⟨c,o,u,z1,z2,z3⟩:=h6 i x v a b;exact⟨c,o,u,z1,e _ _ z2 rfl,z3⟩
theorem aA6.kp (h:aA6 H f J cap z)(e:Kp H H'):aA6 H' f J cap z:=by
 unfold aA6 at h ⊢;cases q:J.nm with
 | none=>rw[q]at h;exact bi7.kp h e
 | some p=>rw[q]at h;exact aE0.kp h e
def aE8.kp (h:aE8 H f J z)(e:Kp H H'):aE8 H' f J z:=by
 unfold aE8 at h ⊢;cases q:J.nm with
 | none =>
  rw[q]at h;obtain⟨pm,c',Y,h1,h2⟩:=h;exact⟨pm,c',Y,e _ _ h1 rfl,e _ _ h2 rfl⟩
 | some p =>
  rw[q]at h;obtain⟨Z,pm,c',Y,h1,h2⟩:=h;exact⟨Z,pm,c',Y,e _ _ h1 rfl,e _ _ h2 rfl⟩
theorem aA6.fn {K}(h:aA6 H f J cap z):cg3 K H f:=by
 unfold aA6 at h;cases q:J.nm with
 | none=>rw[q]at h;obtain⟨pm,c',Z,Y,_⟩:=h;exact .inl ⟨_,Y⟩
 | some p=>rw[q]at h;exact aE0.fn h
structure Gw (C:Nat->Addr)(n:Nat)(H:Hp)(C':Nat->Addr)(H':Hp):Prop where
 map:∀ i,i<n->C' i=C i
 kp:Kp H H'
variable {Γ:Gm}
mutual
theorem RV.monoW {C C':Nat->Addr}{n:Nat}{H H':Hp}(g:Gw C n H C' H'):∀(d:mO) (v:V),d.bnd n=ca->RV Γ C H d v->RV Γ C' H' d v
 | .N,_,_,h=>by unfold RV at h ⊢;exact h
 | .T _,_,_,h=>by unfold RV at h ⊢;exact h
 | .int _,_,_,h=>by unfold RV at h ⊢;exact h
 | .str _,_,_,h=>by unfold RV at h ⊢;exact h
 | .tp l,_,b,h=>by
  unfold RV at h ⊢;unfold mY at b;obtain⟨a,Z,e,q,r⟩:=h;exact⟨a,Z,e,⟨g.kp.sqT q.1,λ z=>g.kp _ _ (q.2 z) rfl⟩,RVL.monoW g l Z b r⟩
 | .ref k,_,b,h=>by
  unfold RV at h ⊢;unfold mY at b;rw[g.map k (dO b)];exact h
 | .fn _,_,_,h=>by unfold RV at h ⊢;exact h
 | .clo id cs,_,b,h=>by
  unfold RV at h ⊢;unfold mY at b;obtain⟨f,cap,J,Y,e,h1,h2,h3,h4⟩:=h;exact⟨f,cap,J,Y,e,h1,h2.kp g.kp,h3,RVL.monoW g cs cap b h4⟩
theorem RVL.monoW {C C':Nat->Addr}{n:Nat}{H H':Hp}(g:Gw C n H C' H'):∀(l:List mO) (z:List V),mP n l=ca->RVL Γ C H l z->RVL Γ C' H' l z
 | [],_,_,h=>by unfold RVL at h ⊢;exact h
 | d::l,_,b,h=>by
  unfold RVL at h ⊢;unfold mP at b;rw[aj]at b;obtain⟨x,r,e,q,t⟩:=h;exact⟨x,r,e,RV.monoW g d x b.1 q,RVL.monoW g l r b.2 t⟩
end
mutual
theorem zg {n m:Nat}(h:n<=m):∀ d:mO,d.bnd n=ca->d.bnd m=ca
 | .N,_=>rfl
 | .T _,_=>rfl
 | .int _,_=>rfl
 | .str _,_=>rfl
 | .tp l,b=>by unfold mY at b ⊢;exact aa8 h l b
 | .ref k,b=>by unfold mY at b ⊢;exact iN (aG (dO b) h)
 | .fn _,_=>rfl
 | .clo _ l,b=>by unfold mY at b ⊢;exact aa8 h l b
theorem aa8 {n m:Nat}(h:n<=m):∀ l:List mO,mP n l=ca->mP m l=ca
 | [],_=>rfl
 | d::l,b=>by
  unfold mP at b ⊢;rw[aj]at b ⊢;exact⟨zg h d b.1,aa8 h l b.2⟩
end
theorem aa6 :∀ {l},mP n l=ca↔∀ d∈l,d.bnd n=ca
 | []=>by unfold mP;simp
 | d::l=>by
  unfold mP;rw[aj,aa6 ];simp
def qf (h:mP n l=ca)(h':mP n m=ca):mP n (l++m)=true :=
 aa6.mpr λ d hd=>(aE.mp hd).elim (aa6.mp h d) (aa6.mp h' d)
def aQ1 (h:mP n l=ca)(s:∀ d∈m,d∈l):mP n m=true:=aa6.mpr λ d hd=>aa6.mp h d (s d hd)
def aw1 {i:Nat}(h:mP n l=ca)(e:l[i]?=aT d):d.bnd n=true:=aa6.mp h d (aP e)
section
variable {C:Nat->Addr} {H:Hp}
def RVL.nil:RVL Γ C H [] []:=by unfold RVL;rfl
def RVL.cons (a:RV Γ C H d x)(b:RVL Γ C H l z):RVL Γ C H (d::l) (x::z):=by unfold RVL;exact⟨x,z,rfl,a,b⟩
def RVL.unnil (h:RVL Γ C H [] z):z=[]:=by unfold RVL at h;exact h
def RVL.uncons (h:RVL Γ C H (d::l) z):∃ x r,z=x::r/\RV Γ C H d x/\RVL Γ C H l r:=by unfold RVL at h;exact h
theorem RVL.length:∀ {l} {z},RVL Γ C H l z->z.length=l.length
 | [],_,h=>by rw[h.unnil];rfl
 | d::l,_,h=>by
  obtain⟨x,r,rfl,_,t⟩:=h.uncons;rw[aQ,aQ,RVL.length t]
theorem RVL.get:∀ {l} {z} {i:Nat} {d},RVL Γ C H l z->l[i]?=aT d->∃ x,z[i]?=aT x/\RV Γ C H d x
 | [],_,_,_,_,e=>by simp at e
 | d::l,_,0,d',h,e=>by
  obtain⟨x,r,rfl,q,t⟩:=h.uncons;have e':=by simpa using e
  subst e';exact⟨x,rfl,q⟩
 | d::l,_,i+1,_,h,e=>by
  obtain⟨x,r,rfl,q,t⟩:=h.uncons;obtain⟨y,e1,e2⟩:=RVL.get t (by simpa using e);exact⟨y,by simpa using e1,e2⟩
theorem RVL.append:∀ {l m} {z ys},RVL Γ C H l z->RVL Γ C H m ys->RVL Γ C H (l++m) (z++ys)
 | [],_,_,_,h,h'=>by rw[h.unnil];exact h'
 | d::l,_,_,_,h,h'=>by
  obtain⟨x,r,rfl,q,t⟩:=h.uncons;exact .cons q (RVL.append t h')
theorem RVL.drop:∀ {l} {z} n ,RVL Γ C H l z->RVL Γ C H (l.drop n) (z.drop n)
 | _,_,0,h=>h
 | [],_,n+1,h=>by rw[h.unnil];exact .nil
 | d::l,_,n+1,h=>by
  obtain⟨x,r,rfl,q,t⟩:=h.uncons;exact RVL.drop n t
theorem RVL.take:∀ {l} {z} n ,RVL Γ C H l z->RVL Γ C H (l.take n) (z.take n)
 | _,_,0,h=>.nil
 | [],_,n+1,h=>by rw[h.unnil];exact .nil
 | d::l,_,n+1,h=>by
  obtain⟨x,r,rfl,q,t⟩:=h.uncons;exact .cons q (RVL.take n t)
theorem RVL.set:∀ {l} {z} {d} {x} i ,RVL Γ C H l z->RV Γ C H d x->RVL Γ C H (l.set i d) (z.set i x)
 | [],_,_,_,_,h,_=>by rw[h.unnil];exact .nil
 | d::l,_,_,_,0,h,q=>by
  obtain⟨x,r,rfl,_,t⟩:=h.uncons;exact .cons q t
 | d::l,_,_,_,i+1,h,q=>by
  obtain⟨x,r,rfl,q',t⟩:=h.uncons;exact .cons q' (RVL.set i t q)
def RV.intE (h:RV Γ C H (.int i) v):v=.int i:=by unfold RV at h;exact h
def RV.blE (h:RV Γ C H (.T i) v):v=.T i:=by unfold RV at h;exact h
def RV.nonE (h:RV Γ C H .N v):v=.N:=by unfold RV at h;exact h
def RV.strE (h:RV Γ C H (.str x) v):v=.str ⟨x.toArray⟩:=by unfold RV at h;exact h.1
def RV.strL (h:RV Γ C H (.str x) v):x.length<=nh:=by unfold RV at h;exact h.2
def RV.tupE (h:RV Γ C H (.tp l) v):∃ a z,v=.ref a/\SqT Γ.K H a z/\RVL Γ C H l z:=by unfold RV at h;obtain⟨a,z,e,q,r⟩:=h;exact⟨a,z,e,q.1,r⟩
def RV.tupZ (h:RV Γ C H (.tp l) v):∃ a z,(v=.ref a/\(nV l=ca->H a=aT (.tp z)))/\SqT Γ.K H a z/\RVL Γ C H l z:=by unfold RV at h;obtain⟨a,z,e,q,r⟩:=h;exact⟨a,z,⟨e,q.2⟩,q.1,r⟩
def RV.refE (h:RV Γ C H (.ref n) v):v=.ref (C n):=by unfold RV at h;exact h
def RV.intI :RV Γ C H (.int i) (.int i):=by unfold RV;rfl
def RV.blI :RV Γ C H (.T i) (.T i):=by unfold RV;rfl
def RV.nonI:RV Γ C H .N .N:=by unfold RV;rfl
def RV.strI (h:x.length<=nh):RV Γ C H (.str x) (.str ⟨x.toArray⟩):=by unfold RV;exact⟨rfl,h⟩
def RV.tupI (h:H a=aT (.tp z))(q:RVL Γ C H l z):RV Γ C H (.tp l) (.ref a):=by unfold RV;exact⟨a,z,rfl,⟨SqT.of h,λ _=>h⟩,q⟩
def RV.tupC (h:SqT Γ.K H a J)(z:nV l=ca->H a=aT (.tp J))(q:RVL Γ C H l J):RV Γ C H (.tp l) (.ref a):=by unfold RV;exact⟨a,J,rfl,⟨h,z⟩,q⟩
def RV.refI :RV Γ C H (.ref n) (.ref (C n)):=by unfold RV;rfl
end
def bh4 (h:(nD l J Y).length=l.length):nD l J Y=l:=by
 unfold nD at h ⊢;rw[bW,dA]at h;by_cases z:l=[]
 .subst z;simp
 .have hp:=jn.mpr z;have e1:nX l.length J=0:=by lia
  rw[e1]at h ⊢;rw[gk];exact cA (by lia)
def SqF (K:ae)(H:Hp)(a:Addr)(xs:List V):Prop:=SqL K H a xs/\∀ H',Kp H H'->SqL K H' a xs
noncomputable def ah0:mO->Option Key
 | .int i=>aT (.inl i)
 | .str x=>aT (.inr ⟨x.toArray⟩)
 | _=>bY
def RVD {κ:Type}(kf:mO->Option κ)(Γ:Gm)(C:Nat->Addr)(H:Hp):List (mO×mO)->List (κ×V)->Prop
 | [],kvs=>kvs=[]
 | (d,e)::l,kvs=>∃ k v r,kvs=(k,v)::r/\kf d=aT k/\RV Γ C H e v/\RVD kf Γ C H l r
noncomputable def bX0:mO->Option Str
 | .str x=>aT ⟨x.toArray⟩
 | _=>bY
variable (Γ)
def RO (C:Nat->Addr)(H:Hp)(a:Addr):nA->Prop
 | .J l=>∃ xs,H a=aT (.J xs)/\RVL Γ C H l xs
 | .ro l=>∃ xs,SqF Γ.K H a xs/\RVL Γ C H l xs
 | .dc l=>∃ kvs,H a=aT (.dK kvs)/\RVD ah0 Γ C H l kvs
 | .dicF l=>∃ o kvs,H a=aT (.frz o (.dK kvs))/\RVD ah0 Γ C H l kvs
 | .ins c l=>∃ Cc dx gs,(Γ.cls c=aT Cc/\Cls Γ.K Cc)/\(∀ p∈gs,NoAttr Γ.K Cc p.1)/\H a=aT (.ins Cc dx gs)/\RVD bX0 Γ C H l gs
abbrev okd:nA->Nat:=DV.O.kd
noncomputable def isMut:nA->Bool
 | .ro _=>dr
 | _=>ca
structure Rp (C:Nat->Addr)(H:Hp)(s:mM):Prop where
 inj:∀(i j:Nat) (o o':nA),s[i]?=aT o->s[j]?=aT o'->isMut o=ca->isMut o'=ca->C i=C j->i=j
 obj:∀(i:Nat) (o:nA),s[i]?=aT o->RO Γ C H (C i) o
 wf:∀(i:Nat) (o:nA),s[i]?=aT o->o.bnd s.length=ca
 tab:TabsH Γ.T H
structure RE (C:Nat->Addr)(H:Hp)(n:Nat)(U:mQ)(W:St):Prop where
 len:U.length=W.length
 val:∀(i:Nat) (d:mO),U[i]?=aT (aT d)->d.bnd n=ca/\∃ v,W[i]?=aT (aT v)/\RV Γ C H d v
structure Gr (C:Nat->Addr)(s:mM)(H:Hp)(C':Nat->Addr)(s':mM)(H':Hp):Prop where
 w:Gw C s.length H C' H'
 le:s.length<=s'.length
 new:∀ i:Nat,s.length<=i->i<s'.length->H (C' i)=bY
 kd:∀(i:Nat) (o o':nA),s[i]?=aT o->s'[i]?=aT o'->okd o'=okd o
 st:∀ b,H b≠bY->H' b≠bY
 fz:∀ b o kvs,H b=aT (.frz o (.dK kvs))->H' b=aT (.frz o (.dK kvs))
 fr:∀ b o,H b=aT o->(∀ ps,o≠.tbl ps)->(∀(i:Nat) (ob:nA),s[i]?=aT ob->isMut ob=ca->C i≠b)->H' b=aT o
variable {Γ}
def bE5 (h:okd o'=okd o)(m:isMut o'=ca):isMut o=true:=by
 cases o with
 | ro _=>cases o' with
  | ro _=>cases m
  | _=>cases h
 | _=>rfl
def Gr.mu (g:Gr C s H C' s' H')(i:Nat) o o' (e:s[i]?=aT o)(e':s'[i]?=aT o')(m:isMut o'=ca):isMut o=true:=bE5 (g.kd i o o' e e') m
theorem Gr.refl C s H :Gr C s H C s H:=⟨⟨λ _ _=>rfl,Kp.refl H⟩,al _,λ i J z=>nc z (by lia),λ i o o' e e'=>by rw[e]at e';cases e';rfl,λ _ h=>h,λ _ _ _ h=>h,λ _ _ h _ _=>h⟩
theorem Gr.trans (a:Gr C s H C1 s1 H1)(b:Gr C1 s1 H1 C2 s2 H2)(_h:s.length<=s1.length):Gr C s H C2 s2 H2:=by
 refine⟨⟨λ i J=>(b.w.map i (aG J a.le)).trans (a.w.map i J),a.w.kp.trans b.w.kp⟩,ak a.le b.le,λ i h1 h2=>?_,λ i o o' e e'=>?_,λ c h=>b.st c (a.st c h),λ c o kvs h=>b.fz c o kvs (a.fz c o kvs h),λ c o h nt ne=>?_⟩
 .by_cases J:i<s1.length
  .rw[b.w.map i J];exact a.new i h1 J
  .have e:=b.new i (by lia) h2;cases q:H (C2 i)with
   | none=>rfl
   | some o=>exact nc e (a.st _ (by rw[q];simp))
 .have hl:i<s1.length:=aG (ac.mp e).1 a.le;obtain⟨Y,e1⟩:∃ Y,s1[i]?=aT Y:=⟨s1[i],ag hl⟩
  exact(b.kd i Y o' e1 e').trans (a.kd i o Y e e1)
 .refine b.fr c o (a.fr c o h nt ne) nt λ i ob e m z=>?_;by_cases J:i<s.length
  .obtain⟨Z,e0⟩:∃ Z,s[i]?=aT Z:=⟨s[i],ag J⟩
   exact ne i Z e0 (a.mu i Z ob e0 e m) (by rw[<-a.w.map i J];exact z)
  .have:=a.new i (by lia) (ac.mp e).1;rw[z,h]at this;cases this
def RV.mono (g:Gr C s H C' s' H') d v (b:d.bnd s.length=ca)(h:RV Γ C H d v):RV Γ C' H' d v:=RV.monoW g.w d v b h
def RVL.mono (g:Gr C s H C' s' H') d v (b:mP s.length d=ca)(h:RVL Γ C H d v):RVL Γ C' H' d v:=RVL.monoW g.w d v b h
theorem RE.mono (h:RE Γ C H s.length U W)(g:Gr C s H C' s' H')(hn:s.length<=s'.length):RE Γ C' H' s'.length U W :=
 ⟨h.len,λ i d e=>by
  obtain⟨b,v,e1,e2⟩:=h.val i d e;exact⟨zg hn d b,v,e1,RV.mono g d v b e2⟩⟩
def ae9 (Γ:Gm)(C:Nat->Addr)(s:mM)(H:Hp)(d:mO)(s':mM)(Q:VK):Prop :=
 ∀ v C' H',Gr C s H C' s' H'->s.length<=s'.length->d.bnd s'.length=ca->RV Γ C' H' d v->Rp Γ C' H' s'->Q v H'
theorem ae9.trans (h:ae9 Γ C s H d s' Q)(g:Gr C s H C1 s1 z)(l:s.length<=s1.length):ae9 Γ C1 s1 z d s' Q :=
 λ v C' H' g' J b r p=>h v C' H' (g.trans g' l) (ak l J) b r p
def ae9.here (h:ae9 Γ C s H d s Q)(p:Rp Γ C H s)(b:d.bnd s.length=ca)(r:RV Γ C H d v):Q v H :=
 h v C H (Gr.refl C s H) (al _) b r p
theorem RVD.monoW (g:Gw C n H C' H'):∀ l (kvs:List (κ×V)),mP n (l.map (·.2))=ca->RVD z Γ C H l kvs->RVD z Γ C' H' l kvs
 | [],_,_,h=>h
 | (d,e)::l,_,b,h=>by
  obtain⟨k,v,r,e1,e2,J,Y⟩:=h;rw[aY]at b;unfold mP at b;rw[aj]at b;exact⟨k,v,r,e1,e2,RV.monoW g e v b.1 J,RVD.monoW g l r b.2 Y⟩
def RO.mono (h:RO Γ C H a o)(g:Gw C n H C' H')(b:o.bnd n=ca)(J:isMut o=ca->∀ u,H a=aT u->H' a=aT u):RO Γ C' H' a o:=by
 cases o with
 | J l =>
  unfold mW at b;obtain⟨z,e,r⟩:=h;exact⟨z,J rfl _ e,RVL.monoW g l z b r⟩
 | ro l =>
  unfold mW at b;obtain⟨z,e,r⟩:=h;exact⟨z,⟨e.2 _ g.kp,λ H2 k=>e.2 _ (g.kp.trans k)⟩,RVL.monoW g l z b r⟩
 | dc l =>
  unfold mW at b;rw[aj]at b;obtain⟨kvs,e,r⟩:=h;exact⟨kvs,J rfl _ e,RVD.monoW g l kvs b.2 r⟩
 | dicF l =>
  unfold mW at b;rw[aj]at b;obtain⟨ob,kvs,e,r⟩:=h;exact⟨ob,kvs,J rfl _ e,RVD.monoW g l kvs b.2 r⟩
 | ins c l =>
  unfold mW at b;rw[aj]at b;obtain⟨Cc,dx,Y,Z,h2,e,r⟩:=h;exact⟨Cc,dx,Y,Z,h2,J rfl _ e,RVD.monoW g l Y b.2 r⟩
def RO.there (h:RO Γ C H a o)(m:isMut o=ca):∃ u,H a=aT u/\bR7 u=dr/\(∀ ps,u≠.tbl ps)/\((∀ l,o≠.dicF l)->∀ ob kvs,u≠.frz ob (.dK kvs)):=by
 cases o with
 | J l=>obtain⟨J,e,_⟩:=h;exact⟨_,e,rfl,by nofun,λ _ _ _ z=>(by cases z)⟩
 | ro l=>cases m
 | dc l=>obtain⟨J,e,_⟩:=h;exact⟨_,e,rfl,by nofun,λ _ _ _ z=>(by cases z)⟩
 | dicF l=>obtain⟨ob,J,e,_⟩:=h;exact⟨_,e,rfl,by nofun,λ z=>nc rfl (z l)⟩
 | ins c l=>obtain⟨_,_,_,_,_,e,_⟩:=h;exact⟨_,e,rfl,by nofun,λ _ _ _ z=>(by cases z)⟩
def Rp.addr (p:Rp Γ C H s)(e:s[i]?=aT (.J l)):∃ z,H (C i)=aT (.J z)/\RVL Γ C H l z:=p.obj i _ e
def zZ (h:n<=m)(o:nA)(b:o.bnd n=ca):o.bnd m=true:=by
 cases o with
 | J l=>unfold mW at b ⊢;exact aa8 h l b
 | ro l=>unfold mW at b ⊢;exact aa8 h l b
 | dc l =>
  unfold mW at b ⊢;rw[aj]at b ⊢;exact⟨aa8 h _ b.1,aa8 h _ b.2⟩
 | dicF l =>
  unfold mW at b ⊢;rw[aj]at b ⊢;exact⟨aa8 h _ b.1,aa8 h _ b.2⟩
 | ins c l =>
  unfold mW at b ⊢;rw[aj]at b ⊢;exact⟨aa8 h _ b.1,aa8 h _ b.2⟩
def TabsH.keepF (h:TabsH T H)(k:∀ b o,(bR7 o=ca\/∃ ps,o=.tbl ps)->H b=aT o->H' b=aT o):TabsH T H':=λ y hy=>by
 obtain⟨ps,e,t,c⟩:=h y hy;refine⟨ps,k _ _ (.inr ⟨_,rfl⟩) e,t,λ pos J q=>?_⟩;obtain⟨z,e1,e2⟩:=c pos J q;exact⟨z,e1,k _ _ (.inl rfl) e2⟩
theorem Rp.new (r:Rp Γ C H s)(hp:H p=bY)(hb:o.bnd s.length=ca)
  (ho:∀ C' H',Gw C s.length H C' H'->H' p=aT u->RO Γ C' H' p o):Gr C s H (λ i=>if i=s.length then p else C i) (s++[o]) (upd H p u)/\Rp Γ (λ i=>if i=s.length then p else C i) (upd H p u) (s++[o]):=by
 have g:Gw C s.length H (λ i=>if i=s.length then p else C i) (upd H p u):=⟨λ i z=>iF (aJ z),(Kp.refl H).new hp⟩
 have key:∀ i o',(s++[o])[i]?=aT o'->(i<s.length/\s[i]?=aT o')\/(i=s.length/\o'=o):=λ i o' e=>by
  rcases fc i s.length with h|h|h
  .rw[ax h]at e;exact .inl ⟨h,e⟩
  .subst h;simp at e;exact .inr ⟨rfl,e.symm⟩
  .rw[cj (by simp;lia)]at e;cases e
 refine⟨⟨g,by simp,λ i h1 h2=>?_,λ i o1 o2 e1 e2=>?_,λ b hb=>?_,λ b ob kvs hb=>by rw[zf (zl hb hp)];exact hb,λ b ob hb _ _=>by rw[zf (zl hb hp)];exact hb⟩,λ i j Z Y J ej mi mj e=>?_,λ i o' e=>?_,λ i o' e=>?_,r.tab.new hp⟩
 .rw[au,dS]at h2;rw[ij (by lia)];exact hp
 .rcases key i o2 e2 with⟨_,e⟩|⟨z,_⟩
  .rw[e1]at e;cases e;rfl
  .have:=(ac.mp e1).1;lia
 .unfold upd;split
  .simp
  .exact hb
 .rcases key i Z J with⟨z,J⟩|⟨z,rfl⟩<;>rcases key j Y ej with⟨hj,ej⟩|⟨hj,ej'⟩
  .rw[iF (aJ z),iF (aJ hj)]at e;exact r.inj i j Z Y J ej mi mj e
  .rw[iF (aJ z),ij hj]at e;obtain⟨u,hu,_⟩:=(r.obj i Z J).there mi;rw[e,hp]at hu;cases hu
  .rw[iF (aJ hj),ij z]at e;obtain⟨u,hu,_⟩:=(r.obj j Y ej).there mj;rw[<-e,hp]at hu;cases hu
  .rw[z,hj]
 .rcases key i o' e with⟨z,e⟩|⟨z,rfl⟩
  .show RO Γ _ _ (if i=s.length then p else C i) o';rw[iF (aJ z)];exact(r.obj i o' e).mono g (r.wf i o' e) λ _ v hv=>by rw[zf (zl hv hp)];exact hv
  .show RO Γ _ _ (if i=s.length then p else C i) o';rw[ij z];exact ho _ _ g zq
 .rw[au,dS];rcases key i o' e with⟨z,e⟩|⟨z,rfl⟩
  .exact zZ (cg _) _ (r.wf i o' e)
  .exact zZ (cg _) _ hb
def Rp.set1 (r:Rp Γ C H s)(hk:s[k]?=aT J)(m0:isMut J=ca)(hb:o.bnd s.length=ca)
  (ho:∀ H',Gw C s.length H C H'->H' (C k)=aT u->RO Γ C H' (C k) o) (a1:okd o=okd J):((∀ l,J≠.dicF l)->Gr C s H C (s.set k o) (upd H (C k) u))/\Rp Γ C (upd H (C k) u) (s.set k o):=by
 obtain⟨v0,Y,f0,a3,a0⟩:=(r.obj k J hk).there m0;have a2:=(ac.mp hk).1;have g:Gw C s.length H C (upd H (C k) u):=⟨λ _ _=>rfl,(Kp.refl H).put Y f0⟩
 have key:∀ i o',(s.set k o)[i]?=aT o'->(i≠k/\s[i]?=aT o')\/(i=k/\o'=o):=λ i o' e=>by
  by_cases h:i=k
  .subst h;rw[aW a2]at e;exact .inr ⟨rfl,(aM e).symm⟩
  .rw[ar (bP h)]at e;exact .inl ⟨h,e⟩
 have mm:∀ i o',(s.set k o)[i]?=aT o'->isMut o'=ca->∃ Z,s[i]?=aT Z/\isMut Z=true:=λ i o' e m=>by
  rcases key i o' e with⟨_,e⟩|⟨h,_⟩
  .exact⟨o',e,m⟩
  .exact⟨J,by rw[h];exact hk,m0⟩
 refine⟨λ nf=>⟨g,by simp,λ i h1 h2=>by rw[aU]at h2;lia,λ i o1 o2 e1 e2=>?_,λ b hb=>?_,λ b ob kvs hb=>by rw[zf λ z=>by subst z;rw[Y]at hb;cases hb;exact a0 nf _ _ rfl];exact hb,λ b ob hb nt ne=>by rw[zf (bP (ne k J hk m0))];exact hb⟩,λ i j oi oj ei ej mi mj e=>?_,λ i o' e=>?_,λ i o' e=>?_,r.tab.keepF λ b v hv q=>?_⟩
 .rcases key i o2 e2 with⟨_,e⟩|⟨h,rfl⟩
  .rw[e1]at e;cases e;rfl
  .subst h;rw[hk]at e1;cases e1;exact a1
 .unfold upd;split
  .simp
  .exact hb
 .obtain⟨o1,e1,m1⟩:=mm i oi ei mi;obtain⟨o2,e2,m2⟩:=mm j oj ej mj;exact r.inj i j o1 o2 e1 e2 m1 m2 e
 .rcases key i o' e with⟨h,e⟩|⟨h,rfl⟩
  .refine(r.obj i o' e).mono g (r.wf i o' e) λ m v hv=>?_;rw[zf λ z=>h (r.inj i k o' J e hk m m0 z)];exact hv
  .subst h;exact ho _ g zq
 .rw[aU];rcases key i o' e with⟨_,e⟩|⟨_,rfl⟩
  .exact r.wf i o' e
  .exact hb
 .rw[zf λ z=>by
   subst z;rw[Y]at q;cases q;rcases hv with h|⟨ps,h⟩
   .rw[f0]at h;cases h
   .exact a3 _ h]
  exact q
theorem Rp.set (r:Rp Γ C H s)(hk:s[k]?=aT J)(Y:isMut J=ca)(hb:o.bnd s.length=ca)
  (ho:∀ H',Gw C s.length H C H'->H' (C k)=aT u->RO Γ C H' (C k) o) (z:autoParam (okd o=okd J) Zq4._auto_1) (nf:autoParam (∀ l,J≠.dicF l) Zq6._auto_1):Gr C s H C (s.set k o) (upd H (C k) u)/\Rp Γ C (upd H (C k) u) (s.set k o) :=
 ⟨(r.set1 hk Y hb ho z).1 nf,(r.set1 hk Y hb ho z).2⟩
theorem Rp.same (r:Rp Γ C H s)(e:ae1 H H'):Gr C s H C s H'/\Rp Γ C H' s:=by
 have g:Gw C s.length H C H':=⟨λ _ _=>rfl,λ b o h _=>e b o h⟩
 exact⟨⟨g,al _,λ i J z=>nc z (by omega),λ i o o' e e'=>by rw[e]at e';cases e';rfl,λ b hb=>by
  cases q:H b with
  | none=>exact nc q hb
  | some o=>rw[e b o q];simp,λ b o kvs h=>e b _ h,λ b o h _ _=>e b o h⟩,r.inj,λ i o h=>(r.obj i o h).mono g (r.wf i o h) λ _ u hu=>e _ u hu,r.wf,r.tab.same e⟩
section
variable {C:Nat->Addr} {H:Hp} {s:mM} {Q:VK}
def ae9.alloc (h:ae9 Γ C s H (.ref s.length) (s++[.J l]) Q)(r:Rp Γ C H s)(J:RVL Γ C H l z)(hb:mP s.length l=ca)(hp:H p=bY):Q (.ref p) (upd H p (.J z)):=by
 obtain⟨g,r'⟩:=r.new (o:=.J l) hp hb λ C' H' g e=>⟨z,e,RVL.monoW g l z hb J⟩
 have:=h (.ref p) _ _ g (by simp) (by unfold mY;simp) (by unfold RV;simp) r';exact this
def ae9.tup (h:ae9 Γ C s H (.tp l) s Q)(r:Rp Γ C H s)(J:RVL Γ C H l z)(hb:mP s.length l=ca)(hp:H p=bY):Q (.ref p) (upd H p (.tp z)):=by
 obtain⟨g,r'⟩:=r.same ((ae1.refl H).new hp);exact h _ _ _ g (al _) (by unfold mY;exact hb) (RV.tupI zq (RVL.mono g l z hb J)) r'
def ae9.put (h:ae9 Γ C s H d (s.set k (.J l)) Q)(r:Rp Γ C H s)(hk:s[k]?=aT (.J l0))(J:RVL Γ C H l z)(hb:mP s.length l=ca)
  (hd:d.bnd s.length=ca) (hv:RV Γ C H d v):Q v (upd H (C k) (.J z)):=by
 obtain⟨g,r'⟩:=r.set (o:=.J l) hk rfl hb λ H' g e=>⟨z,e,RVL.monoW g l z hb J⟩
 exact h _ _ _ g (by simp) (by rw[aU];exact hd) (RV.mono g d v hd hv) r'
end
variable {Γ:Gm}
def aC9 (ha:ah0 a=aT k)(hb:ah0 b=aT k):a=b:=by
 cases a with
 | int i =>
  cases ha;cases b with
  | int j=>cases hb;rfl
  | str y=>cases hb
  | _=>cases hb
 | str x =>
  cases ha;cases b with
  | int j=>cases hb
  | str y =>
   have h:=aM hb;injection h with h;injection h with h;have z:=by simpa using h
   rw[z]
  | _=>cases hb
 | _=>cases ha
def aN3 (h:d.key=ca):∃ k,ah0 d=aT k:=by
 cases d with
 | int i=>exact⟨_,rfl⟩
 | str x=>exact⟨_,rfl⟩
 | _=>cases h
def bu9 (h:ah0 d=aT k)(r:RV Γ C H d v):v=kV k:=by
 cases d with
 | int i=>cases h;exact r.intE
 | str x=>cases h;exact r.strE
 | _=>cases h
def bQ7 {κ:Type}(kf:mO->Option κ):Prop:=∀ {a b} {k},kf a=aT k->kf b=aT k->a=b
section
variable {κ:Type} [DecidableEq κ] {kf:mO->Option κ}
theorem RVD.val (J:bQ7 kf)(hk:kf d=aT k):∀ {l} {kvs},RVD kf Γ C H l kvs->(nB d l=bY/\aV5 kvs k=bY)\/∃ e v,nB d l=aT e/\aV5 kvs k=aT v/\RV Γ C H e v/\e∈l.map (·.2)
 | [],kvs,h=>by
  have h:=h;subst h;exact .inl ⟨rfl,rfl⟩
 | (a,e)::l,kvs,h=>by
  obtain⟨Z,v,r,rfl,e2,e3,e4⟩:=h;by_cases z:a=d
  .subst z;rw[hk]at e2;cases e2;exact .inr ⟨e,v,by unfold nB;rw[ij rfl],am2 rfl,e3,by simp⟩
  .have zk:¬ Z=k:=λ q=>z (J e2 (by rw[q];exact hk));have e5:nB d ((a,e)::l)=nB d l:=by
    conv=>lhs;unfold nB
    rw[iF z]
   rw[e5,an5 (zk)];rcases RVD.val J hk e4 with q|⟨e',v',q1,q2,q3,Y⟩
   .exact .inl q
   .exact .inr ⟨e',v',q1,q2,q3,by simp at Y ⊢;exact .inr Y⟩
theorem RVD.repl (Y:bQ7 kf)(hk:kf d=aT k)(hv:RV Γ C H e v):∀ {l} {kvs},RVD kf Γ C H l kvs->RVD kf Γ C H (l.map λ p=>if p.1=d then(p.1,e)else p) (kvs.map λ J=>if J.1=k then(J.1,v)else J)
 | [],kvs,h=>by
  have h:=h;subst h;exact(rfl)
 | (a,e0)::l,kvs,h=>by
  obtain⟨Z,v0,r,rfl,e2,e3,e4⟩:=h;rw[aY,aY];by_cases z:a=d
  .subst z;rw[hk]at e2;cases e2;rw[ij rfl,ij rfl];exact⟨k,v,_,rfl,hk,hv,RVD.repl Y hk hv e4⟩
  .have zk:¬ Z=k:=λ q=>z (Y e2 (by rw[q];exact hk));rw[iF z,iF zk];exact⟨Z,v0,_,rfl,e2,e3,RVD.repl Y hk hv e4⟩
theorem RVD.snoc (Z:bQ7 kf)(hk:kf d=aT k)(hv:RV Γ C H e v):∀ {l} {kvs},RVD kf Γ C H l kvs->RVD kf Γ C H (l++[(d,e)]) (kvs++[(k,v)])
 | [],kvs,h=>by
  have h:=h;subst h;exact⟨k,v,[],rfl,hk,hv,rfl⟩
 | (a,e0)::l,kvs,h=>by
  obtain⟨J,v0,r,rfl,e2,z,Y⟩:=h;exact⟨J,v0,_,rfl,e2,z,RVD.snoc Z hk hv Y⟩
def RVD.put (J:bQ7 kf)(hk:kf d=aT k)(hv:RV Γ C H e v)(h:RVD kf Γ C H l kvs):RVD kf Γ C H (nE d e l) (az1 kvs k v):=by
 unfold nE az1;rw[ay6];rcases h.val J hk with⟨z,q2⟩|⟨e',v',z,q2,_⟩
 .rw[z,q2];exact h.snoc J hk hv
 .rw[z,q2];exact h.repl J hk hv
theorem RVD.get :∀ {l} {kvs} {i:Nat} {d e},RVD kf Γ C H l kvs->l[i]?=aT (d,e)->∃ k v,kvs[i]?=aT (k,v)/\kf d=aT k/\RV Γ C H e v
 | [],_,_,_,_,_,h=>by cases h
 | (a,b)::l,kvs,0,d,e,h,q=>by
  obtain⟨k,v,r,rfl,e2,z,J⟩:=h;cases q;exact⟨k,v,rfl,e2,z⟩
 | (a,b)::l,kvs,i+1,d,e,h,q=>by
  obtain⟨k,v,r,rfl,e2,z,J⟩:=h;exact RVD.get (i:=i) J (q)
theorem RVD.keys :∀ {l} {kvs},RVD kf Γ C H l kvs->∀ kv∈kvs,∃ d,kf d=aT kv.1
 | [],kvs,h,kv,hk=>by
  have h:=h;subst h;cases hk
 | (a,b)::l,kvs,h,kv,hk=>by
  obtain⟨k,v,r,rfl,e2,Y,J⟩:=h;rcases aw.mp hk with z|z
  .subst z;exact⟨a,e2⟩
  .exact RVD.keys J kv z
theorem RVD.length :∀ {l} {kvs},RVD kf Γ C H l kvs->kvs.length=l.length
 | [],kvs,h=>by
  have h:=h;subst h;rfl
 | (a,e)::l,kvs,h=>by
  obtain⟨Y,v,r,rfl,e2,J,z⟩:=h;rw[aQ,aQ,RVD.length z]
end
def bu1 (h:(DV.O.dc l).bnd n=ca)(hd:d.bnd n=ca)(z:e.bnd n=ca):(DV.O.dc (nE d e l)).bnd n=true:=by
 unfold mW at h ⊢;rw[aj]at h ⊢;obtain⟨Y,Z⟩:=h;have g1:=aa6.mp Y;have J:=aa6.mp Z;unfold nE;refine⟨aa6.mpr λ x hx=>?_,aa6.mpr λ x hx=>?_⟩
 .obtain⟨p,hp,rfl⟩:=aS.mp hx;split at hp
  .obtain⟨q,hq,rfl⟩:=aS.mp hp;split
   .exact g1 _ (bL (f:=(·.1)) hq)
   .exact g1 _ (bL hq)
  .rcases aE.mp hp with q|q
   .exact g1 _ (bL q)
   .rw[az.mp q];exact hd
 .obtain⟨p,hp,rfl⟩:=aS.mp hx;split at hp
  .obtain⟨q,hq,rfl⟩:=aS.mp hp;split
   .exact z
   .exact J _ (bL hq)
  .rcases aE.mp hp with q|q
   .exact J _ (bL q)
   .rw[az.mp q];exact z
section
variable {X:Cx} {pins:yA} {W:St} {H:Hp} {sh:af} {C:Nat->Addr} {s:mM}
def bT6 (J:RV Γ C H a x)(z:RV Γ C H b x)(n1:nJ s a≠9)(Y:nJ s b≠9):a=b:=by
 cases a with
 | N=>have e:=J.nonE;subst e;cases b with
  | N=>rfl
  | T _=>cases z.blE
  | int _=>cases z.intE
  | str _=>cases z.strE
  | _=>exact nc rfl Y
 | T p=>have e:=J.blE;subst e;cases b with
  | N=>cases z.nonE
  | T _=>cases z.blE;rfl
  | int _=>cases z.intE
  | str _=>cases z.strE
  | _=>exact nc rfl Y
 | int p=>have e:=J.intE;subst e;cases b with
  | N=>cases z.nonE
  | T _=>cases z.blE
  | int _=>cases z.intE;rfl
  | str _=>cases z.strE
  | _=>exact nc rfl Y
 | str p=>have e:=J.strE;subst e;cases b with
  | N=>cases z.nonE
  | T _=>cases z.blE
  | int _=>cases z.intE
  | str q =>
   have e':p.toArray=q.toArray:=Str.mk.inj (V.str.inj z.strE);have Z:p=q:=by simpa using congrArg jM e'
   rw[Z]
  | _=>exact nc rfl Y
 | _=>exact nc rfl n1
def eqAtom_out (h:oO s a b=aT z):oP a b=aT z\/(oP a b=bY/\oQ (nJ s a) (nJ s b)=dr/\z=dr):=by
 unfold oO at h;cases e:oP a b with
 | some w=>rw[e]at h;exact .inl h
 | none =>
  rw[e]at h;cases q:oQ (nJ s a) (nJ s b)with
  | true=>rw[q]at h;cases h
  | false=>rw[q]at h;exact .inr ⟨rfl,rfl,(aM h).symm⟩
def bl7 (h:oP a b=aT z):nJ s a≠9/\nJ s b≠9:=by
 cases a<;>cases b<;>first|(cases h;done)|(constructor<;>(intro z;cases z))
def bj2 (h:oO s a b=aT z):nJ s a≠9/\nJ s b≠9:=by
 rcases eqAtom_out h with h|⟨_,h,_⟩
 .exact bl7 h
 .unfold oQ at h;simp only[iX,beq_eq_false_iff_ne]at h;exact⟨h.1.1,h.1.2⟩
end
variable {Γ:Gm}
inductive Vw (sh:af):Nat->Value->Prop where
 | N:Vw sh 0 .none
 | T (b:Bool):Vw sh 1 (.bool b)
 | int (i:Int) (t:Tok):Vw sh 1 (.int i t)
 | str (x:Str) (t:Tok):Vw sh 2 (.str x t)
def Vw.eq (a:Vw sh k u)(b:Vw sh J v)(z:k≠J)(hu:A.units<cLine):ip A sh u v false:=by
 cases a with
 | N=>cases b with
  | N=>exact nc rfl z
  | T b=>exact SeqAt.EqAt.none_bool b
  | int i t=>exact jh i t
  | str x t=>exact ji x t
 | T a=>cases b with
  | N=>exact SeqAt.EqAt.bool_none a
  | T b=>exact nc rfl z
  | int i t=>exact nc rfl z
  | str x t=>exact SeqAt.EqAt.bool_str a x t
 | int a q=>cases b with
  | N=>exact jj a q
  | T b=>exact nc rfl z
  | int i t=>exact nc rfl z
  | str x t=>exact jv a q x t
 | str a q=>cases b with
  | N=>exact jk a q
  | T b=>exact SeqAt.EqAt.str_bool a q b
  | int i t=>exact jw a q i t
  | str x t=>exact nc rfl z
def Vw.rc (a:Vw sh k u)(b:Vw sh J v)(z:k≠J)(hu:A.units<cLine):mJ A sh u v false:=by
 cases a with
 | N=>cases b with
  | N=>exact nc rfl z
  | T b=>exact SeqAt.RcAt.none_bool b
  | int i t=>exact SeqAt.RcAt.none_int i t
  | str x t=>exact SeqAt.RcAt.none_str x t
 | T a=>cases b with
  | N=>exact SeqAt.RcAt.bool_none a
  | T b=>exact nc rfl z
  | int i t=>exact nc rfl z
  | str x t=>exact SeqAt.RcAt.bool_str a x t
 | int a q=>cases b with
  | N=>exact SeqAt.RcAt.int_none a q
  | T b=>exact nc rfl z
  | int i t=>exact nc rfl z
  | str x t=>exact SeqAt.RcAt.int_str a q x t
 | str a q=>cases b with
  | N=>exact SeqAt.RcAt.str_none a q
  | T b=>exact SeqAt.RcAt.str_bool a q b
  | int i t=>exact SeqAt.RcAt.str_int a q i t
  | str x t=>exact nc rfl z
def Vw.ne (a:Vw sh k u)(b:Vw sh J v)(z:k≠J)(hu:A.units<cLine):lY A sh u v true:=by
 cases a with
 | N=>cases b with
  | N=>exact nc rfl z
  | T b=>exact SeqAt.RcNeAt.none_bool b
  | int i t=>exact SeqAt.RcNeAt.none_int i t
  | str x t=>exact SeqAt.RcNeAt.none_str x t
 | T a=>cases b with
  | N=>exact SeqAt.RcNeAt.bool_none a
  | T b=>exact nc rfl z
  | int i t=>exact nc rfl z
  | str x t=>exact SeqAt.RcNeAt.bool_str a x t
 | int a q=>cases b with
  | N=>exact SeqAt.RcNeAt.int_none a q
  | T b=>exact nc rfl z
  | int i t=>exact nc rfl z
  | str x t=>exact SeqAt.RcNeAt.int_str a q x t
 | str a q=>cases b with
  | N=>exact SeqAt.RcNeAt.str_none a q
  | T b=>exact SeqAt.RcNeAt.str_bool a q b
  | int i t=>exact SeqAt.RcNeAt.str_int a q i t
  | str x t=>exact nc rfl z
def ca6 (a b:List Nat):((⟨a.toArray⟩:Str)==⟨b.toArray⟩)=(a==b):=by
 by_cases e:a=b
 .subst e;simp
 .have:(⟨a.toArray⟩:Str)≠⟨b.toArray⟩:=λ q=>e (by simpa using congrArg (λ z=>z.cps.toList) q);rw[beq_eq_false_iff_ne.mpr this,beq_eq_false_iff_ne.mpr e]
structure Cmp (A:aV)(sh:af)(u v:Value)(z:Bool):Prop where
 rc:mJ A sh u v z
 ne:lY A sh u v (!z)
section
variable {X:Cx} {pins:yA} {W:St} {H:Hp} {sh:af} {C:Nat->Addr} {s:mM}
def bP6 (I:Inv X pins W H sh)(z:X.K=Γ.K)(R:Rp Γ C H s)(h:RV Γ C H d x)(r:RelV x u)(hk:nJ s d≠9):Vw sh (nJ s d) u:=by
 cases d with
 | N=>have e:=h.nonE;subst e;cases r;exact .N
 | T b=>have e:=h.blE;subst e;cases r;exact .T b
 | int i=>have e:=h.intE;subst e;obtain⟨t,rfl⟩:=r;exact .int i t
 | str y=>have e:=h.strE;subst e;obtain⟨t,rfl⟩:=r;exact .str _ t
 | _=>exact nc rfl hk
def bh8 (I:Inv X pins W H sh)(hK:X.K=Γ.K)(R:Rp Γ C H s)(h:oO s a b=aT z)(J:RV Γ C H a x)(Y:RV Γ C H b y)(r1:RelV x u)(Z:RelV y v)(hu:A.units<cLine) :
  ip A sh u v z/\Cmp A sh u v z:=by
 rcases eqAtom_out h with h|⟨_,hn,hz⟩
 .cases a<;>cases b<;>try cases h
  .cases J.nonE;cases Y.nonE;cases r1;cases Z;exact⟨kD _,SeqAt.RcAt.none_none,SeqAt.RcNeAt.none_none⟩
  .cases J.blE;cases Y.blE;cases r1;cases Z;exact⟨iU _ _,SeqAt.RcAt.bool_bool _ _,SeqAt.RcNeAt.bool_bool _ _⟩
  .cases J.blE;cases Y.intE;cases r1;obtain⟨t',rfl⟩:=Z;exact⟨SeqAt.EqAt.bool_int _ _ _,SeqAt.RcAt.bool_int _ _ _,SeqAt.RcNeAt.bool_int _ _ _⟩
  .cases J.intE;cases Y.blE;obtain⟨t,rfl⟩:=r1;cases Z;exact⟨SeqAt.EqAt.int_bool _ _ _,SeqAt.RcAt.int_bool _ _ _,SeqAt.RcNeAt.int_bool _ _ _⟩
  .cases J.intE;cases Y.intE;obtain⟨t,rfl⟩:=r1;obtain⟨t',rfl⟩:=Z;exact⟨SeqAt.EqAt.int_int _ _ _ _,SeqAt.RcAt.int_int _ _ _ _,SeqAt.RcNeAt.int_int _ _ _ _⟩
  .cases J.strE;cases Y.strE;obtain⟨t,rfl⟩:=r1;obtain⟨t',rfl⟩:=Z;rw[<-ca6];exact⟨SeqAt.EqAt.str_str _ _ _ _,SeqAt.RcAt.str_str _ _ _ _,SeqAt.RcNeAt.str_str _ _ _ _⟩
 .subst hz;unfold oQ at hn;simp only[iX,beq_eq_false_iff_ne]at hn;have w1:=bP6 I hK R J r1 hn.1.1;have w2:=bP6 I hK R Y Z hn.1.2;exact⟨w1.eq w2 hn.2 hu,w1.rc w2 hn.2 hu,w1.ne w2 hn.2 hu⟩
def aX8 (I:Inv X pins W H sh)(Z:X.K=Γ.K)(R:Rp Γ C H s):∀ n a b x y u v A z ,nO s n a b=aT z->RV Γ C H a x->RV Γ C H b y->RelV x u->RelV y v->Room n A ->
  ip A sh u v z/\Cmp A sh u v z:=λ n a b x y u v A z h J Y r1 r2 hr=>bh8 I Z R h J Y r1 r2 hr.units0
end
variable {Γ:Gm} {X:Cx}
noncomputable def ci9:o8->Operator
 | .add=>.Add|.sub=>.Sub|.mul=>.Mult|.fdiv=>.FloorDiv|.mod=>.Mod|.pow=>.Pow|.shl=>.LShift|.shr=>.RShift|.band=>.BitAnd|.bor=>.BitOr
noncomputable def as3:oA->CmpOp
 | .eq=>.Eq|.ne=>.NotEq|.lt=>.Lt|.le=>.LtE|.gt=>.Gt|.ge=>.GtE|.isin=>.In|.notin=>.NotIn
def rOp (Γ:Gm)(f:mO->mO->mM->mU mO):R2:=λ x y H Q=>∃ C s a b d s',Rp Γ C H s/\RV Γ C H a x/\RV Γ C H b y/\a.bnd s.length=ca/\b.bnd s.length=ca/\f a b s=.ok d s'/\ae9 Γ C s H d s' Q
def qh (h:oS d s=.ok e t):d=e/\s=t:=by
 unfold oS at h;cases h;exact⟨rfl,rfl⟩
def qq (h:ol o s=.ok e t):e=.ref s.length/\t=s++[o]:=by
 unfold ol at h;cases h;exact⟨rfl,rfl⟩
def aY2 (a b:List Nat):(⟨a.toArray⟩:Str)++⟨b.toArray⟩=⟨(a++b).toArray⟩:=by
 show Str.append _ _=_;unfold Str.append;simp
def qk:nh<=aX:=by rw[dZ];decide
def bK3:OpR X (dz .LShift) (rI (λ i j=>0<=j/\j<=1000000/\i.natAbs<2^128) λ i j=>.int (i*2^j.toNat)):=opI λ _ _ _ _ _ _ _ hc q=>lshift_int hc.1 (by
 have h:=intBits_le hc.2.2;have z:=hc.2.1;lia) q
def bC6:OpR X (dz .Mult) (rI (λ i j=>DV.mulOk i j=ca) λ i j=>.int (i*j)):=opI λ i j _ _ _ _ _ hc q=>mul_int q (by
 unfold DV.mulOk at hc;simp only[bz,aj,oR]at hc;rcases hc with(h|h)|⟨z,J⟩
 .exact cf9.ok (.inl (by omega))
 .exact cf9.ok (.inr (by omega))
 .unfold DV.BIG at z J;exact IntMulOk.of_le (intBits_le_iff.mpr z) (intBits_le_iff.mpr J) (by decide))
def bn7 (hx:0<=x)(hy:0<=y):gI x y=((x.toNat ||| y.toNat)):=by
 have nn:∀ z:Int,fe (fe z)=z:=λ z=>by unfold fe;lia
 unfold gI;rw[bitAnd_nn (by unfold fe;lia) (by unfold fe;lia),nn,nn,nn]
set_option tactic.hygienic true in
def cd2 (hK:X.K=Γ.K) op :OpR X (dz (ci9 op)) (rOp Γ (DV.qi op)):=by
 intro J s W H x y v u Q I rx Z h;obtain⟨C,st,a,b,d,a0,R,ha,hb,na,nb,z,q⟩:=h;cases op with
 | add =>
  cases a with
  | int a =>
   cases b with
   | int b =>
    obtain⟨rfl,rfl⟩:=qh z;have ex:=ha.intE;have Y:=hb.intE;subst ex;subst Y;exact ca4 J s W H _ _ v u Q I rx Z ⟨_,_,rfl,rfl,q.here R rfl RV.intI⟩
   | _=>exact fb z
  | str a =>
   cases b with
   | str b =>
    change(if _ then _ else _:oB mO) st=_ at z;split at z
    .rename_i hl;obtain⟨rfl,rfl⟩:=qh z;have ex:=ha.strE;have Y:=hb.strE;subst ex;subst Y;refine aT3 J s W H _ _ v u Q I rx Z ⟨_,_,rfl,rfl,?_,?_⟩
     .show a.toArray.size+b.toArray.size<=_;simp only[ay];exact ak hl qk
     .rw[aY2];exact q.here R rfl (RV.strI (by rw[au];exact hl))
    .exact fb z
   | _=>exact fb z
  | ref a =>
   cases b with
   | ref b =>
    change(match st[a]?,st[b]? with|some (DV.O.J l),aT (DV.O.J m)=>if l.length+m.length<=nh then ol (.J (l++m)) st else .B|_,_=>.B:mU mO)=_ at z;split at z
    .rename_i l m h1 h2;split at z
     .rename_i hl;obtain⟨rfl,rfl⟩:=qq z;obtain⟨xs,e1,d1⟩:=R.addr h1;obtain⟨ys,e2,d2⟩:=R.addr h2;have ex:=ha.refE;have Y:=hb.refE;subst ex;subst Y;have b1:=R.wf _ _ h1;have b2:=R.wf _ _ h2;unfold mW at b1 b2;refine bx8 J s W H _ _ v u Q I rx Z ⟨C a,C b,xs,ys,rfl,rfl,e1,e2,?_,λ p hp=>?_⟩
      .rw[d1.length,d2.length];exact ak hl qk
      .exact q.alloc R (d1.append d2) (qf b1 b2) hp
     .exact fb z
    .exact fb z
   | _=>exact fb z
  | _=>exact fb z
 | sub =>
  cases a with
  | int a =>
   cases b with
   | int b =>
    obtain⟨rfl,rfl⟩:=qh z;have ex:=ha.intE;have Y:=hb.intE;subst ex;subst Y;exact cc6 J s W H _ _ v u Q I rx Z ⟨_,_,rfl,rfl,q.here R rfl RV.intI⟩
   | _=>exact fb z
  | _=>exact fb z
 | mul =>
  cases a with
  | int a =>
   cases b with
   | int b =>
    change(if _ then _ else _:oB mO) st=_ at z;split at z
    .rename_i hc;obtain⟨rfl,rfl⟩:=qh z;have ex:=ha.intE;have Y:=hb.intE;subst ex;subst Y;exact bC6 J s W H _ _ v u Q I rx Z ⟨_,_,rfl,rfl,hc,q.here R rfl RV.intI⟩
    .exact fb z
   | _=>exact fb z
  | _=>exact fb z
 | fdiv =>
  cases a with
  | int a =>
   cases b with
   | int b =>
    change(if _ then _ else _:oB mO) st=_ at z;split at z
    .rename_i hc;obtain⟨rfl,rfl⟩:=qh z;have ex:=ha.intE;have Y:=hb.intE;subst ex;subst Y;refine bu5 J s W H _ _ v u Q I rx Z ⟨_,_,rfl,rfl,⟨hc.1,?_⟩,q.here R rfl RV.intI⟩;have:=hc.2;unfold DV.DIVL at this;simpa using this
    .exact fb z
   | _=>exact fb z
  | _=>exact fb z
 | mod =>
  cases a with
  | int a =>
   cases b with
   | int b =>
    change(if _ then _ else _:oB mO) st=_ at z;split at z
    .rename_i hc;obtain⟨rfl,rfl⟩:=qh z;have ex:=ha.intE;have Y:=hb.intE;subst ex;subst Y;exact cb2 J s W H _ _ v u Q I rx Z ⟨_,_,rfl,rfl,hc,q.here R rfl RV.intI⟩
    .exact fb z
   | _=>exact fb z
  | _=>exact fb z
 | pow =>
  cases a with
  | int a =>
   cases b with
   | int b =>
    change(if _ then _ else _:oB mO) st=_ at z;split at z
    .rename_i hc;obtain⟨rfl,rfl⟩:=qh z;have ex:=ha.intE;have Y:=hb.intE;subst ex;subst Y;exact bX4 J s W H _ _ v u Q I rx Z ⟨_,_,rfl,rfl,hc,q.here R rfl RV.intI⟩
    .exact fb z
   | _=>exact fb z
  | _=>exact fb z
 | shl =>
  cases a with
  | int a =>
   cases b with
   | int b =>
    change(if _ then _ else _:oB mO) st=_ at z;split at z
    .rename_i hc;obtain⟨rfl,rfl⟩:=qh z;have ex:=ha.intE;have Y:=hb.intE;subst ex;subst Y;exact bK3 J s W H _ _ v u Q I rx Z ⟨_,_,rfl,rfl,hc,q.here R rfl RV.intI⟩
    .exact fb z
   | _=>exact fb z
  | _=>exact fb z
 | shr =>
  cases a with
  | int a =>
   cases b with
   | int b =>
    change(if _ then _ else _:oB mO) st=_ at z;split at z
    .rename_i hc;obtain⟨rfl,rfl⟩:=qh z;have ex:=ha.intE;have Y:=hb.intE;subst ex;subst Y;exact bQ4 J s W H _ _ v u Q I rx Z ⟨_,_,rfl,rfl,hc,q.here R rfl RV.intI⟩
    .exact fb z
   | _=>exact fb z
  | _=>exact fb z
 | band =>
  cases a with
  | int a =>
   cases b with
   | int b =>
    change(if _ then _ else _:oB mO) st=_ at z;split at z
    .rename_i hc;obtain⟨rfl,rfl⟩:=qh z;have ex:=ha.intE;have Y:=hb.intE;subst ex;subst Y;exact bO0 J s W H _ _ v u Q I rx Z ⟨_,_,rfl,rfl,hc,q.here R rfl RV.intI⟩
    .exact fb z
   | _=>exact fb z
  | _=>exact fb z
 | bor =>
  cases a with
  | int a =>
   cases b with
   | int b =>
    change(if _ then _ else _:oB mO) st=_ at z;split at z
    .rename_i hc;obtain⟨rfl,rfl⟩:=qh z;have ex:=ha.intE;have Y:=hb.intE;subst ex;subst Y;exact cj6 J s W H _ _ v u Q I rx Z ⟨_,_,rfl,rfl,by show Q (V.int (gI a b)) H;rw[bn7 hc.1 hc.2];exact q.here R rfl RV.intI⟩
    .exact fb z
   | _=>exact fb z
  | _=>exact fb z
variable {Γ:Gm} {X:Cx} {pins:yA} {W:St} {H:Hp} {sh:af} {C:Nat->Addr} {s:mM}
def bz1 (h:nO s n a b=aT z):nJ s a≠9:=(bj2 h).1
def bb7 (I:Inv X pins W H sh)(Y:X.K=Γ.K)(R:Rp Γ C H s):∀ n a b c x p q ,RV Γ C H a x->RV Γ C H b x->nO s n a c=aT p->nO s n b c=aT q->p=q:=by
 intro n a b c x p q z J e1 e2;have e:=bT6 z J (bz1 e1) (bz1 e2);subst e;rw[e1]at e2;exact aM e2
theorem bz8 :∀ {l} {z},om s x l=aT z->∃ e:Nat->Bool,(∀ j d,l[j]?=aT d->nO s nu d x=aT (e j))/\(z=ca↔∃ j,j<l.length/\e j=ca)
 | [],z,h=>by
  unfold om at h;cases h;exact⟨λ _=>ca,λ j d h=>by simp at h,by simp⟩
 | y::l,z,h=>by
  unfold om at h;cases e1:nO s nu y x with
  | none=>rw[e1]at h;cases h
  | some a =>
   cases e2:om s x l with
   | none=>rw[e1,e2]at h;cases h
   | some b =>
    rw[e1,e2]at h;obtain⟨e,J,Y⟩:=bz8 e2;refine⟨λ j=>match j with|0=>a|j+1=>e j,λ j d g=>?_,?_⟩
    .cases j with
     | zero=>simp at g;subst g;exact e1
     | succ j=>exact J j d (by simpa using g)
    .have hz:=aM h;rw[<-hz,bz,Y];constructor
     .rintro(q|⟨j,hj,q⟩)
      .exact⟨0,by simp,q⟩
      .exact⟨j+1,by simpa using hj,q⟩
     .rintro⟨j,hj,q⟩
      cases j with
      | zero=>exact .inl q
      | succ j=>exact .inr ⟨j,by simpa using hj,q⟩
def bS3 (I:Inv X pins W H sh)(hK:X.K=Γ.K)(R:Rp Γ C H s)(hx:RV Γ C H x xv)(rx:RelV xv xu){its:yH}(hl:RVL Γ C H l ys)(hv:Vals ys its)(h:om s x l=aT z)(hr:Room nu A) :
  ∃ e:Value->Bool,(∀ y,y∈its.toArray->ip A sh y xu (e y))/\its.toArray.any e=z:=by
 obtain⟨e,h1,h2⟩:=bz8 h;have len:its.length=l.length:=by rw[<-hv.length];exact hl.length
 have J:∀ j u,its[j]?=aT u->∃ d y,l[j]?=aT d/\ys[j]?=aT y/\RV Γ C H d y/\RelV y u:=λ j u g=>by
  have hj:j<l.length:=by rw[<-len];exact(ac.mp g).1
  obtain⟨y,g1,g2⟩:=hl.get (ag hj);obtain⟨u',Y,g4⟩:=hv.get g1;rw[g]at Y;cases Y;exact⟨_,y,ag hj,g1,g2,g4⟩
 classical
 let f:Value->Bool:=λ u=>decide (∃ j,its[j]?=aT u/\e j=ca)
 have hf:∀ j u,its[j]?=aT u->f u=e j:=λ j u g=>by
  obtain⟨d,y,g1,g2,Y,g4⟩:=J j u g;cases q:e j with
  | true=>exact iN ⟨j,g,q⟩
  | false =>
   refine js λ⟨k,g',q'⟩=>?_;obtain⟨d',y',k1,k2,k3,k4⟩:=J k u g';have ey:y'=y:=k4.inj g4;subst ey;have:=bb7 I hK R _ d d' x _ _ _ Y k3 (h1 j d g1) (h1 k d' k1);rw[q,q']at this;cases this
 refine⟨f,λ u hu=>?_,?_⟩
 .obtain⟨j,hj,g⟩:=cJ.mp (by simpa using hu:u∈its);have g':its[j]?=aT u:=by rw[ag hj,g]
  obtain⟨d,y,g1,g2,Y,g4⟩:=J j u g';rw[hf j u g'];exact(aX8 I hK R _ d x y xv u xu A _ (h1 j d g1) Y hx g4 rx hr).1
 .have e1:its.toArray.any f=ca↔z=true:=by
   rw[h2,List.any_toArray,ki];constructor
   .rintro⟨u,hu,q⟩
    obtain⟨j,hj,g⟩:=cJ.mp hu;have g':its[j]?=aT u:=by rw[ag hj,g]
    exact⟨j,by lia,by rw[<-hf j u g'];exact q⟩
   .rintro⟨j,hj,q⟩
    have Z:j<its.length:=by lia
    exact⟨its[j],ef Z,by rw[hf j _ (ag Z)];exact q⟩
  cases z<;>cases q:its.toArray.any f
  .rfl
  .have:=e1.mp q;cases this
  .rw[q]at e1;have:=e1.mpr rfl;cases this
  .rfl
variable {Γ:Gm} {X:Cx}
def aa1 {r:mU α}{b:β}(h:r.bind f=.ok b t):∃ a s,r=.ok a s/\f a s=.ok b t:=DV.R.bind_inv h
set_option tactic.hygienic true in
def by8 (hK:X.K=Γ.K)(hr:Room (nu+1) X.A)(Y:Bool){st }
  (I:Inv X Z W H sh) (rx:RelV x v) (ry:RelV y u) (R:Rp Γ C H st) (ha:RV Γ C H a x) (hb:RV Γ C H b y) (J:oU a b st=.ok z a1) :
  a1=st/\∀ Q:Value->af->Prop,(∀ a2,Inv X Z W H a2->Q (.bool (if Y then !z else z)) a2)->wpAny (model X.prog X.w) X.A (cY (if Y then .NotIn else .In) v u) Q X.xe sh:=by
 unfold oU at J;cases b with
 | tp l =>
  simp only at J;cases e:om st a l with
  | none=>rw[e]at J;cases J
  | some w =>
   rw[e]at J;cases J;obtain⟨p,ys,rfl,q,d⟩:=hb.tupE;cases ry;rw[<-hK]at q;obtain⟨its,rv,t,_⟩:=I.tuple q;obtain⟨f,h1,h2⟩:=bS3 I hK R ha rx d rv e (A:=X.A.in1) hr.in1;refine⟨rfl,λ Q hq=>?_⟩;cases Y with
   | false=>exact SeqAt.in_tupleAt f t h1 (by rw[h2];exact hq _ I)
   | true=>exact SeqAt.notIn_tupleAt f t h1 (by rw[h2];exact hq _ I)
 | str y0 =>
  simp only at J;split at J
  case h_2=>exact fb J
  rename_i c;cases J;refine⟨rfl,λ Q hq=>?_⟩;have e1:=ha.strE;have e2:=hb.strE;subst e1 e2;obtain⟨t1,rfl⟩:=rx;obtain⟨t2,rfl⟩:=ry;have a0:=lU (⟨y0.toArray⟩:Str) c;cases Y with
  | false=>exact in_str (by rw[show(⟨[c].toArray⟩:Str)=⟨#[c]⟩from rfl,a0];simpa using hq _ I)
  | true=>exact notIn_str (by rw[show(⟨[c].toArray⟩:Str)=⟨#[c]⟩from rfl,a0];simpa using hq _ I)
 | _=>exact fb J
def bX9 {st }(h:DV.zh .le a b st=.ok d z):∃ i j,a=.int i/\b=.int j:=by
 cases a with
 | int i =>
  (cases b with
  | int j=>exact⟨i,j,rfl,rfl⟩
  | _=>exact fb h)
 | _=>exact fb h
def aB8 (h:DV.br4 a=aT (i,x)):a=.tp [.int i,.str x]:=by
 unfold DV.br4 at h;split at h
 .cases h;rfl
 .cases h
set_option tactic.hygienic true in
def bm4 {st }(h:DV.cn4 f a b st=.ok d z):∃ i x j y,a=.tp [.int i,.str x]/\b=.tp [.int j,.str y]:=by
 unfold DV.cn4 at h;split at h
 .rename_i i x j y e1 e2;exact⟨i,x,j,y,aB8 e1,aB8 e2⟩
 .exact fb h
def ord_inv {st :mM}(ho:op=.lt\/op=.gt\/op=.ge)(h:DV.zh op a b st=.ok d z):(∃ i j,a=.int i/\b=.int j)\/∃ i x j y,a=.tp [.int i,.str x]/\b=.tp [.int j,.str y]:=by
 rcases ho with rfl|rfl|rfl <;>
 (cases a with
 | int i =>
  (cases b with
  | int j=>exact .inl ⟨i,j,rfl,rfl⟩
  | _=>exact fb h)
 | tp l =>
  (cases b with
  | tp m=>first|exact .inr (bm4 h)|exact fb h
  | _=>exact fb h)
 | _=>exact fb h)
section
variable {pins:yA} {sh:af} {W:St} {H:Hp} {C:Nat->Addr} {st:mM}
end
def bk1 (hK:X.K=Γ.K)(hr:Room (nu+1) X.A) op :OpR X (cY (as3 op)) (rOp Γ (DV.zh op)):=by
 intro Y s W H x y v u Q I rx ry h;obtain⟨C,st,a,b,d,Z,R,ha,hb,na,nb,J,q⟩:=h;cases op with
 | eq =>
  have J:DV.eqM a b st=.ok d Z:=J;unfold DV.eqM at J;cases e:nO st nu a b with
  | none=>rw[e]at J;cases J
  | some z =>
   rw[e]at J;cases J;exact(aX8 I hK R _ a b x y v u X.A z e ha hb rx ry (hr.mono (by lia))).2.rc X.prog X.w X.xe _ ⟨.T z,H,I,rfl,q.here R rfl RV.blI⟩
 | ne =>
  have J:(match nO st nu a b with|some r=>.ok (.T (!r)) st|none=>.B:mU mO)=.ok d Z:=J;cases e:nO st nu a b with
  | none=>rw[e]at J;cases J
  | some z =>
   rw[e]at J;cases J;exact(aX8 I hK R _ a b x y v u X.A z e ha hb rx ry (hr.mono (by omega))).2.ne X.prog X.w X.xe _ ⟨.T (!z),H,I,rfl,q.here R rfl RV.blI⟩
 | lt =>
  rcases ord_inv (.inl rfl) J with⟨i,j,rfl,rfl⟩|⟨i,x0,j,y0,rfl,rfl⟩
  .cases J;have ex:=ha.intE;have ey:=hb.intE;subst ex;subst ey;exact cm8 Y s W H _ _ v u Q I rx ry ⟨_,_,rfl,rfl,q.here R rfl RV.blI⟩
  .exact fb J
 | le =>
  obtain⟨i,j,rfl,rfl⟩:=bX9 J;cases J;have ex:=ha.intE;have ey:=hb.intE;subst ex;subst ey;exact ci1 Y s W H _ _ v u Q I rx ry ⟨_,_,rfl,rfl,q.here R rfl RV.blI⟩
 | gt =>
  rcases ord_inv (.inr (.inl rfl)) J with⟨i,j,rfl,rfl⟩|⟨i,x0,j,y0,rfl,rfl⟩
  .cases J;have ex:=ha.intE;have ey:=hb.intE;subst ex;subst ey;exact ch8 Y s W H _ _ v u Q I rx ry ⟨_,_,rfl,rfl,q.here R rfl RV.blI⟩
  .exact fb J
 | ge=>exact fb J
 | isin =>
  have J:=J;obtain⟨z,s1,e1,e2⟩:=aa1 J;obtain⟨rfl,w⟩:=by8 hK hr dr I rx ry R ha hb e1;cases e2;exact w _ λ s' I'=>⟨.T z,H,I',rfl,q.here R rfl RV.blI⟩
 | notin =>
  have J:=J;obtain⟨z,s1,e1,e2⟩:=aa1 J;obtain⟨rfl,w⟩:=by8 hK hr ca I rx ry R ha hb e1;cases e2;exact w _ λ s' I'=>⟨.T (!z),H,I',rfl,q.here R rfl RV.blI⟩
def bj9 (h:RVL Γ C H l z)(e:((nY l.length i).bind λ j=>l[j]?)=aT d):∃ v,atI z i=aT v/\RV Γ C H d v:=by
 cases hj:nY l.length i with
 | none=>rw[hj]at e;cases e
 | some j =>
  rw[hj]at e;obtain⟨v,e1,e2⟩:=h.get (e);refine⟨v,?_,e2⟩;unfold atI;have:ixN z.length i=aT j:=by rw[h.length];exact hj
  rw[this];exact e1
def aG9 {l:List mO}(e:((nY l.length i).bind λ j=>l[j]?)=aT d):d∈l:=by
 cases hj:nY l.length i with
 | none=>rw[hj]at e;cases e
 | some j=>rw[hj]at e;exact aP (e)
set_option tactic.hygienic true in
def ci0 (hK:X.K=Γ.K)(hu:X.A.units+2<cLine):IxR X (rOp Γ DV.ixM):=by
 intro Y J Z s W H x y v u Q I rx ry h hs;obtain⟨C,st,a,b,d,a0,R,ha,hb,na,nb,z,q⟩:=h;unfold DV.ixM at z;cases a with
 | tp l =>
  cases b with
  | int i =>
   simp only at z;split at z
   .rename_i d' e;cases z;obtain⟨p,xs,rfl,h1,d1⟩:=ha.tupE;have ey:=hb.intE;subst ey;obtain⟨w,e1,e2⟩:=bj9 d1 e;unfold mY at na;exact bH9 hK Y J Z s W H _ _ v u Q I rx ry ⟨p,xs,i,w,rfl,rfl,h1,e1,q.here R (aa6.mp na _ (aG9 e)) e2⟩ hs
   .exact fb z
  | _=>exact fb z
 | str l =>
  cases b with
  | int i =>
   simp only at z;split at z
   .rename_i c e;cases z;have hl:=ha.strL;have ex:=ha.strE;have ey:=hb.intE;subst ex;subst ey;exact ix_str Y J Z s W H _ _ v u Q I rx ry ⟨⟨l.toArray⟩,i,c,rfl,rfl,by show l.toArray.size<=_;rw[ay];exact ak hl qk,e,q.here R rfl (RV.strI (by simp;decide))⟩ hs
   .exact fb z
  | _=>exact fb z
 | ref r =>
  have ex:=ha.refE;subst ex;simp only at z;cases hsr:st[r]? with
  | none=>rw[hsr]at z;cases z
  | some o =>
   rw[hsr]at z;cases o with
   | J l =>
    cases b with
    | int i =>
     simp only at z;split at z
     .rename_i d' e;cases z;have ey:=hb.intE;subst ey;obtain⟨xs,e1,d1⟩:=R.addr hsr;obtain⟨w,e2,e3⟩:=bj9 d1 e;have wf:=R.wf _ _ hsr;unfold mW at wf;exact aQ5 hK Y J Z s W H _ _ v u Q I rx ry ⟨C r,xs,i,w,rfl,rfl,SqL.of e1,e2,q.here R (aa6.mp wf _ (aG9 e)) e3⟩ hs
     .exact fb z
    | _=>exact fb z
   | ro l =>
    cases b with
    | int i =>
     simp only at z;split at z
     .rename_i d' e;cases z;have ey:=hb.intE;subst ey;obtain⟨xs,e1,d1⟩:=R.obj _ _ hsr;obtain⟨w,e2,e3⟩:=bj9 d1 e;have wf:=R.wf _ _ hsr;unfold mW at wf;exact aQ5 hK Y J Z s W H _ _ v u Q I rx ry ⟨C r,xs,i,w,rfl,rfl,e1.1,e2,q.here R (aa6.mp wf _ (aG9 e)) e3⟩ hs
     .exact fb z
    | _=>exact fb z
   | dc l=>cases b<;>cases z
   | ins c l=>cases b<;>cases z
   | dicF l=>cases b<;>cases z
 | _=>cases b<;>cases z
def bg7 n d i :HT.sIx n d (aT i)=nT n i:=by
 show(if i<0 then(i+(n)).toNat else min i.toNat n)=_;unfold nT;by_cases h:i<0
 .rw[ij h,iF (by lia)]
 .rw[iF h,ij (by lia)]
def bz0 (h:RVL Γ C H l Y)(z J:Option Int):RVL Γ C H (nD l z J) (aU2 Y z J):=by
 unfold nD aU2;have e1:HT.sIx Y.length 0 z=nX l.length z:=by
  cases z with
  | none=>rfl
  | some i=>rw[bg7,h.length];rfl
 have e2:HT.sIx Y.length Y.length J=oC l.length J:=by
  cases J with
  | none=>exact h.length
  | some i=>rw[bg7,h.length];rfl
 rw[e1,e2];exact(h.drop _).take _
def aM3 :∀ d∈nD l z J,d∈l:=λ d hd=>iY (cK hd)
def bm9 (l:List α) z J :(nD l z J).length<=l.length:=by
 unfold nD;rw[bW,dA];lia
def cl9 z J n :bK z J 1 n=(aH (oC n J - nX n z)).map (nX n z+·):=by
 rw[<-sliceRange_one];unfold bK;have cl:∀ i:Int,max 0 (min (if i<0 then i+(n)else i) (n))=((nT n i)):=λ i=>by
  unfold nT;by_cases h:i<0
  .rw[ij h,iF (by omega)];omega
  .rw[iF h,ij (by omega)];omega
 simp only[if_true];cases z<;>cases J<;>simp only[cl,oC]<;>rfl
theorem aO7 {l:List Nat}:∀ a k ,a+k<=l.length->((aH k).map (a+·)).filterMap (λ x=>l.toArray[x]?)=(l.drop a).take k
 | a,0,_=>by simp
 | a,k+1,h=>by
  rw[kF,cu,List.filterMap_append,aO7 a k (by lia)];have hk:a+k<l.length:=by lia
  rw[j0,List.getElem?_drop];simp[hk]
def aW0 l z J :fM ⟨l.toArray⟩ z J=⟨(nD l z J).toArray⟩:=by
 unfold fM;have hn:(⟨l.toArray⟩:Str).length=l.length:=by show l.toArray.size=_;simp
 rw[hn,cl9];have hb:oC l.length J<=l.length:=by
  cases J with
  | none=>exact al _
  | some i=>show nT l.length i<=_;unfold nT;split<;>lia
 have ha:nX l.length z<=l.length:=by
  cases z with
  | none=>exact cW _
  | some i=>show nT l.length i<=_;unfold nT;split<;>lia
 unfold nD;generalize oC l.length J=b at *;generalize nX l.length z=a at *;by_cases hc:((1:Int)==1&&((aH (b - a)).map (a+·)).length==l.length)=ca
 .rw[ij hc];have:=by simpa using hc
  have h0:a=0\/l.length=0:=by lia
  rcases h0 with h0|h0
  .subst h0;rw[this];simp
  .have:=g6.mp h0;subst this;simp
 .rw[iF hc];by_cases hab:a<=b
  .have e:=aO7 (l:=l) a (b - a) (by omega);rw[e]
  .rw[show b - a=0 by lia];simp
def rSl (Γ:Gm):V->Option Int->Option Int->Hp->VK->Prop:=λ x lo hi H Q=>∃ C s a d s',Rp Γ C H s/\RV Γ C H a x/\a.bnd s.length=ca/\oE a lo hi s=.ok d s'/\ae9 Γ C s H d s' Q
def bN8 (hK:X.K=Γ.K):SlR X (rSl Γ):=by
 intro J s W H x v vl vu Z hi sl Q I rx hs pl pu h;obtain⟨C,st,a,d,a0,R,ha,na,Y,q⟩:=h;unfold oE at Y;cases a with
 | tp l =>
  cases Y;obtain⟨p,xs,⟨rfl,z1⟩,h1,d1⟩:=ha.tupZ;unfold mY at na;refine bN0 hK J s W H _ v vl vu Z hi sl Q I rx hs pl pu ⟨p,xs,rfl,h1,λ t H' e ht hn=>?_⟩;obtain⟨g,r'⟩:=R.same e;have d2:=bz0 (RVL.mono g _ _ na d1) Z hi;refine q _ _ _ g (al _) (by unfold mY;exact aQ1 na aM3) (RV.tupC ht (λ z=>?_) d2) r';rcases hn with hn|⟨rfl,ex⟩
  .exact hn
  .rw[ex];refine e _ _ (z1 ?_);have hl:(nD l Z hi).length=l.length:=by rw[<-d2.length,ex,d1.length]
   rwa [bh4 hl]at z
 | str l =>
  cases Y;have hl:=ha.strL;have ex:=ha.strE;subst ex;refine cd5 J s W H _ v vl vu Z hi sl Q I rx hs pl pu ⟨_,rfl,by show l.toArray.size<=_;rw[ay];exact ak hl qk,?_⟩;rw[aW0];exact q.here R rfl (RV.strI (ak (bm9 l Z hi) hl))
 | ref r =>
  have ex:=ha.refE;subst ex;simp only at Y;cases hsr:st[r]? with
  | none=>rw[hsr]at Y;cases Y
  | some o =>
   rw[hsr]at Y;cases o with
   | J l =>
    obtain⟨rfl,rfl⟩:=qq Y;obtain⟨xs,e1,d1⟩:=R.addr hsr;have wf:=R.wf _ _ hsr;unfold mW at wf;exact bn9 hK J s W H _ v vl vu Z hi sl Q I rx hs pl pu ⟨C r,xs,rfl,SqL.of e1,λ p hp=>q.alloc R (bz0 d1 Z hi) (aQ1 wf aM3) hp⟩
   | _=>exact fb Y
 | _=>exact fb Y
variable {Γ:Gm} {X:Cx}
def rCl (Γ:Gm)(f:List mO->mM->mU mO):List V->Hp->VK->Prop:=λ xs H Q=>∃ C s l d s',Rp Γ C H s/\RVL Γ C H l xs/\mP s.length l=ca/\f l s=.ok d s'/\ae9 Γ C s H d s' Q
def RVL.one (h:RVL Γ C H [d] z):∃ x,z=[x]/\RV Γ C H d x:=by
 obtain⟨x,r,rfl,J,Y⟩:=h.uncons;rw[Y.unnil];exact⟨x,rfl,J⟩
noncomputable def biN:nR->Option (String×Nat)
 | .len=>aT ("len",1)|.abs=>aT ("abs",1)|.min2=>aT ("min",2)|_=>bY
theorem z0:∀ {l} {is},nP l=aT is->l=is.map DV.D.int
 | [],is,h=>by unfold nP at h;cases h;rfl
 | d::l,is,h=>by
  cases d with
  | int i =>
   have h:(nP l).map (i::·)=aT is:=h;cases e:nP l with
   | none=>rw[e]at h;cases h
   | some m=>rw[e]at h;cases h;rw[z0 e];rfl
  | _=>cases h
theorem aq1:∀ {l} {is},on l=aT is->l=is.map DV.D.T
 | [],is,h=>by unfold on at h;cases h;rfl
 | d::l,is,h=>by
  cases d with
  | T i =>
   have h:(on l).map (i::·)=aT is:=h;cases e:on l with
   | none=>rw[e]at h;cases h
   | some m=>rw[e]at h;cases h;rw[aq1 e];rfl
  | _=>cases h
theorem RVL.ints :∀ {is:List Int} {z},RVL Γ C H (is.map DV.D.int) z->z=is.map V.int
 | [],_,h=>h.unnil
 | i::is,_,h=>by
  obtain⟨x,r,rfl,J,Y⟩:=RVL.uncons h;rw[J.intE,RVL.ints Y];rfl
theorem RVL.bls :∀ {is:List Bool} {z},RVL Γ C H (is.map DV.D.T) z->z=is.map V.T
 | [],_,h=>h.unnil
 | i::is,_,h=>by
  obtain⟨x,r,rfl,J,Y⟩:=RVL.uncons h;rw[J.blE,RVL.bls Y];rfl
def bi9 (h:oV f l s=.ok d s'):∃ a,l=[a]/\f a s=.ok d s':=by
 match l,h with
 | [a],h=>exact⟨a,rfl,h⟩
 | [],h=>exact fb h
 | _::_::_,h=>exact fb h
set_option tactic.hygienic true
def bF5 (Z:X.K=Γ.K)(hc:X.calm=ca)(hn:biN b=aT (nm,k)):ac4 X (.builtin nm) (rCl Γ (oK b)):=by
 intro z s W H xs us Q I r h;obtain⟨C,st,l,d,Y,R,hl,nl,J,q⟩:=h;cases b with
 | len =>
  cases hn;have J:=J;obtain⟨a,rfl,hg⟩:=bi9 J;clear J;obtain⟨x,rfl,hx⟩:=hl.one;unfold DV.bJ7 at hg;cases a with
  | tp l =>
   cases hg;obtain⟨p,ys,rfl,h1,d1⟩:=hx.tupE;refine ar0 Z z s W H _ us Q I r ⟨p,ys,rfl,.inr h1,?_⟩;rw[d1.length];exact q.here R rfl RV.intI
  | str l =>
   cases hg;have hL:=hx.strL;have e:=hx.strE;subst e;refine aD5 z s W H _ us Q I r ⟨_,rfl,by show l.toArray.size<=_;rw[ay];exact ak hL qk,?_⟩;show Q (.int ((l.toArray.size))) H;rw[ay];exact q.here R rfl RV.intI
  | ref n =>
   have e:=hx.refE;subst e;simp only at hg;cases hs:st[n]? with
   | none=>rw[hs]at hg;cases hg
   | some o =>
    rw[hs]at hg;cases o with
    | J l =>
     cases hg;obtain⟨ys,e1,d1⟩:=R.addr hs;refine ar0 Z z s W H _ us Q I r ⟨C n,ys,rfl,.inl (SqL.of e1),?_⟩;rw[d1.length];exact q.here R rfl RV.intI
    | ro l =>
     cases hg;obtain⟨ys,e1,d1⟩:=R.obj _ _ hs;refine ar0 Z z s W H _ us Q I r ⟨C n,ys,rfl,.inl e1.1,?_⟩;rw[d1.length];exact q.here R rfl RV.intI
    | dc l=>exact fb hg
    | ins c l=>exact fb hg
    | dicF l=>exact fb hg
  | _=>exact fb hg
 | abs =>
  cases hn;have J:(match nP l with|some [i]=>.ok (.int (if i<0 then -i else i)) st|_=>.B:mU mO)=.ok d Y:=J;split at J
  .rename_i i e;cases J;have:=z0 e;subst this;have:=RVL.ints hl;subst this;exact bn0 z s W H _ us Q I r ⟨i,rfl,q.here R rfl RV.intI⟩
  .exact fb J
 | min2 =>
  cases hn;have J:(match nP l with|some [a,b]=>.ok (.int (if b<a then b else a)) st|_=>.B:mU mO)=.ok d Y:=J;split at J
  .rename_i a b e;cases J;have:=z0 e;subst this;have:=RVL.ints hl;subst this;exact aX5 hc z s W H _ us Q I r ⟨_,_,rfl,q.here R rfl RV.intI⟩
  .exact fb J
 | _=>cases hn
def aN0:∀ j:Nat,j<=9->bj (toString (j:Int))=(⟨[48+j].toArray⟩):=by decide
def bU7:ac4 X (.type "int") (rCl Γ (oK .int)):=by
 intro J s W H xs us Q I r h;obtain⟨C,st,l,d,Z,R,hl,nl,z,q⟩:=h;have z:(match on l with|some [b]=>.ok (.int (if b then 1 else 0)) st|some _=>.B|none=>DV.bD6 l st:mU mO)=.ok d Z:=z;split at z
 .rename_i b e;cases z;have:=aq1 e;subst this;have:=RVL.bls hl;subst this;exact aZ1 J s W H _ us Q I r (.inr ⟨b,rfl,q.here R rfl RV.intI⟩)
 .exact fb z
 .unfold DV.bD6 at z;split at z
  .rename_i c _ _;split at z
   .rename_i hc;cases z;obtain⟨x,Y,rfl,r1,r2⟩:=hl.uncons;cases(r2);have:=r1.strE;subst this;obtain⟨u,rfl,t,rfl⟩:=qI r;obtain⟨j,hj,rfl⟩:∃ j,j<=9/\c=48+j:=⟨c - 48,by omega,by omega⟩
    rw[(aN0 j hj).symm];refine PySem.W.KIN.call_num (by lia) (by lia) ⟨.int (j),H,I.tok _,⟨_,rfl⟩,?_⟩;have:=q.here R rfl (RV.intI );rw[show 48+j - 48=j by lia]at this;exact this
   .exact fb z
  .exact fb z
def cd7:ac4 X (.type "str") (rCl Γ (oK .str)):=by
 intro a0 s W H xs us Q I r h;obtain⟨C,st,l,d,Z,R,hl,nl,z,q⟩:=h;have z:DV.bN6 l st=.ok d Z:=z;unfold DV.bN6 at z;split at z
 .rename_i i _;split at z
  .rename_i hi;cases z;obtain⟨x,J,rfl,r1,Y⟩:=hl.uncons;cases(Y);have:=r1.intE;subst this;obtain⟨u,rfl,t,rfl⟩:=qI r;obtain⟨j,rfl⟩:∃ j:Nat,i=(j):=⟨i.toNat,by lia⟩
   have hj:j<=9:=by lia
   refine PySem.P.str_of_int ?_ ⟨.str ⟨[48+j].toArray⟩,H,I.tok _,⟨s.toks,?_⟩,?_⟩
   .have:(j:Int).natAbs.log2<=(j:Int).natAbs:=Nat.log2_le_self _;lia
   .rw[<-aN0 j hj]
   .have:=q.here R rfl (RV.strI (by show 1<=nh;decide));rw[bR]at this;exact this
  .exact fb z
 .rename_i w _;cases z;obtain⟨x,J,rfl,r1,Y⟩:=hl.uncons;cases(Y);have e:=r1.strE;subst e;obtain⟨u,rfl,t,rfl⟩:=qI r;refine PySem.P.str_of_str ⟨.str ⟨w.toArray⟩,H,I,⟨_,rfl⟩,?_⟩;unfold mP at nl;exact q.here R rfl r1
 .exact fb z
set_option tactic.hygienic false
noncomputable def as6:Nat->String
 | 1 => "int" | 2 => "bool" | 3 => "str" | 4 => "tuple" | _ => "list"
def bI9 {K} k (hk:1<=k/\k<=5):bo K (.type "NoneType") (.type (as6 k))=aT dr/\bo K (.type "bool") (.type (as6 k))=aT (k==1||k==2) /\
  bo K (.type "int") (.type (as6 k))=aT (k==1)/\bo K (.type "str") (.type (as6 k))=aT (k==3)/\bo K (.type "tuple") (.type (as6 k))=aT (k==4)/\bo K (.type "list") (.type (as6 k))=aT (k==5):=by
 obtain⟨J,z⟩:=hk;rcases(by lia:k=1\/k=2\/k=3\/k=4\/k=5)with h|h|h|h|h<;>subst h<;>refine⟨?_,?_,?_,?_,?_,?_⟩<;>with_unfolding_all rfl
def aS1 {s}{E:yB}{Q:yB}(I:Inv X J W H s)(Z:SqT X.K H a xs)(e:bo X.K (.type "tuple") c=aT b)
  (h:∀ tk,Q (.bool b) { s with toks:=tk }):wpAny (model X.prog X.w) A (call (.builtin "isinstance") [.ref a,c]) Q E s:=by
 obtain⟨its,_,⟨o,g1,Y,_⟩,_⟩:=I.tuple Z;exact bN jz I.kIn ⟨o,g1,Y⟩ e (λ z=>nomatch z) h
def bY1 (hK:X.K=Γ.K)(hk:1<=k/\k<=5):ac4 X (.builtin "isinstance") (λ xs H Q=>∃ x,xs=[x,.ty (as6 k)]/\rCl Γ (oV (o9 k)) [x] H Q):=by
 intro J s W H xs us Q I r h;obtain⟨x,rfl,C,st,l,d,z,R,hl,nl,Z,q⟩:=h;obtain⟨a,rfl,hg⟩:=bi9 Z;clear Z;obtain⟨u,w',rfl,r1,r2⟩:=bm5 r;cases r2;obtain⟨x',e',hx⟩:=hl.one;cases e';obtain⟨k0,k1,k2,k3,k4,k5⟩:=bI9 k hk;unfold o9 at hg;cases a with
 | N=>cases hg;have e:=hx.nonE;subst e;exact qL I r1 .N k0 λ tk=>⟨.T _,H,I.tok _,rfl,q.here R rfl RV.blI⟩
 | T b=>cases hg;have e:=hx.blE;subst e;exact qL I r1 (.T b) k1 λ tk=>⟨.T _,H,I.tok _,rfl,q.here R rfl RV.blI⟩
 | int b=>cases hg;have e:=hx.intE;subst e;exact qL I r1 (.int b) k2 λ tk=>⟨.T _,H,I.tok _,rfl,q.here R rfl RV.blI⟩
 | str b=>cases hg;have e:=hx.strE;subst e;exact qL I r1 (.str _) k3 λ tk=>⟨.T _,H,I.tok _,rfl,q.here R rfl RV.blI⟩
 | tp l =>
  cases hg;obtain⟨p,ys,rfl,Y,d1⟩:=hx.tupE;cases r1;rw[<-hK]at Y;exact aS1 I Y k4 λ tk=>⟨.T _,H,I.tok _,rfl,q.here R rfl RV.blI⟩
 | ref n =>
  have e:=hx.refE;subst e;have hg:(match st[n]? with|some (.J _)=>.ok (.T (k==5)) st|_=>.B:mU mO)=.ok d z:=hg;cases hs:st[n]? with
  | none=>rw[hs]at hg;cases hg
  | some o =>
   rw[hs]at hg;cases o with
   | J l =>
    cases hg;obtain⟨ys,e1,d1⟩:=R.addr hs;exact qL I r1 (.J e1) k5 λ tk=>⟨.T _,H,I.tok _,rfl,q.here R rfl RV.blI⟩
   | _=>exact fb hg
 | _=>exact fb hg
variable {X:Cx}
def bE4 {bs:List Bool}{its:yH}(r:Vals (bs.map V.T) its){i:Nat}(h:its[i]?=aT v):∃ z,bs[i]?=aT z/\v=Value.bool z:=by
 induction bs generalizing its i with
 | nil=>rw[cR]at r;cases r;simp at h
 | cons b bs ih =>
  rw[aY]at r;cases r with
  | cons r1 r2 =>
   cases i with
   | zero =>
    cases r1;have:=aM h;exact⟨b,rfl,this.symm⟩
   | succ i=>exact ih r2 h
def aZ7 {bs:List Bool}:(aH bs.length).all (λ i=>bs.getD i dr)=bs.all id:=by
 rw[cC,aA,aA];constructor
 .intro h b hb;obtain⟨i,z,e⟩:=cJ.mp hb;have:=h i (bO.mpr z);rw[aB,ag z]at this;rw[<-e];exact this
 .intro h i z;have z:=bO.mp z;rw[aB,ag z];exact h _ (ef z)
def bh2 {K}(hc:X.calm=ca)(hK:X.K=K):ac4 X (.builtin "all") (λ xs H Q=>∃(a:Addr) (bs:List Bool),xs=[.ref a]/\SqL K H a (bs.map V.T)/\Q (.T (bs.all id)) H):=by
 subst hK;intro Z s W H xs us Q I r h;obtain⟨a,bs,rfl,hS,q⟩:=h;obtain⟨u,rfl,ru⟩:=qI r;cases ru;obtain⟨its,rv,pl,hz⟩:=I.list hS;have hl:=rv.length;rw[aq]at hl;refine call_all_walk (dq pl.isList ?_);have Y:a<s.heap.objs.size:=by obtain⟨o,_,e,_⟩:=pl;exact aL e
 have Ww:=jF (prog:=X.prog) (w:=X.w) (A:=X.A.in1) (I.ok.hd hc) s.heap.objs.size a (aJ Y) its.toArray;refine⟨_,_,_,_,_,_,λ i=>bs.getD i dr,rfl,Ww,⟨⟨_,aR _ rfl,rfl,rfl⟩,?_⟩,λ i v s' Q' E' J hQ=>?_,λ h' tk k=>?_⟩
 .obtain⟨o,e,r⟩:=pl.isList;exact⟨o,am _ e,r⟩
 .obtain⟨z,e1,e2⟩:=bE4 rv (by have J:its.toArray[i]?=aT v:=J;rw[cD]at J;exact J);subst e2;refine bQ ?_;have:bs.getD i dr=z:=by rw[aB,e1];rfl
  rw[<-this];exact hQ
 .have es:its.toArray.size=bs.length:=by rw[ay];lia
  rw[es,aZ7];refine⟨.T (bs.all id),H,I.kept λ b o q=>k b o ?_ (am _ q),rfl,q⟩;intro z;have z':=by simpa using z
  exact nc (aL q) (by rw[z'];exact bH _)
noncomputable def sgV (x:List Nat):List V:=x.map λ c=>.str ⟨#[c]⟩
def bI3 {z:yH}(J:vs.length=z.length)(h:∀(i:Nat) (x:V) (u:Value),vs[i]?=aT x->z[i]?=aT u->RelV x u):Vals vs z:=by
 induction vs generalizing z with
 | nil=>cases z with
  | nil=>exact .nil
  | cons _ _=>cases J
 | cons v vs ih=>cases z with
  | nil=>cases J
  | cons a z=>exact .cons (h 0 v a rfl rfl) (ih (by simpa using J) λ i x u e1 e2=>h (i+1) x u e1 e2)
def au2 {z:yK}(h:ItemsOf (SignAt ⟨x.toArray⟩) z x.length):Vals (sgV x) z.toList:=by
 have Z:(sgV x).length=z.toList.length:=by unfold sgV;rw[aq];simpa using h.1.symm
 refine bI3 Z λ i v u e1 e2=>?_;obtain⟨c,t,J,Y⟩:=h.2 i u (by rw[<-iG];exact e2);unfold sgV at e1;rw[aI]at e1;have J:=by simpa using J
 rw[J]at e1;cases e1;exact⟨t,Y⟩
def aI5 (hc:X.calm=ca):ac4 X (.type "tuple") (λ xs H Q=>∃ x,xs=[.str ⟨x.toArray⟩]/\x.length<=nh/\∀ l,H l=bY->Q (.ref l) (upd H l (.tp (sgV x)))):=by
 intro z s W H xs us Q I r h;obtain⟨x,rfl,hl,q⟩:=h;obtain⟨u,rfl,rx⟩:=qI r;obtain⟨t,rfl⟩:=rx;have hz:(sgV x).length<=aX:=by unfold sgV;rw[aq];exact ak hl qk
 refine call_tuple_str (I.ok.hd hc) _ t (λ h' tk J kp Y=>?_) (by skip;rw[ay];exact ak hl qk);have Y:=by simpa using Y
 have rv:=au2 Y;have Z:=I.kept (t':=tk) kp;have I2 :=
  Z.laid (t':=tk) (λ b o e=>am _ e) (al _) (show ac1 X.prog X.w _ _ _ (.tp (sgV x))from⟨hz,J.toList,rv,lP _ _⟩)
 exact⟨.ref h'.objs.size,_,I2,rfl,q _ (Z.hok.fresh (al _))⟩
def aS2 (hc:X.calm=ca):ac4 X (.type "list") (λ xs H Q=>∃ x,xs=[.str ⟨x.toArray⟩]/\x.length<=nh/\∀ l,H l=bY->Q (.ref l) (upd H l (.J (sgV x)))):=by
 intro Y s W H xs us Q I r h;obtain⟨x,rfl,Z,q⟩:=h;obtain⟨u,rfl,rx⟩:=qI r;obtain⟨t,rfl⟩:=rx;have hz:(sgV x).length<=aX:=by unfold sgV;rw[aq];exact ak Z qk
 refine call_list_str (I.ok.hd hc) _ t (λ h' tk z c' kp e J=>?_) (by skip;rw[ay];exact ak Z qk);have J:=by simpa using J
 have rv:=au2 J;exact⟨.ref s.heap.objs.size,_,I.laid kp (al _) (show ac1 X.prog X.w _ h' _ (.J (sgV x))from⟨hz,z.toList,c',rv,e⟩),rfl,q _ (I.hok.fresh (al _))⟩
section
variable {Γ:Gm} {C C':Nat->Addr} {H H' H1 H2 H3:Hp} {clos:yC} {s s':mM}
def Gr.put (hc:Cells clos H)(Y:∀ b,isC clos b=ca->H' b=bY)(hK:∀ b o,Γ.K.lookup b=aT o->H b=bY)(R':Rp Γ C' H' s')(g:Gr C s (au1 clos H) C' s' H'):Gr C s H C' s' (Put clos H H'):=by
 refine⟨⟨g.w.map,λ b o e f=>?_⟩,g.le,λ i h1 h2=>?_,g.kd,λ b e=>?_,λ b o kvs e=>?_,λ b o e nt no=>?_⟩
 .by_cases z:isC clos b=ca
  .rw[Put.cell z];exact e
  .rw[Put.ne z];exact g.w.kp b o (by rw[au1.ne z];exact e) f
 .have hd:=g.new i h1 h2;by_cases z:isC clos (C' i)=ca
  .have hg:=Y _ z;obtain⟨o,eo⟩:∃ o,s'[i]?=aT o:=⟨s'[i],ag h2⟩
   have J:=R'.obj i o eo;cases o with
   | J l=>obtain⟨Z,e,_⟩:=J;rw[hg]at e;cases e
   | ro l =>
    obtain⟨Z,e,_⟩:=J;rcases e.1 with(e|⟨_,e⟩)|⟨ob,its,n,e,_⟩
    .rw[hg]at e;cases e
    .rw[hg]at e;cases e
    .exact hK _ _ e
   | dc l=>obtain⟨Z,e,_⟩:=J;rw[hg]at e;cases e
   | dicF l=>obtain⟨_,Z,e,_⟩:=J;rw[hg]at e;cases e
   | ins _ _=>obtain⟨_,_,_,_,_,e,_⟩:=J;rw[hg]at e;cases e
  .rw[au1.ne z]at hd;exact hd
 .by_cases z:isC clos b=ca
  .rw[Put.cell z];exact e
  .rw[Put.ne z];exact g.st b (by rw[au1.ne z];exact e)
 .by_cases z:isC clos b=ca
  .rw[Put.cell z];exact e
  .rw[Put.ne z];exact g.fz b o kvs (by rw[au1.ne z];exact e)
 .by_cases z:isC clos b=ca
  .rw[Put.cell z];exact e
  .rw[Put.ne z];exact g.fr b o (by rw[au1.ne z];exact e) nt no
def Cells.kp (h:Cells clos H)(k:Kp H H'):Cells clos H':=λ x c e=>by
 obtain⟨o,v,q,d⟩:=h x c e;exact⟨o,v,k _ _ q rfl,d⟩
def PVp (Γ:Gm)(cells:yC)(N:yI)(W:St)(C:Nat->Addr)(H:Hp)(d:mO)(v:V):Prop:=RV Γ C H d v\/∃ id cs,d=.clo id cs/\∃ f J,v=.ref f/\Γ.lg id J/\aE8 H f J (at0 cells J.scope.names []) /\
  cs.length=J.fr.length/\(∀ x,J.scope.names.lookup x=aT .free->∃ c,cells.lookup x=aT c) /\
  ∃ cap,RVL Γ C H cs cap/\∀(i:Nat) x v ,J.fr[i]?=aT x->cap[i]?=aT v->J.scope.names.lookup x=aT .free/\∃ j:Nat,N[j]?=aT x/\W[j]?=aT (aT v)
inductive PVL (Γ:Gm)(cells:yC)(N:yI)(W:St)(C:Nat->Addr)(H:Hp):List mO->List V->Prop where
 | nil:PVL Γ cells N W C H [] []
 | cons {d v l vs} (a:PVp Γ cells N W C H d v) (b:PVL Γ cells N W C H l vs):PVL Γ cells N W C H (d::l) (v::vs)
theorem PVp.mono (g:Gr C s H C' s' H')(b:d.bnd s.length=ca)(h:PVp Γ cells N W C H d v):PVp Γ cells N W C' H' d v:=by
 rcases h with h|⟨id,z,rfl,h⟩
 .exact .inl (RV.mono g _ _ b h)
 .obtain⟨f,J,e,Z,h2,h4,h5,cap,h6,Y⟩:=h;unfold mY at b;exact .inr ⟨id,z,rfl,f,J,e,Z,h2.kp g.w.kp,h4,h5,cap,RVL.mono g z cap b h6,Y⟩
end
variable {Γ:Gm} {X:Cx}
def TEv (Γ:Gm)(m:mQ->mM->mU mO):TE:=λ W H Q=>∃ C U s d s',RE Γ C H s.length U W/\Rp Γ C H s/\m U s=.ok d s'/\ae9 Γ C s H d s' Q
def bV8 (Γ:Gm)(C:Nat->Addr)(s:mM)(H:Hp)(l:List mO)(s':mM)(Q:List V->Hp->Prop):Prop :=
 ∀ vs C' H',Gr C s H C' s' H'->s.length<=s'.length->mP s'.length l=ca->RVL Γ C' H' l vs->Rp Γ C' H' s'->Q vs H'
def TAv (Γ:Gm)(m:mQ->mM->mU (List mO)):TA:=λ W H Q=>∃ C U s l s',RE Γ C H s.length U W/\Rp Γ C H s/\m U s=.ok l s'/\bV8 Γ C s H l s' Q
def aM5 (Γ:Gm)(C:Nat->Addr)(s:mM)(H:Hp)(b:Bool)(s':mM)(Q:Bool->Hp->Prop):Prop :=
 ∀ C' H',Gr C s H C' s' H'->s.length<=s'.length->Rp Γ C' H' s'->Q b H'
def TTv (Γ:Gm)(m:mQ->mM->mU mO):TT:=λ W H Q=>∃ C U s b s',RE Γ C H s.length U W/\Rp Γ C H s/\m U s=.ok (.T b) s'/\aM5 Γ C s H b s' Q
def PE.imp (h:PE X e t)(i:∀ W H Q,t' W H Q->t W H Q):PE X e t':=λ z s W H Q I q=>h z s W H Q I (i W H Q q)
def PT.imp (h:PT X e t)(i:∀ W H Q,t' W H Q->t W H Q):PT X e t':=λ z s W H Q I q=>h z s W H Q I (i W H Q q)
def PA.imp (h:PA X e t)(i:∀ W H Q,t' W H Q->t W H Q):PA X e t':=λ pos z s W H Q I q=>h pos z s W H Q I (i W H Q q)
theorem aM5.trans (h:aM5 Γ C s H b s' Q)(g:Gr C s H C1 s1 z)(l:s.length<=s1.length):aM5 Γ C1 s1 z b s' Q :=
 λ C' H' g' J p=>h C' H' (g.trans g' l) (ak l J) p
set_option tactic.hygienic true in
def bU3 i (h:TEv Γ (λ U s=>DV.by6 U i s) W H Q):bv5 i W H Q:=by
 obtain⟨C,U,s,d,s',E,R,hm,q⟩:=h;simp only[DV.by6]at hm;split at hm
 .rename_i d' e;cases hm;obtain⟨b,v,e1,e2⟩:=E.val i _ e;exact⟨v,e1,q.here R b e2⟩
 .exact fb hm
def aB0 (hb:∀ n,c.bnd n=ca)(hv:∀ C H,RV Γ C H c v)(h:TEv Γ (λ U s=>.ok c s) W H Q):tC v W H Q:=by
 obtain⟨C,U,s,d,s',E,R,hm,q⟩:=h;cases hm;exact q.here R (hb _) (hv _ _)
def bq3 (h:TEv Γ (λ U s=>(m1 U s).bind λ x s=>(J U s).bind λ y s=>f x y s) W H Q):tOp (rOp Γ f) (TEv Γ m1) (TEv Γ J) W H Q:=by
 obtain⟨C,U,s,d,s',E,R,hm,q⟩:=h;obtain⟨x,s1,e1,hm⟩:=aa1 hm;obtain⟨y,s2,e2,hm⟩:=aa1 hm;refine⟨C,U,s,x,s1,E,R,e1,λ v1 C1 H1 g1 l1 Z r1 R1=>?_⟩;refine⟨C1,U,s1,y,s2,E.mono g1 l1,R1,e2,λ v2 C2 H2 z Y b2 r2 R2=>?_⟩;exact⟨C2,s2,x,y,d,s',R2,RV.mono z x v1 Z r1,r2,zg Y x Z,b2,hm,q.trans (g1.trans z l1) (ak l1 Y)⟩
def cl5 {f:mO->mM->mU mO}(h:TEv Γ (λ U s=>(m U s).bind λ x s=>f x s) W H Q)
  (hr:∀ C s x d s' v H',Rp Γ C H' s->RV Γ C H' x v->x.bnd s.length=ca->f x s=.ok d s'->ae9 Γ C s H' d s' Q->r v H' Q):tUn r (TEv Γ m) W H Q:=by
 obtain⟨C,U,s,d,s',E,R,hm,q⟩:=h;obtain⟨x,s1,e1,hm⟩:=aa1 hm;exact⟨C,U,s,x,s1,E,R,e1,λ v1 C1 z g1 l1 J r1 R1=>hr C1 s1 x d s' v1 z R1 r1 J hm (q.trans g1 l1)⟩
def zL {a:α}(h:nq r f=.ok a t):∃ b s,r=.ok (.T b) s/\f b s=.ok a t:=by
 unfold nq at h;obtain⟨d,s,e,h⟩:=aa1 h;cases d with
 | T b=>exact⟨b,s,e,h⟩
 | _=>exact fb h
def aN2 (h:TTv Γ m W H Q):tB (TEv Γ m) W H Q:=by
 obtain⟨C,U,s,b,s',E,R,hm,q⟩:=h;refine⟨C,U,s,.T b,s',E,R,hm,λ v C' H' g l J r z=>?_⟩;exact⟨b,r.blE,q C' H' g l z⟩
def bc3 (h:TTv Γ m W H Q):bI4 (TEv Γ m) W H Q:=aN2 h
def bU9 (h:TTv Γ (λ U s=>nq (m U s) λ b s=>.ok (.T (!b)) s) W H Q):cn6 (TTv Γ m) W H Q:=by
 obtain⟨C,U,s,b,s',E,R,hm,q⟩:=h;obtain⟨c,s1,e1,hm⟩:=zL hm;cases hm;exact⟨C,U,s,c,_,E,R,e1,q⟩
def bx4 (h:TTv Γ (λ U s=>nq (z U s) λ c s=>if c then nq (J U s) λ c s=>.ok (.T c) s else .ok (.T dr) s) W H Q):cr0 (TTv Γ z) (TTv Γ J) W H Q:=by
 obtain⟨C,U,s,b,s',E,R,hm,q⟩:=h;obtain⟨c,s1,e1,hm⟩:=zL hm;refine⟨C,U,s,c,s1,E,R,e1,λ C1 Y g1 l1 R1=>?_⟩;cases c with
 | true =>
  rw[ij rfl]at hm ⊢;obtain⟨Z,s2,e2,hm⟩:=zL hm;cases hm;exact⟨C1,U,s1,_,_,E.mono g1 l1,R1,e2,q.trans g1 l1⟩
 | false =>
  rw[iF aF]at hm ⊢;cases hm;exact q C1 Y g1 l1 R1
def bV0 (h:TTv Γ (λ U s=>nq (z U s) λ c s=>if c then .ok (.T ca) s else nq (J U s) λ c s=>.ok (.T c) s) W H Q):tOr (TTv Γ z) (TTv Γ J) W H Q:=by
 obtain⟨C,U,s,b,s',E,R,hm,q⟩:=h;obtain⟨c,s1,e1,hm⟩:=zL hm;refine⟨C,U,s,c,s1,E,R,e1,λ C1 Y g1 l1 R1=>?_⟩;cases c with
 | true =>
  rw[ij rfl]at hm ⊢;cases hm;exact q C1 Y g1 l1 R1
 | false =>
  rw[iF aF]at hm ⊢;obtain⟨Z,s2,e2,hm⟩:=zL hm;cases hm;exact⟨C1,U,s1,_,_,E.mono g1 l1,R1,e2,q.trans g1 l1⟩
def bX7 (h:TEv Γ (λ U s=>nq (m U s) λ b s=>.ok (.T (!b)) s) W H Q):bV1 (TEv Γ m) W H Q:=by
 obtain⟨C,U,s,d,s',E,R,hm,q⟩:=h;obtain⟨c,s1,e1,hm⟩:=zL hm;cases hm;exact⟨C,U,s,.T c,_,E,R,e1,λ v C1 z g l b r R1=>⟨c,r.blE,q _ C1 z g l rfl RV.blI R1⟩⟩
def bx7 (h:TEv Γ (λ U s=>nq (z U s) λ c s=>if c then nq (J U s) λ c s=>.ok (.T c) s else .ok (.T dr) s) W H Q):cc4 (TEv Γ z) (TEv Γ J) W H Q:=by
 obtain⟨C,U,s,d,s',E,R,hm,q⟩:=h;obtain⟨c,s1,e1,hm⟩:=zL hm;refine⟨C,U,s,.T c,s1,E,R,e1,λ v C1 Y g1 l1 Z r1 R1=>⟨c,r1.blE,?_⟩⟩;cases c with
 | true =>
  rw[ij rfl]at hm ⊢;obtain⟨c,s2,e2,hm⟩:=zL hm;cases hm;exact⟨C1,U,s1,.T c,_,E.mono g1 l1,R1,e2,q.trans g1 l1⟩
 | false =>
  rw[iF aF]at hm ⊢;cases hm;exact q _ C1 Y g1 l1 rfl RV.blI R1
def ca0 (h:TEv Γ (λ U s=>nq (z U s) λ c s=>if c then .ok (.T ca) s else nq (J U s) λ c s=>.ok (.T c) s) W H Q):cn7 (TEv Γ z) (TEv Γ J) W H Q:=by
 obtain⟨C,U,s,d,s',E,R,hm,q⟩:=h;obtain⟨c,s1,e1,hm⟩:=zL hm;refine⟨C,U,s,.T c,s1,E,R,e1,λ v C1 Y g1 l1 Z r1 R1=>⟨c,r1.blE,?_⟩⟩;cases c with
 | true =>
  rw[ij rfl]at hm ⊢;cases hm;exact q _ C1 Y g1 l1 rfl RV.blI R1
 | false =>
  rw[iF aF]at hm ⊢;obtain⟨c,s2,e2,hm⟩:=zL hm;cases hm;exact⟨C1,U,s1,.T c,_,E.mono g1 l1,R1,e2,q.trans g1 l1⟩
def bX3 (h:TEv Γ (λ U s=>nq (mc U s) λ k s=>if k then z U s else J U s) W H Q):tIf (TTv Γ mc) (TEv Γ z) (TEv Γ J) W H Q:=by
 obtain⟨C,U,s,d,s',E,R,hm,q⟩:=h;obtain⟨c,s1,e1,hm⟩:=zL hm;refine⟨C,U,s,c,s1,E,R,e1,λ C1 Y g1 l1 R1=>?_⟩;cases c with
 | true =>
  rw[ij rfl]at hm ⊢;exact⟨C1,U,s1,d,s',E.mono g1 l1,R1,hm,q.trans g1 l1⟩
 | false =>
  rw[iF aF]at hm ⊢;exact⟨C1,U,s1,d,s',E.mono g1 l1,R1,hm,q.trans g1 l1⟩
def aL2 (h:TEv Γ (λ U s=>(ma U s).bind λ x s=>(mb U s).bind λ y s=>nq (f x y s) λ k s=>if k then(mc U s).bind λ z s=>g y z s else .ok (.T dr) s) W H Q) :
  bf8 (rOp Γ f) (rOp Γ g) (TEv Γ ma) (TEv Γ mb) (TEv Γ mc) W H Q:=by
 obtain⟨C,U,s,d,s',E,R,hm,q⟩:=h;obtain⟨x,s1,e1,hm⟩:=aa1 hm;obtain⟨y,s2,e2,hm⟩:=aa1 hm;obtain⟨c,s3,e3,hm⟩:=zL hm;refine⟨C,U,s,x,s1,E,R,e1,λ v1 C1 H1 g1 l1 b1 r1 R1=>?_⟩;refine⟨C1,U,s1,y,s2,E.mono g1 l1,R1,e2,λ v2 C2 H2 g2 Z Y r2 R2=>?_⟩;refine⟨C2,s2,x,y,.T c,s3,R2,RV.mono g2 x v1 b1 r1,r2,zg Z x b1,Y,e3,λ v3 C3 H3 g3 J b3 r3 R3=>⟨c,r3.blE,?_⟩⟩;have G:=(g1.trans g2 l1).trans g3 (ak l1 Z);have L:=ak (ak l1 Z) J;cases c with
 | true =>
  rw[ij rfl]at hm ⊢;obtain⟨z,s4,e4,hm⟩:=aa1 hm;refine⟨C3,U,s3,z,s4,E.mono G L,R3,e4,λ v4 C4 H4 g4 l4 b4 r4 R4=>?_⟩;exact⟨C4,s4,y,z,d,s',R4,RV.mono (g3.trans g4 J) y v2 Y r2,r4,zg (ak J l4) y Y,b4,hm,q.trans (G.trans g4 L) (ak L l4)⟩
 | false =>
  rw[iF aF]at hm ⊢;cases hm;exact q _ C3 H3 G L rfl RV.blI R3
def at4 (h:TAv Γ (λ U s=>.ok [] s) W H Q):aF4 W H Q:=by
 obtain⟨C,U,s,d,s',E,R,hm,q⟩:=h;cases hm;exact q [] C H (Gr.refl _ _ _) (al _) rfl .nil R
def bI1 (h:TAv Γ (λ U s=>(m U s).bind λ d s=>(Y U s).bind λ l s=>.ok (d::l) s) W H Q):ak1 (TEv Γ m) (TAv Γ Y) W H Q:=by
 obtain⟨C,U,s,l,s',E,R,hm,q⟩:=h;obtain⟨x,s1,e1,hm⟩:=aa1 hm;obtain⟨y,s2,e2,hm⟩:=aa1 hm;cases hm;refine⟨C,U,s,x,s1,E,R,e1,λ v1 C1 H1 g1 l1 Z r1 R1=>?_⟩;refine⟨C1,U,s1,y,_,E.mono g1 l1,R1,e2,λ v2 C2 H2 z J b2 r2 R2=>?_⟩;refine q (v1::v2) C2 H2 (g1.trans z l1) (ak l1 J) ?_ (.cons (RV.mono z x v1 Z r1) r2) R2;unfold mP;rw[zg J x Z,b2];rfl
def aF6 (h:TEv Γ (λ U s=>(z U s).bind λ l s=>f l s) W H Q):tCB (rCl Γ f) (TAv Γ z) W H Q:=by
 obtain⟨C,U,s,d,s',E,R,hm,q⟩:=h;obtain⟨l,s1,e1,hm⟩:=aa1 hm;exact⟨C,U,s,l,s1,E,R,e1,λ vs C1 Y g1 l1 J r1 R1=>⟨C1,s1,l,d,s',R1,r1,J,hm,q.trans g1 l1⟩⟩
def bG5 :
  (TEv Γ (λ U s=>(m U s).bind λ x s=>(ml U s).bind λ y s=>match y with|.int i=>oE x (aT i) bY s|_=>.B) W H Q->tSl (rSl Γ) (TEv Γ m) (aX9 (TEv Γ ml)) aK5 W H Q) /\
  (TEv Γ (λ U s=>(m U s).bind λ x s=>(mh U s).bind λ y s=>match y with|.int i=>oE x bY (aT i) s|_=>.B) W H Q->tSl (rSl Γ) (TEv Γ m) aK5 (aX9 (TEv Γ mh)) W H Q) /\
  (TEv Γ (λ U s=>(m U s).bind λ x s=>(ml U s).bind λ y s=>match y with|.int i=>(mh U s).bind (λ z s=>match z with|.int j=>oE x (aT i) (aT j) s|_=>.B)|_=>.B) W H Q->tSl (rSl Γ) (TEv Γ m) (aX9 (TEv Γ ml)) (aX9 (TEv Γ mh)) W H Q):=by
 refine⟨λ h=>?_,λ h=>?_,λ h=>?_⟩
 .obtain⟨C,U,s,d,s',E,R,hm,q⟩:=h;obtain⟨x,s1,e1,hm⟩:=aa1 hm;obtain⟨y,s2,e2,hm⟩:=aa1 hm;refine⟨C,U,s,x,s1,E,R,e1,λ v1 C1 H1 g1 l1 Z r1 R1=>?_⟩;refine⟨C1,U,s1,y,s2,E.mono g1 l1,R1,e2,λ v2 C2 H2 Y J b2 r2 R2=>?_⟩;cases y with
  | int i=>exact⟨i,r2.intE,C2,s2,x,d,s',R2,RV.mono Y x v1 Z r1,zg J x Z,hm,q.trans (g1.trans Y l1) (ak l1 J)⟩
  | _=>exact fb hm
 .obtain⟨C,U,s,d,s',E,R,hm,q⟩:=h;obtain⟨x,s1,e1,hm⟩:=aa1 hm;obtain⟨y,s2,e2,hm⟩:=aa1 hm;refine⟨C,U,s,x,s1,E,R,e1,λ v1 C1 H1 g1 l1 Z r1 R1=>?_⟩;refine⟨C1,U,s1,y,s2,E.mono g1 l1,R1,e2,λ v2 C2 H2 Y J b2 r2 R2=>?_⟩;cases y with
  | int i=>exact⟨i,r2.intE,C2,s2,x,d,s',R2,RV.mono Y x v1 Z r1,zg J x Z,hm,q.trans (g1.trans Y l1) (ak l1 J)⟩
  | _=>exact fb hm
 .obtain⟨C,U,s,d,s',E,R,hm,q⟩:=h;obtain⟨x,s1,e1,hm⟩:=aa1 hm;obtain⟨y,s2,e2,hm⟩:=aa1 hm;refine⟨C,U,s,x,s1,E,R,e1,λ v1 C1 H1 g1 l1 Z r1 R1=>?_⟩;refine⟨C1,U,s1,y,s2,E.mono g1 l1,R1,e2,λ v2 C2 H2 Y J b2 r2 R2=>?_⟩;cases y with
  | int i =>
   obtain⟨z,s3,e3,hm⟩:=aa1 hm;refine⟨i,r2.intE,C2,U,s2,z,s3,E.mono (g1.trans Y l1) (ak l1 J),R2,e3,λ v3 C3 H3 g3 l3 b3 r3 R3=>?_⟩;cases z with
   | int j=>exact⟨j,r3.intE,C3,s3,x,d,s',R3,RV.mono (Y.trans g3 J) x v1 Z r1,zg (ak J l3) x Z,hm,q.trans ((g1.trans Y l1).trans g3 (ak l1 J)) (ak (ak l1 J) l3)⟩
   | _=>exact fb hm
  | _=>exact fb hm
variable {Γ:Gm} {X:Cx}
def qD (Γ:Gm)(J:It)(C0:Nat->Addr)(H0:Hp)(s0:mM)(q:nK):Prop :=
 ∀ C H s,Gr C0 s0 H0 C s H->s0.length<=s.length->Rp Γ C H s->nG s0 s q.src=ca->∀ i:Nat,
  (i<q.its.length->J.go i H/\∀ x H',J.yld i H x H'->ae1 H H'/\∀ d,q.its[i]?=aT d->RV Γ C H' d x)/\(q.its.length<=i->J.stop i H)
def TIv (Γ:Gm)(m:mQ->mM->mU nK):TI:=λ W H R=>∃ C U s q s',RE Γ C H s.length U W/\Rp Γ C H s/\m U s=.ok q s' /\
 ∀ J C' H',Gr C s H C' s' H'->s.length<=s'.length->mP s'.length q.its=ca->Rp Γ C' H' s'->qD Γ J C' H' s' q->R J H'
def PI.imp (h:PI X tg e t)(i:∀ W H R,t' W H R->t W H R):PI X tg e t':=λ z s W H R I q=>h z s W H R I (i W H R q)
def PI.or (h:PI X tg e t)(h':PI X tg e t'):PI X tg e (λ W H R=>t W H R\/t' W H R):=λ z s W H R I q=>q.elim (h z s W H R I) (h' z s W H R I)
def br9 (h:SqT Γ.K H0 a J)(Z:RVL Γ C0 H0 l J)(hb:mP s0.length l=ca):qD Γ (Itt Γ.K a) C0 H0 s0 ⟨l,[]⟩:=by
 intro C H s g _ R _ i;have h':=g.w.kp.sqT h;have z:=RVL.mono g l J hb Z;refine⟨λ hlt=>⟨⟨J,J[i]'(by rw[z.length];exact hlt),h',ag _⟩,λ x H' y=>?_⟩,λ Y=>⟨J,h',by rw[z.length];exact Y⟩⟩;obtain⟨e,y⟩:=y;subst e;refine⟨ae1.refl _,λ d hd=>?_⟩;obtain⟨v,e1,e2⟩:=z.get hd;rw[y J h']at e1;cases e1;exact e2
def bi0 (h:SqF Γ.K H0 a J)(Z:RVL Γ C0 H0 l J)(hb:mP s0.length l=ca):qD Γ (Itl Γ.K a) C0 H0 s0 ⟨l,[]⟩:=by
 intro C H s g _ R _ i;have h':=h.2 _ g.w.kp;have z:=RVL.mono g l J hb Z;refine⟨λ hlt=>⟨⟨J,J[i]'(by rw[z.length];exact hlt),h',ag _⟩,λ x H' y=>?_⟩,λ Y=>⟨J,h',by rw[z.length];exact Y⟩⟩;obtain⟨e,y⟩:=y;subst e;refine⟨ae1.refl _,λ d hd=>?_⟩;obtain⟨v,e1,e2⟩:=z.get hd;rw[y J h']at e1;cases e1;exact e2
def aP0 (hr:s0[r]?=aT (.J l)):qD Γ (Itl Γ.K (C0 r)) C0 H0 s0 ⟨l,[r]⟩:=by
 intro C H s g _ R ck i;have J:=(ac.mp hr).1;have hs:s[r]?=aT (.J l):=by
  unfold nG at ck;simp only[dR,lZ,gS,oR]at ck;rw[ck];exact hr
 obtain⟨Y,e,z⟩:=R.addr hs;rw[g.w.map r J]at e;have h':SqL Γ.K H (C0 r) Y:=SqL.of e;refine⟨λ hlt=>⟨⟨Y,Y[i]'(by rw[z.length];exact hlt),h',ag _⟩,λ x H' y=>?_⟩,λ Z=>⟨Y,h',by rw[z.length];exact Z⟩⟩;obtain⟨e,y⟩:=y;subst e;refine⟨ae1.refl _,λ d hd=>?_⟩;obtain⟨v,e1,e2⟩:=z.get hd;rw[y Y h']at e1;cases e1;exact e2
def br6 {l:List Nat}:qD Γ (Its ⟨l.toArray⟩) C0 H0 s0 ⟨l.map λ c=>.str [c],[]⟩:=by
 intro C H s g _ R _ i;have hsz:(⟨l.toArray⟩:Str).cps.size=l.length:=by simp
 refine⟨λ hlt=>?_,λ z=>?_⟩
 .simp only[aq]at hlt;refine⟨show i<(⟨l.toArray⟩:Str).cps.size by rw[hsz];exact hlt,λ x H' y=>?_⟩;obtain⟨e,c,hc,rfl⟩:=y;subst e;refine⟨ae1.refl _,λ d hd=>?_⟩;have J:=by simpa using hc
  rw[aI,J]at hd;cases hd;exact RV.strI (by simp;decide)
 .simp only[aq]at z;show(⟨l.toArray⟩:Str).cps.size<=i;rw[hsz];exact z
def bk7 :qD Γ (Itr a (b - a).toNat) C0 H0 s0 ⟨oq a b,[]⟩:=by
 intro C H s g _ R _ i;have hn:(oq a b).length=(b - a).toNat:=by simp[oq]
 refine⟨λ hlt=>⟨show i<(b - a).toNat by rw[<-hn];exact hlt,λ x H' y=>?_⟩,λ z=>show(b - a).toNat<=i by rw[<-hn];exact z⟩;obtain⟨e,rfl⟩:=y;subst e;refine⟨ae1.refl _,λ d hd=>?_⟩;simp only[oq]at hd hlt;rw[aI,cB (by simpa using hlt)]at hd;cases hd;exact RV.intI
def bc0 :qD Γ (cm0 a (a+1).toNat) C0 H0 s0 ⟨ot a,[]⟩:=by
 intro C H s g _ R _ i;have hn:(ot a).length=(a+1).toNat:=by unfold ot;simp
 refine⟨λ hlt=>⟨show i<(a+1).toNat by rw[<-hn];exact hlt,λ x H' y=>?_⟩,λ J=>show(a+1).toNat<=i by rw[<-hn];exact J⟩;obtain⟨e,rfl⟩:=y;subst e;refine⟨ae1.refl _,λ d hd=>?_⟩;have z:i<(a+1).toNat:=by rw[<-hn];exact hlt
 simp only[ot]at hd;rw[aI,cB z]at hd;cases hd;exact RV.intI
set_option tactic.hygienic true
def bD9 (h:TIv Γ (λ U s=>(J U s).bind λ x s=>match x with|.int i=>if -1<=i/\i<1048576 then .ok ⟨ot i,[]⟩ s else .B|_=>.B) W H R) :
  bV3 (ak1 (TEv Γ J) (ak1 (tC (.int (-1))) (ak1 (tC (.int (-1))) aF4))) W H R:=by
 obtain⟨C,U,s,q,s',E,P,hm,k⟩:=h;obtain⟨x,s1,e1,hm⟩:=aa1 hm;refine⟨C,U,s,x,s1,E,P,e1,λ v C1 Y g l b r Z=>?_⟩;cases x with
 | int i =>
  simp only at hm;split at hm
  .rename_i z;cases hm;refine⟨i,by rw[r.intE],⟨z.1,z.2⟩,k _ C1 Y g l ?_ Z bc0⟩;refine aa6.mpr λ d hd=>?_;unfold ot at hd;rw[aS]at hd;obtain⟨_,_,rfl⟩:=hd;rfl
  .exact fb hm
 | _=>exact fb hm
def bC9 (h:TIv Γ (λ U s=>(m U s).bind λ x s=>match x with|.int i=>if -pb<=i/\i<pb then .ok ⟨oq 0 i,[]⟩ s else .B|_=>.B) W H R) :
  bP4 (ak1 (TEv Γ m) aF4) W H R:=by
 obtain⟨C,U,s,q,s',E,P,hm,k⟩:=h;obtain⟨x,s1,e1,hm⟩:=aa1 hm;refine⟨C,U,s,x,s1,E,P,e1,λ v C1 J g l b r Y=>?_⟩;cases x with
 | int i =>
  simp only at hm;split at hm
  .rename_i z;cases hm;have hw:pb=2^62:=by decide
   rw[hw]at z;refine⟨i,by rw[r.intE],z.1,z.2,k _ C1 J g l ?_ Y ?_⟩
   .refine aa6.mpr λ d hd=>?_;simp only[oq,aS]at hd;obtain⟨_,_,rfl⟩:=hd;rfl
   .have:=bk7 (Γ:=Γ) (C0:=C1) (H0:=J) (s0:=s') (a:=0) (b:=i)
    rwa [j8]at this
  .exact fb hm
 | _=>exact fb hm
set_option tactic.hygienic false
def bW2 (h:TIv Γ (λ U s=>(m U s).bind λ d s=>DV.am0 d s) W H R) :
  ck8 Γ.K (TEv Γ m) W H R\/bD2 Γ.K (TEv Γ m) W H R\/cq3 (TEv Γ m) W H R:=by
 obtain⟨C,U,s,q,s',E,P,hm,k⟩:=h;obtain⟨x,s1,e1,hm⟩:=aa1 hm;unfold DV.am0 at hm;cases x with
 | tp l =>
  cases hm;refine .inl ⟨C,U,s,_,_,E,P,e1,λ v C1 J g l b r z=>?_⟩;obtain⟨a,Y,rfl,h1,d1⟩:=r.tupE;unfold mY at b;exact⟨a,rfl,⟨Y,h1⟩,k _ C1 J g l b z (br9 h1 d1 b)⟩
 | str l =>
  cases hm;refine .inr (.inr ⟨C,U,s,_,_,E,P,e1,λ v C1 J g Z b r z=>?_⟩);refine⟨_,r.strE,k _ C1 J g Z ?_ z br6⟩;refine aa6.mpr λ d hd=>?_;simp only[aS]at hd;obtain⟨_,_,rfl⟩:=hd;rfl
 | ref r =>
  simp only at hm;cases hs:s1[r]? with
  | none=>rw[hs]at hm;cases hm
  | some o =>
   rw[hs]at hm;cases o with
   | J l =>
    cases hm;refine .inr (.inl ⟨C,U,s,_,_,E,P,e1,λ v C1 J g Z b rr z=>?_⟩);have e:=rr.refE;subst e;obtain⟨Y,e2,d1⟩:=z.addr hs;have wf:=z.wf _ _ hs;unfold mW at wf;exact⟨C1 r,rfl,⟨Y,SqL.of e2⟩,k _ C1 J g Z wf z (aP0 hs)⟩
   | ro l =>
    cases hm;refine .inr (.inl ⟨C,U,s,_,_,E,P,e1,λ v C1 J g Z b rr z=>?_⟩);have e:=rr.refE;subst e;obtain⟨Y,e2,d1⟩:=z.obj _ _ hs;have wf:=z.wf _ _ hs;unfold mW at wf;exact⟨C1 r,rfl,⟨Y,e2.1⟩,k _ C1 J g Z wf z (bi0 e2 d1 wf)⟩
   | dc l=>exact fb hm
   | ins c l=>exact fb hm
   | dicF l=>exact fb hm
 | _=>exact fb hm
def bK1 (h:ah0 d=aT k)(z:d.keyF=ca):RV Γ C H d (kV k):=by
 cases d with
 | int i=>cases h;exact RV.intI
 | str x=>cases h;exact RV.strI (ak (dO z) (by decide))
 | _=>cases h
theorem RVD.keyAt :∀ {l} {kvs} {i:Nat} {k} {v},RVD ah0 Γ C H l kvs->kvs[i]?=aT (k,v)->∃ p,l[i]?=aT p/\ah0 p.1=aT k
 | [],_,_,_,_,h,e=>by cases(h);simp at e
 | (d,e0)::l,_,0,_,_,h,e=>by
  obtain⟨z,v',r,rfl,e2,Y,J⟩:=h;cases(aM e);exact⟨_,rfl,e2⟩
 | (d,e0)::l,_,i+1,_,_,h,e=>by
  obtain⟨z,v',r,rfl,e2,Y,J⟩:=h;exact RVD.keyAt (i:=i) J (by simpa using e)
def bb1 (h:H0 a=aT (.frz o (.dK kvs)))(J:RVD ah0 Γ C0 H0 l kvs)(hk:l.all (λ p=>p.1.keyF)=ca):qD Γ (Jk a o kvs) C0 H0 s0 ⟨l.map (·.1),[r]⟩:=by
 intro C H s g _ R _ i;have h':=g.fz _ _ _ h;have len:=J.length;refine⟨λ hlt=>⟨⟨h',by rw[len];simpa using hlt⟩,λ x H' y=>?_⟩,λ z=>⟨h',by rw[len];simpa using z⟩⟩;obtain⟨e,k,v,ek,rfl⟩:=y;subst e;refine⟨ae1.refl _,λ d hd=>?_⟩;obtain⟨p,e1,e2⟩:=J.keyAt ek;have hd:=hd;rw[aI,e1]at hd;cases hd;exact bK1 e2 (aA.mp hk p (aP e1))
set_option tactic.hygienic true in
def ba9 (h:pd d s=.ok q s'):∃ r l,d=.ref r/\s[r]?=aT (.dc l)/\l.all (λ p=>p.1.keyF)=ca/\q=⟨l.map (·.1),[r]⟩/\s'=s.set r (.dicF l):=by
 unfold pd at h;split at h
 .split at h
  .rename_i l e;split at h
   .rename_i hk;cases h;exact⟨_,l,rfl,e,hk,rfl,rfl⟩
   .exact fb h
  .exact fb h
 .exact fb h
def aW4 (h:TIv Γ (λ U s=>(m U s).bind λ d s=>pd d s) W H R):cd9 (TEv Γ m) W H R:=by
 obtain⟨C,U,s,q,s',E,P,hm,k⟩:=h;obtain⟨x,s1,e1,hm⟩:=aa1 hm;obtain⟨r,l,rfl,hs,hk,rfl,rfl⟩:=ba9 hm;refine⟨C,U,s,_,s1,E,P,e1,λ v C1 H1 g Z b rr J=>?_⟩;obtain⟨kvs,e2,d1⟩:=J.obj r _ hs;have wf:=J.wf _ _ hs;have z:=wf;unfold mW at z;rw[aj]at z;refine⟨C1 r,kvs,rr.refE,e2,λ o=>?_⟩;obtain⟨Y,R2⟩:=J.set (o:=.dicF l) hs rfl wf λ H' g e=>⟨o,kvs,e,RVD.monoW g l kvs z.2 d1⟩
 exact k _ C1 _ (g.trans Y Z) (by rw[aU];exact Z) (by rw[aU];exact z.1) R2 (bb1 zq (RVD.monoW Y.w l kvs z.2 d1) hk)
def bB6 (h:oW d s=.ok q s'):s'=s/\∀ C H v,RV Γ C H d v->Rp Γ C H s->d.bnd s.length=ca ->
  ∃ J,Sr Γ.K H v J/\qD Γ J C H s q/\mP s.length q.its=true:=by
 unfold oW at h;cases d with
 | ref r =>
  simp only at h;cases hs:s[r]? with
  | none=>rw[hs]at h;cases h
  | some o =>
   rw[hs]at h;cases o with
   | J l =>
    cases h;refine⟨rfl,λ C H v z P b=>?_⟩;have e:=z.refE;subst e;obtain⟨Y,e2,d1⟩:=P.addr hs;have wf:=P.wf _ _ hs;unfold mW at wf;exact⟨_,⟨_,rfl,⟨Y,SqL.of e2⟩,rfl⟩,aP0 hs,wf⟩
   | ro l =>
    cases h;refine⟨rfl,λ C H v z P b=>?_⟩;have e:=z.refE;subst e;obtain⟨Y,e2,d1⟩:=P.obj _ _ hs;have wf:=P.wf _ _ hs;unfold mW at wf;exact⟨_,⟨_,rfl,⟨Y,e2.1⟩,rfl⟩,bi0 e2 d1 wf,wf⟩
   | dc l=>exact fb h
   | ins c l=>exact fb h
   | dicF l=>exact fb h
 | _=>exact fb h
def aX6 (h:pf d s=.ok q s'):oW d s=.ok q s'/\∀ x,d≠.str x:=by
 unfold pf at h;unfold oW;cases d with
 | ref r=>exact⟨h,λ x e=>nomatch e⟩
 | _=>exact fb h
theorem an6:∀ l (n i:Nat),(nF n l)[i]?=(l[i]?).map λ d=>.tp [.int ((n+i:Nat)),d]
 | [],n,i=>by rw[nF];simp
 | a::l,n,0=>by rw[nF];simp
 | a::l,n,i+1=>by
  rw[nF];have:=an6 l (n+1) i;simp only[cx];rw[this];rw[show n+1+i=n+(i+1)from by lia]
theorem enumL_len:∀ l n ,(nF n l).length=l.length
 | [],n=>by rw[nF]
 | a::l,n=>by rw[nF];simp[enumL_len l (n+1)]
def bg1 (w1:qD Γ Z C0 H0 s0 p)(b1:mP s0.length p.its=ca) :
  qD Γ (Je Z) C0 H0 s0 ⟨nF 0 p.its,p.src⟩:=by
 intro C H s g hl R ck i;obtain⟨u1,u2⟩:=w1 C H s g hl R ck i;refine⟨λ hlt=>?_,λ z=>?_⟩
 .simp only[enumL_len]at hlt;obtain⟨g1,y1⟩:=u1 hlt;refine⟨g1,λ x H' y=>?_⟩;obtain⟨a,x1,e1,hn,rfl,rfl⟩:=y;have Y:ae1 H (upd H a (.tp [.int i,x1])):=(ae1.refl H).new hn;refine⟨Y,λ d hd=>?_⟩;have J:=hd;rw[an6,ag hlt,bG]at J;cases J;obtain⟨gr,R'⟩:=R.same Y;have c1:=aa6.mp b1 _ (ef hlt);exact RV.tupI zq (RVL.cons RV.intI (RVL.cons (RV.mono gr _ _ (zg hl _ c1) ((y1 _ _ e1).2 _ (ag hlt))) RVL.nil))
 .simp only[enumL_len]at z;exact u2 z
def bo5 (a:mP n l=ca):mP n (nF 0 l)=true:=by
 refine aa6.mpr λ d hd=>?_;obtain⟨i,z⟩:=iZ hd;rw[an6]at z;cases e:l[i]? with
 | none=>rw[e]at z;cases z
 | some x =>
  rw[e]at z;cases z;unfold mY;exact aa6.mpr λ d hd=>by
   simp only[aw,bw,or_false]at hd;rcases hd with rfl|rfl
   .rfl
   .exact aa6.mp a _ (aP e)
def bI5 (h:TIv Γ (λ U s=>(m1 U s).bind λ x s=>(pf x s).bind λ p s=>.ok ⟨nF 0 p.its,p.src⟩ s) W H R) :
  bP5 Γ.K (ak1 (TEv Γ m1) aF4) W H R:=by
 obtain⟨C,U,s,q,s',E,P,hm,k⟩:=h;obtain⟨x,s1,e1,hm⟩:=aa1 hm;obtain⟨p1,s3,z,hm⟩:=aa1 hm;cases hm;obtain⟨z,ns⟩:=aX6 z;obtain⟨rfl,d1⟩:=bB6 z;refine⟨C,U,s,x,_,E,P,e1,λ v C1 J g l b r Z=>?_⟩;obtain⟨J1,S1,w1,Y⟩:=d1 C1 J v r Z b;obtain⟨a,e,S,ej⟩:=S1;exact⟨a,J1,by rw[e],⟨S,ej⟩,k _ C1 J g l (bo5 Y) Z (bg1 w1 Y)⟩
variable {Γ:Gm} {X:Cx}
noncomputable def cg2:List Nat->TGs
 | []=>cq6
 | i::is=>bT2 (aD1 i) (cg2 is)
def gOf (K:ae):nM->TG
 | .Y i=>aD1 i
 | .tp is=>cn1 K is.length (cg2 is)
set_option tactic.hygienic true in
def bz4 (E:RE Γ C H n U W)(r:RV Γ C H d v)(b:d.bnd n=ca)(h:ou U i d=aT U'):RE Γ C H n U' (W.set i (aT v)):=by
 unfold ou at h;split at h
 .rename_i z;cases h;refine⟨by rw[aU,aU];exact E.len,λ j e hj=>?_⟩;by_cases hij:j=i
  .subst hij;rw[aW z]at hj;cases hj;exact⟨b,v,by rw[aW (by rw[<-E.len];exact z)],r⟩
  .rw[ar (bP hij)]at hj;obtain⟨J,w,Y,h3⟩:=E.val j e hj;exact⟨J,w,by rw[ar (bP hij)];exact Y,h3⟩
 .cases h
theorem bY3 :∀ is l z U U' W ,RE Γ C H n U W->RVL Γ C H l z->mP n l=ca->oF U is l=aT U'->(∀ W',RE Γ C H n U' W'->Q W' H)->cg2 is z W H Q
 | [],[],z,U,U',W,E,r,_,h,k=>by
  cases h;exact⟨r.unnil,k W E⟩
 | [],d::l,_,_,_,_,_,_,_,h,_=>by cases h
 | i::is,[],_,_,_,_,_,_,_,h,_=>by cases h
 | i::is,d::l,z,U,U',W,E,r,b,h,k=>by
  have h:(ou U i d).bind (λ U=>oF U is l)=aT U':=h;obtain⟨x,r',rfl,J,Y⟩:=r.uncons;unfold mP at b;rw[aj]at b;cases e:ou U i d with
  | none=>rw[e]at h;cases h
  | some U1 =>
   rw[e]at h;exact⟨x,r',rfl,bY3 is l r' U1 U' _ (bz4 E J b.1 e) Y b.2 h k⟩
def bb9 :∀ {is} {U U'},oF U is l=aT U'->is.length=l.length:=by
 induction l with
 | nil=>intro is U U' h;cases is with
  | nil=>rfl
  | cons i is=>cases h
 | cons d l ih=>intro is U U' h;cases is with
  | nil=>cases h
  | cons i is =>
   have h:(ou U i d).bind (λ U=>oF U is l)=aT U':=h;cases e:ou U i d with
   | none=>rw[e]at h;cases h
   | some U1=>rw[e]at h;rw[aQ,aQ,ih h]
def bF6 (E:RE Γ C H n U W)(r:RV Γ C H d v)(b:d.bnd n=ca)(h:nv U tg d=aT U')(k:∀ W',RE Γ C H n U' W'->Q W' H):gOf Γ.K tg v W H Q:=by
 cases tg with
 | Y i=>exact k _ (bz4 E r b h)
 | tp is =>
  cases d with
  | tp l =>
   have h:=h;obtain⟨a,z,rfl,J,d1⟩:=r.tupE;unfold mY at b;exact⟨a,z,rfl,J,by rw[d1.length,bb9 h],bY3 is l z U U' W E d1 b h k⟩
  | _=>cases h
def Off (C:Nat->Addr)(s:mM)(b:Addr):Prop:=∀ i ob ,s[i]?=aT ob->isMut ob=ca->C i≠b
def Off.mono (h:Off C s b)(g:Gr C s H C' s' H')(hb:H b=aT o):Off C' s' b:=λ i ob e m z=>by
 by_cases Y:i<s.length
 .obtain⟨J,Z⟩:∃ J,s[i]?=aT J:=⟨s[i],ag Y⟩
  exact h i J Z (g.mu i J ob Z e m) (by rw[<-g.w.map i Y];exact z)
 .have:=g.new i (by lia) (ac.mp e).1;rw[z,hb]at this;cases this
def Off.new (r:Rp Γ C H s)(h:H b=bY):Off C s b:=λ i ob e m z=>by
 obtain⟨u,hu,_⟩:=(r.obj i ob e).there m;rw[z,h]at hu;cases hu
def Rp.foreign (r:Rp Γ C H s)(hb:H b=aT (.J ys))(ho:Off C s b):Rp Γ C (upd H b (.J z)) s:=by
 have g:Gw C s.length H C (upd H b (.J z)):=⟨λ _ _=>rfl,(Kp.refl H).put hb rfl⟩
 exact⟨r.inj,λ i o e=>(r.obj i o e).mono g (r.wf i o e) λ m u hu=>by rw[zf (ho i o e m)];exact hu,r.wf,r.tab.put hb⟩
def Gr.foreign {ys Y:List V}(g:Gr C s H C' s' H')(h0:H b=bY)(hb:H' b=aT (.J ys)):Gr C s H C' s' (upd H' b (.J Y)):=by
 have ne:∀ c o,H c=aT o->c≠b:=λ c o e=>zl e h0;refine⟨⟨g.w.map,λ c o e f=>?_⟩,g.le,g.new,g.kd,λ c hc=>?_,λ c o kvs e=>by rw[zf (ne c _ e)];exact g.fz c o kvs e,λ c o e J z=>?_⟩
 .rw[zf (ne c o e)];exact g.w.kp c o e f
 .unfold upd;split
  .simp
  .exact g.st c hc
 .rw[zf (ne c o e)];exact g.fr c o e J z
def bQ2 (Γ:Gm)(C:Nat->Addr)(s:mM)(H:Hp)(l:List mO)(s':mM)(Q:VK):Prop :=
 ∀ p ys C' H',Gr C s H C' s' H'->s.length<=s'.length->mP s'.length l=ca->H' p=aT (.J ys)->H p=bY->Off C' s' p->RVL Γ C' H' l ys->Rp Γ C' H' s'->Q (.ref p) H'
def TFv (Γ:Gm)(m:mQ->mM->mU (List mO)):TE:=λ W H Q=>∃ C U s l s',RE Γ C H s.length U W/\Rp Γ C H s/\m U s=.ok l s'/\bQ2 Γ C s H l s' Q
def aH0 (h:TEv Γ (λ U s=>(m U s).bind λ l s=>ol (.J l) s) W H Q):TFv Γ m W H Q:=by
 obtain⟨C,U,s,d,s',E,R,hm,q⟩:=h;obtain⟨l,s1,e1,hm⟩:=aa1 hm;obtain⟨rfl,rfl⟩:=qq hm;refine⟨C,U,s,l,s1,E,R,e1,λ p ys C' H' g hl hb hp h0 ho r J=>?_⟩;have gw:Gw C' s1.length H' (λ i=>if i=s1.length then p else C' i) H':=⟨λ i z=>iF (aJ z),Kp.refl _⟩
 have key:∀ i o' ,(s1++[DV.O.J l])[i]?=aT o'->(i<s1.length/\s1[i]?=aT o')\/(i=s1.length/\o'=.J l):=λ i o' e=>by
  rcases fc i s1.length with h|h|h
  .rw[ax h]at e;exact .inl ⟨h,e⟩
  .subst h;simp at e;exact .inr ⟨rfl,e.symm⟩
  .rw[cj (by simp;lia)]at e;cases e
 have G:Gr C s H (λ i=>if i=s1.length then p else C' i) (s1++[.J l]) H':=by
  refine⟨⟨λ i z=>by skip;rw[iF (by lia)];exact g.w.map i z,g.w.kp⟩,by simp;lia,λ i h1 h2=>?_,λ i o o' e e'=>?_,g.st,g.fz,g.fr⟩
  .by_cases z:i=s1.length
   .skip
    rw[ij z];exact h0
   .skip
    rw[iF z];exact g.new i h1 (by simp at h2;lia)
  .rcases key i o' e' with⟨_,e2⟩|⟨z,_⟩
   .exact g.kd i o o' e e2
   .have:=(ac.mp e).1;lia
 have P:Rp Γ (λ i=>if i=s1.length then p else C' i) H' (s1++[.J l]):=by
  refine⟨λ i j oi Z Y ej mi mj e=>?_,λ i o e=>?_,λ i o e=>?_,J.tab⟩
  .rcases key i oi Y with⟨z,Y⟩|⟨z,_⟩<;>rcases key j Z ej with⟨hj,ej⟩|⟨hj,_⟩
   .rw[iF (aJ z),iF (aJ hj)]at e;exact J.inj i j oi Z Y ej mi mj e
   .rw[iF (aJ z),ij hj]at e;exact nc e (ho i oi Y mi)
   .rw[iF (aJ hj),ij z]at e;exact nc e.symm (ho j Z ej mj)
   .rw[z,hj]
  .rcases key i o e with⟨z,e⟩|⟨z,rfl⟩
   .skip
    rw[iF (aJ z)];exact(J.obj i o e).mono gw (J.wf i o e) λ _ u hu=>hu
   .skip
    rw[ij z];exact⟨ys,hp,RVL.monoW gw l ys hb r⟩
  .rw[au,dS];rcases key i o e with⟨_,e⟩|⟨_,rfl⟩
   .exact zZ (cg _) _ (J.wf i o e)
   .exact zZ (cg _) _ (by unfold mW;exact hb)
 exact q (.ref p) _ H' G (by simp;omega) (by unfold mY;simp) (by unfold RV;simp) P
def cd0 (E:RE Γ C H n U W) z :RE Γ C H n (n6 U z) (aC3 z W):=by
 refine⟨by unfold n6 aC3;simp,λ i d e=>?_⟩;unfold n6 at e;rw[aI]at e;cases q:z[i]? with
 | none=>rw[q]at e;cases e
 | some o =>
  rw[q]at e;cases o with
  | none=>cases e
  | some j =>
   have e':(U[j]?).join=aT d:=aM e;have ej:U[j]?=aT (aT d):=by
    cases q2:U[j]? with
    | none=>rw[q2]at e';cases e'
    | some o2=>rw[q2]at e';exact congrArg aT e'
   obtain⟨b,v,J,Y⟩:=E.val j d ej;refine⟨b,v,?_,Y⟩;unfold aC3;rw[aI,q];show aT ((W[j]?).join)=_;rw[J];rfl
set_option tactic.hygienic true
def aH9 
  (h:TFv Γ (λ U s=>(mI U s).bind λ q s0=>if q.its.length<=nh then ow (λ s=>nG s0 s q.src) (λ d U s=>match nv U tg d with
   | some U=>nq (mc U s) λ k s=>if k then(me U s).bind λ v s=>.ok (aT v,U) s else .ok (bY,U) s
   | none=>.B) q.its (n6 U a0) s0 else .B) W H Q):tComp a0 (TIv Γ mI) (gOf Γ.K tg) (TTv Γ mc) (TEv Γ me) W H Q:=by
 obtain⟨C,U,s,l,s',E,R,hm,k⟩:=h;obtain⟨q,s0,e1,hm⟩:=aa1 hm;split at hm
 case isFalse=>exact fb hm
 rename_i c0;refine⟨C,U,s,q,s0,E,R,e1,λ J C1 H1 g1 l1 b1 R1 wk D hD=>?_⟩;have h0:H D=none:=by
  cases e:H D with
  | none=>rfl
  | some o=>exact nc hD (g1.st D (by rw[e];simp))
 refine⟨λ i m W' H'=>∃ C' U' t Y ys rest,Gr C1 s0 H1 C' t H'/\Rp Γ C' H' t/\RE Γ C' H' t.length U' W'/\H' D=aT (.J ys)/\Off C' t D/\RVL Γ C' H' Y ys/\mP t.length Y=ca/\Y.length<=i/\i<=q.its.length/\m=q.its.length - i /\
  ow (λ s=>nG s0 s q.src) (λ d U s=>match nv U tg d with
   | some U=>nq (mc U s) λ k s=>if k then(me U s).bind λ v s=>.ok (aT v,U) s else .ok (bY,U) s
   | none=>.B) (q.its.drop i) U' t=.ok rest s'/\l=Y++rest,⟨q.its.length,?_⟩,?_⟩
 .obtain⟨g2,R2⟩:=R1.same ((ae1.refl H1).new hD);exact⟨C1,n6 U a0,s0,[],[],l,g2,R2,cd0 ((E.mono g1 l1).mono g2 (al _)) a0,zq,Off.new R1 hD,.nil,rfl,al _,cW _,by simp,by rw[gk];exact hm,rfl⟩
 .rintro i m W' H' ⟨C',U',t,Y,ys,rest,g,R',E',hy,a5,ra,ba,c1,c2,rfl,hc,hl⟩
  have Z:=g.le;rcases l7 i q.its.length with hlt|hge
  .have hd:=ag hlt;rw[ce hlt]at hc;unfold ow at hc;split at hc
   case isFalse=>exact fb hc
   rename_i a6;obtain⟨b6,b3⟩:=(wk C' H' t g Z R' a6 i).1 hlt;refine .inr ⟨b6,_,λ W2 H2 n=>⟨q.its.length - (i+1),by omega,n⟩,λ x H2 b4=>?_⟩;obtain⟨sm,rv⟩:=b3 x H2 b4;obtain⟨g2,R2⟩:=R'.same sm;have rd:=rv _ hd;have bd:=zg Z _ (aw1 b1 hd);obtain⟨p,t3,hs,hc⟩:=aa1 hc;obtain⟨r2,t4,b0,hc⟩:=aa1 hc;cases hb:nv U' tg q.its[i]with
   | none=>rw[hb]at hs;cases hs
   | some U3 =>
    rw[hb]at hs;refine bF6 (E'.mono g2 (al _)) rd bd hb λ W3 E3=>?_;obtain⟨c,t1,ec,hs⟩:=zL hs;refine⟨C',U3,t,c,t1,E3,R2,ec,λ C2 H4 g4 l4 R4=>?_⟩;have b2:=sm _ _ hy;have a4:=g4.fr D _ b2 (by nofun) a5;have a1:=a5.mono g4 b2;have G4:=(g.trans g2 Z).trans g4 Z;cases c with
    | true =>
     rw[ij rfl]at hs;refine iteT ?_;obtain⟨v,t2,ev,hs⟩:=aa1 hs;cases hs;refine⟨C2,U3,t1,v,t3,E3.mono g4 l4,R4,ev,λ w C3 H5 g5 l5 b5 r5 R5=>?_⟩;have a2:=g5.fr D _ a4 (by nofun) a1;have a3:=a1.mono g5 a4;refine⟨ys,a2,?_,?_⟩
     .rw[ra.length];have:=qk;lia
     .have gw:Gw C3 t3.length H5 C3 (upd H5 D (.J (ys++[w]))):=⟨λ _ _=>rfl,(Kp.refl H5).put a2 rfl⟩
      have G5:=G4.trans g5 (ak Z l4);have GG:=g2.trans (g4.trans g5 l4) (al _);have b9:=RVL.mono GG _ _ ba ra;have bb:mP t3.length (Y++[v])=true:=qf (aa8 GG.le _ ba) (by unfold mP;rw[b5];rfl);refine⟨C3,U3,t3,Y++[v],ys++[w],r2,G5.foreign hD a2,R5.foreign a2 a3,?_,zq,a3,RVL.monoW gw _ _ bb (b9.append (.cons r5 .nil)),bb,by simp;omega,hlt,rfl,?_,?_⟩
      .have E5:=(E3.mono g4 l4).mono g5 l5;exact⟨E5.len,λ j e hj=>by
        obtain⟨h1,z,h2,h3⟩:=E5.val j e hj;exact⟨h1,z,h2,RV.monoW gw _ _ h1 h3⟩⟩
      .cases hc;exact b0
      .cases hc;rw[hl];simp
    | false =>
     rw[iF aF]at hs;refine ct0 ?_;cases hs;have GG:=g2.trans g4 (al _);exact⟨C2,U3,t3,Y,ys,r2,G4,R4,E3.mono g4 l4,a4,a1,RVL.mono GG _ _ ba ra,aa8 l4 _ ba,by lia,hlt,rfl,by cases hc;exact b0,by cases hc;exact hl⟩
  .have hi:=by omega
   rw[dJ hge]at hc;unfold ow at hc;split at hc
   case isFalse=>exact fb hc
   rename_i a6;cases hc;refine .inl ⟨(wk C' H' s' g Z R' a6 i).2 hge,?_⟩;rw[a8]at hl;subst hl;exact k D ys C' H' (g1.trans g l1) (ak l1 Z) ba hy h0 a5 ra R'
variable {Γ:Gm} {X:Cx}
def co2 (Γ:Gm)(C:Nat->Addr)(H:Hp)(n:Nat)(D:Ends):nS->Prop
 | .next U=>∀ W,RE Γ C H n U W->D.nx W H
 | .ret d=>∀ v,d.bnd n=ca->RV Γ C H d v->D.rt v H
 | .cont U=>∀ W,RE Γ C H n U W->D.ct W H
 | .brk U=>∀ W,RE Γ C H n U W->D.bk W H
set_option tactic.hygienic false
def ap2 (Γ:Gm)(C:Nat->Addr)(s:mM)(H:Hp)(c:nS)(s':mM)(D:Ends):Prop :=
 ∀ C' H',Gr C s H C' s' H'->s.length<=s'.length->Rp Γ C' H' s'->co2 Γ C' H' s'.length D c
def TSv (Γ:Gm)(m:mQ->mM->mU nS):TS:=λ D W H=>∃ C U s c s',RE Γ C H s.length U W/\Rp Γ C H s/\m U s=.ok c s'/\ap2 Γ C s H c s' D
def PS.imp (h:PS X e t)(i:∀ D W H,t' D W H->t D W H):PS X e t':=λ z s W H Q I q=>h z s W H Q I (i Q W H q)
def PSs.imp (h:PSs X e t)(i:∀ D W H,t' D W H->t D W H):PSs X e t':=λ z s W H Q I q=>h z s W H Q I (i Q W H q)
theorem ap2.trans {D}(h:ap2 Γ C s H c s' D)(g:Gr C s H C1 s1 z)(l:s.length<=s1.length):ap2 Γ C1 s1 z c s' D :=
 λ C' H' g' J p=>h C' H' (g.trans g' l) (ak l J) p
def ap2.here {D}(h:ap2 Γ C s H c s D)(p:Rp Γ C H s):co2 Γ C H s.length D c:=h C H (Gr.refl C s H) (al _) p
variable {D:Ends} {W:St} {H:Hp}
set_option tactic.hygienic true
def bB4 (hm:∀ U s,m U s=.ok (.next U) s)(h:TSv Γ m D W H):bQ1 D W H:=by
 obtain⟨C,U,s,c,s',E,R,e,q⟩:=h;rw[hm]at e;cases e;exact q.here R W E
def cc7 (h:TSv Γ (λ U s=>(m U s).bind λ d s=>.ok (.ret d) s) D W H):co9 (TEv Γ m) D W H:=by
 obtain⟨C,U,s,c,s',E,R,e,q⟩:=h;obtain⟨x,s1,e1,e⟩:=aa1 e;cases e;exact⟨C,U,s,x,_,E,R,e1,λ v C1 J g1 l1 z r1 R1=>q C1 J g1 l1 R1 v z r1⟩
def bF8 (h:TSv Γ (λ U s=>(m U s).bind λ _ s=>.ok (.next U) s) D W H):bU0 (TEv Γ m) D W H:=by
 obtain⟨C,U,s,c,s',E,R,e,q⟩:=h;obtain⟨x,s1,e1,e⟩:=aa1 e;cases e;exact⟨C,U,s,x,_,E,R,e1,λ v C1 z g1 l1 J r1 R1=>q C1 z g1 l1 R1 W (E.mono g1 l1)⟩
def aY6 (h:TSv Γ (λ U s=>(m U s).bind λ d s=>match nv U tg d with|some U=>.ok (.next U) s|none=>.B) D W H):bl4 (TEv Γ m) (gOf Γ.K tg) D W H:=by
 obtain⟨C,U,s,c,s',E,R,e,q⟩:=h;obtain⟨x,s1,e1,e⟩:=aa1 e;refine⟨C,U,s,x,s1,E,R,e1,λ v C1 z g1 l1 J r1 R1=>?_⟩;cases hb:nv U tg x with
 | none=>rw[hb]at e;cases e
 | some U1 =>
  rw[hb]at e;cases e;exact bF6 (E.mono g1 l1) r1 J hb λ W' Y=>q C1 z g1 l1 R1 W' Y
def bs5 (h:TSv Γ (λ U s=>((m U s).bind λ l s=>ol (.J l) s).bind λ d s=>match nv U tg d with|some U=>.ok (.next U) s|none=>.B) D W H):bl4 (TFv Γ m) (gOf Γ.K tg) D W H :=
 aH0 (aY6 h)
def ce6 (Γ:Gm):cg0:=λ o i v H Q=>∃ C s x y d s',Rp Γ C H s/\RV Γ C H x o/\RV Γ C H y i/\RV Γ C H d v/\x.bnd s.length=ca/\y.bnd s.length=ca/\d.bnd s.length=ca/\DV.setIx x y d s=.ok () s' /\
 ∀ C' H',Gr C s H C' s' H'->s.length<=s'.length->Rp Γ C' H' s'->Q H'
def bu8 (h:TSv Γ (λ U s=>(Z U s).bind λ d s=>(mo U s).bind λ x s=>(mi U s).bind λ y s=>(DV.setIx x y d s).bind λ _ s=>.ok (.next U) s) D W H) :
  bl4 (TEv Γ Z) (cp0 (TEv Γ mo) (TEv Γ mi) (ce6 Γ)) D W H:=by
 obtain⟨C,U,s,c,s',E,R,e,q⟩:=h;obtain⟨d,s1,e1,e⟩:=aa1 e;obtain⟨x,s2,e2,e⟩:=aa1 e;obtain⟨y,s3,e3,e⟩:=aa1 e;obtain⟨u,s4,e4,e⟩:=aa1 e;cases e;refine⟨C,U,s,d,s1,E,R,e1,λ v1 C1 H1 g1 l1 b1 r1 R1=>?_⟩;refine⟨C1,U,s1,x,s2,E.mono g1 l1,R1,e2,λ v2 C2 H2 g2 Y b2 r2 R2=>?_⟩;have G2:=g1.trans g2 l1;have L2:=ak l1 Y;refine⟨C2,U,s2,y,s3,E.mono G2 L2,R2,e3,λ v3 C3 H3 J z b3 r3 R3=>?_⟩;refine⟨C3,s3,x,y,d,_,R3,RV.mono J x v2 b2 r2,r3,RV.mono (g2.trans J Y) d v1 b1 r1,zg z x b2,b3,zg (ak Y z) d b1,e4,λ C4 H4 g4 l4 R4=>?_⟩;have G3:=G2.trans J L2;have L3:=ak L2 z;exact q C4 H4 (G3.trans g4 L3) (ak L3 l4) R4 W (E.mono (G3.trans g4 L3) (ak L3 l4))
def bX5 (hu:X.A.units+2<cLine):cj0 X (ce6 Γ):=by
 intro J sh W H o i v ov iv u Q I ro ri rv h;obtain⟨C,s,x,y,d,s',R,rx,ry,rd,bx,a0,bd,hm,q⟩:=h;cases x with
 | ref r =>
  have hm:(match s[r]? with
   | some (.J l)=>(match y with
    | .int i=>(match nY l.length i with|some j=>DV.R.ok () (s.set r (.J (l.set j d)))|none=>.B)
    | _=>.B)
   | some (.dc l)=>if y.key&&decide (l.length<nh)then .ok () (s.set r (.dc (nE y d l)))else .B
   | _=>.B)=.ok () s':=hm
  cases e:s[r]? with
  | none=>rw[e]at hm;cases hm
  | some ob =>
   rw[e]at hm;cases ob with
   | J l =>
    cases y with
    | int k =>
     have hm:(match nY l.length k with|some j=>DV.R.ok () (s.set r (.J (l.set j d)))|none=>.B)=.ok () s':=hm;cases ej:nY l.length k with
     | none=>rw[ej]at hm;cases hm
     | some j =>
      rw[ej]at hm;cases hm;obtain⟨xs,Z,Y⟩:=R.addr e;have hb:mP s.length (l.set j d)=true:=aa6.mpr λ z hz=>by
       rcases List.mem_or_eq_of_mem_set hz with h|h
       .exact aa6.mp (by have:=R.wf r _ e;unfold mW at this;exact this) z h
       .subst h;exact bd
      refine bs7 J sh W H o i v ov iv u Q I ro ri rv ⟨C r,xs,k,j,rx.refE,ry.intE,Z,?_,?_⟩
      .rw[Y.length];exact ej
      .obtain⟨g,R'⟩:=R.set (o:=.J (l.set j d)) e rfl hb λ H' g e=>⟨_,e,RVL.monoW g _ _ hb (Y.set j rd)⟩
       exact q _ _ g (by simp) R'
    | _=>exact fb hm
   | dc l =>
    have hm:(if y.key&&decide (l.length<nh)then DV.R.ok () (s.set r (.dc (nE y d l)))else .B)=.ok () s':=hm;split at hm
    case isFalse=>exact fb hm
    rename_i hc;cases hm;rw[aj]at hc;obtain⟨k,hk⟩:=aN3 hc.1;have hlt:=dO hc.2;obtain⟨kvs,Z,Y⟩:=R.obj r _ e;have ex:=rx.refE;subst ex;cases ro;have ey:=bu9 hk ry;subst ey;have hb:=bu1 (R.wf r _ e) a0 bd;have a1:=by
     unfold mW at hb;rw[aj]at hb;exact hb.2
    obtain⟨g,R'⟩:=R.set e rfl hb λ H' g e=>⟨_,e,RVD.monoW g _ _ a1 (Y.put aC9 hk rd)⟩
    exact bb8 hu I (cf7.k Z (by rw[Y.length];exact aG hlt qk)) ri rv λ s4 I4=>⟨_,I4,q _ _ g (by simp) R'⟩
   | _=>exact fb hm
 | _=>exact fb hm
def cg6 (h:TSv Γ (λ U s=>nq (mc U s) λ k s=>if k then z U s else J U s) D W H):co8 (TTv Γ mc) (TSv Γ z) (TSv Γ J) D W H:=by
 obtain⟨C,U,s,d,s',E,R,hm,q⟩:=h;obtain⟨c,s1,e1,hm⟩:=zL hm;refine⟨C,U,s,c,s1,E,R,e1,λ C1 Y g1 l1 R1=>?_⟩;cases c with
 | true =>
  rw[ij rfl]at hm ⊢;exact⟨C1,U,s1,d,s',E.mono g1 l1,R1,hm,q.trans g1 l1⟩
 | false =>
  rw[iF aF]at hm ⊢;exact⟨C1,U,s1,d,s',E.mono g1 l1,R1,hm,q.trans g1 l1⟩
def bz9 (h:TSv Γ (λ U s=>(J U s).bind λ c s=>match c with|.next U=>Z U s|c=>.ok c s) D W H):cj4 (TSv Γ J) (TSv Γ Z) D W H:=by
 obtain⟨C,U,s,c,s',E,R,hm,q⟩:=h;obtain⟨Y,s1,e1,hm⟩:=aa1 hm;refine⟨C,U,s,Y,s1,E,R,e1,λ C1 z g1 l1 R1=>?_⟩;cases Y with
 | next U1=>exact λ W1 E1=>⟨C1,U1,s1,c,s',E1,R1,hm,q.trans g1 l1⟩
 | ret d=>cases hm;exact q C1 z g1 l1 R1
 | cont U=>cases hm;exact q C1 z g1 l1 R1
 | brk U=>cases hm;exact q C1 z g1 l1 R1
def bp7 (h:TSv Γ (DV.whl mc J) D W H):bv6 (TTv Γ mc) (TSv Γ J) D W H:=by
 obtain⟨C,U,s,c,s',E,R,hm,q⟩:=h;unfold DV.whl at hm;split at hm
 case isFalse=>exact fb hm
 rename_i hn;generalize hn.choose=n at hm;refine⟨λ n W H=>∃ C U s,RE Γ C H s.length U W/\Rp Γ C H s/\DV.af6 mc J n U s=.ok c s'/\ap2 Γ C s H c s' D,⟨n,C,U,s,E,R,hm,q⟩,?_⟩;clear E R hm q hn
 rintro n W H ⟨C,U,s,E,R,hm,q⟩
 cases n with
 | zero=>exact fb hm
 | succ n =>
  unfold DV.af6 at hm;obtain⟨b,s1,e1,hm⟩:=zL hm;refine⟨C,U,s,b,s1,E,R,e1,λ C1 H1 g1 l1 R1=>?_⟩;cases b with
  | false =>
   rw[iF aF]at hm ⊢;cases hm;exact q C1 H1 g1 l1 R1 W (E.mono g1 l1)
  | true =>
   rw[ij rfl]at hm ⊢;obtain⟨Z,s2,e2,hm⟩:=aa1 hm;refine⟨_,λ W' H' w=>⟨n,bV n,w⟩,C1,U,s1,Z,s2,E.mono g1 l1,R1,e2,λ C2 Y g2 l2 R2=>?_⟩;have G:=g1.trans g2 l1;have L:=ak l1 l2;cases Z with
   | next U1=>exact λ W1 z=>⟨C2,U1,s2,z,R2,hm,q.trans G L⟩
   | cont U1=>exact λ W1 z=>⟨C2,U1,s2,z,R2,hm,q.trans G L⟩
   | ret d=>cases hm;exact q C2 Y G L R2
   | brk U=>cases hm;exact q C2 Y G L R2
def bZ1 (h:TSv Γ (λ U s=>(mI U s).bind λ q s0=>oX (λ s=>nG s0 s q.src) (λ d U s=>match nv U tg d with
  | some U=>mb U s
  | none=>.B) q.its U s0) D W H):co3 (TIv Γ mI) (gOf Γ.K tg) (TSv Γ mb) D W H:=by
 obtain⟨C,U,s,c,s',E,R,hm,k⟩:=h;obtain⟨q,s0,e1,hm⟩:=aa1 hm;refine⟨C,U,s,q,s0,E,R,e1,λ J C1 H1 g1 l1 b1 R1 wk=>?_⟩;refine⟨λ i m W' H'=>∃ C' U' t,Gr C1 s0 H1 C' t H'/\Rp Γ C' H' t/\RE Γ C' H' t.length U' W'/\i<=q.its.length/\m=q.its.length - i /\
  oX (λ s=>nG s0 s q.src) (λ d U s=>match nv U tg d with
   | some U=>mb U s
   | none=>.B) (q.its.drop i) U' t=.ok c s',⟨q.its.length,?_⟩,?_⟩
 .exact⟨C1,U,s0,Gr.refl _ _ _,R1,E.mono g1 l1,cW _,by simp,by rw[gk];exact hm⟩
 .rintro i m W' H' ⟨C',U',t,g,R',E',a3,rfl,hc⟩
  have z:=g.le;rcases l7 i q.its.length with hlt|hge
  .have hd:=ag hlt;rw[ce hlt]at hc;unfold oX at hc;split at hc
   case isFalse=>exact fb hc
   rename_i Y;obtain⟨a1,a0⟩:=(wk C' H' t g z R' Y i).1 hlt;refine .inr ⟨a1,_,λ W2 H2 n=>⟨q.its.length - (i+1),by omega,n⟩,λ x H2 a2=>?_⟩;obtain⟨sm,rv⟩:=a0 x H2 a2;obtain⟨g2,R2⟩:=R'.same sm;have rd:=rv _ hd;have bd:=zg z _ (aw1 b1 hd);obtain⟨c1,t3,hs,hc⟩:=aa1 hc;cases hb:nv U' tg q.its[i]with
   | none=>rw[hb]at hs;cases hs
   | some U3 =>
    rw[hb]at hs;refine bF6 (E'.mono g2 (al _)) rd bd hb λ W3 E3=>?_;refine⟨C',U3,t,c1,t3,E3,R2,hs,λ C2 H4 g4 l4 Z=>?_⟩;have G4:=(g.trans g2 z).trans g4 z;have L4:=ak z l4;have GG:=g1.trans G4 l1;cases c1 with
    | next U1=>exact λ W1 E1=>⟨C2,U1,t3,G4,Z,E1,hlt,rfl,hc⟩
    | cont U1=>exact λ W1 E1=>⟨C2,U1,t3,G4,Z,E1,hlt,rfl,hc⟩
    | ret d=>cases hc;exact k C2 H4 GG (ak l1 L4) Z
    | brk U=>cases hc;exact k C2 H4 GG (ak l1 L4) Z
  .rw[dJ hge]at hc;unfold oX at hc;split at hc
   case isFalse=>exact fb hc
   rename_i Y;cases hc;exact .inl ⟨(wk C' H' s' g z R' Y i).2 hge,k C' H' (g1.trans g l1) (ak l1 z) R' W' E'⟩
def aX0 { b:α}(h:oY src a s=.ok b s'):∃ r l,src=[r]/\s[r]?=aT (.dicF l)/\b=a/\s'=s.set r (.dc l):=by
 unfold oY at h;split at h
 .split at h
  .rename_i l e;cases h;exact⟨_,l,rfl,e,rfl,rfl⟩
  .exact fb h
 .exact fb h
set_option tactic.hygienic false
def bT5 (R:Rp Γ C H s)(g:Gr C s H C' s1 H')(R':Rp Γ C' H' s1)(hr:s1[r]?=aT (.dicF l))(hz:oZ s [r]=ca) :
  ∃ o kvs,H' (C' r)=aT (.frz o (.dK kvs))/\(∀ o u,H (C' r)≠aT (.frz o u))/\Gr C s H C' (s1.set r (.dc l)) (upd H' (C' r) (.dK kvs))/\Rp Γ C' (upd H' (C' r) (.dK kvs)) (s1.set r (.dc l))/\Gw C' s1.length H' C' (upd H' (C' r) (.dK kvs)):=by
 obtain⟨o,kvs,ea,rd⟩:=R'.obj r _ hr;have wf:=R'.wf _ _ hr;have J:=wf;unfold mW at J;rw[aj]at J;have a1:∀ o u,H (C' r)≠aT (.frz o u):=λ o2 u z=>by
  by_cases Z:r<s.length
  .obtain⟨ob,eo⟩:∃ ob,s[r]?=aT ob:=⟨s[r],ag Z⟩
   have ho:=R.obj r ob eo;rw[g.w.map r Z]at z;have kd:=g.kd r ob _ eo hr;unfold oZ at hz;rw[dR,eo]at hz;cases ob with
   | dc l2=>obtain⟨_,e,_⟩:=ho;rw[z]at e;cases e
   | dicF l2=>cases hz
   | _=>cases kd
  .have:=g.new r (by omega) (ac.mp hr).1;rw[z]at this;cases this
 have R2:=(R'.set1 (o:=.dc l) (u:=.dK kvs) hr rfl wf (λ H' g e=>⟨kvs,e,RVD.monoW g l kvs J.2 rd⟩) rfl).2;have gw:Gw C' s1.length H' C' (upd H' (C' r) (.dK kvs)):=⟨λ _ _=>rfl,(Kp.refl H').put ea rfl⟩
 have ne:∀ b u,H b=aT u->(bR7 u=ca\/(∃ ob kv,u=.frz ob (.dK kv))\/H' b=aT u)->H' b=aT u->b≠C' r:=λ b u hb hu a0 zz=>by
  subst zz;rw[ea]at a0;cases a0;exact a1 _ _ hb
 have g2:Gr C s H C' (s1.set r (.dc l)) (upd H' (C' r) (.dK kvs)):=by
  refine⟨⟨g.w.map,λ b u hb hu=>?_⟩,by rw[aU];exact g.le,λ i h1 Y=>g.new i h1 (by rw[aU]at Y;exact Y),λ i o1 o2 h1 Y=>?_,λ b hb=>?_,λ b ob kv hb=>?_,λ b u hb nt no=>?_⟩
  .have:=g.w.kp b u hb hu;rw[zf (ne b u hb (.inl hu) this)];exact this
  .by_cases Z:i=r
   .subst Z;rw[aW (ac.mp hr).1]at Y;cases Y;have kd:=g.kd i o1 (.dicF l) h1 hr;exact kd
   .rw[ar (bP Z)]at Y;exact g.kd i o1 o2 h1 Y
  .unfold upd;split
   .simp
   .exact g.st b hb
  .have:=g.fz b ob kv hb;rw[zf (ne b _ hb (.inr (.inl ⟨_,_,rfl⟩)) this)];exact this
  .have:=g.fr b u hb nt no;rw[zf (ne b u hb (.inr (.inr this)) this)];exact this
 exact⟨o,kvs,ea,a1,g2,R2,gw⟩
def bQ5 (H0:Hp)(Q:VK):VK:=λ v H=>∃ a o kvs,H a=aT (.frz o (.dK kvs))/\(∀ o u,H0 a≠aT (.frz o u))/\Q v (upd H a (.dK kvs))
def bF1 (h:PE X e t):PE X e (λ W H Q=>t W H (bQ5 H Q)):=by
 intro J s W H Q I q;exact thn (h J s W H _ I q) λ v s' ⟨z,H',Y,r',a,o,kvs,e,n,q⟩=>⟨z,_,Y.thawK e (λ o u z=>n o u (I.base.frzs _ _ _ z)),r',q⟩
set_option tactic.hygienic true in
def bp0 
  (h:TFv Γ (λ U s=>(mI U s).bind λ q s0=>if oZ s q.src=ca/\q.its.length<=nh then(ow (λ s=>nG s0 s q.src) (λ d U s=>match nv U tg d with
   | some U=>nq (mc U s) λ k s=>if k then(me U s).bind λ v s=>.ok (aT v,U) s else .ok (bY,U) s
   | none=>.B) q.its (n6 U J) s0).bind λ l s=>oY q.src l s else .B) W H Q):tComp J (TIv Γ mI) (gOf Γ.K tg) (TTv Γ mc) (TEv Γ me) W H (bQ5 H Q):=by
 obtain⟨C,U,s,l,s',E,R,hm,k⟩:=h;obtain⟨q,s0,e1,hm⟩:=aa1 hm;split at hm
 case isFalse=>exact fb hm
 rename_i hz;obtain⟨l',s1,e2,hm⟩:=aa1 hm;obtain⟨r,d,hq,hr,rfl,rfl⟩:=aX0 hm;refine aH9 ⟨C,U,s,l,s1,E,R,(by show(mI U s).bind _=_;rw[e1];show(if _ then _ else _)=_;rw[ij hz.2];exact e2),λ p vs C1 H1 g l1 b1 hp h0 Z rv R1=>?_⟩;obtain⟨o,kvs,ea,a0,g2,R2,gw⟩:=bT5 R g R1 hr (by rw[<-hq];exact hz.1);have Y:p≠C1 r:=λ z=>by rw[z,ea]at hp;cases hp
 refine⟨_,o,kvs,ea,a0,k p vs C1 _ g2 (by rw[aU];exact l1) (by rw[aU];exact b1) (by rw[zf Y];exact hp) h0 (λ i ob e m=>?_) (RVL.monoW gw _ _ b1 rv) R2⟩;by_cases hi:i=r
 .subst hi;exact bP Y
 .rw[ar (bP hi)]at e;exact Z i ob e m
structure Ck where
 N:List Str
 sc:Scope
 lk:String->List Nat->Expr->Bool
noncomputable abbrev ck0 (N:yI)(sc:Scope):Ck:=⟨N,sc,λ _ _ _=>dr⟩
noncomputable def Ck.vis (c:Ck)(x:Str):Bool:=match c.sc.names.lookup x with|some .local=>ca|some .cell=>ca|some .free=>ca|_=>dr
noncomputable def Ck.loc (c:Ck)(x:Str):Bool:=match c.sc.names.lookup x with|some .local=>ca|some .cell=>ca|_=>dr
noncomputable def Ck.gl (c:Ck)(x:Str):Bool:=(match c.sc.names.lookup x with|some .globalImplicit=>ca|_=>dr)&&!(x==("__debug__"))&&!decide (x=("__name__"))
noncomputable def Ck.var (c:Ck)(i:Nat)(x:Str):Bool:=decide (c.N[i]?=aT x)&&c.vis x&&!(x==("__debug__"))&&!(x==("__classdict__"))
noncomputable def shp:Expr->Bool
 | .Starred ..=>dr
 | .Set ..=>dr
 | .SetComp ..=>dr
 | .DictComp ..=>dr
 | .GeneratorExp ..=>dr
 | .Slice ..=>dr
 | .NamedExpr ..=>dr
 | _=>ca
noncomputable def al1:Expr->Bool
 | .ListComp ..=>dr
 | .SetComp ..=>dr
 | .DictComp ..=>dr
 | _=>ca
noncomputable def cb8:Expr->Bool
 | .Tuple ..=>dr
 | _=>ca
noncomputable def ba8:Expr->Bool
 | .Call _ [] [] _=>dr
 | _=>ca
noncomputable def mC:DV.Cn->Const->Bool
 | .N,.none=>ca
 | .T b,.bool c=>b==c
 | .int i,.int j=>decide (i=j)
 | .str x,.str y=>decide (y=⟨x.toArray⟩)&&decide (x.length<=1000)
 | _,_=>dr
noncomputable def cg4 (ck:Ck):List Nat->List Expr->Bool
 | [],[]=>ca
 | i::is,.Name x _::es=>decide (ck.N[i]?=aT x)&&ck.loc x&&cg4 ck is es
 | _,_=>dr
def mTg (ck:Ck):nM->Expr->Bool
 | .Y i,.Name x _=>decide (ck.N[i]?=aT x)&&ck.loc x
 | .tp is,.Tuple es _ _=>cg4 ck is es
 | _,_=>dr
noncomputable def tgN:Expr->List Str
 | .Name x _=>[x]
 | .Tuple es _ _=>es.filterMap λ e=>match e with|.Name x _=>aT x|_=>bY
 | _=>[]
structure ItT where
 x:Str
 y:Str
 ob:Expr
 sc:Scope
 p1:Pos
 p2:Pos
 p3:Pos
 p4:Pos
 p5:Pos
 p6:Pos
 p7:Pos
 k1:Nat
 k2:Nat
 ap:Pos
 cp:Pos
 pos:Pos
noncomputable def ItT.tg (q:ItT):Expr:=.Tuple [.Name q.x q.p5,.Name q.y q.p6] q.k2 q.p7
noncomputable def ItT.it (q:ItT):Expr:=.Call (.Attribute q.ob "items" q.ap) [] [] q.cp
noncomputable def ItT.text (q:ItT):Expr:=.ListComp (.BinOp (.Name q.x q.p1) .Add (.Tuple [.Name q.y q.p2] q.k1 q.p3) q.p4) [⟨q.tg,q.it,[],0⟩] q.sc q.pos
def ckC (ck:Ck)(tgt:Expr)(caps:yE)(scope:Scope):Ck:=⟨tgN tgt++(caps.filterMap id).map λ j=>ck.N.getD j "",scope,λ _ _ _=>dr⟩
def aD0 (ck:Ck)(tg:nM)(tgt iter:Expr)(caps:yE)(scope:Scope):Bool :=
 zU (ckC ck tgt caps scope).N caps scope ck.N ck.sc&&decide ((ckC ck tgt caps scope).N.Nodup)&&mTg (ckC ck tgt caps scope) tg tgt&&shp iter
noncomputable def isK:DV.L->Bool
 | .compK ..=>ca
 | _=>dr
def noK:nU->Bool
 | .mk _ l=>!isK l
 | _=>ca
noncomputable def bY8:Expr->Bool
 | .Tuple ..=>ca
 | _=>dr
noncomputable def biT:nR->Option Str
 | .len=>aT "len" | .abs=>aT "abs" | .min2=>aT "min" | .int=>aT "int" | .str=>aT "str" | _=>bY
noncomputable def biK:nR->Option (Nat×Str)
 | .isInt=>aT (1, "int")|.isBool=>aT (2, "bool")|.isStr=>aT (3, "str")|.isTup=>aT (4, "tuple")|.isList=>aT (5, "list")|_=>bY
noncomputable def mkT:oM->Option Str
 | .tuple=>aT "tuple" | .list=>aT "list" | _=>bY
noncomputable def mkF:oM->Option Str
 | .all=>aT "all" | .sum=>aT "sum" | .min=>aT "min" | _=>bY
noncomputable def mtT:oN->Option (Str×Nat)
 | .append=>aT ("append",1)|_=>bY
def cf2 (ck:Ck)(b:nR)(x:Str)(xs:yL)(m1 m2:Bool):Bool:=match biK b with
 | some p=>(match xs with|[_,.Name y _]=>decide (x=("isinstance"))&&ck.gl x&&decide (y=p.2)&&ck.gl y&&m2|_=>dr)
 | none=>(match xs with|_::_=>decide (biT b=aT x)&&ck.gl x&&m1|[]=>dr)
noncomputable def bB0:d8->Option (List Str)
 | ⟨[],args,bY,[],[],bY,[]⟩=>aT (args.map (·.arg))
 | _=>bY
mutual
noncomputable def mE (ck:Ck):nU->Expr->Bool
 | .X i,E=>match E with|.Name x _=>ck.var i x|_=>dr
 | .K c,E=>match E with|.Constant v _ _=>mC c v|_=>dr
 | .gl g,E=>match E with|.Name x _=>decide (x=(g:Str))&&ck.gl x|_=>dr
 | .G op a b,E=>match E with|.BinOp l o r _=>decide (o=ci9 op)&&mE ck a l&&mE ck b r|_=>dr
 | .neg a,E=>match E with|.UnaryOp .USub l _=>mE ck a l|_=>dr
 | .not a,E=>match E with|.UnaryOp .Not l _=>mE ck a l|_=>dr
 | .Z op a b,E=>match E with|.Compare l [o] [r] _=>decide (o=as3 op)&&mE ck a l&&mE ck b r|_=>dr
 | .chain o p a b c,E=>match E with|.Compare l [o1,o2] [m,r] _=>decide (o1=as3 o)&&decide (o2=as3 p)&&mE ck a l&&mE ck b m&&mE ck c r|_=>dr
 | .isN a,E=>match E with|.Compare l [.Is] [.Constant .none _ _] _=>mE ck a l|_=>dr
 | .notN a,E=>match E with|.Compare l [.IsNot] [.Constant .none _ _] _=>mE ck a l|_=>dr
 | .and a b,E=>match E with
  | .BoolOp .And [l,r] _=>mE ck a l&&mE ck b r
  | .BoolOp .And (l::m::r::es) p=>mE ck a l&&mE ck b (.BoolOp .And (m::r::es) p)
  | _=>dr
 | .or a b,E=>match E with
  | .BoolOp .Or [l,r] _=>mE ck a l&&mE ck b r
  | .BoolOp .Or (l::m::r::es) p=>mE ck a l&&mE ck b (.BoolOp .Or (m::r::es) p)
  | _=>dr
 | .ite c a b,E=>match E with|.IfExp t l r _=>mE ck c t&&mE ck a l&&mE ck b r|_=>dr
 | .tp es,E=>match E with|.Tuple xs _ _=>mEs ck es xs&&decide (xs.length<=1000)|_=>dr
 | .J es,E=>match E with|.List xs _=>mEs ck es xs&&decide (xs.length<=1000)|_=>dr
 | .dc ks vs,E=>match E with|.Dict a b _=>(match a,b with|[],[]=>mEs ck ks []&&mEs ck vs []|[aT x],[y]=>mEs ck ks [x]&&mEs ck vs [y]|_,_=>dr)|_=>dr
 | .slL a lo,E=>match E with|.Subscript o (.Slice (aT l) bY bY _) _=>mE ck a o&&mE ck lo l|_=>dr
 | .slU a hi,E=>match E with|.Subscript o (.Slice bY (aT h) bY _) _=>mE ck a o&&mE ck hi h|_=>dr
 | .slLU a lo hi,E=>match E with|.Subscript o (.Slice (aT l) (aT h) bY _) _=>mE ck a o&&mE ck lo l&&mE ck hi h|_=>dr
 | .bitl o,E=>match E with|.Call (.Attribute ob x ap) [] [] cp=>decide (x=("bit_length":Str))&&ba8 ob&&(ap.endLine==cp.line)&&mE ck o ob|_=>dr
 | .ix a b,E=>match E with|.Subscript o i _=>mE ck a o&&mE ck b i|_=>dr
 | .call f as,E=>match E with|.Call (.Name x _) xs [] _=>decide (x=(f:Str))&&ck.gl x&&mAs ck as xs|_=>dr
 | .bi b es,E=>match E with|.Call (.Name x _) xs [] _=>cf2 ck b x xs (mEs ck es xs) (mEs ck es (xs.take 1))|_=>dr
 | .mk k l,E=>match E with
  | .Call (.Name x _) [a] [] _=>ck.gl x&&shp a&&((decide (mkT k=aT x)&&mL ck 2 l a)||(decide (mkF k=aT x)&&mL ck 1 l a))
  | .ListComp e gs sc p=>decide (k=.list)&&(mL ck 0 l (.ListComp e gs sc p)||(isK l&&mL ck 1 l (.ListComp e gs sc p)))
  | _=>dr
 | .mkD k l d,E=>match E with
  | .Call (.Name x _) [a] [⟨aT y,de,_⟩] _=>(decide (k=.min)&&decide (x=("min":Str)))&&decide (y=("default":Str))&&ck.gl x&&shp a&&mL ck 1 l a&&mE ck d de
  | _=>dr
 | .me m o es,E=>match E with
  | .Call (.Attribute ob x ap) xs [] cp=>decide (mtT m=aT (x,xs.length))&&ba8 ob&&(ap.endLine==cp.line)&&mE ck o ob&&mEs ck es xs
  | _=>dr
 | .ext o l,E=>match E with
  | .Call (.Attribute ob x ap) [a] [] cp=>decide (x=("extend":Str))&&ba8 ob&&(ap.endLine==cp.line)&&mE ck o ob&&mL ck 1 l a&&shp a
  | _=>dr
 | .extS o e,E=>match E with
  | .Call (.Attribute ob x ap) [a] [] cp=>decide (x=("extend":Str))&&ba8 ob&&(ap.endLine==cp.line)&&mE ck o ob&&mE ck e a&&shp a
  | _=>dr
 | .attr o f,E=>match E with|.Attribute ob x _=>decide (x=⟨f.toArray⟩)&&ba8 ob&&mE ck o ob|_=>dr
 | .srt e,E=>match E with|.Call (.Name x _) [a] [] _=>decide (x=("sorted":Str))&&ck.gl x&&shp a&&mE ck e a|_=>dr
 | .new c as,E=>match E with|.Call (.Name x _) xs [] _=>decide (x=(c:Str))&&ck.gl x&&mAs ck as xs|_=>dr
 | .mcall o m as,E=>match E with|.Call (.Attribute ob x ap) xs [] cp=>(match ob with|.Name y py=>decide (x=(m:Str))&&mE ck o (.Name y py)&&(ap.endLine==cp.line)&&decide (xs.length<29)&&mAs ck as xs|_=>dr)|_=>dr
noncomputable def mEs (ck:Ck):ny->List Expr->Bool
 | .nil,xs=>match xs with|[]=>ca|_=>dr
 | .cons e es,xs=>match xs with|x::xs=>mE ck e x&&shp x&&mEs ck es xs|_=>dr
noncomputable def mFs (ck:Ck):ny->List Expr->Bool
 | .nil,xs=>match xs with|[]=>ca|_=>dr
 | .cons e es,xs=>match xs with
  | .FormattedValue v c bY _::xs=>decide (c=-1)&&mE ck e v&&mFs ck es xs
  | .Constant v j p::xs=>mE ck e (.Constant v j p)&&mFs ck es xs
  | _=>dr
noncomputable def mAs (ck:Ck):nW->List Expr->Bool
 | .nil,xs=>match xs with|[]=>ca|_=>dr
 | .ex e es,xs=>match xs with|x::xs=>mE ck e x&&shp x&&mAs ck es xs|_=>dr
 | .fn _ _,_=>dr
noncomputable def cq2 (ck:Ck):nW->List Expr->Bool
 | .nil,xs=>match xs with|[]=>ca|_=>dr
 | .ex e es,xs=>match xs with|x::xs=>mE ck e x&&shp x&&cq2 ck es xs|_=>dr
 | .fn _ _,_=>dr
noncomputable def mI (ck:Ck)(tgt:Expr):DV.I->Expr->Bool
 | .rg a,E=>match E with|.Call (.Name x _) [l] [] _=>decide (x=("range":Str))&&ck.gl x&&mE ck a l&&shp l|_=>dr
 | .seq e,x=>mE ck e x&&shp x
 | .rngD a,E=>match E with|.Call (.Name x _) [l,.UnaryOp .USub (.Constant v _ _) _,.UnaryOp .USub (.Constant u _ _) _] [] _=>decide (x=("range":Str))&&ck.gl x&&mE ck a l&&shp l&&decide (v=.int 1)&&decide (u=.int 1)|_=>dr
 | .enum (.seq a),E=>match E with|.Call (.Name x _) [l] [] _=>decide (x=("enumerate":Str))&&ck.gl x&&mE ck a l&&shp l&&bY8 tgt|_=>dr
 | .enum _,_=>dr
 | .keys e,x=>mE ck e x&&shp x
noncomputable def mL (ck:Ck)(k:Nat):DV.L->Expr->Bool
 | .comp tg it e caps,E=>match E with|.ListComp elt [⟨tgt,iter,[],z⟩] scope _=>decide (z=0)&&aD0 ck tg tgt iter caps scope&&mI ck tgt it iter&&mE (ckC ck tgt caps scope) e elt|_=>dr
 | .compIf tg it c e caps,E=>match E with|.ListComp elt [⟨tgt,iter,[i],z⟩] scope _=>decide (z=0)&&aD0 ck tg tgt iter caps scope&&mI ck tgt it iter&&mE (ckC ck tgt caps scope) c i&&mE (ckC ck tgt caps scope) e elt|_=>dr
 | .disp es,E=>match E with|.List xs _=>decide (1<=k)&&mEs ck es xs&&decide (xs.length<=1000)|_=>dr
 | .seq e,x=>decide (k=2)&&mE ck e x
 | .compK tg e b caps,E=>match E with|.ListComp elt [⟨tgt,iter,[],z⟩] scope _=>decide (1<=k)&&decide (z=0)&&aD0 ck tg tgt iter caps scope&&(mE ck e iter&&shp iter)&&mE (ckC ck tgt caps scope) b elt|_=>dr
end
def ff {p:Prop}(h:dr=ca):p:=km h
mutual
noncomputable def mS (ck:Ck):DV.S->Stmt->Bool
 | .A tg e,S=>match S with
  | .Assign [t] v _=>mTg ck tg t&&mE ck e v&&(match tg with|.Y _=>noK e|.tp _=>cb8 v&&al1 v)
  | _=>dr
 | .setIx o i e,S=>match S with|.Assign [.Subscript ob ix _] v _=>mE ck o ob&&mE ck i ix&&mE ck e v&&al1 v|_=>dr
 | .ex e,S=>match S with|.Expr v _=>mE ck e v&&al1 v|_=>dr
 | .ret e,S=>match S with|.Return (aT v) _=>mE ck e v|_=>dr
 | .ite c a b,S=>match S with|.If t l r _=>mE ck c t&&mSs ck a l&&mSs ck b r|_=>dr
 | .whl c b,S=>match S with|.While t l [] _=>mE ck c t&&mSs ck b l|_=>dr
 | .fo tg it b,S=>match S with|.For tgt iter l [] _=>mTg ck tg tgt&&mI ck tgt it iter&&mSs ck b l|_=>dr
 | .raise,_=>ca
 | .setA o f e,S=>match S with|.Assign [.Attribute ob x _] v _=>decide (x=⟨f.toArray⟩)&&mE ck o ob&&mE ck e v&&al1 v|_=>dr
noncomputable def mSs (ck:Ck):ph->List Stmt->Bool
 | .nil,xs=>match xs with|[]=>ca|_=>dr
 | .cons s ss,xs=>match xs with|x::xs=>(mS ck s x&&mSs ck ss xs)|_=>dr
end
def aC6 (h:mE z e E=ca):shp E=true:=by
 cases E<;>first|rfl|(exfalso;cases e<;>exact ff h)
def bY7 (h:mI z J e E=ca):shp E=true:=by
 cases e with
 | seq e=>have h:(mE z e E&&shp E)=true:=h;rw[aj]at h;exact h.2
 | keys e=>have h:(mE z e E&&shp E)=true:=h;rw[aj]at h;exact h.2
 | enum a=>cases E<;>first|rfl|(exfalso;cases a<;>exact ff h)
 | _=>cases E<;>first|rfl|exact ff h
def aG7 (h:o3 x s t r=.ok d s'):oG x s=oG x t/\r=.ok d s':=by
 unfold o3 at h;split at h
 .exact⟨by assumption,h⟩
 .cases h
def bM9 (h:s[a]?=aT o)(g:t[a]?=aT o')(n:o.kd≠o'.kd):¬ oG (.ref a) s=oG (.ref a) t:=by
 unfold oG;simp only[h,g];exact λ q=>n (aM q)
def za {es:yL}(h:shp e=ca):bf (e::es) env=(dr,eval e env)::bf es env:=by
 cases e<;>first|rfl|cases h
theorem zv :∀ {es:yL},(∀ e∈es,shp e=ca)->(du pos (bf es env)).any (·.1)=dr/\(du pos (bf es env)).all (λ x=>!x.1)=ca
 | [],_=>⟨rfl,rfl⟩
 | e::es,h=>by
  have J:=za (es:=es) (env:=env) (h e (ao ..));obtain⟨z,h3⟩:=zv (env:=env) (pos:=pos) λ x hx=>h x (ah _ hx);rw[J];unfold du at z h3 ⊢;simp only[aY,gQ,dR,z,h3];exact⟨rfl,rfl⟩
def ax5 (h:shp e=ca) x :dX e env x=pure x:=by
 cases e<;>first|rfl|cases h
def ar6 (h:shp e=ca):dv op e=false:=by
 cases e<;>first|rfl|cases h
def qZ (h:al1 e=ca):eQ e t l env=pure false:=by
 cases e<;>first|rfl|cases h
def jb (h:ba8 e=ca):eG e f env (eval e env)=eval e env:=by
 cases e with
 | Call g a k p =>
  cases g with
  | Name x p' =>
   cases a with
   | nil=>cases k with
    | nil=>cases h
    | cons _ _=>rfl
   | cons _ _=>rfl
  | _=>rfl
 | _=>rfl
def aR7 {es:yL}(h:cb8 e=ca):gH [.Tuple es k p] e env=pure none:=by
 cases e<;>first|rfl|cases h
def aT2 :gH [.Subscript o i p] e env=pure none:=by
 cases e<;>rfl
def au0 (h:shp e=ca):aZ5 e:=by
 intro o i;cases e<;>first|rfl|cases h
def spV (Γ:Gm)(c:List mO->mM->mU mO):Sp:=λ vs H Q _=>rCl Γ c vs H Q
noncomputable def bNames:List Str:=["len", "abs", "min", "max", "int", "isinstance", "bool", "str", "tuple", "list", "range", "sum", "all", "any", "sorted", "zip", "enumerate", "ord"]
noncomputable def LamI.own (J:LamI):Str:=match J.nm with|none => "<lambda>" | some p=>p.1
noncomputable def strD (kvs:List (List Nat×List Nat)):List (PyData×PyData):=kvs.map λ p=>(.str ⟨p.1.toArray⟩,.str ⟨p.2.toArray⟩)
structure ObOk (Γ:Gm)(prog:aD)(w:World)(K:ae)(mg:yD)(base:Heap)(F:ni)(n:Nat):Prop where
 att:∀(c:String) (f:List Nat) (Cc:Addr),F.att c f=ca->Γ.cls c=aT Cc->NoAttr K Cc ⟨f.toArray⟩
 mc:∀ c m:String,(∀ l s,F.mcall c m l s=.B)\/∃ Cc a fd ps,Γ.cls c=aT Cc/\Cls K Cc/\Meth K Cc (m:Str) a/\FnOk prog w K mg base CX0 n a fd ps (spV Γ (F.mcall c m))/\Binds K fd ps []
 nw:∀ c:String,(∀ l s,F.new c l s=.B)\/∃ k Cc a fd ps,k+1<=n/\(Γ.cls c=aT Cc/\Cls K Cc)/\mg (c:Str)=aT (.ref Cc)/\Mk K Cc a/\FnOk prog w K mg base CX0 k a fd ps (spV Γ (F.new c))/\Binds K fd ps []
structure CG (Γ:Gm)(F:ni)(n:Nat)(X:Cx)(ck:Ck):Prop where
 K:X.K=Γ.K
 N:X.N=ck.N
 nd:ck.N.Nodup
 xe:X.xe=λ _ _=>False
 calm:X.calm=ca
 deep:nu+1<=n
 room:Room n X.A
 sc:∀ x k,ck.sc.names.lookup x=aT k->X.env.scope.names.lookup x=aT k\/(k=.free/\X.env.scope.names.lookup x=aT .cell)
 fn:∀ x,ck.sc.names.lookup x=aT .cell->X.fn x=ca
 bi:∀ x∈bNames,X.mg x=bY
 call:∀ f:String,(∀ l s,F.call f l s=.B)\/∃ a fd ps,FnOk X.prog X.w X.K X.mg X.base CX0 n a fd ps (spV Γ (F.call f))/\X.mg (f:Str)=aT (.ref a)/\bF X.K (.ref a)=ca/\Binds X.K fd ps []
 con:∀ x d,F.con x=aT d->∃ v u,X.mg (x:Str)=aT u/\RelV v u/\(∀ m,d.bnd m=ca)/\∀ C H,RV Γ C H d v
 lam:∀ id caps E,ck.lk id caps E=ca->False
 cl:True
 fa:∀(f:String) (a:Addr),Γ.fa f=aT a->X.mg (f:Str)=aT (.ref a)/\∃ oc od fd sl,X.K.lookup a=aT ⟨oc,od,.func fd,sl⟩
 cdc:∀ c kvs,F.cdc c=aT kvs->∃ a,X.mg (c:Str)=aT (.ref a)/\∀ h:Heap,X.K.In h->StrTab X.prog X.w h a (strD kvs)
 ob:ObOk Γ X.prog X.w X.K X.mg X.base F n
section
variable {Γ:Gm} {F:ni} {n:Nat} {X:Cx} {ck:Ck}
set_option tactic.hygienic true
theorem CG.vis (G:CG Γ F n X ck)(h:ck.vis x=ca):Vis X.env.scope x:=by
 unfold Ck.vis at h;split at h
 .rename_i e;rcases G.sc _ _ e with z|⟨z,_⟩
  .exact .inl z
  .cases z
 .rename_i e;rcases G.sc _ _ e with z|⟨z,_⟩
  .exact .inr (.inl z)
  .cases z
 .rename_i e;rcases G.sc _ _ e with z|⟨_,z⟩
  .exact .inr (.inr z)
  .exact .inr (.inl z)
 .cases h
theorem CG.loc (G:CG Γ F n X ck)(h:ck.loc x=ca):Loc X.env.scope x/\(X.fn x=ca\/X.env.scope.names.lookup x=aT .local):=by
 unfold Ck.loc at h;split at h
 .rename_i e;rcases G.sc _ _ e with z|⟨z,_⟩
  .exact⟨.inl z,.inr z⟩
  .cases z
 .rename_i e;rcases G.sc _ _ e with z|⟨z,_⟩
  .exact⟨.inr z,.inl (G.fn _ e)⟩
  .cases z
 .cases h
theorem CG.gl (G:CG Γ F n X ck)(h:ck.gl x=ca):Gl X x/\(x==("__debug__"))=dr/\x ≠ "__name__":=by
 unfold Ck.gl at h;simp only[aj,gD]at h;obtain⟨⟨J,Y⟩,h3⟩:=h;refine⟨?_,Y,of_decide_eq_false h3⟩;split at J
 .rename_i e;rcases G.sc _ _ e with z|⟨z,_⟩
  .exact z
  .cases z
 .cases J
set_option tactic.hygienic false
theorem bw9 (G:CG Γ F n X ck):∀ {is} {es:yL},cg4 ck is es=ca->PGs X es (cg2 is)/\(c9 es X.env).length=is.length/\(c9 es X.env).findIdx? (·.1)=bY
 | [],[],_=>⟨bN4,rfl,rfl⟩
 | [],_::_,h=>by cases h
 | i::is,[],h=>by cases h
 | i::is,e::es,h=>by
  cases e with
  | Name x p =>
   unfold cg4 at h;simp only[aj,oR]at h;obtain⟨⟨z,J⟩,h3⟩:=h;obtain⟨l1,Y⟩:=G.loc J;obtain⟨a,b,c⟩:=bw9 G h3;have hs:c9 (.Name x p::es) X.env=(dr,hV (.Name x p) X.env)::c9 es X.env:=rfl;refine⟨bn3 (aZ2 (by rw[G.N];exact G.nd) (by rw[G.N];exact z) l1 Y) a (by rw[hs];rfl),by rw[hs,aQ,aQ,b],?_⟩;rw[hs,List.findIdx?_cons];simp[c]
  | _=>cases h
def bC4 (G:CG Γ F n X ck)(h:mTg ck tg e=ca):PG X e (gOf Γ.K tg):=by
 unfold mTg at h;split at h
 .simp only[aj,oR]at h;obtain⟨l1,z⟩:=G.loc h.2;exact aZ2 (by rw[G.N];exact G.nd) (by rw[G.N];exact h.1) l1 z
 .obtain⟨a,b,c⟩:=bw9 G h;exact bM1 G.K G.calm a b c
 .cases h
set_option tactic.hygienic true in
def CG.comp (G:CG Γ F n X ck)(h:aD0 ck tg Y iter J scope=ca) :
  zU (ckC ck Y J scope).N J scope X.N X.env.scope=ca/\shp iter=ca /\
  ∀(Cc:Addr) (cells:yC) (s:af) (H:Hp) (ex:List Addr),CG Γ F n (zK X (ckC ck Y J scope).N scope Cc cells s H ex) (ckC ck Y J scope)/\PG (zK X (ckC ck Y J scope).N scope Cc cells s H ex) Y (gOf Γ.K tg):=by
 unfold aD0 at h;simp only[aj,oR]at h;obtain⟨⟨⟨Z,h2⟩,h3⟩,h4⟩:=h;refine⟨?_,h4,λ Cc cells s H ex=>?_⟩
 .rw[G.N];unfold zU at Z ⊢;simp only[aj]at Z ⊢;obtain⟨⟨⟨⟨⟨a1,a2⟩,a3⟩,a4⟩,a5⟩,a6⟩:=Z;refine⟨⟨⟨⟨⟨a1,?_⟩,a3⟩,a4⟩,a5⟩,a6⟩;rw[aA]at a2 ⊢;intro y hy;have:=a2 y hy;rw[bz]at this ⊢;rcases this with q|q
  .exact .inl q
  .right
   rw[bz]at q ⊢;rcases q with q|q
   .rcases G.sc _ _ (ll q)with z|⟨z,_⟩
    .left;rw[z];exact beq_self_eq_true _
    .cases z
   .rcases G.sc _ _ (ll q)with z|⟨_,z⟩
    .right;rw[z];exact beq_self_eq_true _
    .left;rw[z];exact beq_self_eq_true _
 .have G':CG Γ F n (zK X (ckC ck Y J scope).N scope Cc cells s H ex) (ckC ck Y J scope):=by
   refine⟨G.K,rfl,h2,rfl,G.calm,G.deep,G.room,λ x k e=>?_,λ x e=>?_,G.bi,G.call,G.con,λ _ _ _ h=>(by cases h),G.cl,G.fa,G.cdc,G.ob⟩
   .have q:=qp (env:=X.env) e;have q':(fx scope X.env).names.lookup x=aT (if(k==NameKind.free&&X.env.scope.kind==.function&&X.env.kindOf x==aT .cell)then NameKind.cell else k):=q;show(fx scope X.env).names.lookup x=aT k\/_;rw[q'];split
    .rename_i hc;simp only[aj]at hc;exact .inr ⟨ll hc.1.1,rfl⟩
    .exact .inl rfl
   .show(scope.names.lookup x==aT .cell)=ca;rw[show scope.names.lookup x=aT .cell from e];rfl
  exact⟨G',bC4 G' h3⟩
end
section
variable {Γ:Gm} {F:ni} {n:Nat} {X:Cx} {ck:Ck} {W:St} {H:Hp} {Q:VK}
def TEv.eq (e:∀ U s,m U s=m' U s)(q:TEv Γ m W H Q):TEv Γ m' W H Q:=by
 have:=funext λ U=>funext λ s=>e U s;subst this;exact q
def TTv.eq {Q}(e:∀ U s,m U s=m' U s)(q:TTv Γ m W H Q):TTv Γ m' W H Q:=by
 have:=funext λ U=>funext λ s=>e U s;subst this;exact q
def TAv.eq {Q}(e:∀ U s,m U s=m' U s)(q:TAv Γ m W H Q):TAv Γ m' W H Q:=by
 have:=funext λ U=>funext λ s=>e U s;subst this;exact q
def TFv.eq (e:∀ U s,m U s=m' U s)(q:TFv Γ m W H Q):TFv Γ m' W H Q:=by
 have:=funext λ U=>funext λ s=>e U s;subst this;exact q
def TIv.eq (e:∀ U s,m U s=m' U s)(q:TIv Γ m W H R):TIv Γ m' W H R:=by
 have:=funext λ U=>funext λ s=>e U s;subst this;exact q
def TSv.eq (e:∀ U s,m U s=m' U s)(q:TSv Γ m D W H):TSv Γ m' D W H:=by
 have:=funext λ U=>funext λ s=>e U s;subst this;exact q
def EvT (Γ:Gm)(X:Cx)(E:Expr)(m:mQ->mM->mU mO):Prop:=PE X E (TEv Γ m)/\PT X E (TTv Γ m)
def EvT.val (h:PE X E (TEv Γ m))(J:autoParam (∀ z,gG E X.env z=(do let v <- z;jL E.pos;gu [v] (truthy v))) Zq3._auto_1):EvT Γ X E m :=
 ⟨h,(bd8 h J).imp λ W H Q q=>aN2 q⟩
def bm8 (hc:PT X c tA)(ha:PT X a tb)(hb:PT X b tc):PT X (.IfExp c a b pos) (λ W H Q=>tA W H λ k J=>if k=ca then tb W J Q else tc W J Q):=by
 intro z s W H Q I h;have e:gG (.IfExp c a b pos) X.env (eval (.IfExp c a b pos) X.env)=(do if <- gG c X.env (eval c X.env)then gG a X.env (eval a X.env)else gG b X.env (eval b X.env)):=rfl;rw[e];refine ai (thn (hc z s W H _ I h) λ k s1 ⟨J,Z,Y⟩=>?_);cases k with
 | true=>exact ha z s1 W J Q Z Y
 | false=>exact hb z s1 W J Q Z Y
def bP2 {Q}(h:TTv Γ (λ U s=>nq (mc U s) λ k s=>if k then J U s else Y U s) W H Q):TTv Γ mc W H λ k z=>if k=ca then TTv Γ J W z Q else TTv Γ Y W z Q:=by
 obtain⟨C,U,s,d,s',E,R,hm,q⟩:=h;obtain⟨c,s1,e1,hm⟩:=zL hm;refine⟨C,U,s,c,s1,E,R,e1,λ C1 z g1 l1 R1=>?_⟩;cases c with
 | true =>
  rw[ij rfl]at hm ⊢;exact⟨C1,U,s1,d,s',E.mono g1 l1,R1,hm,q.trans g1 l1⟩
 | false =>
  rw[iF aF]at hm ⊢;exact⟨C1,U,s1,d,s',E.mono g1 l1,R1,hm,q.trans g1 l1⟩
section
variable {a b c:nU} {l r t:Expr} {pos:Pos}
def bB3 (G:CG Γ F n X ck) op (ha:EvT Γ X l (mR F a))(hb:EvT Γ X r (mR F b)):EvT Γ X (.BinOp l (ci9 op) r pos) (mR F (.G op a b)) :=
 .val ((bY4 (cd2 G.K op) ha.1 hb.1).imp λ W H Q q=>bq3 (TEv.eq (λ U s=>rfl) q))
def bC5 (ha:EvT Γ X l (mR F a)):EvT Γ X (.UnaryOp .USub l pos) (mR F (.neg a)) :=
 .val ((bX6 by9 ha.1).imp λ W H Q q=>cl5 (TEv.eq (λ U s=>rfl) q) λ C s x d s' v H' R r z hm k=>by
  cases x with
  | int i =>
   cases hm;exact⟨i,r.intE,k.here R rfl RV.intI⟩
  | _=>cases hm)
def bA8 (ha:EvT Γ X l (mR F a)):EvT Γ X (.UnaryOp .Not l pos) (mR F (.not a)) :=
 ⟨(bz3 ha.1).imp λ W H Q q=>bX7 (TEv.eq (λ U s=>rfl) q),(by0 ha.2).imp λ W H Q q=>bU9 (TTv.eq (λ U s=>rfl) q)⟩
def bL1 (G:CG Γ F n X ck) op (hs:shp r=ca)(ha:EvT Γ X l (mR F a))(hb:EvT Γ X r (mR F b)):EvT Γ X (.Compare l [as3 op] [r] pos) (mR F (.Z op a b)):=by
 have ho:=bk1 G.K (G.room.mono G.deep) op;refine⟨(aV8 ho ha.1 hb.1 (ar6 hs)).imp λ W H Q q=>bq3 (TEv.eq (λ U s=>rfl) q),(be6 ho ha.1 hb.1 (ar6 hs)).imp λ W H Q q=>?_⟩;have q:=bc3 q;exact bq3 (TEv.eq (λ U s=>rfl) q)
def be5 (G:CG Γ F n X ck) o p (z:shp t=ca)(ha:EvT Γ X l (mR F a))(hb:EvT Γ X r (mR F b))(hc:EvT Γ X t (mR F c)):EvT Γ X (.Compare l [as3 o,as3 p] [r,t] pos) (mR F (.chain o p a b c)):=by
 have ho:=bk1 (Γ:=Γ) G.K (G.room.mono G.deep) o;have hp:=bk1 (Γ:=Γ) G.K (G.room.mono G.deep) p;have hm:lO [as3 o,as3 p] [r,t]=false:=by
  show dv (as3 p) t=dr;exact ar6 z
 refine⟨(bt4 ho hp ha.1 hb.1 hc.1 hm).imp λ W H Q q=>aL2 (TEv.eq (λ U s=>rfl) q),(br8 ho hp ha.1 hb.1 hc.1 hm).imp λ W H Q q=>?_⟩;have q:=bc3 q;exact aL2 (TEv.eq (λ U s=>rfl) q)
def RV.nonIff (r:RV Γ C H x v):decide (v=.N)=decide (x=.N):=by
 cases x with
 | N=>rw[r.nonE];rfl
 | T b=>rw[r.blE];rfl
 | int i=>rw[r.intE];rfl
 | str z=>rw[r.strE];rfl
 | tp l=>obtain⟨a,J,rfl,_⟩:=r.tupE;rfl
 | ref k=>rw[r.refE];rfl
 | fn f=>unfold RV at r;obtain⟨a,_,rfl⟩:=r;rfl
 | clo f cs=>unfold RV at r;obtain⟨f,_,_,_,rfl,_⟩:=r;rfl
def bF0 (ha:EvT Γ X l (mR F a)):EvT Γ X (.Compare l [.Is] [.Constant .none j pos'] pos) (mR F (.isN a)):=by
 have key:∀ W H Q,TEv Γ (mR F (.isN a)) W H Q->co7 (TEv Γ (mR F a)) W H Q:=λ W H Q q=>by
  obtain⟨C,U,s,d,s',E,R,hm,k⟩:=q;obtain⟨x,s1,e1,hm⟩:=aa1 hm;cases hm;refine⟨C,U,s,x,_,E,R,e1,λ v C1 z g1 l1 J r1 R1=>?_⟩;show Q (.T (decide (v=.N))) z;rw[r1.nonIff];exact k _ C1 z g1 l1 rfl RV.blI R1
 exact⟨(bw6 (bv2 ha.1)).imp key,(bw2 (bv2 ha.1)).imp λ W H Q q=>key _ _ _ (aN2 q)⟩
def bu7 (ha:EvT Γ X l (mR F a)):EvT Γ X (.Compare l [.IsNot] [.Constant .none j pos'] pos) (mR F (.notN a)):=by
 have key:∀ W H Q,TEv Γ (mR F (.notN a)) W H Q->bZ0 (TEv Γ (mR F a)) W H Q:=λ W H Q q=>by
  obtain⟨C,U,s,d,s',E,R,hm,k⟩:=q;obtain⟨x,s1,e1,hm⟩:=aa1 hm;cases hm;refine⟨C,U,s,x,_,E,R,e1,λ v C1 z g1 l1 J r1 R1=>?_⟩;show Q (.T (!decide (v=.N))) z;rw[r1.nonIff];exact k _ C1 z g1 l1 rfl RV.blI R1
 exact⟨(bw6 (aW9 ha.1)).imp key,(bw2 (aW9 ha.1)).imp λ W H Q q=>key _ _ _ (aN2 q)⟩
def bb5 {es:yL}{t}(h:PT X (.BoolOp op es pos) t):PW X (.BoolOp op es pos) t:=by
 intro J z s W H Q I q;have:=h z s W H Q I q;have e:∀ w,gG (.BoolOp op es pos) X.env w=allTrue op es X.env:=λ w=>rfl;rw[e]at this ⊢;exact this
def bA7 (ha:EvT Γ X l (mR F a))(hb:EvT Γ X r (mR F b)):EvT Γ X (.BoolOp .And [l,r] pos) (mR F (.and a b)) :=
 ⟨(by4 ha.1 (by5 hb.1)).imp λ W H Q q=>bx7 (TEv.eq (λ U s=>rfl) q),(bw8 ha.2 (bH6 hb.2)).pt.imp λ W H Q q=>bx4 (TTv.eq (λ U s=>rfl) q)⟩
def bH1 {es:yL}(ha:EvT Γ X l (mR F a))(hb:EvT Γ X (.BoolOp .And (r::es) pos) (mR F b)):EvT Γ X (.BoolOp .And (l::r::es) pos) (mR F (.and a b)) :=
 ⟨(by4 ha.1 hb.1).imp λ W H Q q=>bx7 (TEv.eq (λ U s=>rfl) q),(bw8 ha.2 (bb5 hb.2)).pt.imp λ W H Q q=>bx4 (TTv.eq (λ U s=>rfl) q)⟩
def ce1 (ha:EvT Γ X l (mR F a))(hb:EvT Γ X r (mR F b)):EvT Γ X (.BoolOp .Or [l,r] pos) (mR F (.or a b)) :=
 ⟨(bY9 ha.1 (by5 hb.1)).imp λ W H Q q=>ca0 (TEv.eq (λ U s=>rfl) q),(cb1 ha.2 (bR8 hb.2)).pt.imp λ W H Q q=>bV0 (TTv.eq (λ U s=>rfl) q)⟩
def ce9 {es:yL}(ha:EvT Γ X l (mR F a))(hb:EvT Γ X (.BoolOp .Or (r::es) pos) (mR F b)):EvT Γ X (.BoolOp .Or (l::r::es) pos) (mR F (.or a b)) :=
 ⟨(bY9 ha.1 hb.1).imp λ W H Q q=>ca0 (TEv.eq (λ U s=>rfl) q),(cb1 ha.2 (bb5 hb.2)).pt.imp λ W H Q q=>bV0 (TTv.eq (λ U s=>rfl) q)⟩
def bJ3 (hc:EvT Γ X t (mR F c))(ha:EvT Γ X l (mR F a))(hb:EvT Γ X r (mR F b)):EvT Γ X (.IfExp t l r pos) (mR F (.ite c a b)) :=
 ⟨(bt9 hc.2 ha.1 hb.1).imp λ W H Q q=>bX3 (TEv.eq (λ U s=>rfl) q),(bm8 hc.2 ha.2 hb.2).imp λ W H Q q=>bP2 (TTv.eq (λ U s=>rfl) q)⟩
def bT4 (G:CG Γ F n X ck)(hs:shp r=ca)(ha:EvT Γ X l (mR F a))(hb:EvT Γ X r (mR F b)):EvT Γ X (.Subscript l r pos) (mR F (.ix a b)) :=
 .val ((bS0 (ci0 G.K (bx3 G.room)) ha.1 hb.1 (au0 hs)).imp λ W H Q q=>bq3 (TEv.eq (λ U s=>rfl) q))
def bH3 (G:CG Γ F n X ck)(ha:EvT Γ X l (mR F a))(hb:EvT Γ X r (mR F b)):EvT Γ X (.Subscript l (.Slice (aT r) bY bY z) pos) (mR F (.slL a b)) :=
 .val ((ay5 (bN8 G.K) ha.1 (ax6 hb.1) be7).imp λ W H Q q=>(bG5 (mh:=mR F b)).1 (TEv.eq (λ U s=>rfl) q))
def bI8 (G:CG Γ F n X ck)(ha:EvT Γ X l (mR F a))(hb:EvT Γ X r (mR F b)):EvT Γ X (.Subscript l (.Slice bY (aT r) bY z) pos) (mR F (.slU a b)) :=
 .val ((ay5 (bN8 G.K) ha.1 be7 (ax6 hb.1)).imp λ W H Q q=>(bG5 (ml:=mR F b)).2.1 (TEv.eq (λ U s=>rfl) q))
def bk3 (G:CG Γ F n X ck)(ha:EvT Γ X l (mR F a))(hb:EvT Γ X r (mR F b))(hc:EvT Γ X t (mR F c)):EvT Γ X (.Subscript l (.Slice (aT r) (aT t) bY z) pos) (mR F (.slLU a b c)) :=
 .val ((ay5 (bN8 G.K) ha.1 (ax6 hb.1) (ax6 hc.1)).imp λ W H Q q=>bG5.2.2 (TEv.eq (λ U s=>rfl) q))
end
end
section
variable {Γ:Gm} {F:ni} {n:Nat} {X:Cx} {ck:Ck} {W:St} {H:Hp} {Q:VK}
theorem az0:∀ {es} {U} {s s'} {l} {z:yL} {J},nI F es U s=.ok l s'->mEs J es z=ca->l.length=z.length
 | .nil,U,s,s',l,z,J,h,m=>by
  cases h;cases z with
  | nil=>rfl
  | cons _ _=>rw[mEs]at m<;>first|cases m|(intros;simp_all)
 | .cons e es,U,s,s',l,z,J,h,m=>by
  obtain⟨d,s1,e1,h⟩:=aa1 h;obtain⟨r,s2,e2,h⟩:=aa1 h;cases h;cases z with
  | nil=>rw[mEs]at m<;>first|cases m|(intros;simp_all)
  | cons x z =>
   rw[mEs,aj]at m;rw[aQ,aQ,az0 e2 m.2]
theorem aJ3:∀ {es} {z:yL},mEs ck es z=ca->∀ x∈z,shp x=ca
 | .nil,[],_,x,hx=>by cases hx
 | .nil,_::_,m,_,_=>by rw[mEs]at m<;>first|cases m|(intros;simp_all)
 | .cons e es,[],m,x,hx=>by cases hx
 | .cons e es,y::z,m,x,hx=>by
  rw[mEs,aj,aj]at m;rcases aw.mp hx with h|h
  .rw[h];exact m.1.2
  .exact aJ3 m.2 x h
theorem aj2:∀ {es} {z:yL},mAs ck es z=ca->∀ x∈z,shp x=ca
 | .nil,[],_,x,hx=>by cases hx
 | .nil,_::_,m,_,_=>by rw[mAs]at m<;>first|cases m|(intros;simp_all)
 | .ex e es,[],m,x,hx=>by cases hx
 | .fn _ _,_,m,_,_=>by rw[mAs]at m<;>first|cases m|(intros;simp_all)
 | .ex e es,y::z,m,x,hx=>by
  rw[mAs,aj,aj]at m;rcases aw.mp hx with h|h
  .rw[h];exact m.1.2
  .exact aj2 m.2 x h
def aP1 (hs:shp x=ca)(Y:PE X x (TEv Γ (mR F e)))(Z:PA X J (TAv Γ z)) :
  PA X (x::J) (TAv Γ (λ U s=>(mR F e U s).bind λ d s=>(z U s).bind λ l s=>.ok (d::l) s)) :=
 (zo Y Z (za hs)).imp λ W H Q q=>bI1 q
def aN4 (h:k<=1000):k<=aX:=by rw[dZ];lia
theorem bF9 {z:yL}(m:mEs ck es z=ca)(hz:z.length<=1000)(h:PA X z (TAv Γ (nI F es))):EvT Γ X (.Tuple z k pos) (mR F (.tp es)) :=
 .val ((bW0 h).imp λ W H Q q=>tv_tup' hz m q)
where
 tv_tup' {es} {z} {W} {H} {Q} (hz:z.length<=1000) (m:mEs ck es z=ca) (q:TEv Γ (mR F (.tp es)) W H Q):cq5 (TAv Γ (nI F es)) W H Q:=by
  obtain⟨C,U,s,d,s',E,R,hm,q⟩:=q;obtain⟨l,s1,e1,hm⟩:=aa1 hm;cases hm;refine⟨C,U,s,l,_,E,R,e1,λ vs C1 Y g1 l1 J r1 R1=>⟨by rw[r1.length,az0 e1 m];exact aN4 hz,λ p hp=>?_⟩⟩;exact(q.trans g1 l1).tup R1 r1 J hp
def bA6 {z:yL}(m:mEs ck es z=ca)(hz:z.length<=1000)(h:PA X z (TAv Γ (nI F es))):EvT Γ X (.List z pos) (mR F (.J es)):=by
 refine .val ((at5 h).imp λ W H Q q=>?_);obtain⟨C,U,s,d,s',E,R,hm,q⟩:=q;obtain⟨l,s1,e1,hm⟩:=aa1 hm;obtain⟨rfl,rfl⟩:=qq hm;refine⟨C,U,s,l,_,E,R,e1,λ vs C1 Y g1 l1 J r1 R1=>⟨by rw[r1.length,az0 e1 m];exact aN4 hz,λ p hp=>?_⟩⟩;exact(q.trans g1 l1).alloc R1 r1 J hp
def bn1 {f:String}{Y:yL}(G:CG Γ F n X ck)(hg:ck.gl (f:Str)=ca)(m:mAs ck z Y=ca)(h:PA X Y (TAv Γ (nz F z))):EvT Γ X (.Call (.Name (f) p) Y [] pos) (mR F (.call f z)):=by
 refine .val ?_;obtain⟨g1,g2,g3⟩:=G.gl hg;rcases G.call f with hbad|⟨a,fd,ps,hF,J,hk,hb⟩
 .intro a0 s W H Q I q;obtain⟨C,U,s,d,s',E,R,hm,q⟩:=q;obtain⟨l,s1,e1,hm⟩:=aa1 hm;rw[hbad]at hm;cases hm
 have key:∀ W H Q,TEv Γ (mR F (.call f z)) W H Q->aS9 (spV Γ (F.call f)) [] E0 (TAv Γ (nz F z)) W H Q:=λ W H Q q=>by
  have:=aF6 (TEv.eq (λ U s=>rfl) q);unfold tCB at this;unfold aS9 spV;simpa only[a8]using this
 cases Y with
 | nil =>
  have h0:PE X (.Call (.Name (f) p) [] [] pos) (aS9 (spV Γ (F.call f)) [] E0 aF4):=br0 hF G.room g1 J hk hb .nil aV3 g2;cases z with
  | nil =>
   refine h0.imp λ W H Q q=>?_;have Z:=key W H Q q;unfold aS9 at Z ⊢;exact at4 (TAv.eq (λ U s=>rfl) Z)
  | _=>rw[mAs]at m<;>first|cases m|(intros;simp_all)
 | cons x Y =>
  have hs:=aj2 m;exact(aY4 hF G.room g1 J hk hb .nil aV3 h g2 (za (hs x (ao ..))) (zv λ e he=>hs e (ah _ he)).1).imp key
def BiC (Γ:Gm)(X:Cx)(b:nR)(x:Str):Prop:=(∃ id,br x=aT (.builtin id)/\ac4 X (.builtin id) (rCl Γ (oK b)))\/∃ T,br x=aT (.type T)/\ac4 X (.type T) (rCl Γ (oK b))
def bZ4 (G:CG Γ F n X ck){b:nR}{x:Str}(h:biT b=aT x):x∈bNames/\BiC Γ X b x:=by
 cases b<;>first|cases h|skip
 .exact⟨by decide,.inl ⟨_,cm9,bF5 G.K G.calm (k:=1) rfl⟩⟩
 .exact⟨by decide,.inl ⟨_,ch9,bF5 G.K G.calm (k:=1) rfl⟩⟩
 .exact⟨by decide,.inr ⟨_,bQ6,bU7⟩⟩
 .exact⟨by decide,.inr ⟨_,bT9,cd7⟩⟩
 .exact⟨by decide,.inl ⟨_,bJ4,bF5 G.K G.calm (k:=2) rfl⟩⟩
def bQ9 {z:yL}(G:CG Γ F n X ck)(hb:biT b=aT x)(hg:ck.gl x=ca)(m:mEs ck es (y::z)=ca)(h:PA X (y::z) (TAv Γ (nI F es))) :
  EvT Γ X (.Call (.Name x p) (y::z) [] pos) (mR F (.bi b es)):=by
 refine .val ?_;obtain⟨g1,Z,g3⟩:=G.gl hg;obtain⟨hm,hc⟩:=bZ4 G hb;have hs:=aJ3 m;have s1:=za (es:=z) (env:=X.env) (hs y (ao ..));have s2:=(zv (env:=X.env) (pos:=pos) λ e he=>hs e (ah _ he)).1;rcases hc with⟨id,J,Y⟩|⟨T,J,Y⟩
 .exact(qP Y g1 (G.bi _ hm) J h g3 Z s1 s2).imp λ W H Q q=>aF6 (TEv.eq (λ U s=>rfl) q)
 .exact(an7 Y g1 (G.bi _ hm) J h g3 Z s1 s2).imp λ W H Q q=>aF6 (TEv.eq (λ U s=>rfl) q)
def ce5 (h:biK b=aT (k,t)):(1<=k/\k<=5)/\t∈bNames/\br t=aT (.type (as6 k))/\oK b=oV (o9 k):=by
 cases b<;>cases h
 .exact⟨by lia,by decide,bQ6,rfl⟩
 .exact⟨by lia,by decide,ca1,rfl⟩
 .exact⟨by lia,by decide,bT9,rfl⟩
 .exact⟨by lia,by decide,bc5,rfl⟩
 .exact⟨by lia,by decide,bx6,rfl⟩
def PEs (Γ:Gm)(F:ni)(X:Cx):ny->List Expr->Prop
 | .nil,[]=>True
 | .cons e es,x::xs=>(shp x=ca/\EvT Γ X x (mR F e))/\PEs Γ F X es xs
 | _,_=>False
theorem au4:∀ {es} {z:yL},PEs Γ F X es z->PA X z (TAv Γ (nI F es))
 | .nil,[],_=>ab8.imp λ W H Q q=>at4 (TAv.eq (λ U s=>rfl) q)
 | .nil,_::_,h=>h.elim
 | .cons _ _,[],h=>h.elim
 | .cons e es,x::z,h=>(aP1 h.1.1 h.1.2.1 (au4 h.2)).imp λ W H Q q=>TAv.eq (λ U s=>rfl) q
def bD0 (G:CG Γ F n X ck)(hb:biK b=aT (k,t))(hg:ck.gl "isinstance"=ca)(J:ck.gl t=ca)(h:PEs Γ F X es [a]) :
  EvT Γ X (.Call (.Name "isinstance" p) [a,.Name t z] [] pos) (mR F (.bi b es)):=by
 refine .val ?_;obtain⟨g1,g2,g3⟩:=G.gl hg;obtain⟨t1,t2,t3⟩:=G.gl J;obtain⟨hk,hm,hv,Z⟩:=ce5 hb;have Y:PE X (.Name t z) (tC (.ty (as6 k))):=bc8 t1 (G.bi _ hm) hv rfl t3 t2;cases es with
 | nil=>exact h.elim
 | cons e es =>
  cases es with
  | cons _ _=>exact h.2.elim
  | nil =>
   obtain⟨⟨hs,ha,_⟩,_⟩:=h;have hA:PA X [a,.Name t z] (ak1 (TEv Γ (mR F e)) (ak1 (tC (.ty (as6 k))) aF4)):=zo ha (zo Y ab8 (za rfl)) (za hs);refine(qP (bY1 G.K hk) g1 (G.bi _ (by decide)) qG hA g3 g2 (za hs) (zv λ e he=>by rw[az.mp he];rfl).1).imp λ W H Q q=>?_;obtain⟨C,U,s,d,s',E,R,hm,q⟩:=q;obtain⟨l,s1,e1,hm⟩:=aa1 hm;obtain⟨x,s2,e2,e1⟩:=aa1 e1;obtain⟨l2,s3,e3,e1⟩:=aa1 e1;cases e3;cases e1;rw[Z]at hm;refine⟨C,U,s,x,_,E,R,e2,λ v C1 H1 g1 l1 b1 r1 R1=>?_⟩;exact⟨v,rfl,C1,_,[x],d,s',R1,.cons r1 .nil,by unfold mP;rw[b1];rfl,hm,q.trans g1 l1⟩
end
section
variable {Γ:Gm} {F:ni} {n:Nat} {X:Cx} {ck:Ck} {W:St} {H:Hp}
def TAp (Γ:Gm)(cells:yC)(N:yI)(m:mQ->mM->mU (List mO)):TA:=λ W H Q=>∃ C U s l s',RE Γ C H s.length U W/\Rp Γ C H s/\m U s=.ok l s' /\
 ∀ vs C' H',Gr C s H C' s' H'->s.length<=s'.length->mP s'.length l=ca->PVL Γ cells N W C' H' l vs->Rp Γ C' H' s'->Q vs H'
def TAp.eq (e:∀ U s,m U s=m' U s)(q:TAp Γ cells N m W H Q):TAp Γ cells N m' W H Q:=by
 obtain⟨C,U,s,l,s',E,R,hm,q⟩:=q;exact⟨C,U,s,l,s',E,R,by rw[<-e];exact hm,q⟩
def bM2 (h:TAp Γ cells N (λ U s=>.ok [] s) W H Q):aF4 W H Q:=by
 obtain⟨C,U,s,l,s',E,R,hm,q⟩:=h;cases hm;exact q [] C H (Gr.refl _ _ _) (al _) rfl .nil R
def cf0 (h:TAp Γ cells N (λ U s=>(m U s).bind λ d s=>(Y U s).bind λ l s=>.ok (d::l) s) W H Q):ak1 (TEv Γ m) (TAp Γ cells N Y) W H Q:=by
 obtain⟨C,U,s,l,s',E,R,hm,q⟩:=h;obtain⟨x,s1,e1,hm⟩:=aa1 hm;obtain⟨y,s2,e2,hm⟩:=aa1 hm;cases hm;refine⟨C,U,s,x,s1,E,R,e1,λ v C1 H1 g1 l1 Z r1 R1=>?_⟩;refine⟨C1,U,s1,y,s',E.mono g1 l1,R1,e2,λ vs C2 H2 z J b2 r2 R2=>?_⟩;exact q (v::vs) C2 H2 (g1.trans z l1) (ak l1 J) (by unfold mP;rw[zg J x Z,b2];rfl) (.cons (PVp.mono z Z (.inl r1)) r2) R2
end
section
variable {Γ:Gm} {F:ni} {n:Nat} {X:Cx} {ck:Ck} {W:St} {H:Hp} {Q:VK}
def cr2 (K:ae)(H:Hp)(v:V)(ys:List V)(z:Bool):Prop:=(∃ a,v=.ref a/\(SqL K H a ys\/(SqT K H a ys/\(z=ca->H a=aT (.tp ys)))))\/∃ x:List Nat,v=.str ⟨x.toArray⟩/\x.length<=nh/\ys=sgV x
def TLv (Γ:Gm)(m:mQ->mM->mU (List mO)):TE:=λ W H Q=>∃ C U s l s',RE Γ C H s.length U W/\Rp Γ C H s/\m U s=.ok l s' /\
 ∀ v ys C' H',Gr C s H C' s' H'->s.length<=s'.length->mP s'.length l=ca->cr2 Γ.K H' v ys (nV l)->RVL Γ C' H' l ys->Rp Γ C' H' s'->Q v H'
def aM6 (h:TLv Γ m W H Q):TFv Γ m W H Q:=by
 obtain⟨C,U,s,l,s',E,R,hm,q⟩:=h;exact⟨C,U,s,l,s',E,R,hm,λ p ys C' H' g z hb hp h0 ho r J=>q (.ref p) ys C' H' g z hb (.inl ⟨p,rfl,.inl (SqL.of hp)⟩) r J⟩
theorem az4 :∀ x:List Nat,RVL Γ C H (x.map λ c=>.str [c]) (sgV x)
 | []=>.nil
 | c::x=>.cons (RV.strI (by unfold nh;simp)) (az4 x)
theorem av5 :∀ x:List Nat,mP k (x.map λ c=>.str [c])=ca
 | []=>rfl
 | c::x=>by rw[aY];unfold mP;rw[av5 x];rfl
def bV6 (h:TLv Γ (λ U s=>(m U s).bind λ d s=>DV.ca2 d s) W H Q):TEv Γ m W H Q:=by
 obtain⟨C,U,s,l,s',E,R,hm,q⟩:=h;obtain⟨d,s1,e1,hm⟩:=aa1 hm;refine⟨C,U,s,d,s1,E,R,e1,λ v C1 Z g1 l1 b1 r1 R1=>?_⟩;cases d with
 | tp l' =>
  cases hm;obtain⟨a,Y,⟨rfl,z1⟩,z,J⟩:=r1.tupZ;unfold mY at b1;exact q _ Y C1 Z g1 l1 b1 (.inl ⟨a,rfl,.inr ⟨z,z1⟩⟩) J R1
 | str x =>
  cases hm;exact q v (sgV x) C1 Z g1 l1 (av5 x) (.inr ⟨x,r1.strE,r1.strL,rfl⟩) (az4 x) R1
 | ref k =>
  have hm:(match s1[k]? with
   | some (.J l)=>DV.R.ok l s1
   | some (.ro l)=>.ok l s1
   | _=>.B)=.ok l s':=hm
  rw[r1.refE];cases e:s1[k]? with
  | none=>rw[e]at hm;exact fb hm
  | some ob =>
   rw[e]at hm;cases ob with
   | J l' =>
    cases hm;obtain⟨Y,z,J⟩:=R1.addr e;have:=R1.wf k _ e;unfold mW at this;exact q _ Y C1 Z g1 l1 this (.inl ⟨_,rfl,.inl (SqL.of z)⟩) J R1
   | ro l' =>
    cases hm;obtain⟨Y,z,J⟩:=R1.obj k _ e;have:=R1.wf k _ e;unfold mW at this;exact q _ Y C1 Z g1 l1 this (.inl ⟨_,rfl,.inl z.1⟩) J R1
   | _=>exact fb hm
 | _=>exact fb hm
def TLv.eq (e:∀ U s,m U s=m' U s)(q:TLv Γ m W H Q):TLv Γ m' W H Q:=by
 have:=funext λ U=>funext λ s=>e U s;subst this;exact q
def aR2 (G:CG Γ F n X ck)(hg:ck.gl "tuple"=ca)(hs:shp a=ca)(h:PE X a (TLv Γ m)) :
  PE X (.Call (.Name "tuple" p) [a] [] pos) (TEv Γ (λ U s=>(m U s).bind λ l s=>oy .tuple l s)):=by
 obtain⟨g1,J,Y⟩:=G.gl hg;refine(an7 ((aF5 G.K).or (aI5 G.calm)) g1 (G.bi _ (by decide)) bc5 (zo h ab8 (za hs)) Y J (za hs) rfl).imp λ W H Q q=>?_;obtain⟨C,U,s,d,s',E,R,hm,q⟩:=q;obtain⟨l,s1,e1,hm⟩:=aa1 hm;cases hm;refine⟨C,U,s,l,_,E,R,e1,λ v ys C1 Z g1 l1 z hq r1 R1=>?_⟩;rcases hq with⟨a,rfl,hq|hq⟩|⟨x,rfl,hx,rfl⟩
 .exact .inl ⟨a,ys,rfl,.inl ⟨hq,λ p hp=>(q.trans g1 l1).tup R1 r1 z hp⟩⟩
 .exact .inl ⟨a,ys,rfl,.inr ⟨hq.1,q _ C1 Z g1 l1 (by unfold mY;exact z) (RV.tupC hq.1 hq.2 r1) R1⟩⟩
 .exact .inr ⟨x,rfl,hx,λ p hp=>(q.trans g1 l1).tup R1 r1 z hp⟩
def bc9 (G:CG Γ F n X ck)(hg:ck.gl "list"=ca)(hs:shp a=ca)(h:PE X a (TLv Γ m)) :
  PE X (.Call (.Name "list" p) [a] [] pos) (TEv Γ (λ U s=>(m U s).bind λ l s=>oy .list l s)):=by
 obtain⟨g1,J,Y⟩:=G.gl hg;refine(an7 ((aU8 G.K).or (aS2 G.calm)) g1 (G.bi _ (by decide)) bx6 (zo h ab8 (za hs)) Y J (za hs) rfl).imp λ W H Q q=>?_;obtain⟨C,U,s,d,s',E,R,hm,q⟩:=q;obtain⟨l,s1,e1,hm⟩:=aa1 hm;obtain⟨rfl,rfl⟩:=qq hm;refine⟨C,U,s,l,_,E,R,e1,λ v ys C1 Z g1 l1 z hq r1 R1=>?_⟩;rcases hq with⟨a,rfl,hq⟩|⟨x,rfl,hx,rfl⟩
 .exact .inl ⟨a,ys,rfl,hq.imp id (·.1),λ p hp=>(q.trans g1 l1).alloc R1 r1 z hp⟩
 .exact .inr ⟨x,rfl,hx,λ p hp=>(q.trans g1 l1).alloc R1 r1 z hp⟩
def bX8 (G:CG Γ F n X ck)(hk:mkT k=aT x)(hg:ck.gl x=ca)(hs:shp a=ca)(h:PE X a (TLv Γ m)) :
  PE X (.Call (.Name x p) [a] [] pos) (TEv Γ (λ U s=>(m U s).bind λ l s=>oy k l s)):=by
 cases k<;>cases hk
 .exact aR2 G hg hs h
 .exact bc9 G hg hs h
def FrC (Γ:Gm)(X:Cx)(x:Str)(k:oM):Prop:=∃ id r,br x=aT (.builtin id)/\x∈bNames/\ac4 X (.builtin id) r/\∀ C H s l ys p d s' Q,Rp Γ C H s->RVL Γ C H l ys->H p=aT (.J ys)->oy k l s=.ok d s'->ae9 Γ C s H d s' Q->r [.ref p] H Q
def bD8 (h:DV.cc9 is=ca):lH is:=by
 unfold DV.cc9 at h;rw[aj]at h;have Z:=dO h.2;have J:=λ i z=>dO (aA.mp h.1 i z);have hs:∀ l:List Int,(∀ i∈l,-1000000000<=i/\i<=1000000000)->-(1000000000*(l.length))<=l.sum/\l.sum<=1000000000*(l.length):=by
  intro l
  induction l with
  | nil=>intro _;simp
  | cons a l ih =>
   intro Y;have:=ih λ i z=>Y i (ah _ z);have:=Y a (ao ..);rw[ju,aQ]
   push_cast
   lia
 intro j hj;have hg:is.getD j 0=is[j]:=by rw[aB,ag hj];rfl
 have a:=J _ (ef hj);have b:=hs (is.take (j+1)) λ i z=>J i (cK z);have c:(is.take (j+1)).length<=1000000:=ak (List.length_take_le _ _) (by omega);rw[hg];unfold InLong;lia
theorem aO2:∀(l:List Int) a ,(l.foldl min a=a\/l.foldl min a∈l)/\l.foldl min a<=a/\∀ y∈l,l.foldl min a<=y
 | [],a=>⟨.inl rfl,eS _,λ y hy=>by cases hy⟩
 | b::l,a=>by
  obtain⟨J,Y,h3⟩:=aO2 l (min a b);rw[kG];refine⟨?_,by lia,λ y hy=>?_⟩
  .rcases J with h|h
   .rw[h];rcases l8 a b with z|z
    .left;lia
    .right;rw[show min a b=b by lia];exact ao ..
   .exact .inr (ah _ h)
  .rcases aw.mp hy with z|z
   .rw[z];lia
   .exact h3 y z
def aQ4 (h:oh l=aT m):m∈l/\∀ y∈l,m<=y:=by
 cases l with
 | nil=>cases h
 | cons a l =>
  cases h;obtain⟨J,Y,h3⟩:=aO2 l a;refine⟨?_,λ y hy=>?_⟩
  .rcases J with h|h
   .rw[h];exact ao ..
   .exact ah _ h
  .rcases aw.mp hy with z|z
   .rw[z];exact Y
   .exact h3 y z
set_option tactic.hygienic true in
def bK4 (G:CG Γ F n X ck)(hk:mkF k=aT x):FrC Γ X x k:=by
 cases k<;>cases hk
 .refine⟨_,_,cl7,by decide,bh2 G.calm G.K,λ C H s l ys p d s' Q R r hp hm q=>?_⟩;unfold oy at hm;dsimp only at hm;cases e:on l with
  | none=>rw[e]at hm;exact fb hm
  | some bs =>
   rw[e]at hm;cases hm;have:=aq1 e;subst this;exact⟨p,bs,rfl,SqL.of (by rw[<-r.bls];exact hp),q.here R rfl RV.blI⟩
 .refine⟨_,_,cj5,by decide,bd6 G.calm G.K,λ C H s l ys p d s' Q R r hp hm q=>?_⟩;unfold oy at hm;dsimp only at hm;cases e:nP l with
  | none=>rw[e]at hm;exact fb hm
  | some is =>
   rw[e]at hm;dsimp only at hm;split at hm
   .rename_i Y;cases hm;have:=z0 e;subst this;exact⟨p,is,rfl,SqL.of (by rw[<-r.ints];exact hp),bD8 Y,q.here R rfl RV.intI⟩
   .exact fb hm
 .refine⟨_,_,bJ4,by decide,bh9 G.calm G.K,λ C H s l ys p d s' Q R r hp hm q=>?_⟩;unfold oy at hm;dsimp only at hm;cases e:nP l with
  | none=>rw[e]at hm;exact fb hm
  | some is =>
   rw[e]at hm;have hm:(match oh is with|some m=>DV.R.ok (DV.D.int m) s|none=>.B)=.ok d s':=hm;cases e2:oh is with
   | none=>rw[e2]at hm;exact fb hm
   | some mm =>
    rw[e2]at hm;cases hm;have:=z0 e;subst this;refine⟨p,is,rfl,SqL.of (by rw[<-r.ints];exact hp),(λ(z)=>by rw[z]at e2;cases e2),λ m hm J=>?_⟩;obtain⟨a,b⟩:=aQ4 e2;have:=kH (J mm a) (b m hm);rw[this];exact q.here R rfl RV.intI
def bU6 (G:CG Γ F n X ck)(hk:mkF k=aT x)(hg:ck.gl x=ca)(hs:shp a=ca)(h:PE X a (TFv Γ m)) :
  PE X (.Call (.Name x p) [a] [] pos) (TEv Γ (λ U s=>(m U s).bind λ l s=>oy k l s)):=by
 obtain⟨g1,z,J⟩:=G.gl hg;obtain⟨id,r,hb,hx,hc,hr⟩:=bK4 G hk;refine(qP hc g1 (G.bi _ hx) hb (zo h ab8 (za hs)) J z (za hs) rfl).imp λ W H Q q=>?_;obtain⟨C,U,s,d,s',E,R,hm,q⟩:=q;obtain⟨l,s1,e1,hm⟩:=aa1 hm;exact⟨C,U,s,l,_,E,R,e1,λ p ys C1 Y g1 l1 Z hp h0 ho r1 R1=>hr C1 Y s1 l ys p d s' Q R1 r1 hp hm (q.trans g1 l1)⟩
def bY2 (G:CG Γ F n X ck)(hg:ck.gl "min"=ca)(hs:shp a=ca)(h:PE X a (TFv Γ ml))(hd:PE X de (TEv Γ md)) :
  PE X (.Call (.Name "min" p) [a] [⟨aT "default",de,kp⟩] pos) (TEv Γ (λ U s=>(ml U s).bind λ l s=>(md U s).bind λ d s=>DV.mkD .min l d s)):=by
 obtain⟨g1,g2,g3⟩:=G.gl hg;refine(bK8 rfl G.calm g1 (G.bi _ (by decide)) h hd (za hs)).imp λ W H Q q=>?_;obtain⟨C,U,s,d,s',E,R,hm,q⟩:=q;obtain⟨l,s1,e1,hm⟩:=aa1 hm;obtain⟨d0,s2,e2,hm⟩:=aa1 hm;refine⟨C,U,s,l,s1,E,R,e1,λ p ys C1 H1 g1 l1 b1 hp h0 ho r1 R1=>?_⟩;refine⟨C1,U,s1,d0,s2,E.mono g1 l1,R1,e2,λ v C2 H2 g2 l2 b2 r2 R2=>?_⟩;have a0:=g2.fr p _ hp (by nofun) (λ i ob e mu=>ho i ob e mu);unfold DV.mkD at hm;cases e:nP l with
 | none=>rw[e]at hm;exact fb hm
 | some is =>
  rw[e]at hm;have J:(match oh is with|some m=>DV.R.ok (DV.D.int m) s2|none=>DV.R.ok d0 s2)=.ok d s':=hm;have:=z0 e;subst this;have hq:=q.trans (g1.trans g2 l1) (ak l1 l2);refine⟨p,is,rfl,SqL.of (by rw[<-r1.ints];exact a0),λ z=>?_,λ m Y Z=>?_⟩
  .subst z;cases J;exact hq.here R2 b2 r2
  .clear e2;cases e2:oh is with
   | none =>
    cases is with
    | nil=>cases Y
    | cons _ _=>cases e2
   | some mm =>
    rw[e2]at J;cases J;obtain⟨x,y⟩:=aQ4 e2;have:=kH (Z mm x) (y m Y);rw[this];exact hq.here R2 rfl RV.intI
set_option tactic.hygienic true in
def bs4 (h:pi x s=.ok l s'):s'=s/\∃ r,x=.ref r/\s[r]?=aT (.J l):=by
 unfold pi at h;split at h
 .rename_i r;split at h
  .rename_i z e;cases h;exact⟨rfl,r,rfl,e⟩
  .exact fb h
 .exact fb h
def bm7 (R:Rp Γ C H s)(g:Gr C s H C' s' H')(hb:r<s.length)(e:s'[r]?=aT (.J l)):tyV Γ.K "list" (.ref (C r)) H:=by
 obtain⟨z,J⟩:∃ z,s[r]?=aT z:=⟨s[r],ag hb⟩
 have hm:=g.mu r z _ J e rfl;have ho:=R.obj r z J;cases z with
 | J l0 =>
  obtain⟨Z,Y,_⟩:=ho;exact .inl ⟨rfl,Z,SqL.of Y⟩
 | ro _=>cases hm
 | _=>have:=g.kd r _ _ J e;cases this
def mtR (Γ:Gm)(m:oN):V->List V->Hp->VK->Prop:=λ x vs H Q=>∃ C s a l d s',Rp Γ C H s/\RV Γ C H a x/\RVL Γ C H l vs/\a.bnd s.length=ca/\mP s.length l=ca/\o6 m a l s=.ok d s'/\ae9 Γ C s H d s' Q
def be2:nh<aX:=by rw[dZ];decide
def aM2 (hm:mtT m=aT (x,k))(h:o6 m a l s=.ok d s'):∃ r l0,a=.ref r/\s[r]?=aT (.J l0):=by
 have go:∀ {r:Nat} {f:List mO->mU mO},(match s[r]? with|some (.J l)=>f l|_=>.B)=.ok d s'->∃ l0,s[r]?=aT (.J l0):=λ {r f} h=>by
  cases e:s[r]? with
  | none=>rw[e]at h;exact fb h
  | some ob =>
   cases ob with
   | J l0=>exact⟨l0,rfl⟩
   | _=>rw[e]at h;exact fb h
 cases a with
 | ref r =>
  have z:∀ {f:List mO->mU mO},(match s[r]? with|some (.J l)=>f l|_=>.B)=.ok d s'->∃ r' l0,DV.D.ref r=.ref r'/\s[r']?=aT (.J l0):=λ h=>by obtain⟨l0,e⟩:=go h;exact⟨_,l0,rfl,e⟩
  cases m with
  | append=>match l with
   | [d]=>exact z h
   | []=>exact fb h
   | _::_::_=>exact fb h
  | _=>exact fb h
 | _=>cases m<;>exact fb h
set_option tactic.hygienic true in
def bs9:MtR X "list.append" (mtR Γ .append):=by
 intro J sh W H x vs v us Q I rx rv h;obtain⟨C,s,a,l,d,s',R,ra,rl,ba,bl,hm,q⟩:=h;obtain⟨r,l0,rfl,e⟩:=aM2 rfl hm;cases l with
 | nil=>exact fb hm
 | cons y t =>
  cases t with
  | cons _ _=>exact fb hm
  | nil =>
   simp only[o6,e]at hm;split at hm
   case isFalse=>exact fb hm
   rename_i hlt;cases hm;obtain⟨z,rfl,rz⟩:=rl.one;obtain⟨xs,h1,Z⟩:=R.addr e;have Y:=by have:=R.wf r _ e;unfold mW at this;exact this
   refine an8 J sh W H x [z] v us Q I rx rv ⟨C r,xs,z,ra.refE,rfl,h1,by rw[Z.length];have:=be2;lia,?_⟩;exact q.put R e (Z.append (.cons rz .nil)) (qf Y bl) rfl RV.nonI
structure MtOk (Γ:Gm)(X:Cx)(m:oN)(x:Str):Prop where
 ex:∃ id,PySem.Slot "list" x id/\jC (.builtin id)=pure (.type "method_descriptor")/\MtR X id (mtR Γ m)
def bX2 (J:X.K=Γ.K)(z:Room (nu+1) X.A)(h:mtT m=aT (x,k)):MtOk Γ X m x:=by
 cases m<;>cases h
 .exact⟨_,e6,gT,bs9⟩
def bl9 {J:yL}(G:CG Γ F n X ck)(hm:mtT m=aT (x,J.length))(hab:ba8 ob=ca)(hl:(ap.endLine==cp.line)=ca)(ho:PE X ob (TEv Γ (mR F o)))
  (a2:mEs ck es J=ca) (h:PEs Γ F X es J):EvT Γ X (.Call (.Attribute ob x ap) J [] cp) (mR F (.me m o es)):=by
 refine .val ?_;obtain⟨id,slot,a1,hr⟩:=(bX2 (Γ:=Γ) (X:=X) G.K (G.room.mono G.deep) hm).ex;have hs:=aJ3 a2;have key:∀ W H Q,TEv Γ (mR F (.me m o es)) W H Q->tBM Γ.K "list" (mtR Γ m) (TEv Γ (mR F o)) (TAv Γ (nI F es)) W H Q:=λ W H Q q=>by
  obtain⟨C,U,s,d,s',E,R,z,q⟩:=q;obtain⟨a,s1,e1,z⟩:=aa1 z;obtain⟨l,s2,e2,z⟩:=aa1 z;obtain⟨hq,z⟩:=aG7 z;refine⟨C,U,s,a,s1,E,R,e1,λ v C1 H1 g1 l1 Y r1 R1=>?_⟩;obtain⟨r,l0,rfl,er⟩:=aM2 hm z;rw[r1.refE];have hk:∀ C2 H2,Gr C1 s1 H1 C2 s2 H2->tyV Γ.K "list" (.ref (C1 r)) H1:=λ C2 H2 g2=>bm7 R1 g2 (by unfold mY at Y;exact dO Y) er;have Z:TAv Γ (nI F es) W H1 λ J H2=>mtR Γ m (.ref (C1 r)) J H2 Q:=by
   refine⟨C1,U,s1,l,s2,E.mono g1 l1,R1,e2,λ vs C2 H2 g2 l2 b2 r2 R2=>?_⟩;refine⟨C2,s2,.ref r,l,d,s',R2,?_,r2,zg l2 _ Y,b2,z,q.trans (g1.trans g2 l1) (ak l1 l2)⟩;have:=RV.mono g2 _ _ Y r1;rw[r1.refE]at this;exact this
  refine⟨?_,Z⟩;have hlt:r<s1.length:=by unfold mY at Y;exact dO Y
  obtain⟨o0,e0⟩:∃ o0,s1[r]?=aT o0:=⟨s1[r],ag hlt⟩
  have a0:=R1.obj r o0 e0;cases o0 with
  | J l0 =>
   obtain⟨J,h1,_⟩:=a0;exact .inl ⟨rfl,J,SqL.of h1⟩
  | ro l0 =>
   obtain⟨J,h1,_⟩:=a0;exact .inl ⟨rfl,J,h1.1⟩
  | _ =>
   exact nc hq (bM9 e0 er (λ h=>by cases h))
 cases J with
 | nil =>
  have p0:PE X (.Call (.Attribute ob x ap) [] [] cp) (cq7 X.K "list" (mtR Γ m) (TEv Γ (mR F o))):=by3 bZ slot a1 hr ho (jb hab) hl;rw[G.K]at p0;refine p0.imp λ W H Q q=>?_;cases es with
  | cons _ _=>exact h.elim
  | nil =>
   obtain⟨C,U,s,d,s',E,R,z,k⟩:=key W H Q q;refine⟨C,U,s,d,s',E,R,z,λ v C1 H1 g1 l1 Y r1 R1=>?_⟩;obtain⟨h1,h2⟩:=k v C1 H1 g1 l1 Y r1 R1;exact⟨h1,at4 (TAv.eq (λ U s=>rfl) h2)⟩
 | cons y ys =>
  refine(bb4 G.K bZ slot a1 hr ho (au4 h) (jb hab) ?_ hl (za (hs y (ao ..))) (zv λ e he=>hs e (ah _ he)).1).imp key;rw[(zv hs).2];have:(y::ys).length<=1:=by
   unfold mtT at hm;split at hm<;>first|(have:=aM hm;have:=congrArg Prod.snd this;simp at this;simp;omega)|cases hm
  simp only[eL,fO,fg];show(ca&&decide ((y::ys).length+0+0<30))=ca;rw[eL];exact iN (by lia)
end
section
variable {Γ:Gm} {F:ni} {n:Nat} {X:Cx} {ck:Ck} {W:St} {H:Hp} {Q:VK}
set_option tactic.hygienic true
def bM0 (G:CG Γ F n X ck)(hab:ba8 ob=ca)(hl:(ap.endLine==cp.line)=ca)(ho:PE X ob (TEv Γ (mR F o)))(hs:shp a=ca)(h:PE X a (TFv Γ m)) :
  PE X (.Call (.Attribute ob "extend" ap) [a] [] cp) (TEv Γ (λ U s=>(mR F o U s).bind λ x s=>(m U s).bind λ q t=>o3 x s t (DV.bL3 x q t))):=by
 refine(bb4 G.K bZ e7 gW aD9 ho (zo h ab8 (za hs)) (jb hab) ?_ hl (za hs) rfl).imp λ W H Q q=>?_
 .rw[(zv λ e he=>by rw[az.mp he];exact hs).2];rfl
 .obtain⟨C,U,s,d,s',E,R,z,q⟩:=q;obtain⟨x,s1,e1,z⟩:=aa1 z;obtain⟨l,s2,e2,z⟩:=aa1 z;obtain⟨hq,z⟩:=aG7 z;refine⟨C,U,s,x,s1,E,R,e1,λ v C1 H1 g1 l1 b1 r1 R1=>?_⟩;cases x with
  | ref r =>
   have z:(match s2[r]? with
    | some (.J m)=>if m.length+l.length<=nh then DV.R.ok DV.D.N (s2.set r (.J (m++l)))else .B
    | _=>.B)=.ok d s':=z
   cases e:s2[r]? with
   | none=>rw[e]at z;exact fb z
   | some ob' =>
    rw[e]at z;cases ob' with
    | J l0 =>
     have z:(if l0.length+l.length<=nh then DV.R.ok DV.D.N (s2.set r (.J (l0++l)))else .B)=.ok d s':=z;split at z
     case isFalse=>exact fb z
     rename_i a2;cases z;have hlt:r<s1.length:=by unfold mY at b1;exact dO b1
     have a1:tyV Γ.K "list" (.ref (C1 r)) H1:=by
      obtain⟨o0,e0⟩:∃ o0,s1[r]?=aT o0:=⟨s1[r],ag hlt⟩
      have Z:=R1.obj r o0 e0;cases o0 with
      | J l0 =>
       obtain⟨Y,J,_⟩:=Z;exact .inl ⟨rfl,Y,SqL.of J⟩
      | ro l0 =>
       obtain⟨Y,J,_⟩:=Z;exact .inl ⟨rfl,Y,J.1⟩
      | _ =>
       exact nc hq (bM9 e0 e (λ h=>by cases h))
     rw[r1.refE];refine⟨a1,C1,U,s1,l,s2,E.mono g1 l1,R1,e2,λ p ys C2 H2 g2 l2 b2 hp h0 ho r2 R2=>?_⟩;obtain⟨Y,J,h2⟩:=R2.addr e;have a0:mP s2.length l0=true:=by have:=R2.wf r _ e;unfold mW at this;exact this
     refine⟨C1 r,p,Y,ys,rfl,rfl,by rw[<-g2.w.map r hlt];exact J,hp,by rw[h2.length,r2.length];have:=be2;lia,?_⟩;rw[<-g2.w.map r hlt];exact(q.trans (g1.trans g2 l1) (ak l1 l2)).put R2 e (h2.append r2) (qf a0 b2) rfl RV.nonI
    | _=>exact fb z
  | _=>exact fb z
def bG3 (G:CG Γ F n X ck)(hab:ba8 ob=ca)(hl:(ap.endLine==cp.line)=ca)(ho:PE X ob (TEv Γ (mR F o)))(hs:shp a=ca)(h:PE X a (TEv Γ m)) :
  PE X (.Call (.Attribute ob "extend" ap) [a] [] cp) (TEv Γ (λ U s=>(mR F o U s).bind λ x s=>(m U s).bind λ q t=>o3 x s t (DV.extS x q t))):=by
 refine(bb4 G.K bZ e7 gW aD9 ho (zo h ab8 (za hs)) (jb hab) ?_ hl (za hs) rfl).imp λ W H Q q=>?_
 .rw[(zv λ e he=>by rw[az.mp he];exact hs).2];rfl
 .obtain⟨C,U,s,d,s',E,R,z,q⟩:=q;obtain⟨x,s1,e1,z⟩:=aa1 z;obtain⟨l,s2,e2,z⟩:=aa1 z;obtain⟨hq,z⟩:=aG7 z;obtain⟨k,J,rfl,ek,z⟩:∃ k J,l=.ref k/\s2[k]?=aT (.J J)/\DV.bL3 x J s2=.ok d s':=by
   unfold DV.extS at z;cases l with
   | ref k =>
    dsimp only at z;cases e:s2[k]? with
    | none=>rw[e]at z;exact fb z
    | some ob' =>
     rw[e]at z;cases ob' with
     | J J=>exact⟨k,J,rfl,e,z⟩
     | _=>exact fb z
   | _=>exact fb z
  refine⟨C,U,s,x,s1,E,R,e1,λ v C1 H1 g1 l1 b1 r1 R1=>?_⟩;cases x with
  | ref r =>
   have z:(match s2[r]? with
    | some (.J m)=>if m.length+J.length<=nh then DV.R.ok DV.D.N (s2.set r (.J (m++J)))else .B
    | _=>.B)=.ok d s':=z
   cases e:s2[r]? with
   | none=>rw[e]at z;exact fb z
   | some ob' =>
    rw[e]at z;cases ob' with
    | J l0 =>
     have z:(if l0.length+J.length<=nh then DV.R.ok DV.D.N (s2.set r (.J (l0++J)))else .B)=.ok d s':=z;split at z
     case isFalse=>exact fb z
     rename_i a3;cases z;have hlt:r<s1.length:=by unfold mY at b1;exact dO b1
     have a2:tyV Γ.K "list" (.ref (C1 r)) H1:=by
      obtain⟨o0,e0⟩:∃ o0,s1[r]?=aT o0:=⟨s1[r],ag hlt⟩
      have a0:=R1.obj r o0 e0;cases o0 with
      | J l0 =>
       obtain⟨Z,Y,_⟩:=a0;exact .inl ⟨rfl,Z,SqL.of Y⟩
      | ro l0 =>
       obtain⟨Z,Y,_⟩:=a0;exact .inl ⟨rfl,Z,Y.1⟩
      | _ =>
       exact nc hq (bM9 e0 e (λ h=>by cases h))
     rw[r1.refE];refine⟨a2,C1,U,s1,.ref k,s2,E.mono g1 l1,R1,e2,λ v2 C2 H2 g2 l2 b2 r2 R2=>?_⟩;obtain⟨ys,hp,r3⟩:=R2.addr ek;have bk:mP s2.length J=true:=by have:=R2.wf k _ ek;unfold mW at this;exact this
     rw[r2.refE];obtain⟨Z,Y,h2⟩:=R2.addr e;have a1:mP s2.length l0=true:=by have:=R2.wf r _ e;unfold mW at this;exact this
     refine⟨C1 r,C2 k,Z,ys,rfl,rfl,by rw[<-g2.w.map r hlt];exact Y,hp,by rw[h2.length,r3.length];have:=be2;lia,?_⟩;rw[<-g2.w.map r hlt];exact(q.trans (g1.trans g2 l1) (ak l1 l2)).put R2 e (h2.append r3) (qf a1 bk) rfl RV.nonI
    | _=>exact fb z
  | _=>exact fb z
set_option tactic.hygienic false
def PIf.imp (h:PIf X e t)(i:∀ W H Q,t' W H Q->t W H Q):PIf X e t':=λ z s W H Q I q=>h z s W H Q I (i W H Q q)
structure CompF (Γ:Gm)(X:Cx)(m:mQ->mM->mU (List mO))(E:Expr):Prop where
 ex:∃ elt tgt iter ifs scope pos N' caps wi g tc te,E=.ListComp elt [⟨tgt,iter,ifs,0⟩] scope pos/\zU N' caps scope X.N X.env.scope=ca/\PI X tgt iter wi /\
  (∀(Cc:Addr) (cells:yC) (s:af) (H:Hp) (ex:List Addr),PG (zK X N' scope Cc cells s H ex) tgt g/\PIf (zK X N' scope Cc cells s H ex) ifs tc/\PE (zK X N' scope Cc cells s H ex) elt te) /\
  (∀ x,dX iter X.env x=pure x)/\∀ W H Q,TFv Γ m W H Q->tComp caps wi g tc te W H Q
def CompF.pe (h:CompF Γ X m E)(hc:X.calm=ca):PE X E (TFv Γ m):=by
 obtain⟨elt,a1,iter,a0,scope,pos,J,z,wi,g,tc,te,rfl,Z,h2,h3,h4,Y⟩:=h.ex;exact(aI8 J z Z h2 hc h3 h4).imp Y
def bE8 {mI}(G:CG Γ F n X ck)(hm:aD0 ck tg J iter z scope=ca)
  (hi:PI X J iter (TIv Γ mI)) (hc:∀ Cc cells s H ex,PT (zK X (ckC ck J z scope).N scope Cc cells s H ex) i (TTv Γ mc)) (he:∀ Cc cells s H ex,PE (zK X (ckC ck J z scope).N scope Cc cells s H ex) elt (TEv Γ Y)) :
  CompF Γ X (λ U s=>(mI U s).bind λ q s0=>if q.its.length<=nh then ow (λ s=>nG s0 s q.src) (λ d U s=>match nv U tg d with
   | some U=>nq (mc U s) λ k s=>if k then(Y U s).bind λ v s=>.ok (aT v,U) s else .ok (bY,U) s
   | none=>.B) q.its (n6 U z) s0 else .B) (.ListComp elt [⟨J,iter,[i],0⟩] scope pos):=by
 obtain⟨c1,c2,Z⟩:=G.comp hm;exact⟨elt,J,iter,[i],scope,pos,_,z,_,_,_,_,rfl,c1,hi,λ Cc cells s H ex=>⟨(Z Cc cells s H ex).2,bD7 (hc Cc cells s H ex),he Cc cells s H ex⟩,ax5 c2,λ W H Q q=>aH9 q⟩
def bm3 {mI}(G:CG Γ F n X ck)(hm:aD0 ck tg J iter z scope=ca)
  (hi:PI X J iter (TIv Γ mI)) (he:∀ Cc cells s H ex,PE (zK X (ckC ck J z scope).N scope Cc cells s H ex) elt (TEv Γ Y)) :
  CompF Γ X (λ U s=>(mI U s).bind λ q s0=>if q.its.length<=nh then ow (λ s=>nG s0 s q.src) (λ d U s=>match nv U tg d with
   | some U=>(Y U s).bind λ v s=>.ok (aT v,U) s
   | none=>.B) q.its (n6 U z) s0 else .B) (.ListComp elt [⟨J,iter,[],0⟩] scope pos):=by
 obtain⟨c1,c2,Z⟩:=G.comp hm;refine⟨elt,J,iter,[],scope,pos,_,z,_,_,TTv Γ (λ U s=>.ok (.T ca) s),_,rfl,c1,hi,λ Cc cells s H ex=>⟨(Z Cc cells s H ex).2,bb2.imp λ W H Q q=>?_,he Cc cells s H ex⟩,ax5 c2,λ W H Q q=>aH9 (TFv.eq (λ U s=>?_) q)⟩
 .obtain⟨C,U,s,b,s',E,R,hm,q⟩:=q;cases hm;exact q C H (Gr.refl _ _ _) (al _) R
 .congr 1
def bA1 (G:CG Γ F n X ck)(h:PE X E (TEv Γ (mR F e))):PI X tg E (TIv Γ (oz F (.seq e))):=by
 refine(PI.or (bN9 G.K h) (PI.or (bt6 G.K h) (bS4 h))).imp λ W H R q=>bW2 (TIv.eq (λ U s=>rfl) q)
def bq7 (G:CG Γ F n X ck)(hg:ck.gl "range"=ca)(hs:shp l=ca)(h:PE X l (TEv Γ (mR F a))):PI X tg (.Call (.Name "range" p) [l] [] pos) (TIv Γ (oz F (.rg a))) :=
 (bg4 (G.gl hg).1 (G.bi _ (by decide)) (zo h ab8 (za hs)) (za hs)).imp λ W H R q=>bC9 (TIv.eq (λ U s=>rfl) q)
def bp1 {ck0 Y:Nat}(G:CG Γ F n X ck)(hg:ck.gl "range"=ca)(hs:shp l=ca)(h:PE X l (TEv Γ (mR F a))):PI X tg (.Call (.Name "range" p) [l,.UnaryOp .USub (.Constant (.int 1) ck0 cp) J,.UnaryOp .USub (.Constant (.int 1) Y z) Z] [] pos) (TIv Γ (oz F (.rngD a))) :=
 (aW6 (G.gl hg).1 (G.bi _ (by decide)) (zo h (zo aC5 (zo aC5 ab8 rfl) rfl) (za hs)) (za hs) rfl).imp λ W H R q=>bD9 (TIv.eq (λ U s=>rfl) q)
def bt7 {elts:yL}(G:CG Γ F n X ck)(hg:ck.gl "enumerate"=ca)(hs:shp l=ca)(h:PE X l (TEv Γ (mR F a))):PI X (.Tuple elts ek epos) (.Call (.Name "enumerate" p) [l] [] pos) (TIv Γ (oz F (.enum (.seq a)))):=by
 have q:=bH0 (elts:=elts) (ek:=ek) (epos:=epos) (p:=p) (pos:=pos) (G.gl hg).1 (G.bi _ (by decide)) (zo h ab8 (za hs)) (za hs);rw[G.K]at q;exact q.imp λ W H R q=>bI5 (TIv.eq (λ U s=>rfl) q)
def ca5 (h:TEv Γ (λ U s=>ol (.dc []) s) W H Q):bx2 W H Q:=by
 obtain⟨C,U,s,d,s',E,R,hm,q⟩:=h;obtain⟨rfl,rfl⟩:=qq hm;intro p hp;obtain⟨g,z⟩:=R.new (o:=.dc []) hp rfl λ C' H' g e=>⟨[],e,rfl⟩
 exact q (.ref p) _ _ g (by simp) (by unfold mY;simp) (by unfold RV;simp) z
set_option tactic.hygienic true in
def bZ5 (h:TEv Γ (λ U s=>(mk U (s++[.dc []])).bind λ kd s1=>(mv U s1).bind λ J s2=>if kd.key=ca/\s2[s.length]?=aT (.dc [])then .ok (.ref s.length) (s2.set s.length (.dc [(kd,J)]))else .B) W H Q):bQ3 [(TEv Γ mk,TEv Γ mv)] W H Q:=by
 obtain⟨C,U,s,d,s',E,R,hm,q⟩:=h;obtain⟨kd,s1,e1,hm⟩:=aa1 hm;obtain⟨J,s2,e2,hm⟩:=aa1 hm;split at hm
 case isFalse=>exact fb hm
 rename_i hc;cases hm;intro p hp;obtain⟨g0,R0⟩:=R.new (o:=.dc []) hp rfl λ C' H' g e=>⟨[],e,rfl⟩
 have l0:s.length<=(s++[DV.O.dc []]).length:=by simp
 refine⟨_,U,s++[DV.O.dc []],kd,s1,E.mono g0 l0,R0,e1,λ v1 C1 H1 g1 l1 b1 r1 R1=>?_⟩;refine⟨C1,U,s1,J,s2,(E.mono g0 l0).mono g1 l1,R1,e2,λ Z C2 H2 Y l2 b2 r2 R2=>?_⟩;have z:C2 s.length=p:=by
  rw[Y.w.map s.length (aG (by simp) l1),g1.w.map s.length (by simp)];simp
 obtain⟨k,hk⟩:=aN3 hc.1;have ek:=bu9 hk (RV.mono Y kd v1 b1 r1);obtain⟨kvs,z1,z2⟩:=R2.obj s.length _ hc.2;have z2:=z2;subst z2;rw[z]at z1;refine⟨z1,[(k,Z)],by rw[ek];rfl,by simp,?_⟩;have hb:(DV.O.dc [(kd,J)]).bnd s2.length=true:=by
  unfold mW;simp only[aY,cR,mP,gS,aj];exact⟨zg l2 _ b1,b2⟩
 obtain⟨g3,R3⟩:=R2.set hc.2 rfl hb λ H' g e=>⟨_,e,k,Z,[],rfl,hk,RV.monoW g _ _ b2 r2,rfl⟩
 rw[z]at g3 R3;have L:=ak l0 (ak l1 l2);have lt:s.length<s2.length:=aG (by simp) (ak l1 l2);exact q (.ref p) _ _ (((g0.trans g1 l0).trans Y (ak l0 l1)).trans g3 L) (by rw[aU];exact L) (by unfold mY;rw[aU];exact iN lt) (by unfold RV;rw[z]) R3
section
variable {c:String} {kvs:List (List Nat×List Nat)} {a:Addr}
end
def ev_bitl' (G:CG Γ F n X ck)(hab:ba8 ob=ca)(J:(ap.endLine==cp.line)=ca)(ho:PE X ob (TEv Γ (mR F o))) :
  EvT Γ X (.Call (.Attribute ob "bit_length" ap) [] [] cp) (mR F (.bitl o)):=by
 refine .val ((by3 PySem.F.plainAttrs_int f7 PySem.F.type_int_bit_length bK0 ho (jb hab) J).imp λ W H Q q=>?_);obtain⟨C,U,s,d,s',E,R,hm,q⟩:=q;obtain⟨x,Y,e1,z⟩:=aa1 hm;unfold DV.bh1 at z;refine⟨C,U,s,_,Y,E,R,e1,λ v1 C1 Z g1 l1 b1 r1 R1=>?_⟩;cases x with
 | int i =>
  cases z;rw[r1.intE];refine⟨rfl,i,rfl,rfl,?_⟩;have e:fU i=DV.bitsN i:=by
   unfold fU DV.bitsN;by_cases h:i=0
   .subst h;rfl
   .rw[iF h,iF (by simpa using h)]
  rw[e];exact(q.trans g1 l1).here R1 rfl RV.intI
 | _=>exact fb z
end
section
variable {Γ:Gm} {F:ni} {n:Nat} {X:Cx} {ck:Ck}
end
section
variable {Γ:Gm} {F:ni} {n:Nat} {X:Cx} {ck:Ck}
def TJv (Γ:Gm)(m:mQ->mM->mU (List mO))(out:List Nat):TE:=λ W H Q=>∃ C U s l s' ws,RE Γ C H s.length U W/\Rp Γ C H s/\m U s=.ok l s'/\oH l=aT ws/\(out++ws.flatten).length<=nh /\
 ∀ C' H',Gr C s H C' s' H'->s.length<=s'.length->Rp Γ C' H' s'->Q (.str ⟨(out++ws.flatten).toArray⟩) H'
def PF (Γ:Gm)(X:Cx)(vs:yL)(m:mQ->mM->mU (List mO)):Prop :=
 ∀ out pins s (W:St) H Q ,Inv X pins W H s->TJv Γ m out W H Q->wpAny (model X.prog X.w) X.A (joinParts ⟨out.toArray⟩ (evalEach vs X.env)) (EP X pins W Q) X.xe s
def PF.eq (e:∀ U s,m U s=m' U s)(h:PF Γ X vs m):PF Γ X vs m':=λ out z s W H Q I q=>by
 obtain⟨C,U,s0,l,s',ws,E,R,hm,q⟩:=q;exact h out z s W H Q I ⟨C,U,s0,l,s',ws,E,R,by rw[e];exact hm,q⟩
def aK4 (w:List Nat):(⟨w.toArray⟩:Str).length=w.length:=by simp[Str.length]
def bS6:PF Γ X [] (λ _ s=>.ok [] s):=λ out J s W H Q I q=>by
 obtain⟨C,U,s0,l,s',ws,E,R,hm,hw,z,q⟩:=q;cases hm;cases hw;rw[List.flatten_nil,a8]at q z;exact joinParts_nilE (joinParts_nil ⟨.str ⟨out.toArray⟩,H,I.tok _,⟨_,rfl⟩,q C H (Gr.refl _ _ _) (al _) R⟩ (by rw[aK4];exact ak z qk))
def ba1 (h:oH (d::l)=aT ws):∃ w z,d=.str w/\oH l=aT z/\ws=w::z:=by
 cases d with
 | str w =>
  have h:(oH l).map (w::·)=aT ws:=h;cases e:oH l with
  | none=>rw[e]at h;cases h
  | some z=>rw[e]at h;cases h;exact⟨w,z,rfl,rfl,rfl⟩
 | _=>cases h
def bg3 (h2:PF Γ X vs m2)
  (h1:∀(z:yA) (s:af) (W:St) (H:Hp) (w:List Nat) (Q:VK),w.length<=nh->Inv X z W H s->TEv Γ m1 W H (λ x J=>x=.str ⟨w.toArray⟩/\Q x J) ->
   wpAny (model X.prog X.w) X.A (eval v X.env) (λ u s1=>∃ t J,u=.str ⟨w.toArray⟩ t/\Inv X z W J s1/\Q (.str ⟨w.toArray⟩) J) X.xe s) :
  PF Γ X (v::vs) (λ U s=>(m1 U s).bind λ d s=>(m2 U s).bind λ l s=>.ok (d::l) s):=λ out z s W H Q I q=>by
 obtain⟨C,U,s0,l,s',ws,E,R,hm,hw,hl,q⟩:=q;obtain⟨d,s1,e1,hm⟩:=aa1 hm;obtain⟨l2,s2,e2,hm⟩:=aa1 hm;cases hm;obtain⟨w,a0,rfl,a2,rfl⟩:=ba1 hw;rw[gz,<-aN]at hl q;have Z:(out++w).length<=nh:=by rw[au]at hl;lia
 have Y:w.length<=nh:=by rw[au]at Z;lia
 refine joinParts_consE (joinParts_cons (bp (h1 z s W H w (λ x J=>∃ C1,Gr C s0 H C1 s1 J/\s0.length<=s1.length/\Rp Γ C1 J s1) Y I ⟨C,U,s0,.str w,s1,E,R,e1,λ v C1 J g1 l1 b1 r1 R1=>⟨r1.strE,C1,g1,l1,R1⟩⟩) (λ u a1 hu=>?_) λ _ _ x=>x));obtain⟨t,J,rfl,I1,C1,g1,l1,R1⟩:=hu;show(_++_:Str).length<=aX/\_;rw[aY2];refine⟨by rw[aK4];exact ak Z qk,h2 (out++w) z a1 W J Q I1 ⟨C1,U,s1,l2,s',a0,E.mono g1 l1,R1,e2,a2,hl,λ C2 H2 g2 l2 R2=>q C2 H2 (g1.trans g2 l1) (ak l1 l2) R2⟩⟩
def bv9 (hv:PE X v (TEv Γ Y)) z s (W:St) H (w:List Nat)(Q:VK)(I:Inv X z W H s)(q:TEv Γ Y W H (λ x J=>x=.str ⟨w.toArray⟩/\Q x J)) :
  wpAny (model X.prog X.w) X.A (eval v X.env) (λ u s1=>∃ t J,u=.str ⟨w.toArray⟩ t/\Inv X z W J s1/\Q (.str ⟨w.toArray⟩) J) X.xe s :=
 bp (hv z s W H _ I q) (λ u s1 hu=>by
  obtain⟨x,J,Z,rx,ex,qx⟩:=hu;subst ex;obtain⟨t,rfl⟩:=(show ∃ t,u=Value.str ⟨w.toArray⟩ t from rx)
  exact⟨t,J,rfl,Z,qx⟩) λ _ _ x=>x
def bY5 (hv:PE X v (TEv Γ Y))(h2:PF Γ X vs J) :
  PF Γ X (.FormattedValue v (-1) bY p::vs) (λ U s=>(Y U s).bind λ d s=>(J U s).bind λ l s=>.ok (d::l) s) :=
 bg3 h2 λ z s W H w Q hw I q=>FormattedValue_plain (bp (bv9 hv z s W H w Q I q) (λ u s1 hu=>by
  obtain⟨t,Z,rfl,I1,qx⟩:=hu;exact formatField_str (λ t' tk=>⟨t',Z,rfl,I1.tok tk,qx⟩) (by rw[aK4];exact ak hw qk)) λ _ _ x=>x)
def bU4 (hv:PE X v (TEv Γ Y))(Z:PF Γ X vs J) :
  PF Γ X (v::vs) (λ U s=>(Y U s).bind λ d s=>(J U s).bind λ l s=>.ok (d::l) s) :=
 bg3 Z λ z s W H w Q hw I q=>bv9 hv z s W H w Q I q
end
section
variable {Γ:Gm} {F:ni} {n:Nat} {X:Cx} {ck:Ck} {W:St} {H:Hp} {Q:VK}
def aL1:bQ7 bX0:=λ {a b k} ha hb=>by
 cases a with
 | str x =>
  cases ha;cases b with
  | str y =>
   have h:=aM hb;injection h with h;have z:=by simpa using h
   rw[z]
  | _=>cases hb
 | _=>cases ha
set_option tactic.hygienic true
theorem RVD.lk :∀ {l} {J},RVD bX0 Γ C H l J->nB (.str f) l=aT d->∃ v,J.lookup ⟨f.toArray⟩=aT v/\RV Γ C H d v/\((⟨f.toArray⟩,v))∈J/\d∈l.map (·.2)
 | [],_,_,e=>by cases e
 | (a,e0)::l,_,h,e=>by
  obtain⟨k',v',r,rfl,e2,Z,e4⟩:=h;unfold nB at e;split at e
  .rename_i ha;subst ha;cases e2;cases e;exact⟨v',by simp[],Z,by simp,by simp⟩
  .rename_i ha;obtain⟨v,q1,q2,q3,Y⟩:=RVD.lk e4 e;refine⟨v,?_,q2,ah _ q3,by simp at Y ⊢;exact .inr Y⟩;have ne:((⟨f.toArray⟩)==k')=false:=beq_eq_false_iff_ne.mpr λ z=>ha (aL1 e2 (by rw[<-z];rfl));rw[a9,ne];exact q1
theorem RVD.putA (hv:RV Γ C H d v):∀ {l} {Y},RVD bX0 Γ C H l Y->RVD bX0 Γ C H (nQ (.str f) d l) (ao9 ⟨f.toArray⟩ v Y)
 | [],_,h=>by cases(h);exact⟨_,v,[],rfl,rfl,hv,rfl⟩
 | (a,e0)::l,_,h=>by
  obtain⟨J,v',r,rfl,e2,e3,Z⟩:=h;rw[show ao9 ⟨f.toArray⟩ v ((J,v')::r)=(if J=⟨f.toArray⟩then(J,v)::r else(J,v')::ao9 ⟨f.toArray⟩ v r)from rfl];unfold nQ;by_cases ha:a=.str f
  .subst ha;cases e2;rw[ij rfl,ij rfl];exact⟨_,v,r,rfl,rfl,hv,Z⟩
  .rw[iF ha,iF λ z=>ha (aL1 e2 (by rw[z];rfl))];exact⟨J,v',_,rfl,e2,e3,RVD.putA hv Z⟩
theorem putA_mem :∀ {l},p∈nQ k v l->p∈l\/(p.1=k/\p.2=v)
 | [],h=>by simp[nQ]at h;exact .inr (by rw[h];exact⟨rfl,rfl⟩)
 | (a,e)::l,h=>by
  unfold nQ at h;split at h
  .rename_i ha;rcases aw.mp h with z|z
   .subst z;exact .inr ⟨ha,rfl⟩
   .exact .inl (ah _ z)
  .rcases aw.mp h with z|z
   .subst z;exact .inl (ao ..)
   .rcases putA_mem z with z|z
    .exact .inl (ah _ z)
    .exact .inr z
def bu3 (h:(DV.O.ins c l).bnd n=ca)(hd:d.bnd n=ca):(DV.O.ins c (nQ (.str f) d l)).bnd n=true:=by
 unfold mW at h ⊢;rw[aj]at h ⊢;have g1:=aa6.mp h.1;have J:=aa6.mp h.2;refine⟨aa6.mpr λ x hx=>?_,aa6.mpr λ x hx=>?_⟩
 .obtain⟨p,hp,rfl⟩:=aS.mp hx;rcases putA_mem hp with z|⟨z,_⟩
  .exact g1 _ (bL z)
  .rw[z];rfl
 .obtain⟨p,hp,rfl⟩:=aS.mp hx;rcases putA_mem hp with z|⟨_,z⟩
  .exact J _ (bL z)
  .rw[z];exact hd
def bf9 (h:pj f x s=.ok d s'):∃ r c fs,x=.ref r/\s[r]?=aT (.ins c fs)/\nB (.str f) fs=aT d/\s'=s:=by
 unfold pj at h;split at h
 .split at h
  .rename_i c fs e;split at h
   .rename_i e2;cases h;exact⟨_,c,fs,rfl,e,e2,rfl⟩
   .exact fb h
  .exact fb h
 .exact fb h
def bp8 (G:CG Γ F n X ck)(hab:ba8 o=ca)(h:PE X o (TEv Γ m)):PE X (.Attribute o ⟨f.toArray⟩ pos) (TEv Γ (λ U s=>(m U s).bind λ x s=>pj f x s)):=by
 refine(bV2 h (jb hab)).imp λ W H Q q=>?_;obtain⟨C,U,s,d,s',E,R,hm,q⟩:=q;obtain⟨x,s1,e1,hm⟩:=aa1 hm;obtain⟨r,c,fs,rfl,hs,hl,rfl⟩:=bf9 hm;refine⟨C,U,s,.ref r,_,E,R,e1,λ v C1 H1 g1 l1 b1 r1 R1=>?_⟩;obtain⟨Cc,dx,Y,⟨hc,hcl⟩,z,ea,Z⟩:=R1.obj r _ hs;obtain⟨v',J,q2,q3,q4⟩:=Z.lk hl;have wf:=R1.wf _ _ hs;unfold mW at wf;rw[aj]at wf;rw[G.K];exact⟨C1 r,Cc,dx,Y,v',r1.refE,ea,hcl,z _ q3,J,(q.trans g1 l1).here R1 (aa6.mp wf.2 _ q4) q2⟩
def aX4 (h:pk ok f x v s=.ok u s'):∃ r c fs,x=.ref r/\s[r]?=aT (.ins c fs)/\ok c=ca/\fs.length<1000/\s'=s.set r (.ins c (nQ (.str f) v fs)):=by
 unfold pk at h;split at h
 .split at h
  .rename_i c fs e;split at h
   .rename_i hc;rw[aj]at hc;cases h;exact⟨_,c,fs,rfl,e,hc.1,dO hc.2,rfl⟩
   .exact fb h
  .exact fb h
 .exact fb h
def bm0 (G:CG Γ F n X ck)(ho:PE X o (TEv Γ mo))(hv:PE X J (TEv Γ me))(hn:al1 J=ca) :
  PS X (.Assign [.Attribute o ⟨f.toArray⟩ a1] J pos) (TSv Γ (λ U s=>(me U s).bind λ d s=>(mo U s).bind λ x s=>(pk (λ c=>F.att c f) f x d s).bind λ _ s=>.ok (.next U) s)):=by
 refine(ca8 ho hv (qZ hn)).imp λ D W H q=>?_;obtain⟨C,U,s,c,s',E,R,e,q⟩:=q;obtain⟨d,s1,e1,e⟩:=aa1 e;obtain⟨x,s2,e2,e⟩:=aa1 e;obtain⟨u,s4,e4,e⟩:=aa1 e;cases e;obtain⟨r,cn,fs,rfl,hs,hat,a0,rfl⟩:=aX4 e4;refine⟨C,U,s,d,s1,E,R,e1,λ v1 C1 H1 g1 l1 b1 r1 R1=>?_⟩;refine⟨C1,U,s1,.ref r,s2,E.mono g1 l1,R1,e2,λ v2 C2 H2 g2 l2 b2 r2 R2=>?_⟩;obtain⟨Cc,dx,gs,⟨hc,hcl⟩,a2,ea,rd⟩:=R2.obj r _ hs;have Z:NoAttr Γ.K Cc ⟨f.toArray⟩:=by rw[<-G.K];exact G.ob.att cn f Cc hat hc
 have wf:=R2.wf _ _ hs;have bd:=zg l2 d b1;have rv:=RV.mono g2 d v1 b1 r1;have hb:=bu3 (f:=f) wf bd;have Y:=hb;unfold mW at Y;rw[aj]at Y;have key:∀ {l},(∀ p∈l,NoAttr Γ.K Cc p.1)->∀ p∈ao9 ⟨f.toArray⟩ v1 l,NoAttr Γ.K Cc p.1:=by
  intro l
  induction l with
  | nil=>intro _ p hp;cases(hp)with
   | head=>exact Z
   | tail _ z=>cases z
  | cons a l ih =>
   intro hl p hp;obtain⟨k,x⟩:=a;rw[show ao9 ⟨f.toArray⟩ v1 ((k,x)::l)=(if k=⟨f.toArray⟩then(k,v1)::l else(k,x)::ao9 ⟨f.toArray⟩ v1 l)from rfl]at hp;split at hp
   .rcases aw.mp hp with z|z
    .subst z;exact hl (k,x) (ao ..)
    .exact hl _ (ah _ z)
   .rcases aw.mp hp with z|z
    .subst z;exact hl _ (ao ..)
    .exact ih (λ p hp=>hl p (ah _ hp)) p z
 obtain⟨g3,R3⟩:=R2.set hs rfl hb λ H' g e=>⟨Cc,dx,_,⟨hc,hcl⟩,key a2,e,RVD.monoW g _ _ Y.2 (RVD.putA rv rd)⟩
 have G2:=g1.trans g2 l1;have L2:=ak l1 l2;have L3:s.length<=(s2.set r (.ins cn (nQ (.str f) d fs))).length:=by rw[aU];exact L2
 rw[G.K];refine⟨C2 r,Cc,dx,gs,r2.refE,ea,hcl,Z,by rw[rd.length];exact a0,q C2 _ (G2.trans g3 L2) L3 R3 W (E.mono (G2.trans g3 L2) L3)⟩
def bi8 (hc:Γ.cls c=aT Cc/\Cls Γ.K Cc)(q:TEv Γ (mR F (.new c as)) W H Q):bg0 Cc (spV Γ (F.new c)) [] E0 (TAv Γ (nz F as)) W H Q:=by
 obtain⟨C,U,s,d,s',E,R,hm,q⟩:=q;obtain⟨l,s1,e1,hm⟩:=aa1 hm;obtain⟨d0,s2,e2,hm⟩:=aa1 hm;split at hm
 case isFalse=>exact fb hm
 rename_i a1;subst a1;cases hm;refine⟨C,U,s,l,s1,E,R,e1,λ vs C1 Y g1 l1 b1 r1 R1 x J hx Z ne=>?_⟩;obtain⟨g2,R2⟩:=R1.same ((ae1.refl Y).new Z);have a0:upd Y J (.own x) x=none:=by rw[zf (bP ne)];exact hx
 obtain⟨g3,R3⟩:=R2.new (o:=.ins c []) a0 rfl λ C' H' g e=>⟨Cc,J,[],hc,(λ p hp=>by cases hp),e,rfl⟩
 have g4:=g2.trans g3 (al _);have l4:s1.length<=(s1++[DV.O.ins c []]).length:=by simp
 have z:(if s1.length=s1.length then x else C1 s1.length)=x:=ij rfl;refine⟨_,s1++[.ins c []],.ref s1.length::l,.N,_,R3,.cons (by unfold RV;skip;rw[z]) (by rw[a8];exact RVL.mono g4 l vs b1 r1),by unfold mP;rw[aa8 l4 l b1];unfold mY;simp,e2,λ v C' H' g l' b r R'=>⟨r.nonE,?_⟩⟩;have l5:=aG (show s1.length<(s1++[DV.O.ins c []]).length by simp) l';refine q (.ref x) C' H' ((g1.trans g4 l1).trans g (ak l1 l4)) (ak l1 (ak l4 l')) (by unfold mY;exact iN l5) ?_ R';unfold RV;rw[g.w.map s1.length (by simp)];rw[z]
def bJ2 {c:String}{Y:yL}(G:CG Γ F n X ck)(hg:ck.gl (c:Str)=ca)(m:mAs ck Z Y=ca)(h:PA X Y (TAv Γ (nz F Z))):EvT Γ X (.Call (.Name (c) p) Y [] pos) (mR F (.new c Z)):=by
 refine .val ?_;obtain⟨g1,g2,g3⟩:=G.gl hg;rcases G.ob.nw c with hbad|⟨k,Cc,a,fd,ps,hk,hc,z,M,hF,hb⟩
 .intro a0 s W H Q I q;obtain⟨C,U,s,d,s',E,R,hm,q⟩:=q;obtain⟨l,s1,e1,hm⟩:=aa1 hm;obtain⟨d0,s2,e2,hm⟩:=aa1 hm;rw[hbad]at e2;cases e2
 have hr:=G.room.mono hk;have J:Γ.cls c=aT Cc/\Cls Γ.K Cc:=by rw[<-G.K];exact hc
 cases Y with
 | nil =>
  have h0:PE X (.Call (.Name (c) p) [] [] pos) (bg0 Cc (spV Γ (F.new c)) [] E0 aF4):=br1 M hF hr g1 z hb .nil aV3 g2;cases Z with
  | nil =>
   refine h0.imp λ W H Q q=>?_;have q1:=bi8 J q;unfold bg0 at q1 ⊢;exact at4 (TAv.eq (λ U s=>rfl) q1)
  | _=>rw[mAs]at m<;>first|cases m|(intros;simp_all)
 | cons x Y =>
  have hs:=aj2 m;exact(bE6 M hF hr g1 z hb .nil aV3 h g2 (za (hs x (ao ..))) (zv λ e he=>hs e (ah _ he)).1).imp λ W H Q q=>bi8 J q
def bl3 (h:DV.bO7 x s=.ok c s'):∃ r fs,x=.ref r/\s[r]?=aT (.ins c fs)/\s'=s:=by
 unfold DV.bO7 at h;split at h
 .split at h
  .rename_i c fs e;cases h;exact⟨_,fs,rfl,e,rfl⟩
  .exact fb h
 .exact fb h
set_option tactic.hygienic false
theorem bj8 {K}(hm:Meth K Cc m a):∀ {J:List (Str×V)},(∀ p∈J,NoAttr K Cc p.1)->J.lookup m=bY
 | [],_=>rfl
 | (k,v)::J,h=>by
  rw[a9];cases e:m==k with
  | true =>
   have e':=ll e;subst e';have z:=h (m,v) (ao ..);unfold NoAttr at z;rw[hm.at_]at z;cases z
  | false=>exact bj8 hm λ p hp=>h p (ah _ hp)
def bi6 {args:yL}(Z:methodCallForm (args.length+([]:List fw).length) (du pos (bf args env)) (fA pos (dF [] env))=ca)(Y:(z.endLine==pos.line)=ca):∃ pl,eval (.Call (.Attribute (.Name x px) m z) args [] pos) env=(do
  let ov <- eval (.Name x px) env
  jL z.atName
  let(f,first) <- gu [ov] (je ov m pl)
  callWith pos f first (du pos (bf args env)) (fA pos (dF [] env))):=by
 have J:methodCallPos ca (.Name x px) env z pos=pure pos:=by unfold methodCallPos;simp[Y]
 rw[arm_eval_Call,jb rfl];unfold methodCall;rw[Z];simp only[J];exact⟨_,rfl⟩
def bg2 {mo:nU}{m:String}{Z:nW}{J:yL}{y:Str}{py ap pos:Pos}(G:CG Γ F n X ck)(ho:PE X (.Name y py) (TEv Γ (mR F mo)))(ma:mAs ck Z J=ca)(hl:(ap.endLine==pos.line)=ca)(hx:J.length<29)(h:PA X J (TAv Γ (nz F Z))):EvT Γ X (.Call (.Attribute (.Name y py) (m:Str) ap) J [] pos) (mR F (.mcall mo m Z)):=by
 refine .val ?_;intro Y sh W H Q I q;obtain⟨C,U,s,d,s',E,R,hm,q⟩:=q;obtain⟨x,s1,e1,a4⟩:=aa1 hm;obtain⟨c,s2,e2,a3⟩:=aa1 a4;obtain⟨l,s3,e3,hm⟩:=aa1 a3;obtain⟨r,fs,rfl,hs,rfl⟩:=bl3 e2;rcases G.ob.mc c m with hbad|⟨Cc,a,fd,ps,hc,hcl,z,hF,hb⟩
 .rw[hbad]at hm;exact fb hm
 have key:bq5 Cc (m:Str) (spV Γ (F.mcall c m)) [] E0 (TEv Γ (mR F mo)) (TAv Γ (nz F Z)) W H Q:=by
  refine⟨C,U,s,.ref r,s2,E,R,e1,λ v1 C1 H1 g1 l1 b1 r1 R1=>?_⟩;obtain⟨Cc',dx,gs,⟨a0,a5⟩,a1,ea,rd⟩:=R1.obj r _ hs;rw[hc]at a0;cases a0;rw[<-G.K]at a1;refine⟨C1 r,dx,gs,r1.refE,ea,bj8 z a1,C1,U,s2,l,s3,E.mono g1 l1,R1,e3,λ vs C2 H2 g2 l2 b2 r2 R2=>?_⟩;refine⟨C2,s3,.ref r::l,d,s',R2,.cons (RV.mono g2 _ _ b1 r1) (by rw[a8];exact r2),by unfold mP;rw[b2,zg l2 _ b1];rfl,hm,q.trans (g1.trans g2 l1) (ak l1 l2)⟩
 have hf:methodCallForm (J.length+([]:List fw).length) (du pos (bf J X.env)) (fA pos (dF [] X.env))=true:=by
  show((du pos (bf J X.env)).all (λ x=>!x.1)&&(fA pos (dF [] X.env)).all (λ x=>x.1.isSome)&&decide (J.length+([]:List fw).length+(if([]:List fw).isEmpty then 0 else 1)<30))=ca;rw[(zv (aj2 ma)).2];simp only[eL,aj,oR];exact⟨rfl,by simp;lia⟩
 obtain⟨pl,ht⟩:=bi6 (x:=y) (px:=py) (m:=(m:Str)) hf hl;cases J with
 | nil =>
  have h0:PE X (.Call (.Attribute (.Name y py) (m:Str) ap) [] [] pos) (bq5 Cc (m:Str) (spV Γ (F.mcall c m)) [] E0 (TEv Γ (mR F mo)) aF4):=bm6 (pl:=pl) ho hcl z hF G.room hb .nil aV3 ht;refine h0 Y sh W H Q I ?_;cases Z with
  | nil =>
   obtain⟨C,U,s,d,s',E,R,hm,k⟩:=key;refine⟨C,U,s,d,s',E,R,hm,λ v1 C1 H1 g1 l1 b1 r1 R1=>?_⟩;obtain⟨a,dx,fs,w1,w2,w3,w4⟩:=k v1 C1 H1 g1 l1 b1 r1 R1;exact⟨a,dx,fs,w1,w2,w3,at4 (TAv.eq (λ U s=>rfl) w4)⟩
  | _=>rw[mAs]at ma<;>first|cases ma|(intros;simp_all)
 | cons e es =>
  have a2:=aj2 ma;exact bH7 (pl:=pl) ho hcl z hF G.room hb .nil aV3 h (za (a2 e (ao ..))) (zv λ e he=>a2 e (ah _ he)).1 ht Y sh W H Q I key
theorem aw9 a :∀ l:List Int,(oI a l).Perm (a::l)
 | []=>.refl _
 | b::l=>by
  unfold oI;split
  .exact .refl _
  .exact((aw9 a l).cons b).trans (.swap a b l)
theorem av4:∀ l:List Int,(pp l).Perm l
 | []=>.refl _
 | a::l=>(aw9 a _).trans ((av4 l).cons a)
set_option tactic.hygienic true in
theorem au3 :∀ {l},l.Pairwise (·<=·)->(oI a l).Pairwise (·<=·)
 | [],_=>by unfold oI;exact g8 _ _
 | b::l,h=>by
  unfold oI;rw[bJ]at h;split
  .rename_i hab;exact bJ.mpr ⟨λ c hc=>(aw.mp hc).elim (λ z=>z▸hab) λ z=>iq hab (h.1 c z),bJ.mpr h⟩
  .rename_i hab;refine bJ.mpr ⟨λ c hc=>?_,au3 h.2⟩;rcases aw.mp ((aw9 a l).mem_iff.mp hc)with z|z
   .lia
   .exact h.1 c z
theorem ak7:∀ l:List Int,(pp l).Pairwise (·<=·)
 | []=>.nil
 | a::l=>au3 (ak7 l)
theorem aE2:∀ {l m:List Int},l.Perm m->l.Pairwise (·<=·)->m.Pairwise (·<=·)->l=m
 | [],m,p,_,_=>(List.nil_perm.mp p).symm
 | a::l,[],p,_,_=>nc (List.perm_nil.mp p) (by simp)
 | a::l,b::m,p,h1,h2=>by
  have g1:=bJ.mp h1;have J:=bJ.mp h2;have hab:a=b:=by
   have x1:a<=b:=by
    rcases aw.mp (p.symm.mem_iff.mp (ao ..))with z|z
    .lia
    .exact g1.1 b z
   have x2:b<=a:=by
    rcases aw.mp (p.mem_iff.mp (ao ..))with z|z
    .lia
    .exact J.1 a z
   lia
  subst hab;rw[aE2 (List.Perm.cons_inv p) g1.2 J.2]
set_option tactic.hygienic true in
def br2 (h:pq l s=.ok d s'):∃ is,nP l=aT is/\is.length<64/\d=.ref s.length/\s'=s++[.J ((pp is).map DV.D.int)]:=by
 unfold pq at h;split at h
 .rename_i is e;split at h
  .cases h;exact⟨is,e,‹_›,rfl,rfl⟩
  .exact fb h
 .exact fb h
theorem aO6 :∀ {l} {is} {z},nP l=aT is->RVL Γ C H l z->z=is.map V.int
 | [],is,z,h,r=>by cases h;exact r.unnil
 | d::l,is,z,h,r=>by
  cases d with
  | int i =>
   obtain⟨Y,e,rfl⟩:=b8.mp (h);obtain⟨x,ys,rfl,r1,J⟩:=r.uncons;rw[r1.intE,aO6 e J];rfl
  | _=>cases h
theorem aE9 :∀ ns:List Int,RVL Γ C H (ns.map DV.D.int) (ns.map V.int)
 | []=>.nil
 | n::ns=>.cons RV.intI (aE9 ns)
theorem at8 :∀ ns:List Int,mP m (ns.map DV.D.int)=ca
 | []=>rfl
 | n::ns=>by rw[aY];unfold mP;rw[at8 ns];rfl
def bK6 (G:CG Γ F n X ck)(hg:ck.gl "sorted"=ca)(hs:shp a=ca)(h:PE X a (TEv Γ m)) :
  PE X (.Call (.Name "sorted" p) [a] [] pos) (TEv Γ (λ U s=>(m U s).bind λ x s=>(pi x s).bind λ q s=>pq q s)):=by
 obtain⟨g1,g2,g3⟩:=G.gl hg;refine(qP aH5 g1 (G.bi _ (by decide)) (by decide +kernel) (zo h ab8 (za hs)) g3 g2 (za hs) rfl).imp λ W H Q q=>?_;obtain⟨C,U,s,d,s',E,R,hm,q⟩:=q;obtain⟨x,s1,e1,Z⟩:=aa1 hm;obtain⟨l,s2,e2,z⟩:=aa1 Z;obtain⟨J,r,rfl,er⟩:=bs4 e2;subst J;obtain⟨is,ei,Y,rfl,rfl⟩:=br2 z;refine⟨C,U,s,_,_,E,R,e1,λ v C1 H1 g1 l1 b1 r1 R1=>?_⟩;obtain⟨xs,ea,rd⟩:=R1.addr er;rw[aO6 ei rd]at ea;refine⟨C1 r,is,by rw[r1.refE],ea,Y,λ p ms hp pm so=>?_⟩;rw[aE2 (pm.trans (av4 is).symm) so (ak7 is)];exact(q.trans g1 l1).alloc R1 (aE9 _) (at8 _) hp
end
section
variable {Γ:Gm} {F:ni} {n:Nat} {X:Cx} {ck:Ck}
theorem RVD.merge :∀ {m l} {more kvs},RVD ah0 Γ C H l kvs->RVD ah0 Γ C H m more->RVD ah0 Γ C H (DV.cq9 l m) (ao2 kvs more)
 | [],l,more,kvs,h,g=>by
  have g:=g;subst g;exact h
 | (d,e)::m,l,_,kvs,h,g=>by
  obtain⟨k,v,r,rfl,e2,z,J⟩:=g;exact RVD.merge (l:=nE d e l) (kvs:=az1 kvs k v) (RVD.put aC9 e2 z h) J
def bh0 {mI}(G:CG Γ F n X ck)(hm:aD0 ck tg J iter z scope=ca)
  (hi:PI X J iter (TIv Γ mI)) (he:∀ Cc cells s H ex,PE (zK X (ckC ck J z scope).N scope Cc cells s H ex) elt (TEv Γ Y)) :
  PE X (.ListComp elt [⟨J,iter,[],0⟩] scope pos) (TFv Γ (λ U s=>(mI U s).bind λ q s0=>if oZ s q.src=ca/\q.its.length<=nh then(ow (λ s=>nG s0 s q.src) (λ d U s=>match nv U tg d with
   | some U=>(Y U s).bind λ v s=>.ok (aT v,U) s
   | none=>.B) q.its (n6 U z) s0).bind λ l s=>oY q.src l s else .B)):=by
 obtain⟨c1,c2,Z⟩:=G.comp hm;have base:=aI8 (pos:=pos) _ z c1 hi G.calm (λ Cc cells s H ex=>⟨(Z Cc cells s H ex).2,bb2.imp (t':=TTv Γ (λ U s=>.ok (.T ca) s)) λ W H Q q=>by
  obtain⟨C,U,s,b,s',E,R,hm,q⟩:=q;cases hm;exact q C H (Gr.refl _ _ _) (al _) R,he Cc cells s H ex⟩) (ax5 c2)
 refine(bF1 base).imp λ W H Q q=>bp0 (TFv.eq (λ U s=>?_) q)
 congr 1
end
section
variable {Γ:Gm} {F:ni} {n:Nat}
set_option tactic.hygienic true in
def bW1 (h:mC c v=ca):EvT Γ X (.Constant v k pos) (mR F (.K c)):=by
 refine .val ?_;unfold mC at h;split at h
 .exact ca9.imp λ W H Q q=>aB0 (λ _=>rfl) (λ _ _=>RV.nonI) (TEv.eq (λ U s=>rfl) q)
 .rename_i b c;have e:=ll h;subst e;exact bJ8.imp λ W H Q q=>aB0 (λ _=>rfl) (λ _ _=>RV.blI) (TEv.eq (λ U s=>rfl) q)
 .rename_i i j;have e:=dO h;subst e;exact aW7.imp λ W H Q q=>aB0 (λ _=>rfl) (λ _ _=>RV.intI) (TEv.eq (λ U s=>rfl) q)
 .rename_i x y;rw[aj]at h;have e:=dO h.1;have e2:=dO h.2;subst e;exact av2.imp λ W H Q q=>aB0 (λ _=>rfl) (λ _ _=>RV.strI (by unfold nh;lia)) (TEv.eq (λ U s=>rfl) q)
 .cases h
def bA3 {z:yL}(m:mEs ck es z=ca)(hz:z.length<=1000)(h:PA X z (TAv Γ (nI F es))):PE X (.List z pos) (TFv Γ (DV.evL F (.disp es))):=by
 refine(at5 h).imp λ W H Q q=>?_;obtain⟨C,U,s,l,s',E,R,hm,q⟩:=q;refine⟨C,U,s,l,s',E,R,hm,λ vs C1 Y g1 l1 Z r1 R1=>⟨by rw[r1.length,az0 hm m];exact aN4 hz,λ p hp=>?_⟩⟩;obtain⟨J,R2⟩:=R1.same ((ae1.refl Y).new hp);refine q p vs C1 _ (g1.trans J l1) l1 Z zq ?_ (Off.new R1 hp) (RVL.mono J _ _ Z r1) R2;cases e:H p with
 | none=>rfl
 | some o=>exact nc hp (g1.st p (by rw[e];simp))
def CompF.eq (c:CompF Γ X m E)(e:∀ U s,m' U s=m U s):CompF Γ X m' E:=by
 have:=funext λ U=>funext λ s=>e U s;subst this;exact c
def zc (h:(a&&b)=ca):a=ca/\b=true:=by rw[aj]at h;exact h
def bA2 {g:String}(G:CG Γ F n X J)(h:J.gl (g:Str)=ca):EvT Γ X (.Name (g) p) (mR F (.gl g)):=by
 refine .val ?_;obtain⟨g1,Y,g3⟩:=G.gl h;cases e:F.con g with
 | none =>
  intro z s W H Q I q;obtain⟨C,U,s,d,s',E,R,hm,q⟩:=q;have hm:(match F.con g with|some d=>DV.R.ok d s|none=>.B)=.ok d s':=hm;rw[e]at hm;cases hm
 | some d =>
  obtain⟨v,u,Z,h2,h3,h4⟩:=G.con g d e;exact(ax9 g1 Z h2 Y).imp λ W H Q q=>aB0 h3 h4 (TEv.eq (λ U s=>by show(match F.con g with|some d=>DV.R.ok d s|none=>.B)=DV.R.ok d s;rw[e]) q)
def bS2 (G:CG Γ F n X z)(h:z.var i x=ca):EvT Γ X (.Name x p) (mR F (.X i)):=by
 refine .val ?_;unfold Ck.var at h;obtain⟨h,h4⟩:=zc h;obtain⟨h,h3⟩:=zc h;obtain⟨J,Y⟩:=zc h;have e1:(x==("__debug__"))=false:=by simpa using h3
 have e2:(x==("__classdict__"))=false:=by simpa using h4
 exact(aA9 (by rw[G.N];exact dO J) (G.vis Y) e1 e2).imp λ W H Q q=>bU3 i (TEv.eq (λ U s=>rfl) q)
def aM4 (h:∀ U s,m U s=.B):EvT Γ X E m:=by
 refine⟨λ z s W H Q I q=>?_,λ z s W H Q I q=>?_⟩
 .obtain⟨C,U,s,d,s',E,R,hm,q⟩:=q;rw[h]at hm;exact fb hm
 .obtain⟨C,U,s,d,s',E,R,hm,q⟩:=q;rw[h]at hm;exact fb hm
inductive LK (Γ:Gm)(X:Cx)(m:mQ->mM->mU (List mO))(E:Expr)(k:Nat):Prop where
 | c (h:CompF Γ X m E):LK Γ X m E k
 | f (hk:1<=k) (h:PE X E (TFv Γ m)):LK Γ X m E k
 | s (hk:k=2) (h:PE X E (TLv Γ m)):LK Γ X m E k
def ce0 (h:LK Γ X m E 0):CompF Γ X m E:=by
 cases h with
 | c h=>exact h
 | f hk h=>lia
 | s hk h=>lia
def bl2 (G:CG Γ F n X z)(h:LK Γ X m E 1):PE X E (TFv Γ m):=by
 cases h with
 | c h=>exact h.pe G.calm
 | f hk h=>exact h
 | s hk h=>lia
def ck6 (G:CG Γ F n X z)(h:LK Γ X m E 2):PE X E (TLv Γ m):=by
 cases h with
 | c h=>exact(h.pe G.calm).imp λ W H Q q=>aM6 q
 | f hk h=>exact h.imp λ W H Q q=>aM6 q
 | s hk h=>exact h
def biOk_inv (h:cf2 z b x J (mEs z es J) (mEs z es (J.take 1))=ca) :
  (∃ k t a y py,biK b=aT (k,t)/\J=[a,.Name y py]/\x=("isinstance")/\y=t/\z.gl x=ca/\z.gl y=ca/\mEs z es [a]=ca)\/∃ a ys,J=a::ys/\biT b=aT x/\z.gl x=ca/\mEs z es (a::ys)=true:=by
 unfold cf2 at h;cases hk:biK b with
 | none =>
  rw[hk]at h;cases J with
  | nil=>exact ff h
  | cons a ys =>
   obtain⟨h,h3⟩:=zc h;obtain⟨Y,Z⟩:=zc h;exact .inr ⟨a,ys,rfl,dO Y,Z,h3⟩
 | some p =>
  rw[hk]at h;cases J with
  | nil=>exact ff h
  | cons a ys=>cases ys with
   | nil=>exact ff h
   | cons b ys=>cases b with
    | Name y py=>cases ys with
     | nil =>
      obtain⟨h,h5⟩:=zc h;obtain⟨h,h4⟩:=zc h;obtain⟨h,h3⟩:=zc h;obtain⟨Y,Z⟩:=zc h;exact .inl ⟨p.1,p.2,a,y,py,rfl,rfl,dO Y,dO h3,Z,h4,h5⟩
     | cons _ _=>exact ff h
    | _=>exact ff h
mutual
theorem sE:∀(e:nU) (E:Expr) (X:Cx) (z:Ck),CG Γ F n X z->mE z e E=ca->EvT Γ X E (mR F e)
 | .X i,E,X,z,G,h=>by
  cases E with
  | Name x p =>
   exact bS2 G h
  | _=>exact ff h
 | .K c,E,X,z,G,h=>by
  cases E with
  | Constant v k p =>
   exact bW1 h
  | _=>exact ff h
 | .gl g,E,X,z,G,h=>by
  cases E with
  | Name x p =>
   obtain⟨Y,J⟩:=zc h;have e:=dO Y;subst e;exact bA2 G J
  | _=>exact ff h
 | .G op a b,E,X,z,G,h=>by
  cases E with
  | BinOp l o r pE =>
   obtain⟨h,h3⟩:=zc h;obtain⟨Y,J⟩:=zc h;have e:=dO Y;subst e;exact bB3 G op (sE a _ X z G J) (sE b _ X z G h3)
  | _=>exact ff h
 | .neg a,E,X,z,G,h=>by
  cases E with
  | UnaryOp o l p =>
   cases o with
   | USub =>
    exact bC5 (sE a _ X z G h)
   | _=>exact ff h
  | _=>exact ff h
 | .not a,E,X,z,G,h=>by
  cases E with
  | UnaryOp o l p =>
   cases o with
   | Not =>
    exact bA8 (sE a _ X z G h)
   | _=>exact ff h
  | _=>exact ff h
 | .Z op a b,E,X,z,G,h=>by
  cases E with
  | Compare l os rs pE =>
   cases os with
   | cons o os_0 =>
    cases os_0 with
    | nil =>
     cases rs with
     | cons r rs_0 =>
      cases rs_0 with
      | nil =>
       obtain⟨h,h3⟩:=zc h;obtain⟨Y,J⟩:=zc h;have e:=dO Y;subst e;exact bL1 G op (aC6 h3) (sE a _ X z G J) (sE b _ X z G h3)
      | _=>exact ff h
     | _=>exact ff h
    | _=>exact ff h
   | _=>exact ff h
  | _=>exact ff h
 | .chain o p a b c,E,X,z,G,h=>by
  cases E with
  | Compare l os rs pE =>
   cases os with
   | cons o1 os_0 =>
    cases os_0 with
    | cons o2 os_1 =>
     cases os_1 with
     | nil =>
      cases rs with
      | cons m rs_0 =>
       cases rs_0 with
       | cons r rs_1 =>
        cases rs_1 with
        | nil =>
         obtain⟨h,Z⟩:=zc h;obtain⟨h,h4⟩:=zc h;obtain⟨h,h3⟩:=zc h;obtain⟨Y,J⟩:=zc h;have e:=dO Y;have e':=dO J;subst e;subst e';exact be5 G o p (aC6 Z) (sE a _ X z G h3) (sE b _ X z G h4) (sE c _ X z G Z)
        | _=>exact ff h
       | _=>exact ff h
      | _=>exact ff h
     | _=>exact ff h
    | _=>exact ff h
   | _=>exact ff h
  | _=>exact ff h
 | .isN a,E,X,z,G,h=>by
  cases E with
  | Compare l os rs pE =>
   cases os with
   | cons o os1 =>
    cases o with
    | Is =>
     cases os1 with
     | nil =>
      cases rs with
      | cons r rs1 =>
       cases r with
       | Constant v k p1 =>
        cases v with
        | none =>
         cases rs1 with
         | nil =>
          exact bF0 (sE a _ X z G h)
         | _=>exact ff h
        | _=>exact ff h
       | _=>exact ff h
      | _=>exact ff h
     | _=>exact ff h
    | _=>exact ff h
   | _=>exact ff h
  | _=>exact ff h
 | .notN a,E,X,z,G,h=>by
  cases E with
  | Compare l os rs pE =>
   cases os with
   | cons o os1 =>
    cases o with
    | IsNot =>
     cases os1 with
     | nil =>
      cases rs with
      | cons r rs1 =>
       cases r with
       | Constant v k p1 =>
        cases v with
        | none =>
         cases rs1 with
         | nil =>
          exact bu7 (sE a _ X z G h)
         | _=>exact ff h
        | _=>exact ff h
       | _=>exact ff h
      | _=>exact ff h
     | _=>exact ff h
    | _=>exact ff h
   | _=>exact ff h
  | _=>exact ff h
 | .and a b,E,X,z,G,h=>by
  cases E with
  | BoolOp op vs p=>cases op with
   | And =>
    cases vs with
    | nil=>exact ff h
    | cons l vs=>cases vs with
     | nil=>exact ff h
     | cons r vs=>cases vs with
      | nil =>
       obtain⟨Y,J⟩:=zc h;exact bA7 (sE a _ X z G Y) (sE b _ X z G J)
      | cons r2 vs =>
       obtain⟨Y,J⟩:=zc h;exact bH1 (sE a _ X z G Y) (sE b _ X z G J)
   | _=>exact ff h
  | _=>exact ff h
 | .or a b,E,X,z,G,h=>by
  cases E with
  | BoolOp op vs p=>cases op with
   | Or =>
    cases vs with
    | nil=>exact ff h
    | cons l vs=>cases vs with
     | nil=>exact ff h
     | cons r vs=>cases vs with
      | nil =>
       obtain⟨Y,J⟩:=zc h;exact ce1 (sE a _ X z G Y) (sE b _ X z G J)
      | cons r2 vs =>
       obtain⟨Y,J⟩:=zc h;exact ce9 (sE a _ X z G Y) (sE b _ X z G J)
   | _=>exact ff h
  | _=>exact ff h
 | .ite c a b,E,X,z,G,h=>by
  cases E with
  | IfExp tE l r pE =>
   obtain⟨h,h3⟩:=zc h;obtain⟨Y,J⟩:=zc h;exact bJ3 (sE c _ X z G Y) (sE a _ X z G J) (sE b _ X z G h3)
  | _=>exact ff h
 | .tp es,E,X,z,G,h=>by
  cases E with
  | Tuple xs k p =>
   obtain⟨Y,J⟩:=zc h;exact bF9 Y (dO J) (au4 (sEs es _ X z G Y))
  | _=>exact ff h
 | .J es,E,X,z,G,h=>by
  cases E with
  | List xs p =>
   obtain⟨Y,J⟩:=zc h;exact bA6 Y (dO J) (au4 (sEs es _ X z G Y))
  | _=>exact ff h
 | .dc .nil .nil,E,X,z,G,h=>by
  cases E with
  | Dict a b p=>cases a with
   | nil=>cases b with
    | nil=>exact .val (bs3.imp λ W H Q q=>ca5 (TEv.eq (λ U s=>rfl) q))
    | _=>exact ff h
   | cons x a=>cases x with
    | none=>exact ff h
    | some x=>cases a with
     | nil=>cases b with
      | nil=>exact ff h
      | cons y b=>cases b with
       | nil=>exact ff h
       | _=>exact ff h
     | _=>exact ff h
  | _=>exact ff h
 | .dc (.cons k .nil) (.cons v .nil),E,X,z,G,h=>by
  cases E with
  | Dict a b p=>cases a with
   | nil=>cases b with
    | nil=>exact ff h
    | _=>exact ff h
   | cons x a=>cases x with
    | none=>exact ff h
    | some x=>cases a with
     | nil=>cases b with
      | nil=>exact ff h
      | cons y b=>cases b with
       | nil =>
        obtain⟨Y,J⟩:=zc h;obtain⟨Y,_⟩:=zc Y;obtain⟨Y,_⟩:=zc Y;obtain⟨J,_⟩:=zc J;obtain⟨J,_⟩:=zc J;exact .val ((bN7 (bq6 (sE k _ X z G Y).1 (sE v _ X z G J).1 bC1) rfl rfl (by nofun) (by show 1<=15;decide)).imp λ W H Q q=>bZ5 (TEv.eq (λ U s=>rfl) q))
       | _=>exact ff h
     | _=>exact ff h
  | _=>exact ff h
 | .dc .nil (.cons _ _),E,X,z,G,h=>aM4 λ _ _=>rfl
 | .dc (.cons _ .nil) .nil,E,X,z,G,h=>aM4 λ _ _=>rfl
 | .dc (.cons _ .nil) (.cons _ (.cons _ _)),E,X,z,G,h=>aM4 λ _ _=>rfl
 | .dc (.cons _ (.cons _ _)) _,E,X,z,G,h=>aM4 λ _ _=>rfl
 | .attr o f,E,X,z,G,h=>by
  cases E with
  | Attribute ob x p =>
   obtain⟨h,h3⟩:=zc h;obtain⟨Y,J⟩:=zc h;have e:=dO Y;subst e;exact .val ((bp8 G J (sE o _ X z G h3).1).imp λ W H Q q=>TEv.eq (λ U s=>rfl) q)
  | _=>exact ff h
 | .new c as,E,X,z,G,h=>by
  cases E with
  | Call fE xs kw p =>
   cases fE with
   | Name x pN =>
    cases kw with
    | nil =>
     obtain⟨h,h3⟩:=zc h;obtain⟨Y,J⟩:=zc h;have e:=dO Y;subst e;exact bJ2 G J h3 (sAs as _ X z G h3)
    | _=>exact ff h
   | _=>exact ff h
  | _=>exact ff h
 | .mcall o m as,E,X,z,G,h=>by
  cases E with
  | Call fE xs kw p =>
   cases fE with
   | Attribute ob x ap =>
    cases kw with
    | nil =>
     cases ob with
     | Name y py =>
      obtain⟨h,Z⟩:=zc h;obtain⟨h,h4⟩:=zc h;obtain⟨h,h3⟩:=zc h;obtain⟨Y,J⟩:=zc h;have e:=dO Y;subst e;exact bg2 G (sE o _ X z G J).1 Z h3 (dO h4) (sAs as _ X z G Z)
     | _=>exact ff h
    | _=>exact ff h
   | _=>exact ff h
  | _=>exact ff h
 | .srt e,E,X,z,G,h=>by
  cases E with
  | Call fE xs kw p =>
   cases fE with
   | Name x pN =>
    cases xs with
    | cons a ys =>
     cases ys with
     | nil =>
      cases kw with
      | nil =>
       obtain⟨h,h4⟩:=zc h;obtain⟨h,h3⟩:=zc h;obtain⟨Y,J⟩:=zc h;have e1:=dO Y;subst e1;exact .val ((bK6 G J h3 (sE e _ X z G h4).1).imp λ W H Q q=>TEv.eq (λ U s=>rfl) q)
      | _=>exact ff h
     | _=>exact ff h
    | _=>exact ff h
   | _=>exact ff h
  | _=>exact ff h
 | .bitl o,E,X,z,G,h=>by
  cases E with
  | Call fE xs kw cp =>
   cases fE with
   | Attribute ob x ap =>
    cases xs with
    | nil =>
     cases kw with
     | nil =>
      obtain⟨h,h4⟩:=zc h;obtain⟨h,h3⟩:=zc h;obtain⟨Y,J⟩:=zc h;have e:=dO Y;subst e;exact ev_bitl' G J h3 (sE o _ X z G h4).1
     | _=>exact ff h
    | _=>exact ff h
   | _=>exact ff h
  | _=>exact ff h
 | .ix a b,E,X,z,G,h=>by
  cases E with
  | Subscript o i p =>
   obtain⟨Y,J⟩:=zc h;exact bT4 G (aC6 J) (sE a _ X z G Y) (sE b _ X z G J)
  | _=>exact ff h
 | .slL a lo,E,X,z,G,h=>by
  cases E with
  | Subscript o i p =>
   cases i with
   | Slice lo hi st p2 =>
    cases lo with
    | some l =>
     cases hi with
     | none =>
      cases st with
      | none =>
       obtain⟨Y,J⟩:=zc h;exact bH3 G (sE a _ X z G Y) (sE lo _ X z G J)
      | _=>exact ff h
     | _=>exact ff h
    | _=>exact ff h
   | _=>exact ff h
  | _=>exact ff h
 | .slU a hi,E,X,z,G,h=>by
  cases E with
  | Subscript o i p =>
   cases i with
   | Slice lo hi st p2 =>
    cases lo with
    | none =>
     cases hi with
     | some l =>
      cases st with
      | none =>
       obtain⟨Y,J⟩:=zc h;exact bI8 G (sE a _ X z G Y) (sE hi _ X z G J)
      | _=>exact ff h
     | _=>exact ff h
    | _=>exact ff h
   | _=>exact ff h
  | _=>exact ff h
 | .slLU a lo hi,E,X,z,G,h=>by
  cases E with
  | Subscript o i p =>
   cases i with
   | Slice lo hi st p2 =>
    cases lo with
    | some l =>
     cases hi with
     | some l2 =>
      cases st with
      | none =>
       obtain⟨h,h3⟩:=zc h;obtain⟨Y,J⟩:=zc h;exact bk3 G (sE a _ X z G Y) (sE lo _ X z G J) (sE hi _ X z G h3)
      | _=>exact ff h
     | _=>exact ff h
    | _=>exact ff h
   | _=>exact ff h
  | _=>exact ff h
 | .call f as,E,X,z,G,h=>by
  cases E with
  | Call fE xs kw p =>
   cases fE with
   | Name x pN =>
    cases kw with
    | nil =>
     obtain⟨h,h3⟩:=zc h;obtain⟨Y,J⟩:=zc h;have e:=dO Y;subst e;exact bn1 G J h3 (sAs as _ X z G h3)
    | _=>exact ff h
   | _=>exact ff h
  | _=>exact ff h
 | .bi b es,E,X,z,G,h=>by
  cases E with
  | Call fE xs kw p =>
   cases fE with
   | Name x pN =>
    cases kw with
    | nil =>
     have h:cf2 z b x xs (mEs z es xs) (mEs z es (xs.take 1))=true:=h;rcases biOk_inv h with⟨k,t,a,y,py,hk,rfl,rfl,rfl,J,h4,Z⟩|⟨a,ys,rfl,Y,J,h3⟩
     .exact bD0 G hk J h4 (sEs es _ X z G Z)
     .exact bQ9 G Y J h3 (au4 (sEs es _ X z G h3))
    | _=>exact ff h
   | _=>exact ff h
  | _=>exact ff h
 | .mk k l,E,X,z,G,h=>by
  cases E with
  | ListComp e gs sc p =>
   obtain⟨Y,J⟩:=zc h;have e:=dO Y;subst e;rcases(bz _ _).mp J with J|J
   .exact .val (((ce0 (sL l _ X z G 0 J)).pe G.calm).imp λ W H Q q=>aH0 (TEv.eq (λ U s=>rfl) q))
   .exact .val ((bl2 G (sL l _ X z G 1 (zc J).2)).imp λ W H Q q=>aH0 (TEv.eq (λ U s=>rfl) q))
  | Call fE xs kw p =>
   cases fE with
   | Name x pN =>
    cases xs with
    | cons a xs_0 =>
     cases xs_0 with
     | nil =>
      cases kw with
      | nil =>
       obtain⟨h,h4⟩:=zc h;obtain⟨J,h3⟩:=zc h;rw[bz]at h4;rcases h4 with h4|h4
       .obtain⟨Z,h6⟩:=zc h4;exact .val ((bX8 G (dO Z) J h3 (ck6 G (sL l _ X z G 2 h6))).imp λ W H Q q=>TEv.eq (λ U s=>rfl) q)
       .obtain⟨Z,h6⟩:=zc h4;exact .val ((bU6 G (dO Z) J h3 (bl2 G (sL l _ X z G 1 h6))).imp λ W H Q q=>TEv.eq (λ U s=>rfl) q)
      | _=>exact ff h
     | _=>exact ff h
    | _=>exact ff h
   | _=>exact ff h
  | _=>exact ff h
 | .mkD k l d,E,X,z,G,h=>by
  cases E with
  | Call fE xs kw p =>
   cases fE with
   | Name x pN =>
    cases xs with
    | cons a xs_0 =>
     cases xs_0 with
     | nil =>
      cases kw with
      | cons kk kw1 =>
       cases kk with
       | mk ky de kp =>
        cases ky with
        | some y =>
         cases kw1 with
         | nil =>
          obtain⟨h,h7⟩:=zc h;obtain⟨h,h6⟩:=zc h;obtain⟨h,Z⟩:=zc h;obtain⟨h,h3⟩:=zc h;obtain⟨Y,J⟩:=zc h;have e3:=dO J;subst e3;obtain⟨e,e2⟩:=zc Y;have e:=dO e;have e2:=dO e2;subst e e2;exact .val ((bY2 G h3 Z (bl2 G (sL l _ X z G 1 h6)) (sE d _ X z G h7).1).imp λ W H Q q=>TEv.eq (λ U s=>rfl) q)
         | _=>exact ff h
        | _=>exact ff h
      | _=>exact ff h
     | _=>exact ff h
    | _=>exact ff h
   | _=>exact ff h
  | _=>exact ff h
 | .me m o es,E,X,z,G,h=>by
  cases E with
  | Call fE xs kw p =>
   cases fE with
   | Attribute ob x ap =>
    cases kw with
    | nil =>
     obtain⟨h,Z⟩:=zc h;obtain⟨h,h4⟩:=zc h;obtain⟨h,h3⟩:=zc h;obtain⟨Y,J⟩:=zc h;exact bl9 G (dO Y) J h3 (sE o _ X z G h4).1 Z (sEs es _ X z G Z)
    | _=>exact ff h
   | _=>exact ff h
  | _=>exact ff h
 | .ext o l,E,X,z,G,h=>by
  cases E with
  | Call fE xs kw p =>
   cases fE with
   | Attribute ob x ap =>
    cases xs with
    | cons a xs_0 =>
     cases xs_0 with
     | nil =>
      cases kw with
      | nil =>
       obtain⟨h,h6⟩:=zc h;obtain⟨h,Z⟩:=zc h;obtain⟨h,h4⟩:=zc h;obtain⟨h,h3⟩:=zc h;obtain⟨Y,J⟩:=zc h;have e:=dO Y;subst e;exact .val ((bM0 G J h3 (sE o _ X z G h4).1 h6 (bl2 G (sL l _ X z G 1 Z))).imp λ W H Q q=>TEv.eq (λ U s=>rfl) q)
      | _=>exact ff h
     | _=>exact ff h
    | _=>exact ff h
   | _=>exact ff h
  | _=>exact ff h
 | .extS o e',E,X,z,G,h=>by
  cases E with
  | Call fE xs kw p =>
   cases fE with
   | Attribute ob x ap =>
    cases xs with
    | cons a xs_0 =>
     cases xs_0 with
     | nil =>
      cases kw with
      | nil =>
       obtain⟨h,h6⟩:=zc h;obtain⟨h,Z⟩:=zc h;obtain⟨h,h4⟩:=zc h;obtain⟨h,h3⟩:=zc h;obtain⟨Y,J⟩:=zc h;have e:=dO Y;subst e;exact .val ((bG3 G J h3 (sE o _ X z G h4).1 h6 (sE e' _ X z G Z).1).imp λ W H Q q=>TEv.eq (λ U s=>rfl) q)
      | _=>exact ff h
     | _=>exact ff h
    | _=>exact ff h
   | _=>exact ff h
  | _=>exact ff h
theorem sEs:∀(es:ny) (z:yL) (X:Cx) (J:Ck),CG Γ F n X J->mEs J es z=ca->PEs Γ F X es z
 | .nil,z,X,J,G,h=>by
  cases z with
  | nil =>
   exact trivial
  | _=>exact ff h
 | .cons e es,z,X,J,G,h=>by
  cases z with
  | cons x z =>
   obtain⟨h,h3⟩:=zc h;obtain⟨Y,Z⟩:=zc h;exact⟨⟨Z,sE e _ X J G Y⟩,sEs es _ X J G h3⟩
  | _=>exact ff h
theorem sFs:∀(es:ny) (J:yL) (X:Cx) (z:Ck),CG Γ F n X z->mFs z es J=ca->PF Γ X J (nI F es)
 | .nil,J,X,z,G,h=>by
  cases J with
  | nil=>exact(bS6).eq λ _ _=>rfl
  | _=>exact ff h
 | .cons e es,J,X,z,G,h=>by
  cases J with
  | cons x J =>
   cases x with
   | FormattedValue v c sp p =>
    cases sp with
    | none =>
     obtain⟨h,h3⟩:=zc h;obtain⟨Y,Z⟩:=zc h;have e1:=dO Y;subst e1;exact(bY5 (sE e _ X z G Z).1 (sFs es _ X z G h3)).eq λ _ _=>rfl
    | _=>exact ff h
   | Constant v j p =>
    obtain⟨Y,Z⟩:=zc h;exact(bU4 (sE e _ X z G Y).1 (sFs es _ X z G Z)).eq λ _ _=>rfl
   | _=>exact ff h
  | _=>exact ff h
theorem sAs:∀(es:nW) (z:yL) (X:Cx) (J:Ck),CG Γ F n X J->mAs J es z=ca->PA X z (TAv Γ (nz F es))
 | .nil,z,X,J,G,h=>by
  cases z with
  | nil =>
   exact ab8.imp λ W H Q q=>at4 (TAv.eq (λ U s=>rfl) q)
  | _=>exact ff h
 | .ex e es,z,X,J,G,h=>by
  cases z with
  | cons x z =>
   obtain⟨h,h3⟩:=zc h;obtain⟨Y,Z⟩:=zc h;exact(aP1 Z (sE e _ X J G Y).1 (sAs es _ X J G h3)).imp λ W H Q q=>TAv.eq (λ U s=>rfl) q
  | _=>exact ff h
 | .fn _ _,z,X,J,G,h=>ff h
theorem cr7:∀(es:nW) (z:yL) (X:Cx) (J:Ck),CG Γ F n X J->cq2 J es z=ca->PA X z (TAp Γ X.env.cells X.N (nz F es))
 | .nil,z,X,J,G,h=>by
  cases z with
  | nil =>
   exact ab8.imp λ W H Q q=>bM2 (TAp.eq (λ U s=>rfl) q)
  | _=>exact ff h
 | .ex e es,z,X,J,G,h=>by
  cases z with
  | cons x z =>
   obtain⟨h,h3⟩:=zc h;obtain⟨Y,Z⟩:=zc h;exact(zo (sE e _ X J G Y).1 (cr7 es _ X J G h3) (za Z)).imp λ W H Q q=>cf0 (TAp.eq (λ U s=>rfl) q)
  | _=>exact ff h
 | .fn _ _,z,X,J,G,h=>ff h
theorem sI:∀(i:DV.I) (E tg:Expr) (X:Cx) (z:Ck),CG Γ F n X z->mI z tg i E=ca->PI X tg E (TIv Γ (oz F i))
 | .seq e,E,tg,X,z,G,h=>by
  obtain⟨J,Y⟩:=zc h;exact bA1 G (sE e _ X z G J).1
 | .keys e,E,tg,X,z,G,h=>by
  obtain⟨J,Y⟩:=zc h;exact(bg6 (sE e _ X z G J).1).imp λ W H R q=>aW4 (TIv.eq (λ U s=>rfl) q)
 | .rg a,E,tg,X,z,G,h=>by
  cases E with
  | Call fE xs kw p =>
   cases fE with
   | Name x pN =>
    cases xs with
    | cons l xs_0 =>
     cases xs_0 with
     | nil =>
      cases kw with
      | nil =>
       obtain⟨h,h4⟩:=zc h;obtain⟨h,h3⟩:=zc h;obtain⟨J,Y⟩:=zc h;have e:=dO J;subst e;exact bq7 G Y h4 (sE a _ X z G h3).1
      | _=>exact ff h
     | _=>exact ff h
    | _=>exact ff h
   | _=>exact ff h
  | _=>exact ff h
 | .rngD a,E,tg,X,z,G,h=>by
  cases E with
  | Call fE xs kw p =>
   cases fE with
   | Name x pN =>
    cases xs with
    | cons l xs1 =>
     cases xs1 with
     | cons r xs2 =>
      cases r with
      | UnaryOp o1 c1 p1 =>
       cases o1 with
       | USub =>
        cases c1 with
        | Constant v k1 p2 =>
         cases xs2 with
         | cons cc xs3 =>
          cases cc with
          | UnaryOp o2 c2 p3 =>
           cases o2 with
           | USub =>
            cases c2 with
            | Constant u k2 p4 =>
             cases xs3 with
             | nil =>
              cases kw with
              | nil =>
               obtain⟨h,h6⟩:=zc h;obtain⟨h,Z⟩:=zc h;obtain⟨h,h4⟩:=zc h;obtain⟨h,h3⟩:=zc h;obtain⟨J,Y⟩:=zc h;have e:=dO J;have e2:=dO Z;have e3:=dO h6;subst e e2 e3;exact bp1 G Y h4 (sE a _ X z G h3).1
              | _=>exact ff h
             | _=>exact ff h
            | _=>exact ff h
           | _=>exact ff h
          | _=>exact ff h
         | _=>exact ff h
        | _=>exact ff h
       | _=>exact ff h
      | _=>exact ff h
     | _=>exact ff h
    | _=>exact ff h
   | _=>exact ff h
  | _=>exact ff h
 | .enum (.seq a),E,tg,X,z,G,h=>by
  cases E with
  | Call fE xs kw p =>
   cases fE with
   | Name x pN =>
    cases xs with
    | cons l xs_0 =>
     cases xs_0 with
     | nil =>
      cases kw with
      | nil =>
       obtain⟨h,Z⟩:=zc h;obtain⟨h,h4⟩:=zc h;obtain⟨h,h3⟩:=zc h;obtain⟨J,Y⟩:=zc h;have e:=dO J;subst e;cases tg with
       | Tuple es k p=>exact bt7 G Y h4 (sE a _ X z G h3).1
       | _=>exact ff Z
      | _=>exact ff h
     | _=>exact ff h
    | _=>exact ff h
   | _=>exact ff h
  | _=>exact ff h
 | .enum (.rg _),E,tg,X,z,G,h=>ff h
 | .enum (.rngD _),E,tg,X,z,G,h=>ff h
 | .enum (.enum _),E,tg,X,z,G,h=>ff h
 | .enum (.keys _),E,tg,X,z,G,h=>ff h
theorem sL:∀(l:DV.L) (E:Expr) (X:Cx) (Y:Ck),CG Γ F n X Y->∀ k,mL Y k l E=ca->LK Γ X (DV.evL F l) E k
 | .comp tg it e caps,E,X,Y,G,k,h=>by
  cases E with
  | ListComp elt gs scope p =>
   cases gs with
   | cons g gs1 =>
    cases g with
    | mk tgt iter ifs z =>
     cases ifs with
     | nil =>
      cases gs1 with
      | nil =>
       obtain⟨h,h3⟩:=zc h;obtain⟨h,Z⟩:=zc h;obtain⟨h0,J⟩:=zc h;have e0:=dO h0;subst e0;have c:=bm3 (pos:=p) G J (sI it _ _ X Y G Z) λ Cc cells s H ex=>(sE e _ _ _ ((G.comp J).2.2 Cc cells s H ex).1 h3).1;exact .c (c.eq λ U s=>rfl)
      | _=>exact ff h
     | _=>exact ff h
   | _=>exact ff h
  | _=>exact ff h
 | .compIf tg it i e caps,E,X,Y,G,k,h=>by
  cases E with
  | ListComp elt gs scope p =>
   cases gs with
   | cons g gs1 =>
    cases g with
    | mk tgt iter ifs z =>
     cases ifs with
     | cons i1 ifs1 =>
      cases ifs1 with
      | nil =>
       cases gs1 with
       | nil =>
        obtain⟨h,h4⟩:=zc h;obtain⟨h,h3⟩:=zc h;obtain⟨h,Z⟩:=zc h;obtain⟨h0,J⟩:=zc h;have e0:=dO h0;subst e0;have c:=bE8 (pos:=p) G J (sI it _ _ X Y G Z) (λ Cc cells s H ex=>(sE i _ _ _ ((G.comp J).2.2 Cc cells s H ex).1 h3).2) λ Cc cells s H ex=>(sE e _ _ _ ((G.comp J).2.2 Cc cells s H ex).1 h4).1;exact .c (c.eq λ U s=>rfl)
       | _=>exact ff h
      | _=>exact ff h
     | _=>exact ff h
   | _=>exact ff h
  | _=>exact ff h
 | .disp es,E,X,Y,G,k,h=>by
  cases E with
  | List xs p =>
   obtain⟨h,Z⟩:=zc h;obtain⟨h0,J⟩:=zc h;exact .f (dO h0) (bA3 J (dO Z) (au4 (sEs es _ X Y G J)))
  | _=>exact ff h
 | .seq e,E,X,Y,G,k,h=>by
  obtain⟨h0,J⟩:=zc h;exact .s (dO h0) ((sE e _ X Y G J).1.imp λ W H Q q=>bV6 (TLv.eq (λ U s=>rfl) q))
 | .compK tg e b caps,E,X,Y,G,k,h=>by
  cases E with
  | ListComp elt gs scope p =>
   cases gs with
   | cons g gs1 =>
    cases g with
    | mk tgt iter ifs z =>
     cases ifs with
     | nil =>
      cases gs1 with
      | nil =>
       obtain⟨h,h3⟩:=zc h;obtain⟨h,Z⟩:=zc h;obtain⟨h,J⟩:=zc h;obtain⟨hk,h0⟩:=zc h;have e0:=dO h0;subst e0;have hi:PI X tgt iter (TIv Γ (oz F (.keys e))):=(bg6 (sE e _ X Y G (zc Z).1).1).imp λ W H R q=>aW4 (TIv.eq (λ U s=>rfl) q);have c:=bh0 (pos:=p) G J hi λ Cc cells s H ex=>(sE b _ _ _ ((G.comp J).2.2 Cc cells s H ex).1 h3).1;exact .f (dO hk) (c.imp λ W H Q q=>TFv.eq (λ U s=>rfl) q)
      | _=>exact ff h
     | _=>exact ff h
   | _=>exact ff h
  | _=>exact ff h
end
end
section
variable {Γ:Gm} {F:ni} {n:Nat}
def br3 (G:CG Γ F n X ck)(c:CompF Γ X m E)(hi:ck.N[i]?=aT x)(hl:ck.loc x=ca) :
  PS X (.Assign [.Name x px] E pos) (bl4 (TFv Γ m) (aD1 i)):=by
 obtain⟨elt,Z,iter,a1,scope,p2,N',z,wi,g,tc,te,rfl,h1,h2,h3,h4,h5⟩:=c.ex;obtain⟨l1,l2⟩:=G.loc hl;have nd:X.N.Nodup:=by rw[G.N];exact G.nd
 have J:X.N[i]?=aT x:=by rw[G.N];exact hi
 generalize hb:((X.env.blockKind==.function&&X.env.kindOf x==aT .local&&px.line==(Expr.ListComp elt [⟨Z,iter,a1,0⟩] scope p2).pos.line&&!(scope.names.any λ(n,k)=>n==x&&(k==.local||k==.cell))))=b;have a0:eQ (.ListComp elt [⟨Z,iter,a1,0⟩] scope p2) (aT (.Name x px)) pos.line X.env=pure b:=by rw[<-hb];rfl
 have imp:∀ D W H,bl4 (TFv Γ m) (aD1 i) D W H->bl4 (tComp z wi g tc te) (aD1 i) D W H:=λ D W H q=>h5 _ _ _ q;cases b with
 | true =>
  have Y:=by
   simp only[aj]at hb;exact ll hb.1.1.2
  exact(aU4 N' z nd J Y h1 h2 G.calm h3 h4 a0).imp imp
 | false=>exact(aL3 nd J l1 (aI8 N' z h1 h2 G.calm h3 h4) a0 l2).imp imp
def bH2 (G:CG Γ F n X z)(Z:z.N[i]?=aT x)(hl:z.loc x=ca)(h:mE z e v=ca)(hk:noK e=ca) :
  PS X (.Assign [.Name x px] v pos) (TSv Γ (DV.ex F (.A (.Y i) e))):=by
 obtain⟨l1,l2⟩:=G.loc hl;have nd:X.N.Nodup:=by rw[G.N];exact G.nd
 have Y:X.N[i]?=aT x:=by rw[G.N];exact Z
 by_cases hc:al1 v=ca
 .exact(aL3 nd Y l1 (sE e v X z G h).1 (qZ hc) l2).imp λ D W H q=>aY6 (TSv.eq (λ U s=>rfl) q)
 .have hs:=aC6 h;cases v with
  | ListComp elt gs sc p =>
   cases e with
   | mk k l =>
    obtain⟨h1,J⟩:=zc h;have e:=dO h1;subst e;have J:mL z 0 l (.ListComp elt gs sc p)=true:=by
     rcases(bz _ _).mp J with J|J
     .exact J
     .have hk:(!isK l)=true:=hk;rw[(zc J).1]at hk;exact ff hk
    exact(br3 G (ce0 (sL l _ X z G 0 J)) Z hl).imp λ D W H q=>bs5 (TSv.eq (λ U s=>rfl) q)
   | _=>exact ff h
  | SetComp _ _ _ _=>cases hs
  | DictComp _ _ _ _ _=>cases hs
  | _=>exact nc rfl hc
mutual
theorem sS:∀(st:DV.S) (S:Stmt) (X:Cx) (z:Ck),CG Γ F n X z->mS z st S=ca->PS X S (TSv Γ (DV.ex F st))
 | .A tg e,S,X,z,G,h=>by
  cases S with
  | Assign ts v p =>
   cases ts with
   | cons t ts1 =>
    cases ts1 with
    | nil =>
     obtain⟨h,h3⟩:=zc h;obtain⟨Y,J⟩:=zc h;cases tg with
     | Y i =>
      have h:=Y;cases t with
      | Name x px =>
       obtain⟨a1,a2⟩:=zc h;exact bH2 G (dO a1) a2 J h3
      | _=>exact ff h
     | tp is =>
      obtain⟨a1,a2⟩:=zc h3;have h:=Y;cases t with
      | Tuple te tk tp=>exact(aY5 (sE e _ X z G J).1 (bC4 G Y) (show eQ v (aT (.Tuple te tk tp)) p.line X.env=pure dr from qZ a2) (aR7 a1) rfl).imp λ D W H q=>aY6 (TSv.eq (λ U s=>rfl) q)
      | _=>exact ff h
    | _=>exact ff h
   | _=>exact ff h
  | _=>exact ff h
 | .setIx o i e,S,X,z,G,h=>by
  cases S with
  | Assign ts v p2 =>
   cases ts with
   | cons tt ts1 =>
    cases tt with
    | Subscript ob ix p1 =>
     cases ts1 with
     | nil =>
      obtain⟨h,h4⟩:=zc h;obtain⟨h,h3⟩:=zc h;obtain⟨Y,J⟩:=zc h;have Z:=aC6 J;refine(aY5 (sE e _ X z G h3).1 (cb9 (sE o _ X z G Y).1 (sE i _ X z G J).1 (bX5 (bx3 G.room)) ?_) (show eQ v (aT (.Subscript ob ix p1)) p2.line X.env=pure dr from qZ h4) aT2 ?_).imp λ D W H q=>bu8 (TSv.eq (λ U s=>rfl) q)
      .intro w;cases ix<;>first|rfl|cases Z
      .rfl
     | _=>exact ff h
    | _=>exact ff h
   | _=>exact ff h
  | _=>exact ff h
 | .ex e,S,X,z,G,h=>by
  cases S with
  | Expr v p =>
   obtain⟨Y,J⟩:=zc h;exact(aG3 (sE e _ X z G Y).1 (qZ J)).imp λ D W H q=>bF8 (TSv.eq (λ U s=>rfl) q)
  | _=>exact ff h
 | .ret e,S,X,z,G,h=>by
  cases S with
  | Return vo p =>
   cases vo with
   | some v =>
    exact(ar1 (sE e _ X z G h).1).imp λ D W H q=>cc7 (TSv.eq (λ U s=>rfl) q)
   | _=>exact ff h
  | _=>exact ff h
 | .ite c a b,S,X,z,G,h=>by
  cases S with
  | If t l r p =>
   obtain⟨h,h3⟩:=zc h;obtain⟨Y,J⟩:=zc h;exact(bp4 (sE c _ X z G Y).2 (sSs a _ X z G J) (sSs b _ X z G h3)).imp λ D W H q=>cg6 (TSv.eq (λ U s=>rfl) q)
  | _=>exact ff h
 | .whl c b,S,X,z,G,h=>by
  cases S with
  | While t l o p =>
   cases o with
   | nil =>
    obtain⟨Y,J⟩:=zc h;exact(bs6 (by rw[G.xe];exact kI) (sE c _ X z G Y).2 (sSs b _ X z G J)).imp λ D W H q=>bp7 (TSv.eq (λ U s=>rfl) q)
   | _=>exact ff h
  | _=>exact ff h
 | .fo tg it b,S,X,z,G,h=>by
  cases S with
  | For tgt iter l o p =>
   cases o with
   | nil =>
    obtain⟨h,h3⟩:=zc h;obtain⟨Y,J⟩:=zc h;exact(bY6 (by rw[G.xe];exact kI) G.calm (sI it _ _ X z G J) (bC4 G Y) (sSs b _ X z G h3) (ax5 (bY7 J))).imp λ D W H q=>bZ1 (TSv.eq (λ U s=>rfl) q)
   | _=>exact ff h
  | _=>exact ff h
 | .setA o f e,S,X,z,G,h=>by
  cases S with
  | Assign ts v p =>
   cases ts with
   | cons t0 ts =>
    cases t0 with
    | Attribute ob x ap =>
     cases ts with
     | nil =>
      obtain⟨h,h4⟩:=zc h;obtain⟨h,h3⟩:=zc h;obtain⟨Y,J⟩:=zc h;have e1:=dO Y;subst e1;exact(bm0 G (sE o _ X z G J).1 (sE e _ X z G h3).1 h4).imp λ D W H q=>TSv.eq (λ U s=>rfl) q
     | _=>exact ff h
    | _=>exact ff h
   | _=>exact ff h
  | _=>exact ff h
 | .raise,S,X,z,G,h=>bp9.imp λ D W H q=>by
  obtain⟨C,U,s,c,s',E,R,hm,q⟩:=q;cases hm
theorem sSs:∀(st:ph) (S:yM) (X:Cx) (z:Ck),CG Γ F n X z->mSs z st S=ca->PSs X S (TSv Γ (oJ F st))
 | .nil,S,X,z,G,h=>by
  cases S with
  | nil =>
   exact ay8.imp λ D W H q=>bB4 (m:=oJ F .nil) (λ U s=>rfl) q
  | _=>exact ff h
 | .cons s ss,S,X,z,G,h=>by
  cases S with
  | cons x xs =>
   obtain⟨J,Y⟩:=zc h;exact(zC (sS s _ X z G J) (sSs ss _ X z G Y)).imp λ D W H q=>bz9 (TSv.eq (λ U s=>rfl) q)
  | _=>exact ff h
end
end
noncomputable def mHT (ck:Ck)(n:Str):DV.HT->Expr->Bool
 | .isi _,_=>dr
 | .Y c,E=>match E with|.Call (.Name g _) [.Name x _,.Name d _] [] _=>decide (g=("isinstance":Str))&&ck.gl g&&decide (x=n)&&decide (d=(c:Str))&&ck.gl d|_=>dr
 | .not t,E=>match E with|.UnaryOp .Not e _=>mHT ck n t e|_=>dr
 | .ve,E=>match E with|.Call (.Name g _) [.Name x _,.Name d _] [] _=>decide (g=("isinstance":Str))&&ck.gl g&&decide (x=n)&&decide (d=("ValueError":Str))&&ck.gl d|_=>dr
 | .or _ _,_=>dr
noncomputable def mHd (ck:Ck)(n:Str):n8->List Stmt->Bool
 | .ret _,_=>dr
 | .iff _ _ _,_=>dr
 | .nob _,_=>dr
 | .noe,_=>dr
 | .iffN _ _,_=>dr
 | .aoN _ _,_=>dr
 | .sup _ h,S=>mHd ck n h S
 | .kin _ _,_=>dr
structure CH (X:Cx)(ck:Ck):Prop where
 N:X.N=ck.N
 gl:∀ {x:Str},ck.gl x=ca->Gl X x/\(x==("__debug__":Str))=dr/\x ≠ "__name__"
 bi:∀ x∈bNames,X.mg x=bY
def CG.ch (G:CG Γ F n X z):CH X z:=⟨G.N,G.gl,G.bi⟩
structure XC (F:ni)(K:ae)(mg:yD):Prop where
 at_:∀ c:String,F.xc c=ca->∃ Cc,mg (c:Str)=aT (.ref Cc)/\ExcCls K Cc/\excI K Cc=ca
 cls:∀ c:String,F.xt c=ca->∃ Cc,mg (c:Str)=aT (.ref Cc)
 sub:∀(c d:String) (Cc D:Addr),F.xc c=ca->F.xt d=ca->mg (c:Str)=aT (.ref Cc)->mg (d:Str)=aT (.ref D)->bo K (.ref Cc) (.ref D)=aT (mZ c d)
 exm:∀(c d:String) (Cc D:Addr),F.xc c=ca->F.xt d=ca->mg (c:Str)=aT (.ref Cc)->mg (d:Str)=aT (.ref D)->bU K (.ref Cc) (.ref D)=aT (mZ c d)
 ve0:∀ c:String,F.xc c=ca->mg ("ValueError":Str)=bY
 ve1:∀(c:String) (Cc:Addr),F.xc c=ca->mg (c:Str)=aT (.ref Cc)->bo K (.ref Cc) (.type "ValueError")=aT ca
theorem aC7:∀ {ds:List Addr} {us:yH},Vals (ds.map V.ref) us->us=ds.map Value.ref
 | [],_,.nil=>rfl
 | d::ds,_,.cons r t=>by
  have e:=aC7 t;subst e;cases(r);rfl
def cr3 (K:ae)(a Cc:Addr):List V->Hp->VK->Prop:=λ xs H Q=>(∃ y b,xs=[.ref a,y]/\((∃ D,y=.ref D/\bo K (.ref Cc) (.ref D)=aT b)\/∃(p:Addr) (ds:List Addr),y=.ref p/\H p=aT (.tp (ds.map V.ref))/\PySem.W.kitAny K (.ref Cc) (ds.map Value.ref)=aT b)/\Q (.T b) H)\/xs=[.ref a,.ty "ValueError"]/\bo K (.ref Cc) (.type "ValueError")=aT ca/\Q (.T ca) H
section
variable {Γ:Gm} {F:ni} {n:Nat} {X:Cx} {ck:Ck} {a Cc:Addr} {oe:Obj}
def aR0 (Y:cS X.K (.ref a) (.ref Cc) (λ h=>XAt h a Cc))(hcl:oe.cls=.ref Cc):ac4 (X.hnd a oe) (.builtin "isinstance") (cr3 X.K a Cc):=by
 intro Z s W H xs us Q I r h;rcases h with h|⟨rfl,hv,q⟩
 case inr =>
  obtain⟨u,w',rfl,r1,J⟩:=bm5 r;cases(r1);cases(J);have hx:XAt s.heap a Cc:=⟨oe,(I.pin (a,oe) (ao ..)).1,hcl⟩
  exact bN Y I.kIn hx hv (λ z=>nomatch z) λ tk=>⟨.T ca,H,I.tok _,rfl,q⟩
 obtain⟨y,b,rfl,hc,q⟩:=h;obtain⟨u,w',rfl,r1,J⟩:=bm5 r;cases(r1);have hx:XAt s.heap a Cc:=⟨oe,(I.pin (a,oe) (ao ..)).1,hcl⟩
 rcases hc with⟨D,rfl,e⟩|⟨p,ds,rfl,hp,e⟩
 .cases(J);exact bN Y I.kIn hx e (λ z=>nomatch z) λ tk=>⟨.T b,H,I.tok _,rfl,q⟩
 .cases(J);obtain⟨z,its,rr,ob,e1,e2,nn,e3⟩:=(I.hok p _ hp)
  have e4:=aC7 rr;subst e4;obtain⟨c0,dd,dt,sl⟩:=ob;cases e2;cases e3;exact PySem.W.kia_tup Y I.kIn hx e1 e (λ z=>nomatch z) λ tk=>⟨.T b,H,I.tok _,rfl,q⟩
def tHv (i:Nat)(a:Addr)(b:Bool):TE:=λ W H Q=>W[i]?=aT (aT (.ref a))/\∀ H',ae1 H H'->Q (.T b) H'
def tHt (i:Nat)(a:Addr)(b:Bool):TT:=λ W H Q=>W[i]?=aT (aT (.ref a))/\∀ H',ae1 H H'->Q b H'
theorem bH5 (G:CH X ck)(xc:XC F X.K X.mg)(Y:F.xc c=ca)(Z:X.mg (c:Str)=aT (.ref Cc))(kx:cS X.K (.ref a) (.ref Cc) (λ h=>XAt h a Cc))(hcl:oe.cls=.ref Cc)(hi:ck.N[i]?=aT nm)(hv:Vis X.env.scope nm)(hd:(nm==("__debug__":Str))=dr)(a0:(nm==("__classdict__":Str))=dr) :
  ∀ {t:DV.HT} {E:Expr},mHT ck nm t E=ca->t.ok F.xt=ca->PE (X.hnd a oe) E (tHv i a (t.val c))/\PT (X.hnd a oe) E (tHt i a (t.val c))
 | .isi _,E,h,ho=>ff h
 | .Y d,E,h,ho=>by
  cases E with
  | Call g xs kw p =>
   cases g with
   | Name g pg =>
    cases xs with
    | nil=>exact ff h
    | cons x xs=>cases x with
     | Name x px =>
      cases xs with
      | nil=>exact ff h
      | cons y xs=>cases y with
       | Name y py =>
        cases xs with
        | cons _ _=>exact ff h
        | nil=>cases kw with
         | cons _ _=>exact ff h
         | nil =>
          obtain⟨h,h5⟩:=zc h;obtain⟨h,h4⟩:=zc h;obtain⟨h,h3⟩:=zc h;obtain⟨h1,h2⟩:=zc h;have e1:=dO h1;have e3:=dO h3;have e4:=dO h4;subst e1 e3 e4;obtain⟨g1,g2,g3⟩:=G.gl h2;obtain⟨k1,k2,k3⟩:=G.gl h5;obtain⟨D,hD⟩:=xc.cls d ho;have J:PE (X.hnd a oe) (.Name x px) (bv5 i):=aA9 (X:=X.hnd a oe) (by show X.N[i]?=_;rw[G.N];exact hi) hv hd a0;have z:PE (X.hnd a oe) (.Name (d:Str) py) (tC (.ref D)):=ax9 (X:=X.hnd a oe) k1 hD rfl k2;have pa:PA (X.hnd a oe) [.Name x px,.Name (d:Str) py] _:=zo J (zo z ab8 rfl) rfl;have main:PE (X.hnd a oe) (.Call (.Name "isinstance" pg) [.Name x px,.Name (d:Str) py] [] p) (tHv i a (mZ c d)):=by
           refine(qP (aR0 kx hcl) (show Gl (X.hnd a oe) "isinstance" from g1) (G.bi _ (by decide)) qG pa g3 g2 rfl rfl).imp λ W H Q q=>?_;exact⟨.ref a,q.1,.inl ⟨.ref D,_,rfl,.inl ⟨D,rfl,xc.sub c d Cc D Y ho Z hD⟩,q.2 _ (ae1.refl _)⟩⟩
          refine⟨main,(bd8 main).imp λ W H Q q=>?_⟩;exact⟨q.1,λ H' s=>⟨_,rfl,q.2 H' s⟩⟩
       | _=>exact ff h
     | _=>exact ff h
   | _=>exact ff h
  | _=>exact ff h
 | .ve,E,h,ho=>by
  cases E with
  | Call g xs kw p =>
   cases g with
   | Name g pg =>
    cases xs with
    | nil=>exact ff h
    | cons x xs=>cases x with
     | Name x px =>
      cases xs with
      | nil=>exact ff h
      | cons y xs=>cases y with
       | Name y py =>
        cases xs with
        | cons _ _=>exact ff h
        | nil=>cases kw with
         | cons _ _=>exact ff h
         | nil =>
          obtain⟨h,h5⟩:=zc h;obtain⟨h,h4⟩:=zc h;obtain⟨h,h3⟩:=zc h;obtain⟨h1,h2⟩:=zc h;have e1:=dO h1;have e3:=dO h3;have e4:=dO h4;subst e1 e3 e4;obtain⟨g1,g2,g3⟩:=G.gl h2;obtain⟨k1,k2,k3⟩:=G.gl h5;have J:PE (X.hnd a oe) (.Name x px) (bv5 i):=aA9 (X:=X.hnd a oe) (by show X.N[i]?=_;rw[G.N];exact hi) hv hd a0;have z:PE (X.hnd a oe) (.Name "ValueError" py) (tC (.ty "ValueError")):=bc8 (X:=X.hnd a oe) k1 (xc.ve0 c Y) (by rfl) rfl;have pa:PA (X.hnd a oe) [.Name x px,.Name "ValueError" py] _:=zo J (zo z ab8 rfl) rfl;have main:PE (X.hnd a oe) (.Call (.Name "isinstance" pg) [.Name x px,.Name "ValueError" py] [] p) (tHv i a ca):=by
           refine(qP (aR0 kx hcl) (show Gl (X.hnd a oe) "isinstance" from g1) (G.bi _ (by decide)) qG pa g3 g2 rfl rfl).imp λ W H Q q=>?_;exact⟨.ref a,q.1,.inr ⟨rfl,xc.ve1 c Cc Y Z,q.2 _ (ae1.refl _)⟩⟩
          refine⟨main,(bd8 main).imp λ W H Q q=>?_⟩;exact⟨q.1,λ H' s=>⟨_,rfl,q.2 H' s⟩⟩
       | _=>exact ff h
     | _=>exact ff h
   | _=>exact ff h
  | _=>exact ff h
 | .not t,E,h,ho=>by
  cases E with
  | UnaryOp o l p=>cases o with
   | Not =>
    obtain⟨h1,h2⟩:=bH5 G xc Y Z kx hcl hi hv hd a0 (t:=t) (E:=l) h ho;exact⟨(bz3 h1).imp λ W H Q q=>⟨q.1,λ H' s=>⟨_,rfl,q.2 H' s⟩⟩,(by0 h2).imp λ W H Q q=>⟨q.1,λ H' s=>q.2 H' s⟩⟩
   | _=>exact ff h
  | _=>exact ff h
 | .or _ _,E,h,ho=>ff h
end
def tHd (i:Nat)(a:Addr)(o:VK->Hp->Prop):TS:=λ D W H=>W[i]?=aT (aT (.ref a))/\∀ H',ae1 H H'->o D.rt H'
noncomputable def vV:mO->V
 | .T b=>.T b
 | _=>.N
def bR4 (ck:Ck)(nm:Str):List String->List Expr->Bool
 | [],es=>match es with|[]=>ca|_=>dr
 | c::cs,es=>match es with|e::es=>mHT ck nm (.Y c) e&&bR4 ck nm cs es|_=>dr
noncomputable def bJ5:List (List Nat)->List Expr->Bool
 | [],es=>match es with|[]=>ca|_=>dr
 | t::ts,es=>match es with|.Constant (.str y) _ _::es=>decide (y=⟨t.toArray⟩)&&bJ5 ts es|_=>dr
def kndB (ck:Ck)(nm ks:Str)(e1 e4:Expr)(y1 y5 m4 m5 m6:Str)(es2 es3 es6:yL)(l4 l5 l6:Bool):Bool :=
 (ck.sc.names.lookup nm==aT .local)&&((ck.sc.names.lookup ks==aT .local)&&(!(nm==("__debug__"))&&(!(nm==("__classdict__"))&&(!(ks==("__debug__"))&&(!(ks==("__classdict__"))&&(mHT ck nm (.not .ve) e1&&(decide (y1=⟨DV.am3.toArray⟩)&&(decide (y5=⟨DV.am3.toArray⟩)&&(decide (m4=("append"))&&(decide (m5=("count"))&&(decide (m6=("index"))&&(l4&&(l5&&(l6&&(bR4 ck nm (DV.ab6.take 4) es2&&(bR4 ck nm ((DV.ab6.drop 4).take 4) es3&&(mHT ck nm (.Y "NoName") e4&&bJ5 o4 es6)))))))))))))))))
inductive KindS (ck:Ck)(S:yM):Prop
 | mk (nm ks:Str) (e1 e4:Expr) (y1 y5 m4 m5 m6:Str) (es2 es3 es6:yL) (j1 j5 i5 k5 j6:Nat) (p1 q1 r1 a2 b2 c2 a3 b3 c3 d3 f3 a4 ap4 cp4 p4 a5 ap5 pj5 cp5 pi5 pc5 pk5 q5 p5 pl6 a6 ap6 pj6 cp6 ps6 p6:Pos)
 (_:S=[.If e1 [.Return (aT (.Constant (.str y1) j1 p1)) q1] [] r1,.Assign [.Name ks a2] (.List es2 b2) c2,.Assign [.Name ks a3] (.BinOp (.Name ks b3) .Add (.List es3 c3) d3) f3,.Expr (.Call (.Attribute (.Name ks a4) m4 ap4) [e4] [] cp4) p4,
  .If (.Compare (.Call (.Attribute (.Name ks a5) m5 ap5) [.Constant (.bool ca) j5 pj5] [] cp5) [.NotEq] [.Constant (.int 1) i5 pi5] pc5) [.Return (aT (.Constant (.str y5) k5 pk5)) q5] [] p5,.Return (aT (.Subscript (.List es6 pl6) (.Call (.Attribute (.Name ks a6) m6 ap6) [.Constant (.bool ca) j6 pj6] [] cp6) ps6)) p6])
 (_:ck.N=[nm,ks]) (_:kndB ck nm ks e1 e4 y1 y5 m4 m5 m6 es2 es3 es6 (ap4.endLine==cp4.line) (ap5.endLine==cp5.line) (ap6.endLine==cp6.line)=ca):KindS ck S
def mX (ck:Ck):pr->List Stmt->Bool
 | .no,_=>ca
 | .kind,S=>@decide (KindS ck S) (cM _)
 | .alt a b,S=>mX ck a S&&mX ck b S
 | .rais c,S=>match S with|.Raise (aT (.Call (.Name x _) [.Constant (.str _) _ _] [] _)) bY _::_=>decide (x=(c))&&ck.gl x|_=>dr
 | .call f as,S=>match S with
  | .Expr (.Call (.Name x _) (e::es) [] _) _::_=>decide (x=(f))&&ck.gl x&&mAs ck as (e::es)
  | .Assign [.Name _ _] (.Call (.Name x _) (e::es) [] _) _::_=>decide (x=(f))&&ck.gl x&&mAs ck as (e::es)
  | _=>dr
 | .iteT c a r,S=>match S with|.If t l [] _::rest=>mE ck c t&&mX ck a l&&mX ck r rest|_=>dr
 | .iteE _ _ _,_=>dr
 | .seq s b,S=>match S with|x::rest=>mS ck s x&&mX ck b rest|_=>dr
 | .forX _ _ _ _,_=>dr
 | .whlX _ _ _,_=>dr
noncomputable def noL:pr->Bool
 | .alt a b=>noL a&&noL b
 | .iteT _ a r=>noL a&&noL r
 | .iteE _ a r=>noL a&&noL r
 | .seq _ b=>noL b
 | .forX _ _ _ _=>dr
 | .whlX _ _ _=>dr
 | _=>ca
noncomputable def noR:pr->Bool
 | .alt a b=>noR a&&noR b
 | .rais _=>dr
 | .iteT _ a r=>noR a&&noR r
 | .iteE _ a r=>noR a&&noR r
 | .seq _ b=>noR b
 | .forX _ _ _ x=>noR x
 | .whlX _ _ x=>noR x
 | _=>ca
def az3 (Γ:Gm)(mg:yD)(C:Nat->Addr)(s:mM)(H:Hp)(c:String)(s':mM)(E:XK):Prop :=
 ∀ C' H' a Cc,Gr C s H C' s' H'->s.length<=s'.length->Rp Γ C' H' s'->mg (c)=aT (.ref Cc)->E (.ref a) (aT Cc) H'
def TXv (Γ:Gm)(mg:yD)(m:mQ->mM->Option (String×mM))(E:XK):TS:=λ _ W H=>∃ C U s c s',RE Γ C H s.length U W/\Rp Γ C H s/\m U s=aT (c,s')/\az3 Γ mg C s H c s' E
def spX (Γ:Gm)(mg:yD)(x:List mO->mM->Option (String×mM)):Sp:=λ vs H _ E=>∃ C s l c s',Rp Γ C H s/\RVL Γ C H l vs/\mP s.length l=ca/\x l s=aT (c,s')/\az3 Γ mg C s H c s' E
theorem az3.trans (h:az3 Γ z C s H c s' E)(g:Gr C s H C1 s1 J)(l:s.length<=s1.length):az3 Γ z C1 s1 J c s' E :=
 λ C' H' a Cc g' Y p m=>h C' H' a Cc (g.trans g' l) (ak l Y) p m
theorem PA.nox (h:PA X.nox e t):PA X e t:=λ pos J s W H Q I hw =>
 bp (h pos J s W H Q (I.wish _) hw) (λ _ _ ⟨v,H',Y,r,q⟩=>⟨v,H',Y.unwish,r,q⟩) λ _ _ z=>bn z
theorem PS.nox {st}(h:PS X.nox st t):PS X st t:=λ J s W H D I hw =>
 bp (h J s W H D (I.wish _) hw) (λ _ _ q=>q.unwish) λ _ _ z=>bn z
def XOk (Γ:Gm)(prog:aD)(w:World)(K:ae)(mg:yD)(base:Heap)(F:ni)(n:Nat):Prop:=∀ f:String,(∀ l s,F.xcall f l s=bY) \/
 ∃ a fd ps,FnOk prog w K mg base (CX1 prog w) n a fd ps (spX Γ mg (F.xcall f))/\mg (f)=aT (.ref a)/\bF K (.ref a)=ca/\Binds K fd ps []
section
variable {Γ:Gm} {F:ni} {n:Nat} {X:Cx} {ck:Ck} {a Cc:Addr} {oe:Obj}
theorem bS1 (G:CG Γ F n X ck)(xc:XC F X.K X.mg)(z:F.xc c=ca)(J:X.mg (c:Str)=aT (.ref Cc))(kx:cS X.K (.ref a) (.ref Cc) (λ h=>XAt h a Cc))(hcl:oe.cls=.ref Cc)(Z:ck.N[i]?=aT nm)(hv:Vis X.env.scope nm)(hd:(nm==("__debug__":Str))=dr)(Y:(nm==("__classdict__":Str))=dr) :
  ∀ {t} {S:yM},mHd ck nm t S=ca->t.ok F.xt=ca->PSs (X.hnd a oe) S (tHd i a (λ R H=>R (vV (t.vD c)) H))
 | .ret _,S,h,ho=>ff h
 | .iff _ _ _,S,h,ho=>ff h
 | .sup _ g,S,h,ho=>bS1 G xc z J kx hcl Z hv hd Y (t:=g) h (zc ho).2
 | .aoN _ _,S,h,ho=>ff h
 | .iffN _ _,S,h,ho=>ff h
 | .nob _,S,h,ho=>ff h
 | .noe,S,h,ho=>ff h
def bG0 (Z:PE X e Y)(hn:al1 e=ca)(hw:gH [.Name y J] e X.env=pure bY):PS X (.Assign [.Name y J] e pos) (λ D W H=>Y W H λ _ _=>False):=by
 intro z s W H D I h;exact aY5 Z bo7 (qZ hn) hw rfl z s W H D I h
set_option tactic.hygienic true
def bz5 (G:CG Γ F n X.nox ck)(XO:XOk Γ X.prog X.w X.K X.mg X.base F n)(hp:qj (CX1 X.prog X.w) X E){f:String}{es:yL}(hg:ck.gl (f:Str)=ca)(m:mAs ck J (e::es)=ca) :
  ∃ t,PE X (.Call (.Name (f) p) (e::es) [] pos) t/\∀ D W H Q,TXv Γ X.mg (n9 F (.call f J)) E D W H->t W H Q:=by
 obtain⟨g1,g2,g3⟩:=G.gl hg;rcases XO f with hbad|⟨a,fd,ps,hF,Y,hk,hb⟩
 .refine⟨λ _ _ _=>False,λ _ _ _ _ _ _ z=>z.elim,λ D W H Q q=>?_⟩;obtain⟨C,U,s,c,s',Z,R,hm,q⟩:=q;change(match nz F J U s with|.ok l s1=>F.xcall f l s1|_=>bY)=_ at hm;split at hm
  .rw[hbad]at hm;cases hm
  .cases hm
 .have hs:=aj2 m;have pa:=(sAs J _ X.nox ck G m).nox;refine⟨_,aY4 hF G.room g1 Y hk hb .nil hp pa g2 (za (hs e (ao ..))) (zv λ x hx=>hs x (ah _ hx)).1,λ D W H Q q=>?_⟩;obtain⟨C,U,s,c,s',Z,R,hm,q⟩:=q;change(match nz F J U s with|.ok l s1=>F.xcall f l s1|_=>bY)=_ at hm;split at hm
  .rename_i l s1 e1;refine⟨C,U,s,l,s1,Z,R,e1,λ vs C1 H1 g1 l1 b1 r1 R1=>?_⟩;show spX Γ X.mg (F.xcall f) (vs++[]) H1 Q E;rw[a8];exact⟨C1,s1,l,c,s',R1,r1,b1,hm,q.trans g1 l1⟩
  .cases hm
theorem aJ2 (G:CG Γ F n X.nox ck)(xc:XC F X.K X.mg)(XO:XOk Γ X.prog X.w X.K X.mg X.base F n)(hp:qj (CX1 X.prog X.w) X E):∀(b:pr) (S:yM),(noR b=ca\/aU6 X E)->(noL b=ca\/lN (model X.prog X.w) X.A X.env X.xe)->mX ck b S=ca->PSs X S (TXv Γ X.mg (n9 F b) E)
 | .no,S,_,_,h=>λ J s W H D I q=>by
  obtain⟨_,_,_,_,_,_,_,z,_⟩:=q;cases z
 | .kind,S,_,_,h=>λ J s W H D I q=>by
  obtain⟨_,_,_,_,_,_,_,z,_⟩:=q;cases z
 | .alt a b,S,hT,hL,h=>λ J s W H D I q=>by
  obtain⟨Y,Z⟩:=zc h;obtain⟨C,U,s0,c,s',Ev,R,z,q⟩:=q;have z:(match n9 F a U s0 with|some r=>aT r|none=>n9 F b U s0)=aT (c,s'):=z;cases e:n9 F a U s0 with
  | some r =>
   rw[e]at z;exact aJ2 G xc XO hp a S (hT.imp_left λ z=>(zc z).1) (hL.imp_left λ z=>(zc z).1) Y J s W H D I ⟨C,U,s0,c,s',Ev,R,e.trans z,q⟩
  | none =>
   rw[e]at z;exact aJ2 G xc XO hp b S (hT.imp_left λ z=>(zc z).2) (hL.imp_left λ z=>(zc z).2) Z J s W H D I ⟨C,U,s0,c,s',Ev,R,z,q⟩
 | .rais c,S,hT,_,h=>by
  have hT:aU6 X E:=hT.elim (λ z=>by cases z) id;cases hx:F.xc c with
  | false =>
   intro J s W H D I q;obtain⟨_,_,s,_,_,_,_,z,_⟩:=q;change(if F.xc c=ca then aT (c,s)else bY)=_ at z;rw[hx]at z;cases z
  | true =>
   cases S with
   | nil=>exact ff h
   | cons st S=>cases st with
    | Raise v k p=>cases v with
     | none=>exact ff h
     | some v=>cases v with
      | Call g xs kw pc=>cases g with
       | Name x pn=>cases xs with
        | nil=>exact ff h
        | cons y xs=>cases y with
         | Constant cv j py=>cases cv with
          | str t=>cases xs with
           | cons _ _=>exact ff h
           | nil=>cases kw with
            | cons _ _=>exact ff h
            | nil=>cases k with
             | some _=>exact ff h
             | none =>
              obtain⟨Y,Z⟩:=zc h;have e:=dO Y;subst e;obtain⟨g1,g2,g3⟩:=G.gl Z;obtain⟨Cc,hC,hE,_⟩:=xc.at_ c hx;refine(zC (bt5 hT hE g1 hC G.room.hd g2) ai2).imp λ D W H q a=>?_;obtain⟨C,U,s,c',s',Ev,R,hm,q⟩:=q;change(if F.xc c=ca then aT (c,s)else bY)=_ at hm;rw[hx,ij rfl]at hm;cases hm;exact q C H a Cc (Gr.refl C s H) (al _) R hC
          | _=>exact ff h
         | _=>exact ff h
       | _=>exact ff h
      | _=>exact ff h
    | _=>exact ff h
 | .call f as,S,_,_,h=>by
  cases S with
  | nil=>exact ff h
  | cons st S=>cases st with
   | Assign ts v p=>cases ts with
    | nil=>exact ff h
    | cons t0 ts=>cases t0 with
     | Name y py=>cases ts with
      | cons _ _=>exact ff h
      | nil=>cases v with
       | Call g xs kw pc=>cases g with
        | Name x pn=>cases xs with
         | nil=>exact ff h
         | cons y xs=>cases kw with
          | cons _ _=>exact ff h
          | nil =>
           obtain⟨h,h3⟩:=zc h;obtain⟨Y,Z⟩:=zc h;have e:=dO Y;subst e;obtain⟨t,ht,hq⟩:=bz5 G XO hp Z h3;exact(zC (bG0 ht rfl rfl) ai2).imp λ D W H q=>hq D W H _ q
        | _=>exact ff h
       | _=>exact ff h
     | _=>exact ff h
   | Expr v p=>cases v with
    | Call g xs kw pc=>cases g with
     | Name x pn=>cases xs with
      | nil=>exact ff h
      | cons y xs=>cases kw with
       | cons _ _=>exact ff h
       | nil =>
        obtain⟨h,h3⟩:=zc h;obtain⟨Y,Z⟩:=zc h;have e:=dO Y;subst e;obtain⟨t,ht,hq⟩:=bz5 G XO hp Z h3;exact(zC (aG3 ht (qZ rfl)) ai2).imp λ D W H q=>hq D W H _ q
     | _=>exact ff h
    | _=>exact ff h
   | _=>exact ff h
 | .iteT c a r,S,hT,hL,h=>by
  cases S with
  | nil=>exact ff h
  | cons st S=>cases st with
   | If t l o p=>cases o with
    | cons _ _=>exact ff h
    | nil =>
     obtain⟨h,h3⟩:=zc h;obtain⟨Y,Z⟩:=zc h;have a2:noR a=ca\/aU6 X E:=hT.elim (λ z=>.inl (zc z).1) .inr;have a4:noR r=ca\/aU6 X E:=hT.elim (λ z=>.inl (zc z).2) .inr;have a1:noL a=ca\/_:=hL.elim (λ z=>.inl (zc z).1) .inr;have a0:noL r=ca\/_:=hL.elim (λ z=>.inl (zc z).2) .inr;refine(zC (bp4 (sE c _ X.nox ck G Y).2.nox (aJ2 G xc XO hp a _ a2 a1 Z) ay8) (aJ2 G xc XO hp r _ a4 a0 h3)).imp λ D W H q=>?_;obtain⟨C,U,s,c',s',Ev,R,hm,q⟩:=q;change(match mR F c U s with|.ok (.T b) s1=>if b then n9 F a U s1 else n9 F r U s1|_=>bY)=_ at hm;split at hm
     .rename_i b s1 e1;refine⟨C,U,s,b,s1,Ev,R,e1,λ C1 H1 g1 l1 R1=>?_⟩;cases b with
      | true=>exact⟨C1,U,s1,c',s',Ev.mono g1 l1,R1,hm,q.trans g1 l1⟩
      | false=>exact⟨C1,U,s1,c',s',Ev.mono g1 l1,R1,hm,q.trans g1 l1⟩
     .cases hm
   | _=>exact ff h
 | .iteE _ _ _,S,_,_,h=>ff h
 | .seq st b,S,hT,hL,h=>by
  cases S with
  | nil=>exact ff h
  | cons x S =>
   obtain⟨Y,Z⟩:=zc h;refine(zC (sS st _ X.nox ck G Y).nox (aJ2 G xc XO hp b _ hT hL Z)).imp λ D W H q=>?_;obtain⟨C,U,s,c',s',Ev,R,hm,q⟩:=q;change(match DV.ex F st U s with|.ok (.next U1) s1=>n9 F b U1 s1|_=>bY)=_ at hm;split at hm
   .rename_i U1 s1 e1;exact⟨C,U,s,.next U1,s1,Ev,R,e1,λ C1 H1 g1 l1 R1 W1 a3=>⟨C1,U1,s1,c',s',a3,R1,hm,q.trans g1 l1⟩⟩
   .cases hm
 | .forX _ _ _ _,S,_,_,h=>ff h
 | .whlX _ _ _,S,_,_,h=>ff h
set_option tactic.hygienic false
def bL6 (hx:X.xe=λ _ _=>False)(h:PSs X tb t):PS X (.Try tb (h₀::hs) [] [] p) t:=by
 intro J s W H D I q;refine kr (bp (h J s W H D I q) (λ f s1 z=>?_) (λ e s1 z=>?_))
 .cases f with
  | next=>exact dM z
  | _=>exact z
 .rw[hx]at z;exact z.elim
def EH (Cc:Addr)(v:VK->Hp->Prop)(D:Ends):XK:=λ _ o H'=>o=aT Cc/\∀ H'',ae1 H' H''->v D.rt H''
def bK9 {a1:yM}(a5:X.ex=[])(b3:X.stack=X.env::X.outer)(a6:X.env.frame=aT X.env.locals)
  (hc:bU X.K (.ref Cc) (.ref D')=aT ca) (hg:Gl X x) (hm:X.mg x=aT (.ref D')) (hd:(x==("__debug__":Str))=dr) (hN:X.N.Nodup) (hi:X.N[i]?=aT nm) (hl:X.env.scope.names.lookup nm=aT .local)
  (a4:∀(pn:yA) (Ww:yB) (E:XK),qj (CX1 X.prog X.w) { X with pn:=pn,xe:=Ww } E->PSs { X with pn:=pn,xe:=Ww } tb (TXv Γ X.mg m E)) (b1:∀ a oe,oe.cls=.ref Cc->PSs (X.hnd a oe) (b₀::a1) (tHd i a b)) :
  PS X (.Try tb (.ExceptHandler (aT (.Name x np)) (aT nm) (b₀::a1) a3::hs) [] [] p) (λ D W H=>TXv Γ X.mg m (EH Cc b D) D W H):=by
 intro Y s W H D I q
 let Ww:Value->af->Prop:=λ e s₁=>wpAny (model X.prog X.w) X.A (kh e X.env) (λ _ s₂=>wpAny (model X.prog X.w) X.A (ko e bY) (λ _ s₃=>wpAny (model X.prog X.w) X.A (handleBy e X.env (.ExceptHandler (aT (.Name x np)) (aT nm) (b₀::a1) a3::hs)) (SP X Y D) X.xe s₃) X.xe s₂) X.xe s₁
 have b2:({ X with pn:=X.pn++Y,xe:=Ww }:Cx).Ok:=⟨I.ok.mod,I.ok.kind,I.ok.glob,I.ok.blt,I.ok.above,I.ok.inj,I.ok.has,I.ok.cab,I.ok.hd,I.ok.frames,I.ok.stk,I.ok.exf,I.ok.bs,I.ok.bsz,I.ok.noex,I.ok.exfs,I.ok.funs,I.ok.frf⟩
 have I':Inv { X with pn:=X.pn++Y,xe:=Ww } [] W H s:=⟨b2,I.os,I.bare,I.base,I.loc,I.cell,I.free,I.freeC,λ p hp=>I.pin p (by rw[a8]at hp;exact hp),I.hok,I.len⟩
 have Z:∀ {a2:yA} {W':St} {H':Hp} {s':af},Inv { X with pn:=X.pn++Y,xe:=Ww } a2 W' H' s'->Inv X Y W' H' s':=λ J=>⟨I.ok,J.os,J.bare,J.base,J.loc,J.cell,J.free,J.freeC,λ p hp=>J.pin p (bT _ hp),J.hok,J.len⟩
 have hp:qj (CX1 X.prog X.w) { X with pn:=X.pn++Y,xe:=Ww } (EH Cc b D):=λ a2 W' H' s' e b4 J h=>by
  obtain⟨a,Cc',b5,rfl,T,eC,hq⟩:=CX1.tr J a5 h;cases eC;obtain⟨a0,oe,vs,T0,oT,ts,h1,h2,h3,h4,h5,h6,b0,h7⟩:=T.tr;have hn:i < W'.length:=by rw[J.len];exact(ac.mp hi).1
  exact aU3 ⟨Z T.inv,T.n0,T.nH,λ p hp=>T.np p (bT _ hp),a0,oe,vs,T0,oT,ts,h1,h2,h3,h4,h5,h6,λ p hp=>b0 p (bT _ hp),h7⟩ a5 b3 a6 hc hg hm hd hN hi hl (b1 a) ⟨by rw[aW hn],hq⟩
 refine kr (bp (a4 _ Ww _ hp [] s W H D I' q) (λ f s1 z=>?_) (λ e s1 z=>z));cases f with
 | next=>obtain⟨W1,H1,J,z⟩:=z;exact dM ⟨W1,H1,Z J,z⟩
 | brk=>obtain⟨W1,H1,J,z⟩:=z;exact⟨W1,H1,Z J,z⟩
 | cont=>obtain⟨W1,H1,J,z⟩:=z;exact⟨W1,H1,Z J,z⟩
 | ret u=>obtain⟨v,W1,H1,J,r,z⟩:=z;exact⟨v,W1,H1,Z J,r,z⟩
end
section
variable {F:ni} {X:Cx} {ck:Ck} {a Cc:Addr} {oe:Obj}
def aO0 (h:mHT ck nm (.Y c) E=ca):shp E=true:=by
 cases E<;>first|rfl|exact ff h
def cs5 (h:shp e=ca):((du cp (bf [e] env)).all (λ x=>!x.1)&&(fA cp (dF [] env)).all (λ x=>x.1.isSome)&&decide ([e].length+([]:List fw).length+(if([]:List fw).isEmpty then 0 else 1)<30))=true:=by
 cases e<;>first|rfl|cases h
theorem bx5 (G:CH X ck)(xc:XC F X.K X.mg)(J:F.xc c=ca)(z:X.mg (c:Str)=aT (.ref Cc))(kx:cS X.K (.ref a) (.ref Cc) (λ h=>XAt h a Cc))(hcl:oe.cls=.ref Cc){i:Nat}(hi:ck.N[i]?=aT nm)(hv:Vis X.env.scope nm)(hd:(nm==("__debug__":Str))=dr)(Y:(nm==("__classdict__":Str))=dr) :
  ∀ {Z:List String} {es:yL},bR4 ck nm Z es=ca->Z.all F.xt=ca->PA (X.hnd a oe) es (λ W H Q=>W[i]?=aT (aT (.ref a))/\∀ H',ae1 H H'->Q ((Z.map (mZ c)).map V.T) H')
 | [],[],_,_=>ab8.imp λ W H Q q=>q.2 H (ae1.refl _)
 | [],_::_,h,_=>ff h
 | _::_,[],h,_=>ff h
 | d::Z,e::es,h,ho=>by
  obtain⟨h1,h2⟩:=zc h;rw[dR,aj]at ho;have q1:=(bH5 (a:=a) (oe:=oe) G xc J z kx hcl hi hv hd Y h1 ho.1).1;have q2:=bx5 G xc J z kx hcl hi hv hd Y h2 ho.2;refine(zo q1 q2 (za (aO0 h1))).imp λ W H Q q=>⟨q.1,λ H1 s1=>⟨q.1,λ H2 s2=>q.2 H2 (s1.trans s2)⟩⟩
theorem aZ4:∀ {ts} {es:yL},bJ5 ts es=ca->PA X es (λ W H Q=>Q (ts.map λ t=>V.str ⟨t.toArray⟩) H)
 | [],[],_=>ab8.imp λ W H Q q=>q
 | [],_::_,h=>ff h
 | _::_,[],h=>ff h
 | t::ts,e::es,h=>by
  cases e with
  | Constant k j p=>cases k with
   | str y =>
    obtain⟨z,J⟩:=zc h;have e:=dO z;subst e;exact(zo av2 (aZ4 J) rfl).imp λ W H Q q=>q
   | _=>exact ff h
  | _=>exact ff h
def cc2 (h:KindS ck S):mX ck .kind S=true:=@iN _ (cM _) h
def bM3 (Z:bs.length=9)(h:bs.countP id=1):∃ j,j<9/\bs[j]?=aT ca/\(∀ i:Nat,i<j->bs[i]?=aT dr)/\o4[j]?=aT (o5 bs):=by
 have hx:=by
  have:0<bs.countP id:=by lia
  exact List.countP_pos_iff.mp this
 have hj:=List.findIdx_lt_length_of_exists hx;have ht:DV.ae6.length=9:=rfl;refine⟨bs.findIdx id,by lia,?_,λ i Y=>?_,?_⟩
 .rw[ag hj];have:=List.findIdx_getElem (w:=hj);exact congrArg aT this
 .have J:i<bs.length:=by lia
  rw[ag J];have:=List.not_of_lt_findIdx Y;simpa using this
 .unfold o5;rw[ij h];have z:bs.findIdx id<DV.ae6.length:=by lia
  rw[ag z,aB,ag z];rfl
def bM6 (G:CH X ck)(xc:XC F X.K X.mg){c:String}(b0:F.xc c=ca)(b1:X.mg (c:Str)=aT (.ref Cc))(kx:cS X.K (.ref a) (.ref Cc) (λ h=>XAt h a Cc))(hcl:oe.cls=.ref Cc)(nd:X.N.Nodup)(a1:X.env.scope=ck.sc)(hx:DV.ab6.all F.xt=ca)
  {S:yM} (h:KindS ck S):PSs (X.hnd a oe) S (λ D W H=>W=[aT (.ref a),bY]/\∀ H',ae1 H H'->D.rt (.str ⟨(nj c).toArray⟩) H'):=by
 obtain⟨nm,ks,e1,e4,y1,y5,m4,m5,m6,g4,f2,e0,j1,j5,i5,k5,j6,p1,q1,r1,a2,b2,c2,a3,b3,c3,d3,f3,a4,g2,g3,p4,a5,g0,g1,f4,d0,f0,h0,q5,p5,g5,a6,f5,f1,e5,h1,p6,rfl,eN,hh⟩:=h;unfold kndB at hh;obtain⟨l1,hh⟩:=zc hh;obtain⟨l2,hh⟩:=zc hh;obtain⟨d1,hh⟩:=zc hh;obtain⟨d2,hh⟩:=zc hh;obtain⟨c7,hh⟩:=zc hh;obtain⟨d4,hh⟩:=zc hh;obtain⟨c6,hh⟩:=zc hh;obtain⟨z1,hh⟩:=zc hh;obtain⟨z5,hh⟩:=zc hh;obtain⟨z2,hh⟩:=zc hh;obtain⟨z3,hh⟩:=zc hh;obtain⟨z4,hh⟩:=zc hh;obtain⟨c1,hh⟩:=zc hh;obtain⟨c4,hh⟩:=zc hh;obtain⟨c5,hh⟩:=zc hh;obtain⟨b6,hh⟩:=zc hh;obtain⟨b9,hh⟩:=zc hh;obtain⟨J,c0⟩:=zc hh;have z:=dO z1;subst z;have z:=dO z5;subst z;have z:=dO z2;subst z;have z:=dO z3;subst z;have z:=dO z4;subst z;have l1:X.env.scope.names.lookup nm=aT .local:=by rw[a1];exact ll l1
 have l2:X.env.scope.names.lookup ks=aT .local:=by rw[a1];exact ll l2
 have d1:(nm==("__debug__":Str))=false:=by simpa using d1
 have d2:(nm==("__classdict__":Str))=false:=by simpa using d2
 have d3:(ks==("__debug__":Str))=false:=by simpa using c7
 have d4:(ks==("__classdict__":Str))=false:=by simpa using d4
 have b4:ck.N[0]?=aT nm:=by rw[eN];rfl
 have a0:(X.hnd a oe).N[1]?=aT ks:=by show X.N[1]?=_;rw[G.N,eN];rfl
 have hT:=λ {t:DV.HT} {E:Expr} (m:mHT ck nm t E=ca) (o:t.ok F.xt=ca)=>bH5 (a:=a) (oe:=oe) G xc b0 b1 kx hcl b4 (.inl l1) d1 d2 m o;have b5:=λ {cs:List String} {es:yL} (m:bR4 ck nm cs es=ca) (o:cs.all F.xt=ca)=>bx5 (a:=a) (oe:=oe) G xc b0 b1 kx hcl b4 (.inl l1) d1 d2 m o;have vk:∀ {p:Pos},PE (X.hnd a oe) (.Name ks p) (bv5 1):=aA9 a0 (.inl l2) d3 d4;have x4:(DV.ab6.take 4).all F.xt=true:=aA.mpr λ y hy=>aA.mp hx y (cK hy);have x5:((DV.ab6.drop 4).take 4).all F.xt=true:=aA.mpr λ y hy=>aA.mp hx y (iY (cK hy));have x9:(DV.HT.Y "NoName").ok F.xt=true:=aA.mp hx "NoName" (by decide);refine(zC (bp4 (hT c6 rfl).2 (aj9 (ar1 av2)) ay8) (zC (aL3 nd a0 (.inl l2) (at5 (b5 b6 x4)) rfl (.inr l2)) (zC (aL3 nd a0 (.inl l2) (bY4 bx8 vk (at5 (b5 b9 x5))) rfl (.inr l2)) (zC (aG3 (bt2 bZ e6 gT an8 vk (zo (hT J x9).1 ab8 (za (aO0 J))) rfl (cs5 (aO0 J)) c1 (za (aO0 J)) rfl) rfl) (zC (bp4 (be6 cg7 (bt2 bZ iV PySem.F.type_list_count ba4 vk (zo bJ8 ab8) rfl rfl c4) aW7 rfl) (aj9 (ar1 av2)) ay8)
  (aj9 (ar1 (bS0 ba5 (at5 (aZ4 c0)) (bt2 bZ iW PySem.F.type_list_index bi3 vk (zo bJ8 ab8) rfl rfl c5) (au0 rfl))))))))).imp λ D W H q=>?_
 obtain⟨rfl,q⟩:=q;have Y:∀ {k:Nat},k<=1000->k<=aX:=λ h=>eU (ap8 h);refine⟨rfl,λ H1 s1=>?_⟩;show(if(!ca)=ca then _ else _);rw[iF (by decide)];refine⟨rfl,λ H2 s2=>⟨Y (by show 4<=1000;decide),λ p hp=>?_⟩⟩;refine⟨.ref p,rfl,rfl,λ H3 s3=>⟨Y (by show 4<=1000;decide),λ p' hp'=>?_⟩⟩;have h3:H3 p=aT (.J (((DV.ab6.take 4).map (mZ c)).map V.T)):=s3 _ _ (by rw[zq]);have n1:p≠p':=zl h3 hp';refine⟨p,p',_,_,rfl,rfl,by rw[zf n1];exact h3,zq,Y (by show 8<=1000;decide),λ r hr=>?_⟩;refine⟨.ref r,rfl,.inl ⟨rfl,_,SqL.of zq⟩,rfl,λ H4 s4=>?_⟩;have h4:=s4 _ _ zq;refine⟨r,_,_,rfl,rfl,h4,ap8 (by show 8<=1000;decide),?_⟩;have h5:(upd H4 r (.J ((((DV.ab6.take 4).map (mZ c)).map V.T++(((DV.ab6.drop 4).take 4).map (mZ c)).map V.T)++[.T ((DV.HT.Y "NoName").val c)]))) r=aT (.J ((DV.ab6.map (mZ c)).map V.T)):=by
  rw[zq];rfl
 have s5:ae1 H (upd H4 r (.J ((((DV.ab6.take 4).map (mZ c)).map V.T++(((DV.ab6.drop 4).take 4).map (mZ c)).map V.T)++[.T ((DV.HT.Y "NoName").val c)]))):=λ b o e=>by
  have e1:=s1 b o e;have e2:=s2 b o e1;have e3:=s3 b o (by rw[zf (zl e2 hp)];exact e2);have Z:(upd H3 p' (.J ((((DV.ab6.drop 4).take 4).map (mZ c)).map V.T))) b=aT o:=by rw[zf (zl e3 hp')];exact e3
  have e4:=s4 b o (by rw[zf (zl Z hr)];exact Z);have n:b≠r:=zl Z hr;rw[zf n];exact e4
 generalize hU:upd H4 r (.J ((((DV.ab6.take 4).map (mZ c)).map V.T++(((DV.ab6.drop 4).take 4).map (mZ c)).map V.T)++[.T ((DV.HT.Y "NoName").val c)]))=Uu at h5 s5;refine⟨.ref r,rfl,.inl ⟨rfl,_,SqL.of h5⟩,r,DV.ab6.map (mZ c),rfl,rfl,h5,rfl,_,rfl,?_⟩;have key:(!decide (V.int ((DV.ab6.map (mZ c)).countP id:Nat)=V.int 1))=!decide ((DV.ab6.map (mZ c)).countP id=1):=by
  congr 1
  rw[aK6];rw[cC,beq_iff_eq,oR];omega
 rw[key];by_cases hc:(DV.ab6.map (mZ c)).countP id=1
 .rw[iN hc];show(if(!ca)=ca then _ else _);rw[iF (by decide)];obtain⟨j,j1,j2,j3,j4⟩:=bM3 (bs:=DV.ab6.map (mZ c)) rfl hc;refine⟨Y (by show 9<=1000;decide),λ t ht=>?_⟩;have h6:(upd Uu t (.J (DV.ae6.map λ t=>V.str ⟨t.toArray⟩))) r=aT (.J ((DV.ab6.map (mZ c)).map V.T)):=by rw[zf (zl h5 ht)];exact h5
  refine⟨.ref r,rfl,.inl ⟨rfl,_,SqL.of h6⟩,r,_,j,rfl,rfl,h6,j2,j3,t,DV.ae6.map (λ t=>V.str ⟨t.toArray⟩),(j:Int),V.str ⟨(nj c).toArray⟩,rfl,rfl,SqL.of zq,?_,q _ (λ b o e=>?_)⟩
  .unfold atI;have e1:ixN (DV.ae6.map λ t=>V.str ⟨t.toArray⟩).length (j:Int)=aT j:=by
    unfold ixN;rw[ij (by omega),ij (by rw[aq,show DV.ae6.length=9 from rfl];omega)];simp
   rw[e1];show(DV.ae6.map λ t=>V.str ⟨t.toArray⟩)[j]?=_;rw[aI,j4];rfl
  .have e1:=s5 b o e;rw[zf (zl e1 ht)];exact e1
 .rw[js hc];show(if(!dr)=ca then _ else _);rw[ij (by decide)];have e1:nj c=DV.am3:=by unfold nj o5;rw[iF hc]
  have q':=q Uu s5;rw[e1]at q';exact q'
end
section
variable {Γ:Gm}
def aK2 (R:Rp Γ C H s)(g:Gr C s H C1 s1 J)(ho:pv s s1=ca)(z:i<s.length)(e:s1[i]?=aT o):o.bnd s.length=true:=by
 unfold pv at ho;have:=aA.mp ho i (bO.mpr z);rw[e,bz]at this;rcases this with h|h
 .exact R.wf i o (dO h).symm
 .exact h
def qv {s1:mM}(e:(s1.take k)[i]?=aT o):i<k/\s1[i]?=aT o:=by
 rw[jI]at e;split at e
 .exact⟨‹_›,e⟩
 .cases e
def aV4 (R:Rp Γ C H s)(g:Gr C s H C1 s1 J)(R1:Rp Γ C1 J s1)(ho:pv s s1=ca):Gr C s H C1 (s1.take s.length) J/\Rp Γ C1 J (s1.take s.length):=by
 have Y:(s1.take s.length).length=s.length:=by rw[bW];have:=g.le;lia
 refine⟨⟨g.w,by rw[Y];exact al _,λ i h1 Z=>by rw[Y]at Z;lia,λ i o o' e e'=>g.kd i o o' e (qv e').2,g.st,g.fz,g.fr⟩,λ i j o o' e e' m m' z=>R1.inj i j o o' (qv e).2 (qv e').2 m m' z,λ i o e=>R1.obj i o (qv e).2,λ i o e=>?_,R1.tab⟩;rw[Y];exact aK2 R g ho (qv e).1 (qv e).2
set_option tactic.hygienic true in
def zW (R:Rp Γ C H s)(g:Gr C s H C1 s1 Y)(R1:Rp Γ C1 Y s1)(hb:v0.bnd s1.length=ca)(r:RV Γ C1 Y v0 v)(h:og s v0 s1=.ok d s') :
  ∃ C',Gr C s H C' s' Y/\s.length<=s'.length/\d.bnd s'.length=ca/\RV Γ C' Y d v/\Rp Γ C' Y s':=by
 have all:d=v0->s'=s1->∃ C',Gr C s H C' s' Y/\s.length<=s'.length/\d.bnd s'.length=ca/\RV Γ C' Y d v/\Rp Γ C' Y s':=λ e1 e2=>by
  subst e1;subst e2;exact⟨C1,g,g.le,hb,r,R1⟩
 unfold og at h;split at h
 case isFalse=>cases h;exact all rfl rfl
 rename_i ho;obtain⟨gt,Rt⟩:=aV4 R g R1 ho;have Z:(s1.take s.length).length=s.length:=by rw[bW];have:=g.le;omega
 have tk:d=v0->s'=s1.take s.length->v0.bnd s.length=ca->∃ C',Gr C s H C' s' Y/\s.length<=s'.length/\d.bnd s'.length=ca/\RV Γ C' Y d v/\Rp Γ C' Y s':=λ e1 e2 b=>by
  subst e1;subst e2;exact⟨C1,gt,by rw[Z];exact al _,by rw[Z];exact b,r,Rt⟩
 split at h
 .rename_i k;split at h
  .cases h;exact tk rfl rfl (by unfold mY;exact iN ‹_›)
  .rename_i hk;split at h
   .rename_i o eo;split at h
    .rename_i a0;cases h;have gw:Gw C1 s.length Y (λ i=>if i=s.length then C1 k else C1 i) Y:=⟨λ i z=>iF (aJ z),Kp.refl _⟩
     have key:∀ i o' ,(s1.take s.length++[o])[i]?=aT o'->(i<s.length/\s1[i]?=aT o')\/(i=s.length/\o'=o):=λ i o' e=>by
      rcases fc i s.length with h|h|h
      .rw[ax (by rw[Z];exact h)]at e;exact .inl (qv e)
      .subst h;rw[aK (by rw[Z];exact al _),Z,cT]at e;exact .inr ⟨rfl,(aM e).symm⟩
      .rw[cj (by rw[au,Z];simp;lia)]at e;cases e
     have J:(s1.take s.length++[o]).length=s.length+1:=by rw[au,Z];rfl
     refine⟨λ i=>if i=s.length then C1 k else C1 i,⟨⟨λ i z=>?_,g.w.kp⟩,by rw[J];lia,λ i h1 h2=>?_,λ i oo o' e e'=>?_,g.st,g.fz,g.fr⟩,by rw[J];omega,by unfold mY;rw[J];exact iN (bV _),?_,⟨λ i j oi oj a2 a1 mi mj e=>?_,λ i o' e=>?_,λ i o' e=>?_,R1.tab⟩⟩
     .skip
      rw[iF (aJ z)];exact g.w.map i z
     .rw[J]at h2;rw[ij (by lia)];exact g.new k (by lia) (ac.mp eo).1
     .rcases key i o' e' with⟨_,e2⟩|⟨z,_⟩
      .exact g.kd i oo o' e e2
      .have:=(ac.mp e).1;lia
     .rw[r.refE];unfold RV;rw[ij rfl]
     .rcases key i oi a2 with⟨z,ei⟩|⟨z,zi⟩<;>rcases key j oj a1 with⟨hj,ej⟩|⟨hj,zj⟩
      .rw[iF (aJ z),iF (aJ hj)]at e;exact R1.inj i j oi oj ei ej mi mj e
      .rw[iF (aJ z),ij hj]at e;subst zj;have:=R1.inj i k oi _ ei eo mi mj e;lia
      .rw[iF (aJ hj),ij z]at e;subst zi;have:=R1.inj k j _ oj eo ej mi mj e;lia
      .rw[z,hj]
     .rcases key i o' e with⟨z,e⟩|⟨z,rfl⟩
      .skip
       rw[iF (aJ z)];exact(R1.obj i o' e).mono gw (aK2 R g ho z e) λ _ u hu=>hu
      .skip
       rw[ij z];exact(R1.obj k _ eo).mono gw a0 λ _ u hu=>hu
     .rw[J];rcases key i o' e with⟨z,e⟩|⟨_,rfl⟩
      .exact zZ (cg _) _ (aK2 R g ho z e)
      .exact zZ (cg _) _ a0
    .cases h;exact all rfl rfl
   .exact fb h
 .split at h
  .cases h;exact tk rfl rfl ‹_›
  .cases h;exact all rfl rfl
def bv4 (Γ:Gm)(cds:yG)(f:Str)(sc:Scope)(N:yI)(fd:bX)(lk:String->List Nat->Expr->Bool):Prop :=
 ∀ id caps E,lk id caps E=ca->False
def GoodB (Γ:Gm)(cds:yG)(mg:yD)(f:String)(pc vc:Nat)(m:Ck->List Stmt->Bool):Prop:=∃ st N ps a fd lk,DefAt Γ.K mg (f) st ps a fd/\FnScope N ps (defScope st)/\ps.length=pc/\N.length=pc+vc/\m ⟨N,defScope st,lk⟩ (defBody st)=ca/\bv4 Γ cds (f) (defScope st) N fd lk
def Good (Γ:Gm)(cds:yG)(mg:yD)(f:String)(d:nN):Prop:=GoodB Γ cds mg f d.ps d.vs λ ck S=>mSs ck d.body S
noncomputable def mKc (ck:Ck)(nm:Str)(f:String)(E:Expr):Bool:=match E with|.Call (.Name g _) [.Name x _] [] _=>decide (g=(f:Str))&&(ck.gl g&&decide (x=nm))|_=>dr
def ck4 (ck:Ck)(nm:Str)(f:String)(l:DV.KO)(S:yM):Bool:=match S with
 | [.Return (aT e) _]=>(match l with|.ls=>(match e with|.List [c] _=>mKc ck nm f c|_=>dr)|.pl=>mKc ck nm f e|.eq t=>(match e with|.Compare c [.Eq] [.Constant (.str x) _ _] _=>mKc ck nm f c&&decide (x=⟨t.toArray⟩)|_=>dr))
 | _=>dr
def mHk (ck:Ck)(nm:Str)(h:n8)(S:yM):Bool:=match h.kn with|some (f,l)=>ck4 ck nm f l S|none=>mHd ck nm h S
def bU8 (h:n8)(c:String):VK->Hp->Prop:=match h.kn with
 | some (_,.ls)=>λ R H=>∀ p,H p=bY->R (.ref p) (upd H p (.J [.str ⟨(nj c).toArray⟩]))
 | some (_,.pl)=>λ R H=>R (.str ⟨(nj c).toArray⟩) H
 | some (_,.eq t)=>λ R H=>R (.T (decide (nj c=t))) H
 | none=>λ R H=>R (vV (h.vD c)) H
def mT0 (ck:Ck)(d:pw)(S:yM):Bool:=match S with
 | st::rest=>(match st with|.Try tb hs [] [] _=>(match hs with|[eh]=>(match eh with|.ExceptHandler (aT en) (aT nm) hb _=>(match en,hb with|.Name x _,b::su=>mSs ck d.body tb&&(mX ck d.xb tb&&(noR d.xb&&(noL d.xb&&(d.h.supOk d.c&&(decide (x=((d.h.cls d.c:String):Str))&&(ck.gl x&&(decide (ck.N[d.i]?=aT nm)&&((ck.sc.names.lookup nm==aT .local)&&(!(nm==("__debug__":Str))&&(!(nm==("__classdict__":Str))&&(mHk ck nm d.h (b::su)&&mSs ck d.tl rest)))))))))))|_,_=>dr)|.ExceptHandler (aT en) bY hb _=>dr|_=>dr)|_=>dr)|_=>dr)
 | _=>dr
def cg1 (ck:Ck):ph->List Stmt->Option (List Stmt)
 | .nil,S=>aT S
 | .cons s ss,S=>match S with|x::xs=>(match mS ck s x with|true=>cg1 ck ss xs|false=>bY)|[]=>bY
def mT (ck:Ck)(d:pw)(S:yM):Bool:=match cg1 ck d.pre S with
 | some S1=>mT0 ck d S1
 | none=>dr
def GoodM (Γ:Gm)(c m:String)(d:nN):Prop:=∃ st N ps a fd Cc,(Γ.cls c=aT Cc/\Cls Γ.K Cc)/\Meth Γ.K Cc (m:Str) a/\Fun Γ.K (m:Str) ((c ++ "."++m:String):Str) st a fd/\Binds Γ.K fd ps []/\FnScope N ps (defScope st)/\ps.length=d.ps/\N.length=d.ps+d.vs/\mSs ⟨N,defScope st,λ _ _ _=>dr⟩ d.body (defBody st)=ca
structure PrOk (Γ:Gm)(cds:yG)(P:nk)(mg:yD)(w:World):Prop where
 df:∀ f d,P.df f=aT d->Good Γ cds mg f d
 con:∀ x d,P.con x=aT d->∃ v u,mg (x:Str)=aT u/\RelV v u/\(∀ m,d.bnd m=ca)/\∀ C H,RV Γ C H d v
 bi:∀ x∈bNames,mg x=bY
 fa:∀(f:String) (a:Addr),Γ.fa f=aT a->mg (f:Str)=aT (.ref a)/\∃ oc od fd sl,Γ.K.lookup a=aT ⟨oc,od,.func fd,sl⟩
 lg:True
 nd:(Γ.T.map (·.1)).Nodup
 xf:∀ f d,P.xf f=aT d->GoodB Γ cds mg f d.ps d.vs λ ck S=>mX ck d.body S
 tf:∀ f d,P.tf f=aT d->GoodB Γ cds mg f d.ps d.vs λ ck S=>mT ck d S
 xc:∀ c:String,P.xc c=ca->∃ Cc,mg (c:Str)=aT (.ref Cc)/\ExcCls Γ.K Cc/\excI Γ.K Cc=ca
 xt:∀ c:String,P.xt c=ca->∃ Cc,mg (c:Str)=aT (.ref Cc)
 xs:∀(c d:String) (Cc D:Addr),P.xc c=ca->P.xt d=ca->mg (c:Str)=aT (.ref Cc)->mg (d:Str)=aT (.ref D)->bo Γ.K (.ref Cc) (.ref D)=aT (mZ c d)
 xm:∀(c d:String) (Cc D:Addr),P.xc c=ca->P.xt d=ca->mg (c:Str)=aT (.ref Cc)->mg (d:Str)=aT (.ref D)->bU Γ.K (.ref Cc) (.ref D)=aT (mZ c d)
 xe:∀(c:String) (Cc:Addr),P.xc c=ca->mg (c:Str)=aT (.ref Cc)->bU Γ.K (.ref Cc) (.ref Cc)=aT ca
 v0:∀ c:String,P.xc c=ca->mg ("ValueError":Str)=bY
 v1:∀(c:String) (Cc:Addr),P.xc c=ca->mg (c:Str)=aT (.ref Cc)->bo Γ.K (.ref Cc) (.type "ValueError")=aT ca
 cdc:∀(c:String) kvs,P.cdc c=aT kvs->∃ a,mg (c:Str)=aT (.ref a)/\∀(prog:aD) (h:Heap),Γ.K.In h->StrTab prog w h a (strD kvs)
 mt:∀ c m d,P.mt c m=aT d->GoodM Γ c m d
 att:∀(c:String) (f:List Nat) (Cc:Addr),P.att c f=ca->Γ.cls c=aT Cc->NoAttr Γ.K Cc ⟨f.toArray⟩
 nwc:∀(c:String) (Cc:Addr),Γ.cls c=aT Cc->mg (c:Str)=aT (.ref Cc)/\dN Γ.K Cc=ca/\bF Γ.K (.ref Cc)=ca
def al0 (Γ:Gm)(prog:aD)(w:World)(mg:yD)(base:Heap)(F:ni)(n:Nat):Prop:=(∀ f:String,(∀ l s,F.call f l s=.B) \/
  ∃ a fd ps,FnOk prog w Γ.K mg base CX0 n a fd ps (spV Γ (F.call f))/\mg (f)=aT (.ref a)/\bF Γ.K (.ref a)=ca/\Binds Γ.K fd ps []) /\
 True/\ObOk Γ prog w Γ.K mg base F n
def ay3 (r:RVL Γ C H l vs)(b:mP n l=ca)(hN:N.length=l.length+k):RE Γ C H n (l.map aT++av k bY) (qB N vs):=by
 have z:=r.length;refine⟨?_,λ i d e=>?_⟩
 .unfold qB;simp[z,hN]
 .by_cases hi:i<l.length
  .rw[ax (by simpa using hi),aI]at e;have e':l[i]?=aT d:=by
    rw[ag hi]at e ⊢;exact aM e
   obtain⟨v,e1,e2⟩:=r.get e';refine⟨aw1 b e',v,?_,e2⟩;unfold qB;rw[ax (by rw[aq,z];exact hi),aI,e1];rfl
  .rw[aK (by simpa using kg hi)]at e;rw[gY]at e;split at e<;>cases e
def bS8 (hP:PrOk Γ z P J w) n :∀ c kvs,(mV P n).cdc c=aT kvs->∃ a,J (c)=aT (.ref a)/\∀ h:Heap,Γ.K.In h->StrTab prog w h a (strD kvs):=by
 have:(mV P n).cdc=P.cdc:=by cases n<;>rfl
 rw[this];intro c kvs e;obtain⟨a,Y,Z⟩:=hP.cdc c kvs e;exact⟨a,Y,Z prog⟩
def bj4 (hP:PrOk Γ Z P mg w)(hb:∀ y∈Z,b7 base y.1 y.2/\BM mg base) n (z:al0 Γ prog w mg base (mV P n) (n+31))
  {f:String} {st:Stmt} {N ps:yI} {a:Addr} {fd:bX} {lk:String->List Nat->Expr->Bool} (hS:FnScope N ps (defScope st)) (hL:bv4 Γ Z (f:Str) (defScope st) N fd lk) (J:Value) (a1:∀ id a0 E,lk id a0 E=ca->fd.code=J) (A:aV) (Y:List Env) (sh:af) (H:Hp) (E:XK) (hr:Room (n+31) (A.deeper (fJ (f:Str) (defScope st) sh.heap.objs.size a J))) :
  CG Γ (mV P n) (n+31) (al9 CX0 prog w Γ.K mg base N (f:Str) (defScope st) a J A Y sh H E).nox ⟨N,defScope st,lk⟩:=by
 refine⟨rfl,rfl,hS.nd,rfl,rfl,?_,hr,λ x k e=>.inl e,λ _ _=>rfl,hP.bi,z.1,?_,hL,z.2.1,hP.fa,bS8 hP n,z.2.2⟩
 .show nu+1<=n+31;unfold nu;lia
 .have:(mV P n).con=P.con:=by cases n<;>rfl
  rw[this];exact hP.con
def aX7 :bv4 Γ z f sc N J (λ _ _ _=>dr):=λ _ _ _ h=>by cases h
set_option tactic.hygienic true in
def bz2 {a1:yG}{P:nk}{prog:aD}{w:World}{mg:yD}{base:Heap}(hP:PrOk Γ a1 P mg w)(hb:∀ y∈a1,b7 base y.1 y.2/\BM mg base)(n:Nat)(a0:al0 Γ prog w mg base (mV P n) (n+31))
  {f:String} {x:Str} {d:nN} {st:Stmt} {N ps:yI} {a:Addr} {fd:bX} {lk:String->List Nat->Expr->Bool} (hD:Fun Γ.K x (f:Str) st a fd) (hS:FnScope N ps (defScope st)) (h1:ps.length=d.ps) (h2:N.length=d.ps+d.vs) (hm:mSs ⟨N,defScope st,lk⟩ d.body (defBody st)=ca) (hL:bv4 Γ a1 (f:Str) (defScope st) N fd lk) :
  FnOk prog w Γ.K mg base CX0 (n+1+31) a fd ps (spV Γ (nZ (mV P n) d)):=by
 have Y:∀ vs H Q E,spV Γ (nZ (mV P n) d) vs H Q E->vs.length=ps.length:=λ vs H Q E q=>by
  obtain⟨C,s,l,d',s',R,r,b,hc,k⟩:=q;unfold nZ at hc;split at hc
  .rw[r.length,h1];assumption
  .exact fb hc
 have body:∀(z:Value),(∀ id Z E,lk id Z E=ca->fd.code=z)->∀(A:aV) (J:List Env) (sh:af) (H:Hp) (vs:List V) (Q:VK) (E:XK),Room (n+31) (A.deeper (fJ (f:Str) (defScope st) sh.heap.objs.size a z))->spV Γ (nZ (mV P n) d) vs H Q E ->
   ∃ t,PSs (al9 CX0 prog w Γ.K mg base N (f:Str) (defScope st) a z A J sh H E).nox (defBody st) t/\t { nx:=λ _ H'=>Q .N H',rt:=Q } (qB N vs) H:=by
  intro z a2 A J sh H vs Q E hr q;have G:=bj4 hP hb n a0 hS hL (a:=a) z a2 A J sh H E hr;refine⟨_,sSs d.body (defBody st) _ ⟨N,defScope st,lk⟩ G hm,?_⟩;obtain⟨C,s,l,d',s',R,r,b,hc,k⟩:=q;unfold nZ at hc;split at hc
  case isFalse=>exact fb hc
  rename_i Y;obtain⟨c,s1,e1,hc⟩:=aa1 hc;refine⟨C,l.map aT++av d.vs bY,s,c,s1,ay3 r b (by rw[h2,Y]),R,e1,λ C1 H1 g1 l1 R1=>?_⟩;cases c with
  | ret v0 =>
   intro v hb rv;obtain⟨C',g',l',b',r',R'⟩:=zW R g1 R1 hb rv hc;exact k v C' H1 g' l' b' r' R'
  | next U =>
   intro W' _;obtain⟨C',g',l',b',r',R'⟩:=zW (v0:=.N) R g1 R1 rfl RV.nonI hc;exact k .N C' H1 g' l' b' r' R'
  | cont U=>exact fb hc
  | brk U=>exact fb hc
 exact hD.ok hS Y (λ z=>body z λ id Z E h=>(hL id Z E h).elim)
def cb0 (hP:PrOk Γ Y P Z w)(hb:∀ y∈Y,b7 base y.1 y.2/\BM Z base) n (J:al0 Γ prog w Z base (mV P n) (n+31))
  (e:P.df f=aT d) {st} (hD:DefAt Γ.K Z (f:Str) st ps a fd) (hS:FnScope N ps (defScope st)) (h1:ps.length=d.ps) (h2:N.length=d.ps+d.vs) (hm:mSs ⟨N,defScope st,lk⟩ d.body (defBody st)=ca) (hL:bv4 Γ Y (f:Str) (defScope st) N fd lk) :
  FnOk prog w Γ.K Z base CX0 (n+1+31) a fd ps (spV Γ ((mV P (n+1)).call f)):=by
 have z:(mV P (n+1)).call f=nZ (mV P n) d:=by funext l s;simp only[mV,e];rfl
 rw[z];exact bz2 hP hb n J hD.fn hS h1 h2 hm hL
def ch2 (hP:PrOk Γ Z P mg w)(hb:∀ y∈Z,b7 base y.1 y.2/\BM mg base) n (J:al0 Γ prog w mg base (mV P n) (n+31)):ObOk Γ prog w Γ.K mg base (mV P (n+1)) (n+1+31):=by
 refine⟨λ c f Cc h=>hP.att c f Cc h,λ c m=>?_,λ c=>?_⟩
 .cases e:P.mt c m with
  | none=>exact .inl λ l s=>by simp only[mV,e]
  | some d =>
   obtain⟨st,N,ps,a,fd,Cc,hc,hm,hD,Y,hS,h1,h2,a0⟩:=hP.mt c m d e;have z:(mV P (n+1)).mcall c m=nZ (mV P n) d:=by funext l s;simp only[mV,e]
   refine .inr ⟨Cc,a,fd,ps,hc.1,hc.2,hm,?_,Y⟩;rw[z];exact bz2 hP hb n J hD hS h1 h2 a0 aX7
 .rcases J.2.2.mc c "__init__" with h|⟨Cc,a,fd,ps,hc,hcl,hm,hF,Y⟩
  .exact .inl λ l s=>h l s
  .obtain⟨m1,m2,m3⟩:=hP.nwc c Cc hc;exact .inr ⟨n+31,Cc,a,fd,ps,by lia,⟨hc,hcl⟩,m1,⟨m2,hm.at_,hm.fn,m3⟩,hF,Y⟩
def Fun.okX {K}{st}(F:Fun K x qual st f Z)(S:FnScope N ps (defScope st))(len:∀ vs H Q E,sp vs H Q E->vs.length=ps.length)
  (Y:∀(J:Value),Z.code=J->∀(A:aV) (z:List Env) (s:af) (H:Hp) (vs:List V) (Q:VK) (E:XK),Room k (A.deeper (fJ qual (defScope st) s.heap.objs.size f J))->sp vs H Q E ->
   ∃ t,PSs (al9 CX P w K mg base N qual (defScope st) f J A z s H E) (defBody st) t/\t { nx:=λ _ H'=>Q .N H',rt:=Q } (qB N vs) H):FnOk P w K mg base CX (k+1) f Z ps sp:=by
 obtain⟨oc,od,kV,a1,pm,an,J,ct,a2,rfl,lk,hc⟩:=F.ex;exact bR1 lk hc S len λ A z s H vs Q E hr a0=>Y J rfl A z s H vs Q E hr a0
def cd6 {mg:yD}(z:PrOk Γ Z P mg w)(n:Nat):XC (mV P n) Γ.K mg:=by
 have e:(mV P n).xc=P.xc:=by cases n<;>rfl
 have e':(mV P n).xt=P.xt:=by cases n<;>rfl
 exact⟨λ c h=>z.xc c (by rw[e]at h;exact h),λ c h=>z.xt c (by rw[e']at h;exact h),λ c d Cc D J Y=>z.xs c d Cc D (by rw[e]at J;exact J) (by rw[e']at Y;exact Y),λ c d Cc D J Y=>z.xm c d Cc D (by rw[e]at J;exact J) (by rw[e']at Y;exact Y),λ c h=>z.v0 c (by rw[e]at h;exact h),λ c Cc h=>z.v1 c Cc (by rw[e]at h;exact h)⟩
set_option tactic.hygienic true in
def bW9 (hP:PrOk Γ Z P J w)(hb:∀ y∈Z,b7 base y.1 y.2/\BM J base) n (Y:al0 Γ prog w J base (mV P n) (n+31))(XO:XOk Γ prog w Γ.K J base (mV P n) (n+31))
  (e:P.xf f=aT d) {st:Stmt} {N ps:yI} {a:Addr} {fd:bX} {lk:String->List Nat->Expr->Bool} (hD:DefAt Γ.K J (f:Str) st ps a fd) (hS:FnScope N ps (defScope st)) (h1:ps.length=d.ps) (h2:N.length=d.ps+d.vs) (hm:mX ⟨N,defScope st,lk⟩ d.body (defBody st)=ca) (hL:bv4 Γ Z (f:Str) (defScope st) N fd lk) :
  FnOk prog w Γ.K J base (CX1 prog w) (n+1+31) a fd ps (spX Γ J ((mV P (n+1)).xcall f)):=by
 refine hD.fn.okX hS (λ vs H Q E q=>?_) λ a0 a2 A z sh H vs Q E hr q=>?_
 .obtain⟨C,s,l,c,s',R,r,b,hc,k⟩:=q;simp only[mV,e]at hc;split at hc
  .rw[r.length,h1];assumption
  .cases hc
 .have G:=bj4 hP hb n Y hS hL (a:=a) a0 (λ _ _ _ _=>a2) A z sh H E hr;obtain⟨C,s,l,c,s',R,r,b,hc,k⟩:=q;simp only[mV,e]at hc;split at hc
  case isFalse=>cases hc
  rename_i a1;exact⟨_,aJ2 (X:=al9 (CX1 prog w) prog w Γ.K J base N (f:Str) (defScope st) a a0 A z sh H E) G (cd6 hP n) XO cm1 d.body (defBody st) (.inr cm5) (.inr PassesOwn.leaving) hm,C,l.map aT++av d.vs bY,s,c,s',ay3 r b (by rw[h2,a1]),R,hc,k⟩
def ce8 {S:yM}(k:h.kn=bY)(m:mHd z nm h S=ca):h.out c s s'=og s (h.vD c) s':=by
 cases h with
 | noe=>exact ff m
 | _=>simp only[o7,k]
def cc1 {h:n8}{f:String}(k:h.kn=aT (f,l)):h.out c s s'=match l with|.ls=>og s (.ref s'.length) (s'++[.J [.str (nj c)]])|.pl=>og s (.str (nj c)) s'|.eq t=>og s (.T (decide (nj c=t))) s':=by
 cases h with
 | noe=>cases k
 | _=>cases l<;>simp only[o7,k]
set_option tactic.hygienic true
def cj3 {f:String}(h:(mV P n).kd f=ca):∃ d,P.xf f=aT d/\d.ps=1/\d.vs=1/\d.body=.kind:=by
 have e:(mV P n).kd=DV.bO5 P:=by cases n<;>rfl
 rw[e]at h;unfold DV.bO5 at h;split at h
 .rename_i d hd;simp only[aj,beq_iff_eq]at h;refine⟨d,hd,h.1,h.2.1,?_⟩;have:=h.2.2;cases q:d.body<;>rw[q]at this<;>first|rfl|cases this
 .cases h
def bb6 c :(nj c).length<=1000:=by
 unfold nj o5;split
 .rw[aB];cases e:o4[List.findIdx id (DV.ab6.map (mZ c))]? with
  | none=>exact cW _
  | some x =>
   have hm:=aP e;exact(by decide:∀ x∈o4,x.length<=1000) x hm
 .decide
def bc4 (hP:PrOk Γ a5 P X.mg w)(hK:X.K=Γ.K)(G:CH X ck)(hr:Room (n+31) X.A)(xc:XC (mV P n) X.K X.mg)(a3:(mV P n).xc c=ca)(Z:X.mg (c:Str)=aT (.ref Cc))(kx:cS X.K (.ref a) (.ref Cc) (λ h=>XAt h a Cc))(hcl:oe.cls=.ref Cc){i:Nat}(hi:ck.N[i]?=aT nm)(hv:Vis X.env.scope nm)(hd:(nm==("__debug__":Str))=dr)(a4:(nm==("__classdict__":Str))=dr)
  {f:String} {E:Expr} (hk:(mV P n).kd f=ca) (hx:DV.ab6.all (mV P n).xt=ca) (h:mKc ck nm f E=ca):PE (X.hnd a oe) E (λ W H Q=>W[i]?=aT (aT (.ref a))/\∀ H',ae1 H H'->Q (.str ⟨(nj c).toArray⟩) H')/\shp E=true:=by
 unfold mKc at h;split at h
 case h_2=>cases h
 refine⟨?_,rfl⟩;obtain⟨J,h⟩:=zc h;obtain⟨h2,h3⟩:=zc h;have e1:=dO J;subst e1;have z:∀ {px:Pos},PE (X.hnd a oe) (.Name nm px) (bv5 i):=aA9 (X:=X.hnd a oe) (by show X.N[i]?=_;rw[G.N];exact hi) hv hd a4;have e3:=dO h3;subst e3;obtain⟨d,a0,Y,a6,a2⟩:=cj3 hk;obtain⟨st,N,ps,f',fd,lk,hD,hS,l1,l2,hm,hL⟩:=hP.xf _ d a0;rw[a2]at hm;have hm:KindS ⟨N,defScope st,lk⟩ (defBody st):=@dO _ (cM _) hm;rw[Y]at l1 l2;obtain⟨p,rfl⟩:∃ p,ps=[p]:=by
  match ps,l1 with
  | [p],_=>exact⟨p,rfl⟩
 obtain⟨g1,g2,g3⟩:=G.gl h2;rw[<-hK]at hD;refine bk5 (k:=n+30) (t0:=λ H Q=>∀ H',ae1 H H'->Q (.str ⟨(nj c).toArray⟩) H') hD.fn hS hD.bi hr g1 hD.mg g2 z λ a1 _ s H Q _ q=>?_;have ch:CH (al9 CX0 X.prog X.w X.K X.mg X.base N (f:Str) (defScope st) f' a1 X.A X.stack s H (λ _ _ _=>False)) ⟨N,defScope st,lk⟩:=by
  refine⟨rfl,λ {x} hx=>?_,G.bi⟩;unfold Ck.gl at hx;simp only[aj,gD]at hx;obtain⟨⟨J,h2⟩,h3⟩:=hx;refine⟨?_,h2,of_decide_eq_false h3⟩;split at J
  .rename_i e;exact e
  .cases J
 refine⟨_,bM6 ch xc a3 Z kx hcl hS.nd rfl hx hm,?_,λ H' s'=>q H' s'⟩;unfold qB;have:N.length=2:=by lia
 show _++av (N.length - 1) bY=_;rw[this];rfl
set_option tactic.hygienic false
def cj2 (hP:PrOk Γ a1 P X.mg w)(G:CG Γ (mV P n) (n+31) X ck)(xc:XC (mV P n) X.K X.mg){c:String}(Y:(mV P n).xc c=ca)(J:X.mg (c:Str)=aT (.ref Cc))(kx:cS X.K (.ref a) (.ref Cc) (λ h=>XAt h a Cc))(hcl:oe.cls=.ref Cc){nm:Str}{i:Nat}(hi:ck.N[i]?=aT nm)(hv:Vis X.env.scope nm)(hd:(nm==("__debug__":Str))=dr)(Z:(nm==("__classdict__":Str))=dr)
  {t:n8} {S:yM} (m:mHk ck nm t S=ca) (o:t.ok (mV P n).xt=ca) (k:t.kok (mV P n).kd=ca):PSs (X.hnd a oe) S (tHd i a (bU8 t c)):=by
 unfold mHk at m;unfold DV.Hd.kok at k;have a0:∀ {h:n8} {f:String} {l:DV.KO},h.kn=aT (f,l)->h.ok (mV P n).xt=ca->DV.ab6.all (mV P n).xt=true:=λ {h}=>by
  induction h with
  | kin f l=>exact λ _ z=>z
  | sup x h ih=>exact λ e z=>ih e (zc z).2
  | _=>exact λ e=>by cases e
 cases q:t.kn with
 | none =>
  rw[q]at m;have:=bS1 G xc Y J kx hcl hi hv hd Z m o;unfold bU8;rw[q];exact this
 | some y =>
  obtain⟨f,l⟩:=y;rw[q]at m k;have m:ck4 ck nm f l S=true:=m;have hx:=a0 q o;unfold ck4 at m;split at m
  case h_2=>cases m
  unfold bU8;rw[q];cases l with
  | eq t =>
   dsimp only at m;split at m
   case h_2=>cases m
   obtain⟨m1,m2⟩:=zc m;have ex:=dO m2;subst ex;obtain⟨k1,k2⟩:=bc4 (a:=a) (oe:=oe) hP G.K G.ch G.room xc Y J kx hcl hi hv hd Z k hx m1;refine(aj9 (ar1 (aV8 cm6 k1 av2 rfl))).imp λ D W H q=>⟨q.1,λ H1 s1=>?_⟩
   refine⟨rfl,?_⟩;have e:decide (V.str ⟨(nj c).toArray⟩=V.str ⟨t.toArray⟩)=decide (nj c=t):=by
    rw[decide_eq_decide];constructor
    .intro z;have z:=congrArg Str.cps (V.str.inj z);simpa using z
    .intro z;rw[z]
   rw[e];exact q.2 H1 s1
  | pl =>
   exact(aj9 (ar1 (bc4 hP G.K G.ch G.room xc Y J kx hcl hi hv hd Z k hx m).1)).imp λ D W H q=>q
  | ls =>
   dsimp only at m;split at m
   case h_2=>cases m
   obtain⟨k1,k2⟩:=bc4 (a:=a) (oe:=oe) hP G.K G.ch G.room xc Y J kx hcl hi hv hd Z k hx m;exact(aj9 (ar1 (at5 (zo k1 ab8 (za k2))))).imp λ D W H q=>⟨q.1,λ H1 s1=>⟨eU (ap8 (by show 1<=1000;decide)),λ p hp=>q.2 H1 s1 p hp⟩⟩
theorem cb3 :∀ {h} {S:yM},mHd z nm h S=ca->(h.vD c).bnd n=ca/\RV Γ C H (h.vD c) (vV (h.vD c))
 | .ret _,S,m=>ff m
 | .iff _ _ _,S,m=>ff m
 | .nob b,S,_=>⟨rfl,RV.blI⟩
 | .noe,S,_=>⟨rfl,RV.nonI⟩
 | .iffN _ _,S,m=>ff m
 | .aoN _ _,S,m=>ff m
 | .sup x h,S,m=>cb3 (h:=h) m
 | .kin _ _,S,m=>ff m
theorem bv1 (G:CG Γ F n X z):∀ {pre} {S J:yM},cg1 z pre S=aT J->PSs X J t->PSs X S (cj4 (TSv Γ (oJ F pre)) t)
 | .nil,S,J,h,h1=>by
  cases h;refine h1.imp λ D W H q=>?_;obtain⟨C,U,s,c,s',E,R,e,q⟩:=q;cases e;exact q.here R W E
 | .cons s ss,S,J,h,h1=>by
  cases S with
  | nil=>exact nc h (by nofun)
  | cons x xs =>
   have h:(match mS z s x with|true=>cg1 z ss xs|false=>bY)=aT J:=h;cases hm:mS z s x with
   | false=>rw[hm]at h;exact nc h (by nofun)
   | true =>
    rw[hm]at h;exact(zC (sS s _ X z G hm) (bv1 G h h1)).imp λ D W H q=>bz9 (TSv.eq (λ U s=>rfl) q)
set_option tactic.hygienic true in
def cd3 (hP:PrOk Γ b6 P Z w)(hb:∀ y∈b6,b7 base y.1 y.2/\BM Z base) n (b4:al0 Γ prog w Z base (mV P n) (n+31))(XO:XOk Γ prog w Γ.K Z base (mV P n) (n+31))
  (e0:P.df f=bY) (e:P.tf f=aT d) {st:Stmt} {N ps:yI} {a:Addr} {fd:bX} {lk:String->List Nat->Expr->Bool} (hD:DefAt Γ.K Z (f:Str) st ps a fd) (hS:FnScope N ps (defScope st)) (h1:ps.length=d.ps) (h2:N.length=d.ps+d.vs) (hm:mT ⟨N,defScope st,lk⟩ d (defBody st)=ca) (hL:bv4 Γ b6 (f:Str) (defScope st) N fd lk) :
  FnOk prog w Γ.K Z base CX0 (n+1+31) a fd ps (spV Γ ((mV P (n+1)).call f)):=by
 refine hD.fn.okX hS (λ vs H Q E q=>?_) λ J c7 A z sh H vs Q E hr q=>?_
 .obtain⟨C,s,l,d',s',R,r,b,hc,k⟩:=q;simp only[mV,e0,e]at hc;split at hc
  .rw[r.length,h1];assumption
  .exact fb hc
 have G:=bj4 hP hb n b4 hS hL (a:=a) J (λ _ _ _ _=>c7) A z sh H E hr;have xc:=cd6 hP n;obtain⟨C,s,l,d',s',R,r,b,hc,k⟩:=q;simp only[mV,e0,e]at hc;split at hc
 case isFalse=>exact fb hc
 rename_i a1;have E0:=ay3 r b (k:=d.vs) (N:=N) (by rw[h2,a1]);unfold mT at hm;split at hm
 case h_2=>exact ff hm
 rename_i S1 c0;unfold DV.bG6 at hc;split at hc
 case h_2=>exact fb hc
 rename_i U0 s0 ep
 suffices key:∃ t,PSs (al9 CX0 prog w Γ.K Z base N (f:Str) (defScope st) a J A z sh H E).nox S1 t/\∀ C0 W0 H0,Gr C s H C0 s0 H0->s.length<=s0.length->Rp Γ C0 H0 s0->RE Γ C0 H0 s0.length U0 W0->t { nx:=λ _ H'=>Q .N H',rt:=Q } W0 H0 by
  obtain⟨t,ht,kt⟩:=key;refine⟨_,(bv1 (X:=(al9 CX0 prog w Γ.K Z base N (f:Str) (defScope st) a J A z sh H E).nox) G c0 ht).nox,?_⟩;exact⟨C,l.map aT++av d.vs bY,s,.next U0,s0,E0,R,ep,λ C1 H1 g1 l1 R1 W1 E1=>kt C1 W1 H1 g1 l1 R1 E1⟩
 unfold mT0 at hm;split at hm
 case h_2=>exact ff hm
 rename_i d0 rest;split at hm
 case h_2=>exact ff hm
 rename_i tb hs tp;split at hm
 case h_2=>exact ff hm
 rename_i eh;have run:mSs ⟨N,defScope st,lk⟩ d.body tb=ca->mSs ⟨N,defScope st,lk⟩ d.tl rest=ca->((oJ (mV P n) d.body U0 s0).bind λ c s1=>match c with
  | .ret v=>og s v s1
  | .next U=>(oJ (mV P n) d.tl U s1).bind λ c s2=>match c with
   | .ret v=>og s v s2
   | .next _=>og s .N s2
   | _=>.B
  | _=>.B)=.ok d' s'->∃ t,PSs (al9 CX0 prog w Γ.K Z base N (f:Str) (defScope st) a J A z sh H E).nox (.Try tb [eh] [] [] tp::rest) t/\∀ C0 W0 H0,Gr C s H C0 s0 H0->s.length<=s0.length->Rp Γ C0 H0 s0->RE Γ C0 H0 s0.length U0 W0->t { nx:=λ _ H'=>Q .N H',rt:=Q } W0 H0:=λ m1 b3 hc=>by
  refine⟨_,(zC (bL6 (X:=(al9 CX0 prog w Γ.K Z base N (f:Str) (defScope st) a J A z sh H E).nox) rfl (sSs d.body tb _ ⟨N,defScope st,lk⟩ G m1)) (sSs d.tl rest _ ⟨N,defScope st,lk⟩ G b3)),λ C0 W0 H0 g0 l0 R0 Ea=>?_⟩;obtain⟨c,s1,e1,hc⟩:=aa1 hc;refine⟨C0,U0,s0,c,s1,Ea,R0,e1,λ C1 H1 g1 l1 R1=>?_⟩
  replace g1:=g0.trans g1 l0
  replace l1:=ak l0 l1
  cases c with
  | ret v0 =>
   intro v hb rv;obtain⟨C',g',l',b',r',R'⟩:=zW R g1 R1 hb rv hc;exact k v C' H1 g' l' b' r' R'
  | next U =>
   intro W' E1;obtain⟨c,s2,e2,hc⟩:=aa1 hc;refine⟨C1,U,s1,c,s2,E1,R1,e2,λ C2 H2 g2 l2 R2=>?_⟩;cases c with
   | ret v0 =>
    intro v hb rv;obtain⟨C',g',l',b',r',R'⟩:=zW R (g1.trans g2 l1) R2 hb rv hc;exact k v C' H2 g' l' b' r' R'
   | next U =>
    intro W' _;obtain⟨C',g',l',b',r',R'⟩:=zW (v0:=.N) R (g1.trans g2 l1) R2 rfl RV.nonI hc;exact k .N C' H2 g' l' b' r' R'
   | cont U=>exact fb hc
   | brk U=>exact fb hc
  | cont U=>exact fb hc
  | brk U=>exact fb hc
 split at hm
 .rename_i en nm d1 hp;split at hm
  case h_2=>exact ff hm
  rename_i x np b0 su;obtain⟨m1,hm⟩:=zc hm;obtain⟨m2,hm⟩:=zc hm;obtain⟨m3,hm⟩:=zc hm;obtain⟨c6,hm⟩:=zc hm;obtain⟨d2,hm⟩:=zc hm;obtain⟨m4,hm⟩:=zc hm;obtain⟨m5,hm⟩:=zc hm;obtain⟨m6,hm⟩:=zc hm;obtain⟨m7,hm⟩:=zc hm;obtain⟨m8,hm⟩:=zc hm;obtain⟨m9,hm⟩:=zc hm;obtain⟨Y,b3⟩:=zc hm;have ex:=dO m4;have ei:=dO m6;subst ex;unfold DV.bp3 at hc;split at hc
  .rename_i c s1 hx;split at hc
   case isFalse=>exact fb hc
   rename_i b5;obtain⟨a3,a2,hok,c3⟩:=b5;unfold DV.Tf.tk at a3;obtain⟨Cc,hC,hE,hI⟩:=xc.at_ _ a2;obtain⟨g1,g2,g3⟩:=G.gl m5;have b1:(defScope st).names.lookup nm=aT .local:=ll m7;have c4:(nm==("__debug__":Str))=false:=by simpa using m8
   have c2:(nm==("__classdict__":Str))=false:=by simpa using m9
   have kx:∀ a',cS Γ.K (.ref a') (.ref Cc) (λ h=>XAt h a' Cc):=λ a'=>bM4 hE hI;obtain⟨D',a4,hexm⟩:∃ D',Z ((d.h.cls d.c:String):Str)=aT (.ref D')/\bU Γ.K (.ref Cc) (.ref D')=aT true:=by
    have c5:(mV P n).xc=P.xc:=by cases n<;>rfl
    cases hh:d.h with
    | sup x' h' =>
     rw[hh]at hok a3;have c1:(mV P n).xt x'=true:=(zc hok).1;obtain⟨D',a4⟩:=xc.cls x' c1;refine⟨D',a4,?_⟩;rw[xc.exm c x' Cc D' a2 c1 hC a4];exact congrArg aT a3
    | _ =>
     rw[hh]at a3;have ec:c=d.c:=ll a3;subst ec;exact⟨Cc,hC,hP.xe _ Cc (by rw[c5]at a2;exact a2) hC⟩
   refine⟨_,(zC (bK9 (X:=(al9 CX0 prog w Γ.K Z base N (f:Str) (defScope st) a J A z sh H E).nox) (Γ:=Γ) (Cc:=Cc) (m:=n9 (mV P n) d.xb) (b:=bU8 d.h c) (D':=D') (i:=d.i) rfl rfl rfl hexm g1 a4 g2 hS.nd ei b1 (λ pn Ww E1 b9=>?_) λ a' oe hcl=>cj2 hP G xc a2 hC (kx a') hcl ei (.inl b1) c4 c2 Y hok c3) ai2),λ C0 W0 H0 g0 l0 R0 Ea=>?_⟩
   .have G':CG Γ (mV P n) (n+31) ({ (al9 CX0 prog w Γ.K Z base N (f:Str) (defScope st) a J A z sh H E).nox with pn:=pn,xe:=Ww }:Cx).nox ⟨N,defScope st,lk⟩:=⟨G.K,G.N,G.nd,rfl,G.calm,G.deep,G.room,G.sc,G.fn,G.bi,G.call,G.con,G.lam,G.cl,G.fa,G.cdc,G.ob⟩
    exact aJ2 (X:={ (al9 CX0 prog w Γ.K Z base N (f:Str) (defScope st) a J A z sh H E).nox with pn:=pn,xe:=Ww }) G' xc XO b9 d.xb tb (.inl m3) (.inl c6) m2
   .refine⟨C0,U0,s0,c,s1,Ea,R0,hx,λ C' H' a' Cc' g' l' R' a5=>?_⟩
    replace g':=g0.trans g' l0
    replace l':=ak l0 l'
    have a5:Z (c:Str)=aT (.ref Cc'):=a5;rw[hC]at a5;cases a5;refine⟨rfl,λ a6 same=>?_⟩;obtain⟨gs,Rs⟩:=R'.same same;have a1:(nj c).length<=nh:=ak (bb6 c) (by decide);unfold bU8;cases hq:d.h.kn with
    | none =>
     unfold mHk at Y;rw[hq]at Y;have Y:mHd ⟨N,defScope st,lk⟩ nm d.h (b0::su)=true:=Y;rw[ce8 hq Y]at hc;have vr:=cb3 (Γ:=Γ) (c:=c) (C:=C') (H:=a6) (n:=s1.length) Y;obtain⟨C2,a0,l2,b2,r2,R2⟩:=zW (v0:=d.h.vD c) R (g'.trans gs l') Rs vr.1 vr.2 hc;exact k _ C2 a6 a0 l2 b2 r2 R2
    | some y =>
     obtain⟨fk,l⟩:=y;rw[cc1 hq]at hc;cases l with
     | eq t =>
      obtain⟨C2,a0,l2,b2,r2,R2⟩:=zW (v0:=.T (decide (nj c=t))) R (g'.trans gs l') Rs rfl RV.blI hc;exact k _ C2 a6 a0 l2 b2 r2 R2
     | pl =>
      obtain⟨C2,a0,l2,b2,r2,R2⟩:=zW (v0:=.str (nj c)) R (g'.trans gs l') Rs rfl (RV.strI a1) hc;exact k _ C2 a6 a0 l2 b2 r2 R2
     | ls =>
      intro p hp;obtain⟨gn,Rn⟩:=Rs.new (o:=.J [.str (nj c)]) (u:=.J [.str ⟨(nj c).toArray⟩]) hp rfl λ C' H' g e=>⟨[_],e,.cons (RV.strI a1) .nil⟩
      obtain⟨C2,a0,l2,b2,r2,R2⟩:=zW (v0:=.ref s1.length) R ((g'.trans gs l').trans gn l') Rn (by unfold mY;simp) (v:=.ref p) (by unfold RV;simp) hc;exact k _ C2 _ a0 l2 b2 r2 R2
  .exact run m1 b3 hc
 .exact ff hm
 .exact ff hm
theorem aK7 (z:PrOk Γ a0 P mg w)(hb:∀ y∈a0,b7 base y.1 y.2/\BM mg base):∀ n:Nat,al0 Γ prog w mg base (mV P n) (n+31)/\XOk Γ prog w Γ.K mg base (mV P n) (n+31)
 | 0=>⟨⟨λ f=>.inl λ l s=>rfl,trivial,λ c f Cc h=>z.att c f Cc h,λ _ _=>.inl λ _ _=>rfl,λ _=>.inl λ _ _=>rfl⟩,λ f=>.inl λ l s=>rfl⟩
 | n+1=>by
  obtain⟨ih,XO⟩:=aK7 z hb n;refine⟨⟨λ f=>?_,trivial,ch2 z hb n ih⟩,λ f=>?_⟩
  .cases e:P.df f with
   | none =>
    cases e2:P.tf f with
    | none=>exact .inl λ l s=>by simp only[mV,e,e2]
    | some d =>
     obtain⟨st,N,ps,a,Y,lk,hD,hS,Z,h2,hm,J⟩:=z.tf f d e2;exact .inr ⟨a,Y,ps,cd3 z hb n ih XO e e2 hD hS Z h2 hm J,hD.mg,hD.fn.kp,hD.bi⟩
   | some d =>
    obtain⟨st,N,ps,a,Y,lk,hD,hS,Z,h2,hm,J⟩:=z.df f d e;exact .inr ⟨a,Y,ps,cb0 z hb n ih e hD hS Z h2 hm J,hD.mg,hD.fn.kp,hD.bi⟩
  .cases e:P.xf f with
   | none=>exact .inl λ l s=>by simp only[mV,e]
   | some d =>
    obtain⟨st,N,ps,a,Y,lk,hD,hS,Z,h2,hm,J⟩:=z.xf f d e;exact .inr ⟨a,Y,ps,bW9 z hb n ih XO e hD hS Z h2 hm J,hD.mg,hD.fn.kp,hD.bi⟩
def bN3 (Y:PrOk Γ z P J w)(hb:∀ y∈z,b7 base y.1 y.2/\BM J base) n :al0 Γ prog w J base (mV P n) (n+31):=(aK7 Y hb n).1
def spT (Γ:Gm):Sp:=λ vs H Q _=>∃(a:Addr) (ns:List Int),vs=[.ref a]/\SqF Γ.K H a (ns.map V.int)/\ns.length<=63/\TabsH Γ.T H/\∀ H',Q (.T ca) H'
theorem aK9 :∀ ns:List Int,RVL Γ C H (ns.map DV.D.int) (ns.map V.int)
 | []=>.nil
 | n::ns=>.cons RV.intI (aK9 ns)
theorem aB3 :∀ ns:List Int,mP m (ns.map DV.D.int)=ca
 | []=>rfl
 | n::ns=>by rw[aY];unfold mP;rw[aB3 ns];rfl
def bZ3 (h:∀ ns:List Int,ns.length<=63->∃ s',(mV P k).call "law" [.ref 0] [.ro (ns.map DV.D.int)]=.ok (.T ca) s') vs  H  Q  E (q:spT Γ vs H Q E):spV Γ ((mV P k).call "law") vs H Q E:=by
 obtain⟨a,ns,rfl,J,Y,hT,z⟩:=q;obtain⟨s',hs⟩:=h ns Y;refine⟨λ _=>a,[.ro (ns.map DV.D.int)],[.ref 0],.T ca,s',⟨λ i j o o' e e' m m' _=>?_,λ i o e=>?_,λ i o e=>?_,hT⟩,.cons RV.refI .nil,?_,hs,λ v C' H' g l b r R=>?_⟩
 .cases i with
  | zero=>cases e;cases m
  | succ i=>cases e
 .cases i with
  | zero=>cases e;exact⟨_,J,aK9 ns⟩
  | succ i=>cases e
 .cases i with
  | zero=>cases e;unfold mW;exact aB3 ns
  | succ i=>cases e
 .unfold mP mY mP;rfl
 .rw[r.blE];exact z H'
theorem aM9 :∀ {tbl:List (String×nN)},(∀ p∈tbl,Good Γ z J p.1 p.2)->∀ f d,tbl.lookup f=aT d->Good Γ z J f d
 | [],_,f,d,h=>by cases h
 | (g,e)::tbl,H,f,d,h=>by
  rw[a9]at h;cases q:f==g with
  | true =>
   rw[q]at h;cases h;rw[ll q];exact H (g,_) (ao ..)
  | false =>
   rw[q]at h;exact aM9 (λ p hp=>H p (ah _ hp)) f d h
def bo4 (Γ:Gm)(mg:yD)(x:String)(d:mO):Prop:=∃ v u,mg (x)=aT u/\RelV v u/\(∀ m,d.bnd m=ca)/\∀ C H,RV Γ C H d v
theorem aV7 :∀ {tbl:List (String×mO)},(∀ p∈tbl,bo4 Γ z p.1 p.2)->∀ f d,tbl.lookup f=aT d->bo4 Γ z f d
 | [],_,f,d,h=>by cases h
 | (g,e)::tbl,H,f,d,h=>by
  rw[a9]at h;cases q:f==g with
  | true =>
   rw[q]at h;cases h;rw[ll q];exact H (g,_) (ao ..)
  | false =>
   rw[q]at h;exact aV7 (λ p hp=>H p (ah _ hp)) f d h
def bC7 (h:z (x:Str)=aT (.int i t)):bo4 Γ z x (.int i):=⟨.int i,_,h,⟨t,rfl⟩,λ _=>rfl,λ _ _=>RV.intI⟩
inductive ConV (Γ:Gm):mO->Value->Prop where
 | int (i:Int) (t:Tok):ConV Γ (.int i) (.int i t)
 | str (x:List Nat) (t:Tok) (h:x.length<=1000):ConV Γ (.str x) (.str ⟨x.toArray⟩ t)
inductive ConL (Γ:Gm):List mO->List Value->Prop where
 | nil:ConL Γ [] []
 | cons {d v l vs} (a:ConV Γ d v) (b:ConL Γ l vs):ConL Γ (d::l) (v::vs)
def bH8 {its:yH}(h:mg (x:Str)=aT (.ref a))(hk:Γ.K.lookup a=aT o)(hc:o.cls=.type "tuple")(hd:o.data=.seq its.toArray n)(hz:its.length<=1000)
  (hl:ConL Γ l its) (hi:autoParam (nV l=dr) Zq4._auto_1):bo4 Γ mg x (.tp l):=by
 have key:∃ J,Vals J its/\(∀ m,mP m l=ca)/\∀ C H,RVL Γ C H l J:=by
  clear hd hz hi
  induction hl with
  | nil=>exact⟨[],.nil,λ _=>rfl,λ _ _=>.nil⟩
  | cons a b ih =>
   obtain⟨J,Y,Z,h3⟩:=ih;cases a with
   | int i t=>exact⟨.int i::J,.cons ⟨t,rfl⟩ Y,λ m=>by unfold mP;rw[Z];rfl,λ C H=>.cons RV.intI (h3 C H)⟩
   | str x t h=>exact⟨.str ⟨x.toArray⟩::J,.cons ⟨t,rfl⟩ Y,λ m=>by unfold mP;rw[Z];rfl,λ C H=>.cons (RV.strI (by unfold nh;omega)) (h3 C H)⟩
 obtain⟨J,Y,Z,h3⟩:=key;refine⟨.ref a,_,h,rfl,λ m=>by unfold mY;exact Z m,λ C H=>RV.tupC (.inr ⟨o,its.toArray,n,hk,hc,hd,?_,Y⟩) (λ z=>by rw[hi]at z;cases z) (h3 C H)⟩;rw[ay];exact aN4 hz
end
def aT7 {K:ae}{mg mb:yD}{vs:yH}{tabs:yG}
  (KX:K.In J.heap) (c0:J.heap.Ns bc mg) (hb:J.heap.Ns hJ mb) (c3:∀ x:Str,x ≠ "__name__"->mb x=br x) (b0:J.heap.NoLimit) (hg:J.gens=#[]) (c4:BM mg J.heap) (hT:lb tabs J.heap) (d0:lc K=ca)
  (ha:J.heap.get? a=aT { cls:=.type "list",data:=.seq vs.toArray }) (hi:jT vs ns) (hl:ns.length<=aX) (hr:Room k jg)
  (F:∀ base:Heap,K.In base->base.Ns bc mg->BM mg base->(∀ q∈tabs,b7 base q.1 q.2)->FnOk P w K mg base CX0 k fa fd [x] sp) (a4:∀(s:af) (u:Value),kM s fd ⟨[u],[]⟩ [(x,u)])
  (d2:∀ H:Hp,(∀ q∈tabs,H q.2=aT (.tbl #[]))->SqL K H a (ns.map V.int)->(∀ u,H a=aT u->(∃ o xs,u=.frz o (.J xs))\/∃ ps,u=.tbl ps)->sp [.ref a] H (λ v _=>v=.T ca) E0) :
  fv (model P w) jg (.call (.ref fa) ⟨[.ref a],[]⟩) (λ r s'=>r=.ok (.ret (.bool ca))/\OldK J.heap s'.heap/\s'.os=J.os/\fX s'.gens) J:=by
 have rv:=aq0 hi;have b9:=hi.length;have Y:∀ b,b∈tabs.map (·.2)->J.heap.get? b=aT (i8 #[]):=λ b h=>by
  obtain⟨q,hq,rfl⟩:=aS.mp h;exact(hT q hq).2
 have a2:∀ H:Hp,(∀ b u,H b=aT u->(b=a/\∃ o xs,u=.frz o (.J xs))\/(b∈tabs.map (·.2)/\u=.tbl #[]))->(∀ q∈tabs,H q.2=aT (.tbl #[]))->SqL K H a (ns.map V.int)->HOk P w H J.heap->(H a≠bY->K.lookup a=bY) ->
   fv (model P w) jg (.call (.ref fa) ⟨[.ref a],[]⟩) (λ r s'=>r=.ok (.ret (.bool ca))/\OldK J.heap s'.heap/\s'.os=J.os/\fX s'.gens) J:=by
  intro H hO c2 hS hok hK;have un:∀ b o,J.heap.get? b=aT o->o.cls≠.type "list"->(∀ vs,o.data≠.fields vs)->H b=none:=λ b o e n1 n2=>by
   cases q:H b with
   | none=>rfl
   | some u =>
    rcases hO b u q with⟨z,_⟩|⟨z,_⟩
    .rw[z,ha]at e;cases e;exact nc rfl n1
    .rw[Y b z]at e;cases e;exact nc rfl (n2 #[])
  have a0:∀ {b:Addr} {m:yD},J.heap.Ns b m->(bk2 J.heap H).Ns b m:=λ {b m} ⟨o,es,ep,e,d,r⟩=>by
   refine⟨o,es,ep,am8 e ?_,d,r⟩;cases q:H b with
   | none=>rfl
   | some u =>
    rcases hO b u q with⟨z,_⟩|⟨z,_⟩
    .rw[z,ha]at e;cases e;cases d
    .rw[Y b z]at e;cases e;cases d
  have c1:K.In (bk2 J.heap H):=λ b o e=>am8 (KX b o e) (by
   cases q:H b with
   | none=>rfl
   | some u =>
    rcases hO b u q with⟨z,_⟩|⟨z,_⟩
    .subst z;rw[hK (by rw[q];simp)]at e;cases e
    .have e2:=KX b o e;rw[Y b z]at e2;have h2:=aA.mp d0 (b,o) (PySem.W.mem_of_lookupK e);have e3:o=i8 #[]:=(aM e2).symm;subst e3;exact nc (show dr=ca from h2) aF)
  have hM:Mod K mg (bk2 J.heap H):=⟨c1,a0 c0,⟨mb,a0 hb,c3⟩,let⟨mc,h1,h2⟩:=b0;⟨mc,a0 h1,h2⟩⟩
  have c7:BM mg (bk2 J.heap H):=by
   obtain⟨bm,ob,b1,b2,b3,b4,b5,b6⟩:=c4;exact⟨bm,ob,b1,b2,am8 b3 (un bm ob b3 (by rw[b4];nofun) (by rw[b6];nofun)),b4,b5,b6⟩
  have c6:∀ q∈tabs,b7 (bk2 J.heap H) q.1 q.2:=λ q hq=>by
   obtain⟨o,c5,a6,tf,a3,tg,d1,text,tt,e1,r1,r2⟩:=(hT q hq).1;refine⟨o,c5,a6,tf,a3,tg,d1,text,tt,am8 e1 ?_,r1,r2⟩;cases q2:H q.1 with
   | none=>rfl
   | some u =>
    rcases hO _ u q2 with⟨z,_⟩|⟨z,_⟩
    .rw[z,ha]at e1;cases e1;exact nc r1 (by simp)
    .rw[Y _ z]at e1;cases e1;exact nc r1 (by simp)
  have e0:Env0 P w K mg (bk2 J.heap H) jg [] J H:=⟨rfl,hM,λ b o e=>bF7 e,lV (ba7 _ _),trivial,λ b hb=>nc (show b∈([]:List Addr)from hb) (by simp),hok,.of_eq hg⟩
  refine fY ((F _ c1 (a0 c0) c7 c6).run jg [] J H ⟨[.ref a],[]⟩ [.ref a] [.ref a] _ _ hr e0 (a4 J (.ref a)) (.cons rfl .nil) (d2 H c2 hS (λ u e=>(hO a u e).elim (λ z=>.inl z.2) (λ z=>.inr ⟨_,z.2⟩)))) λ r s' h=>?_;cases r with
  | error e=>exact bn h
  | ok fl =>
   cases fl with
   | next=>exact bn h
   | brk=>exact bn h
   | cont=>exact bn h
   | ret u =>
    obtain⟨v,H',os,bare,a5,a1,r',q⟩:=h;have q':v=.T true:=q;subst q';obtain rfl:u=Value.bool true:=r';have key:∀ b o,J.heap.get? b=aT o->asItWas J.heap s'.heap b o/\∃ o',s'.heap.get? b=aT o':=λ b o e=>by
     cases q:H b with
     | none =>
      have z:=a5.keep b o e q (by intro z;exact nc (show b∈([]:List Addr)from z) (by simp)) (by simp);exact⟨.inl z,o,z⟩
     | some u =>
      rcases hO b u q with⟨_,ob,xs,z⟩|⟨z,z2⟩
      .subst z;have z2:=a5.frzs b ob _ q;obtain⟨e1,_⟩:=hok b _ q;obtain⟨e2,_⟩:=a1 b _ z2;rw[e]at e1;cases e1;exact⟨.inl e2,_,e2⟩
      .subst z2;obtain⟨more,z3⟩:=a5.tbls b _ q;have g:s'.heap.get? b=aT { cls:=.none,data:=.fields (#[]++more) }:=a1 b _ z3;have e1:=Y b z;rw[e]at e1;cases e1;obtain⟨p,hp,ep⟩:=aS.mp z;refine⟨.inr (.inl ⟨?_,rfl,#[],more,rfl,g⟩),_,g⟩;have t:=((hT p hp).1.tab (hT p hp).2).isCodeTable;rw[ep]at t;exact t
    exact⟨rfl,⟨λ b o e=>(key b o e).1,λ b o e=>(key b o e).2⟩,os,bare⟩
 have tbl:∀ b,b∈tabs.map (·.2)->b≠a:=λ b h z=>by
  have e:=Y b h;rw[z,ha]at e;cases e
 cases hk:K.lookup a with
 | some o =>
  have e:=KX a o hk;rw[ha]at e;cases e;refine a2 (λ b=>if b∈tabs.map (·.2)then aT (.tbl #[])else bY) (λ b u z=>?_) (λ q hq=>ij (bL hq)) (.inr ⟨_,vs.toArray,_,hk,rfl,rfl,rfl,by rw[ay,b9];exact hl,by simpa using rv⟩) (λ b u z=>?_) λ z=>?_
  .by_cases hb:b∈tabs.map (·.2)
   .have Z:=(ij hb).symm.trans z;cases Z;exact .inr ⟨hb,rfl⟩
   .have Z:=(iF hb).symm.trans z;cases Z
  .by_cases hb:b∈tabs.map (·.2)
   .have Z:=(ij hb).symm.trans z;cases Z;exact Y b hb
   .have Z:=(iF hb).symm.trans z;cases Z
  .exact nc (iF λ y=>tbl a y rfl) z
 | none =>
  refine a2 (λ b=>if b=a then aT (.frz { cls:=.type "list",data:=.seq vs.toArray } (.J (ns.map V.int)))else if b∈tabs.map (·.2)then aT (.tbl #[])else bY) (λ b u z=>?_) (λ q hq=>?_) (.inl (.inr ⟨{ cls:=.type "list",data:=.seq vs.toArray },ij rfl⟩)) (λ b u z=>?_) λ _=>hk
  .by_cases hb:b=a
   .have Z:=(ij hb).symm.trans z;cases Z;exact .inl ⟨hb,_,_,rfl⟩
   .have Z:=(iF hb).symm.trans z;by_cases hc:b∈tabs.map (·.2)
    .rw[ij hc]at Z;cases Z;exact .inr ⟨hc,rfl⟩
    .rw[iF hc]at Z;cases Z
  .have hm:q.2∈tabs.map (·.2):=bL hq;show(if _ then _ else if _ then _ else _)=_;rw[iF (tbl _ hm),ij hm]
  .by_cases hb:b=a
   .have Z:=(ij hb).symm.trans z;cases Z;subst hb;exact⟨ha,by rw[aq];exact hl,vs,_,rv,ha⟩
   .have Z:=(iF hb).symm.trans z;by_cases hc:b∈tabs.map (·.2)
    .rw[ij hc]at Z;cases Z;exact Y b hc
    .rw[iF hc]at Z;cases Z
def bf1 {l:dL}{loose:yI}{K:Params->ae}{sp:ae->Sp} names 
  (hn:l.most=aT n) (a4:n<=aX) (b1:d.params.defaults=[]) (hr:Room k jg)
  (hY:∀(w:World) (h:Heap),YP w h->(K w.params).In h/\∀ P∈ts,h.get? P=aT (i8 #[])) (a2:∀ w:World,ce4 (K w.params) names ts=ca) (a5:∀ w:World,lc (K w.params)=ca)
  (F:∀(w:World) (Z:yD) (fa:Addr) (h:Heap),(K w.params).In h->h.Ns bc Z->Z d.name=aT (.ref fa) ->
   ∃ fd:bX,(∀(s:af) (u:Value),kM s fd ⟨[u],[]⟩ [(x,u)]) /\
    ∀ base:Heap,(K w.params).In base->base.Ns bc Z->BM Z base->bA5 (K w.params) names base->FnOk l.prog w (K w.params) Z base CX0 k fa fd [x] (sp (K w.params)))
  (b0:∀(K:ae) (H:Hp) (a:Addr) (ns:List Int),ns.length<=n->bM5 K names H->SqL K H a (ns.map V.int)->(∀ u,H a=aT u->(∃ o xs,u=.frz o (.J xs))\/∃ ps,u=.tbl ps)->sp K [.ref a] H (λ v _=>v=.T ca) E0) :
  lv q loose XP YP l.row.toRowW d [] (λ f vs=>kO f vs):=by
 refine Att.attach_call hn b1 λ w s₀ s₁ Z mb fa o pm cd b2 a vs ns G Y ho hd b3 a3 a1 a0 J hg=>?_;obtain⟨KX,a6⟩:=hY w _ Y;obtain⟨fd,hb,hF⟩:=F w Z fa _ KX G.T.g a3;have hT:lb ((aE7 (K w.params) names).map (·.2)) s₁.heap:=λ p hp=>by
  obtain⟨y,hy,rfl⟩:=aS.mp hp;obtain⟨h1,h2⟩:=at9.mp hy;have z:=aA.mp (a2 w) y.1 h1;rw[h2]at z;have z':(kj (K w.params) y.2.1 y.2.2&&ts.contains y.2.2)=true:=z;rw[aj]at z';exact⟨PySem.W.codeHd_of_K KX z'.1,a6 _ (by simpa using z'.2)⟩
 have hm:∀ x∈names,∀ c P,bC (K w.params) x=aT (c,P)->(c,P)∈(aE7 (K w.params) names).map (·.2):=λ x hx c P e=>aS.mpr ⟨(x,c,P),at9.mpr ⟨hx,e⟩,rfl⟩;refine aT7 (tabs:=(aE7 (K w.params) names).map (·.2)) KX G.T.g G.T.b G.T.builtins G.T.nolimit hg ?_ hT (a5 w) a1 a0 (ak J a4) hr (λ base k1 k2 k3 k4=>hF base k1 k2 k3 λ x hx c P e=>k4 _ (hm x hx c P e)) hb λ H hO hS hF=>b0 (K w.params) H a ns J (λ x hx c P e=>hO _ (hm x hx c P e)) hS hF;obtain⟨bm,ob,h1,h2,h3,h4,h5,h6⟩:=G.T.bmain;exact⟨bm,ob,h1,h2,h3,h4,h5,h6⟩
def spB (names:yI)(K:ae):Sp:=λ vs H Q _=>∃(a:Addr) (ns:List Int),vs=[.ref a]/\SqF K H a (ns.map V.int)/\ns.length<=63/\bM5 K names H/\∀ H',Q (.T ca) H'
def bU5 {K}{ns:List Int}(hl:ns.length<=63)(Z:bM5 K names H)(J:SqL K H a (ns.map V.int))(Y:∀ u,H a=aT u->(∃ o xs,u=.frz o (.J xs))\/∃ ps,u=.tbl ps):spB names K [.ref a] H (λ v _=>v=.T ca) E0:=by
 refine⟨a,ns,rfl,⟨J,λ H' k=>?_⟩,hl,Z,λ _=>rfl⟩;rcases J with(h|⟨o,h⟩)|h
 .rcases Y _ h with⟨_,_,z⟩|⟨_,z⟩<;>cases z
 .exact .inl (.inr ⟨o,k _ _ h rfl⟩)
 .exact .inr h
def ct1 (P:nk):String->LamI->Prop:=λ _ _=>False
noncomputable def sfx (x:Str):Str:=if x = "letter_table" then "least_fee" else "<lambda>"
def bC8 (names:yI)(K:ae):List (Addr×Str):=names.map λ x=>(((bC K x).getD (0,0)).2,x ++ ".<locals>."++sfx x)
noncomputable def bY0 (names:yI)(K:ae):List (Addr×Addr):=names.map λ x=>(bC K x).getD (0,0)
noncomputable def cm3 (K:ae)(f:String):Option Addr:=match bM K bc (f)with
 | some (aT (.ref a))=>(match K.lookup a with
  | some ⟨_,_,.func _,_⟩=>aT a
  | _=>bY)
 | _=>bY
set_option tactic.hygienic true in
def aP5 {K}(h:cm3 K f=aT a):bM K bc (f)=aT (aT (.ref a))/\∃ oc od z sl,K.lookup a=aT ⟨oc,od,.func z,sl⟩:=by
 unfold cm3 at h;split at h
 .rename_i J e;split at h
  .rename_i oc od z sl e2;cases h;exact⟨e,_,_,_,_,e2⟩
  .cases h
 .cases h
noncomputable def bh7 (P:nk)(K:ae)(c:String):Option Addr:=match P.mt c "__init__" with
 | some _=>(match bM K bc (c)with|some (aT (.ref Cc))=>aT Cc|_=>bY)
 | none=>bY
abbrev aW2 (names:yI)(P:nk)(K:ae):Gm:=⟨K,cm3 K,ct1 P,bC8 names K,bh7 P K⟩
def ck5 {K}{z:yD}(X:K.In h)(G:h.Ns bc z):∀ f a ,(aW2 names P K).fa f=aT a->z (f)=aT (.ref a)/\∃ oc od J sl,(aW2 names P K).K.lookup a=aT ⟨oc,od,.func J,sl⟩:=λ f a e=>⟨cz X G (aP5 e).1,(aP5 e).2⟩
def bq1 {K}(ht:∀ x∈names,(bC K x).isSome=ca)(q:spB names K vs H Q E):spT (aW2 names P K) vs H Q E:=by
 obtain⟨a,ns,e,Z,Y,J,z⟩:=q;refine⟨a,ns,e,Z,Y,TabsH.init λ p hp=>?_,z⟩;simp only[bC8,cU]at hp;obtain⟨x,hx,rfl⟩:=aS.mp hp;exact J x hx _ _ (aL0 (ht x hx))
def bx1 {K}(ht:∀ x∈names,(bC K x).isSome=ca)(J:BM z base)(hc:bA5 K names base):∀ y∈bY0 names K,b7 base y.1 y.2/\BM z base:=λ y hy=>by
 obtain⟨x,hx,rfl⟩:=aS.mp hy;exact⟨hc x hx _ _ (aL0 (ht x hx)),J⟩
noncomputable def cb4 (ps fr:yI)(sc:Scope):Bool:=decide (sc.kind=.function)&&!sc.isCoroutine&&!sc.isGenerator&&decide ((ps++fr).Nodup)&&(ps.all λ x=>decide (sc.names.lookup x=aT .local)||decide (sc.names.lookup x=aT .cell))&&(fr.all λ x=>decide (sc.names.lookup x=aT .free))&&(sc.names.all λ y=>!decide (y.2=.cell)||decide (sc.names.lookup y.1=aT .cell))
noncomputable def ch5 (scope sc:Scope):Bool:=scope.names.all λ y=>!decide (scope.names.lookup y.1=aT .free)||decide (sc.names.lookup y.1=aT .cell)
def lkB (sc:Scope)(N:yI)(caps:List Nat)(params:d8)(body:Expr)(scope:Scope)(t:DV.Lm×List Str×List Str):Bool :=
 decide (bB0 params=aT t.2.1)&&decide (caps.map (λ j=>N[j]?)=t.2.2.map aT)&&bl0 scope sc&&ch5 scope sc&&cb4 t.2.1 t.2.2 scope&&decide (t.2.1.length=t.1.ps)&&decide (t.2.2.length=t.1.cs)&&mE (ck0 (t.2.1++t.2.2) scope) t.1.body body
def aW3 {K}:bv4 (aW2 names P K) (bY0 names K) f sc N z (λ _ _ _=>dr):=λ _ _ _ h=>by cases h
def cg5 (K:ae)(n:Str)(st:Stmt):Prop:=∃(f:Addr) (od an:yJ) (sl:yF) (oc kV dc pm cd ct:Value),bM K bc n=aT (aT (.ref f)) /\
 K.lookup f=aT ⟨oc,od,.func (cQ n n (defArgs st) (defBody st) (defScope st) .none kV dc pm an cd ct),sl⟩/\eZ K cd n=ca/\bF K (.ref f)=ca
def co5 (n:Str)(st:Stmt)(ps:yI):Prop:=∀ kV doc pm (an:yJ) cdv ct (us:yH),us.length=ps.length->kU (cQ n n (defArgs st) (defBody st) (defScope st) .none kV doc pm an cdv ct) ⟨us,[]⟩=pure (ps.zip us)
def bd0 {Q:List Value->Prop}(h:Q [])(us:yH)(z:us.length=0):Q us:=by
 cases us with
 | nil=>exact h
 | cons _ _=>cases z
def bdS {Q:List Value->Prop}(h:∀ a us,us.length=k->Q (a::us))(us:yH)(z:us.length=k+1):Q us:=by
 cases us with
 | nil=>cases z
 | cons a us=>exact h a us (Nat.succ.inj z)
def bd1 {Q:List Value->Prop}(h:∀ a,Q [a]):∀ us:List Value,us.length=1->Q us:=bdS λ a=>bd0 (h a)
def bd2 {Q:List Value->Prop}(h:∀ a b,Q [a,b]):∀ us:List Value,us.length=2->Q us:=bdS λ a=>bd1 (h a)
def bd3 {Q:List Value->Prop}(h:∀ a b c,Q [a,b,c]):∀ us:List Value,us.length=3->Q us:=bdS λ a=>bd2 (h a)
def bd4 {Q:List Value->Prop}(h:∀ a b c d,Q [a,b,c,d]):∀ us:List Value,us.length=4->Q us:=bdS λ a=>bd3 (h a)
def DTB (names:yI)(P:nk)(n:String)(pc vc:Nat)(m:Ck->List Stmt->Bool)(st:Stmt):Prop:=∃ N ps,FnScope N ps (defScope st)/\ps.length=pc/\N.length=pc+vc/\co5 n st ps/\(m ⟨N,defScope st,λ _ _ _=>dr⟩ (defBody st)=ca \/
 False)
def DT (names:yI)(P:nk)(n:String)(d:nN)(st:Stmt):Prop:=DTB names P n d.ps d.vs (λ ck S=>mSs ck d.body S) st
def ai5 {names:yI}{P:nk}{K:ae}{h:Heap}{J:yD}{n:String}{Y Z:Nat}{m:Ck->List Stmt->Bool}{st:Stmt}(X:K.In h)(G:h.Ns bc J)(hT:∀ x∈names,(bC K x).isSome=ca)(hD:cg5 K n st)(hd:DTB names P n Y Z m st):GoodB (aW2 names P K) (bY0 names K) J n Y Z m:=by
 obtain⟨f,od,an,sl,oc,kV,dc,pm,cd,ct,a,l,c,k⟩:=hD;obtain⟨N,ps,h1,h2,h3,h4,z⟩:=hd;have F:=be4 (st:=st) l c k;have D:DefAt K J n st ps f _:=⟨F,cz X G a,F.binds h4⟩
 rcases z with z|z
 .exact⟨_,_,_,_,_,_,D,h1,h2,h3,z,aW3⟩
 .exact z.elim
def good_of {K}{z}{n:String}{st}(X:K.In h)(G:h.Ns bc z)(hT:∀ x∈names,(bC K x).isSome=ca)(hD:cg5 K n st)(hd:DT names P n d st):Good (aW2 names P K) (bY0 names K) z n d:=ai5 X G hT hD hd
theorem aF8 {α:Type}{Q:String->α->Prop}:∀ {tbl:List (String×α)},(∀ p∈tbl,Q p.1 p.2)->∀ f d,tbl.lookup f=aT d->Q f d
 | [],_,f,d,h=>by cases h
 | (g,e)::tbl,H,f,d,h=>by
  rw[a9]at h;cases q:f==g with
  | true =>
   rw[q]at h;cases h;rw[ll q];exact H (g,_) (ao ..)
  | false =>
   rw[q]at h;exact aF8 (λ p hp=>H p (ah _ hp)) f d h
def cq4 (K:ae)(c:String):Bool:=match bM K bc (c)with|some (aT (.ref Cc))=>cj9 K Cc&&(excI K Cc&&(bU K (.ref Cc) (.ref Cc)==aT ca&&(bo K (.ref Cc) (.type "ValueError")==aT ca&&bM K bc ("ValueError")==aT bY)))|_=>dr
noncomputable def cn8 (K:ae)(c:String):Bool:=match bM K bc (c)with|some (aT (.ref _))=>ca|_=>dr
noncomputable def cn5 (K:ae)(c d:String):Bool:=match bM K bc (c),bM K bc (d)with|some (aT (.ref Cc)),aT (aT (.ref D))=>bo K (.ref Cc) (.ref D)==aT (mZ c d)&&bU K (.ref Cc) (.ref D)==aT (mZ c d)|_,_=>dr
def bI0 (K:ae)(cs ts:List String):Bool:=cs.all (cq4 K)&&(ts.all (cn8 K)&&cs.all λ c=>ts.all λ d=>cn5 K c d)
set_option tactic.hygienic true in
def ap1 {K:ae}{z:yD}(X:K.In h)(G:h.Ns bc z)(hx:bI0 K J ts=ca) :
  (∀ c:String,J.contains c=ca->∃ Cc,z (c:Str)=aT (.ref Cc)/\ExcCls K Cc/\excI K Cc=ca)/\(∀ c:String,ts.contains c=ca->∃ Cc,z (c:Str)=aT (.ref Cc)) /\
  (∀(c d:String) (Cc D:Addr),J.contains c=ca->ts.contains d=ca->z (c:Str)=aT (.ref Cc)->z (d:Str)=aT (.ref D)->bo K (.ref Cc) (.ref D)=aT (mZ c d)) /\
  (∀(c d:String) (Cc D:Addr),J.contains c=ca->ts.contains d=ca->z (c:Str)=aT (.ref Cc)->z (d:Str)=aT (.ref D)->bU K (.ref Cc) (.ref D)=aT (mZ c d)) /\
  (∀(c:String) (Cc:Addr),J.contains c=ca->z (c:Str)=aT (.ref Cc)->bU K (.ref Cc) (.ref Cc)=aT ca)/\(∀ c:String,J.contains c=ca->z ("ValueError":Str)=bY) /\
  ∀(c:String) (Cc:Addr),J.contains c=ca->z (c:Str)=aT (.ref Cc)->bo K (.ref Cc) (.type "ValueError")=aT true:=by
 unfold bI0 at hx;simp only[aj]at hx;obtain⟨h1,h2,h3⟩:=hx;have one:∀ c:String,J.contains c=ca->∃ Cc,z (c:Str)=aT (.ref Cc)/\ExcCls K Cc/\excI K Cc=ca/\bU K (.ref Cc) (.ref Cc)=aT ca/\bo K (.ref Cc) (.type "ValueError")=aT ca/\z ("ValueError":Str)=none:=λ c hc=>by
  have q:=aA.mp h1 c (di.mp hc);unfold cq4 at q;split at q
  .rename_i Cc e;rw[aj,aj,aj,aj]at q;exact⟨Cc,cz X G e,bJ0 q.1,q.2.1,ll q.2.2.1,ll q.2.2.2.1,jJ X G (ll q.2.2.2.2)⟩
  .cases q
 have two:∀(c d:String) (Cc D:Addr),J.contains c=ca->ts.contains d=ca->z (c:Str)=aT (.ref Cc)->z (d:Str)=aT (.ref D)->bo K (.ref Cc) (.ref D)=aT (mZ c d)/\bU K (.ref Cc) (.ref D)=aT (mZ c d):=λ c d Cc D hc hd mc md=>by
  have q:=aA.mp (aA.mp h3 c (di.mp hc)) d (di.mp hd);unfold cn5 at q;split at q
  .rename_i Y D' e1 e2;have m1:=cz X G e1;have Z:=cz X G e2;rw[mc]at m1;cases m1;rw[md]at Z;cases Z;rw[aj]at q;exact⟨ll q.1,ll q.2⟩
  .cases q
 refine⟨λ c hc=>?_,λ c hc=>?_,λ c d Cc D a b e f=>(two c d Cc D a b e f).1,λ c d Cc D a b e f=>(two c d Cc D a b e f).2,λ c Cc hc hm=>?_,λ c hc=>?_,λ c Cc hc hm=>?_⟩
 .obtain⟨Cc,a,b,e,_⟩:=one c hc;exact⟨Cc,a,b,e⟩
 .have q:=aA.mp h2 c (di.mp hc);unfold cn8 at q;split at q
  .rename_i Cc e;exact⟨Cc,cz X G e⟩
  .cases q
 .obtain⟨Y,a,_,_,b,_⟩:=one c hc;rw[hm]at a;cases a;exact b
 .obtain⟨Y,_,_,_,_,_,b⟩:=one c hc;exact b
 .obtain⟨Y,a,_,_,_,b,_⟩:=one c hc;rw[hm]at a;cases a;exact b
def co1 (K:ae)(c m:String)(st:Stmt):Prop:=∃(f Cc:Addr) (od an:yJ) (sl:yF) (oc kV dc pm cd ct:Value),bM K bc (c)=aT (aT (.ref Cc))/\bh K (.ref Cc) (m)=aT (aT (.ref f)) /\
 K.lookup f=aT ⟨oc,od,.func (cQ (m) ((c ++ "."++m:String)) (defArgs st) (defBody st) (defScope st) .none kV dc pm an cd ct),sl⟩/\eZ K cd ((c ++ "."++m:String))=ca/\bF K (.ref f)=ca/\hZ K (.ref f)=ca
def cl2 (x q:Str)(st:Stmt)(ps:yI):Prop:=∀ kV doc pm (an:yJ) cdv ct (us:yH),us.length=ps.length->kU (cQ x q (defArgs st) (defBody st) (defScope st) .none kV doc pm an cdv ct) ⟨us,[]⟩=pure (ps.zip us)
def DTM (c m:String)(d:nN)(st:Stmt):Prop:=∃ N ps,FnScope N ps (defScope st)/\ps.length=d.ps/\N.length=d.ps+d.vs/\cl2 (m:Str) ((c ++ "."++m:String):Str) st ps/\mSs ⟨N,defScope st,λ _ _ _=>dr⟩ d.body (defBody st)=ca
noncomputable def cn9 (K:ae)(Cc:Addr)(f:List Nat):Bool:=match bh K (.ref Cc) ⟨f.toArray⟩with|some bY=>ca|_=>dr
noncomputable def saB (K:ae)(Cc:Addr):Bool:=match bh K (.ref Cc) "__setattr__" with|some (aT (.builtin x))=>x == "object.__setattr__" | _=>dr
def bP8 (K:ae)(c:String)(fs:List (List Nat)):Bool:=match bM K bc (c)with
 | some (aT (.ref Cc))=>d7 K Cc Str.empty&&(eW K Cc&&(gv K Cc&&(saB K Cc&&(dN K Cc&&(bF K (.ref Cc)&&fs.all (cn9 K Cc))))))
 | _=>dr
set_option tactic.hygienic true
def aG8 {K}(h:bP8 K c fs=ca):∃ Cc,bM K bc (c)=aT (aT (.ref Cc))/\Cls K Cc/\dN K Cc=ca/\bF K (.ref Cc)=ca/\∀ f∈fs,NoAttr K Cc ⟨f.toArray⟩:=by
 unfold bP8 at h;split at h
 .rename_i Cc e;simp only[aj]at h;obtain⟨J,Y,h3,h4,z,h6,h7⟩:=h;refine⟨Cc,e,⟨J,Y,h3,?_⟩,z,h6,λ f Z=>?_⟩
  .unfold saB at h4;split at h4
   .rename_i x e2;rw[e2,ll h4]
   .cases h4
  .have:=aA.mp h7 f Z;unfold cn9 at this;split at this
   .rename_i e2;exact e2
   .cases this
 .cases h
theorem qQ {α β:Type}[BEq α][LawfulBEq α]:∀ {tbl:List (α×β)} {a} {b},tbl.lookup a=aT b->(a,b)∈tbl
 | [],_,_,h=>by cases h
 | (g,e)::tbl,a,b,h=>by
  rw[a9]at h;cases q:a==g with
  | true=>rw[q]at h;cases h;rw[ll q];exact ao ..
  | false=>rw[q]at h;exact ah _ (qQ h)
def bW5 {K:ae}{mg:yD}{mtb:List ((String×String)×nN×Stmt)}{obt:List (String×List (List Nat))}(X:K.In h)(G:h.Ns bc mg)
  (e1:∀ c m,P.mt c m=(mtb.lookup (c,m)).map (·.1)) (e2:∀ c f,P.att c f=(obt.lookup c).any λ l=>l.contains f) (hO:(obt.all λ p=>bP8 K p.1 p.2)=ca) (hc:(mtb.all λ p=>(obt.lookup p.1.1).isSome&&(mtb.lookup (p.1.1, "__init__")).isSome)=ca)
  (hM:∀ p∈mtb,co1 K p.1.1 p.1.2 p.2.2) (hT:∀ p∈mtb,DTM p.1.1 p.1.2 p.2.1 p.2.2) :
  (∀ c m d,P.mt c m=aT d->GoodM (aW2 names P K) c m d)/\(∀(c:String) (f:List Nat) (Cc:Addr),P.att c f=ca->(aW2 names P K).cls c=aT Cc->NoAttr K Cc ⟨f.toArray⟩) /\
  ∀(c:String) (Cc:Addr),(aW2 names P K).cls c=aT Cc->mg (c:Str)=aT (.ref Cc)/\dN K Cc=ca/\bF K (.ref Cc)=true:=by
 have ns:∀ {c:String} {Cc:Addr},(aW2 names P K).cls c=aT Cc->bM K bc (c:Str)=aT (aT (.ref Cc))/\(P.mt c "__init__").isSome=true:=λ {c Cc} e=>by
  have e:bh7 P K c=aT Cc:=e;unfold bh7 at e;split at e
  .rename_i d hd;split at e
   .rename_i Cc' hn;cases e;exact⟨hn,by rw[hd];rfl⟩
   .cases e
  .cases e
 have at_:∀ {c:String} {l:List (List Nat)},obt.lookup c=aT l->bP8 K c l=true:=λ {c l} e=>aA.mp hO _ (qQ e);have ob:∀ {c m:String} {p:nN×Stmt},mtb.lookup (c,m)=aT p->∃ l,obt.lookup c=aT l:=λ {c m p} e=>by
  have:=aA.mp hc _ (qQ e);rw[aj]at this;exact cG.mp this.1
 refine⟨λ c m d e=>?_,λ c f Cc e q=>?_,λ c Cc q=>?_⟩
 .rw[e1]at e;obtain⟨p,hp,rfl⟩:=b8.mp e;obtain⟨l,J⟩:=ob hp;obtain⟨Cc,z,n2,_⟩:=aG8 (at_ J);obtain⟨f,Cc',od,an,sl,oc,kV,dc,pm,cd,ct,a1,a2,a3,a4,a5,a6⟩:=hM _ (qQ hp);rw[z]at a1;cases a1;obtain⟨N,ps,b1,b2,b3,b4,b5⟩:=hT _ (qQ hp);have F:=be4 (st:=p.2) a3 a4 a5;have Y:=aA.mp hc _ (qQ hp);rw[aj]at Y;have hcl:bh7 P K c=aT Cc:=by
   unfold bh7;obtain⟨p0,Z⟩:=cG.mp Y.2;rw[e1,show mtb.lookup (c, "__init__")=aT p0 from Z,cO];show(match bM K bc (c:Str)with|some (aT (.ref Cc))=>aT Cc|_=>bY)=aT Cc;rw[z]
  exact⟨p.2,N,ps,f,_,Cc,⟨hcl,n2⟩,⟨a2,a6,a5⟩,F,F.binds b4,b1,b2,b3,b5⟩
 .rw[e2]at e;cases J:obt.lookup c with
  | none=>rw[J]at e;cases e
  | some l =>
   rw[J]at e;obtain⟨Cc',z,_,_,_,n5⟩:=aG8 (at_ J);rw[(ns q).1]at z;cases z;exact n5 f (di.mp e)
 .obtain⟨n0,Y⟩:=ns q;rw[e1]at Y;obtain⟨d,hd⟩:=cG.mp Y;obtain⟨p,hp,_⟩:=b8.mp hd;obtain⟨l,J⟩:=ob hp;obtain⟨Cc',z,_,n3,n4,_⟩:=aG8 (at_ J);rw[n0]at z;cases z;exact⟨cz X G n0,n3,n4⟩
set_option tactic.hygienic false
end L2
end
noncomputable section
namespace DV
noncomputable def ay0:Df:=⟨"_law_bag",2,3,(.cons (.A (.Y 2) (.K (.int 0))) (.cons (.ite (.Z .lt (.X 1) (.bi .len (.cons (.X 0) .nil))) (.cons (.A (.Y 2) (.bi .abs (.cons (.ix (.X 0) (.X 1)) .nil))) .nil) .nil) (.cons (.A (.Y 3) (.G .add (.G .mul (.K (.int 7919)) (.X 1)) (.K (.int 17)))) (.cons (.fo (.Y 4) (.rg (.bi .min2 (.cons (.bi .len (.cons (.X 0) .nil)) (.cons (.K (.int 60)) .nil)))) (.cons (.A (.Y 3) (.G .mod (.G .add (.G .add (.G .mul (.X 3) (.K (.int 48271))) (.G .mod (.ix (.X 0) (.X 4)) (.K (.int 2147483647)))) (.X 4)) (.K (.int 2147483629)))) .nil)) (.cons (.ite (.Z .lt (.X 2) (.G .pow (.K (.int 10)) (.K (.int 18)))) (.cons (.A (.Y 2) (.K (.int 0))) .nil) .nil) (.cons (.ret (.J (.cons (.X 2) (.cons (.X 3) .nil)))) .nil))))))⟩
noncomputable def ad4:Df:=⟨"_law_take",2,3,(.cons (.ite (.Z .gt (.ix (.X 0) (.K (.int 0))) (.K (.int 0))) (.cons (.A (.Y 2) (.G .mod (.ix (.X 0) (.K (.int 0))) (.X 1))) (.cons (.setIx (.X 0) (.K (.int 0)) (.G .fdiv (.ix (.X 0) (.K (.int 0))) (.X 1))) (.cons (.ret (.X 2)) .nil))) .nil) (.cons (.A (.Y 3) (.K (.int 0))) (.cons (.A (.Y 4) (.K (.int 1))) (.cons (.whl (.Z .lt (.X 4) (.X 1)) (.cons (.setIx (.X 0) (.K (.int 1)) (.G .mod (.G .add (.G .mul (.ix (.X 0) (.K (.int 1))) (.K (.int 48271))) (.K (.int 7919))) (.K (.int 2147483647)))) (.cons (.A (.Y 3) (.G .add (.G .mul (.X 3) (.K (.int 1073741789))) (.G .mod (.G .mul (.G .fdiv (.ix (.X 0) (.K (.int 1))) (.K (.int 8))) (.K (.int 69621))) (.K (.int 1073741789))))) (.cons (.A (.Y 4) (.G .mul (.X 4) (.K (.int 1073741789)))) .nil)))) (.cons (.ret (.G .mod (.X 3) (.X 1))) .nil)))))⟩
noncomputable def al3:Df:=⟨"_law_word",3,2,(.cons (.A (.Y 3) (.K (.str []))) (.cons (.fo (.Y 4) (.rg (.call "_law_take" (.ex (.X 0) (.ex (.G .add (.X 2) (.K (.int 1))) .nil)))) (.cons (.A (.Y 3) (.G .add (.X 3) (.ix (.K (.str [97,98,99])) (.call "_law_take" (.ex (.X 0) (.ex (.X 1) .nil)))))) .nil)) (.cons (.ret (.X 3)) .nil)))⟩
noncomputable def bP1:Df:=⟨"grid",2,2,.nil⟩
noncomputable def at1:Df:=⟨"sign_product",2,1,.nil⟩
noncomputable def aj4:Lm:=⟨"sign_product.0",2,3,(.mk .min (.comp (.Y 0) (.rg (.X 2)) (.bi .max2 (.cons (.ix (.ix (.X 1) (.X 2)) (.X 0)) (.cons (.ix (.ix (.X 3) (.X 0)) (.X 4)) .nil))) [bY,aT 3,aT 0,aT 4,aT 1]))⟩
noncomputable def ab7:Df:=⟨"_law_whole",3,0,(.cons (.ret (.and (.bi .isInt (.cons (.X 0) .nil)) (.and (.not (.bi .isBool (.cons (.X 0) .nil))) (.chain .le .le (.X 1) (.X 0) (.X 2))))) .nil)⟩
noncomputable def ac6:Df:=⟨"_law_price",2,7,(.cons (.A (.Y 2) (.mk .list (.comp (.Y 0) (.rg (.ix (.X 0) (.K (.int 1)))) (.ix (.J (.cons (.K .N) (.cons (.K (.int 0)) .nil))) (.bi .int (.cons (.Z .isin (.X 0) (.ix (.X 1) (.K (.int 2)))) .nil))) [bY,aT 0]))) (.cons (.fo (.Y 3) (.seq (.X 1)) (.cons (.A (.Y 4) (.mk .list (.comp (.Y 0) (.seq (.X 2)) (.K .N) [bY]))) (.cons (.fo (.tp [5,6,7,8]) (.seq (.ix (.X 0) (.K (.int 4)))) (.cons (.ite (.and (.Z .eq (.X 6) (.X 3)) (.notN (.ix (.X 2) (.X 5)))) (.cons (.ite (.or (.isN (.ix (.X 4) (.X 7))) (.Z .lt (.G .add (.ix (.X 2) (.X 5)) (.X 8)) (.ix (.X 4) (.X 7)))) (.cons (.setIx (.X 4) (.X 7) (.G .add (.ix (.X 2) (.X 5)) (.X 8))) .nil) .nil) .nil) .nil) .nil)) (.cons (.A (.Y 2) (.X 4)) .nil)))) (.cons (.ret (.mkD .min (.compIf (.Y 0) (.seq (.ix (.X 0) (.K (.int 3)))) (.notN (.ix (.X 1) (.X 0))) (.ix (.X 1) (.X 0)) [bY,aT 2]) (.K .N))) .nil)))⟩
noncomputable def zD:Df:=⟨"_law_are_rooms",2,2,(.cons (.ite (.not (.bi .isTup (.cons (.X 0) .nil))) (.cons (.ret (.K (.T dr))) .nil) .nil) (.cons (.A (.Y 2) (.neg (.K (.int 1)))) (.cons (.fo (.Y 3) (.seq (.X 0)) (.cons (.ite (.not (.call "_law_whole" (.ex (.X 3) (.ex (.G .add (.X 2) (.K (.int 1))) (.ex (.G .sub (.X 1) (.K (.int 1))) .nil))))) (.cons (.ret (.K (.T dr))) .nil) .nil) (.cons (.A (.Y 2) (.X 3)) .nil))) (.cons (.ret (.K (.T ca))) .nil))))⟩
noncomputable def zF:Df:=⟨"_law_is_door",3,0,(.cons (.ite (.or (.not (.bi .isTup (.cons (.X 0) .nil))) (.or (.Z .ne (.bi .len (.cons (.X 0) .nil)) (.K (.int 4))) (.or (.not (.bi .isStr (.cons (.ix (.X 0) (.K (.int 1))) .nil))) (.Z .ne (.bi .len (.cons (.ix (.X 0) (.K (.int 1))) .nil)) (.K (.int 1)))))) (.cons (.ret (.K (.T dr))) .nil) .nil) (.cons (.ite (.or (.not (.call "_law_whole" (.ex (.ix (.X 0) (.K (.int 0))) (.ex (.K (.int 0)) (.ex (.G .sub (.X 2) (.K (.int 1))) .nil))))) (.not (.call "_law_whole" (.ex (.ix (.X 0) (.K (.int 2))) (.ex (.K (.int 0)) (.ex (.G .sub (.X 2) (.K (.int 1))) .nil)))))) (.cons (.ret (.K (.T dr))) .nil) .nil) (.cons (.ret (.and (.Z .isin (.ix (.X 0) (.K (.int 1))) (.slU (.K (.str [97,98,99])) (.X 1))) (.call "_law_whole" (.ex (.ix (.X 0) (.K (.int 3))) (.ex (.K (.int 0)) (.ex (.K (.int 3)) .nil)))))) .nil)))⟩
noncomputable def zw:Df:=⟨"_law_is_machine",2,0,(.cons (.ite (.or (.not (.bi .isTup (.cons (.X 0) .nil))) (.or (.Z .ne (.bi .len (.cons (.X 0) .nil)) (.K (.int 5))) (.not (.call "_law_whole" (.ex (.ix (.X 0) (.K (.int 0))) (.ex (.X 1) (.ex (.X 1) .nil))))))) (.cons (.ret (.K (.T dr))) .nil) .nil) (.cons (.ite (.or (.not (.call "_law_whole" (.ex (.ix (.X 0) (.K (.int 1))) (.ex (.K (.int 1)) (.ex (.K (.int 5)) .nil))))) (.or (.not (.bi .isTup (.cons (.ix (.X 0) (.K (.int 4))) .nil))) (.Z .gt (.bi .len (.cons (.ix (.X 0) (.K (.int 4))) .nil)) (.K (.int 75))))) (.cons (.ret (.K (.T dr))) .nil) .nil) (.cons (.ite (.or (.not (.call "_law_are_rooms" (.ex (.ix (.X 0) (.K (.int 2))) (.ex (.ix (.X 0) (.K (.int 1))) .nil)))) (.not (.call "_law_are_rooms" (.ex (.ix (.X 0) (.K (.int 3))) (.ex (.ix (.X 0) (.K (.int 1))) .nil))))) (.cons (.ret (.K (.T dr))) .nil) .nil) (.cons (.ret (.mk .all (.comp (.Y 0) (.seq (.ix (.X 0) (.K (.int 4)))) (.call "_law_is_door" (.ex (.X 0) (.ex (.X 1) (.ex (.ix (.X 2) (.K (.int 1))) .nil)))) [bY,aT 1,aT 0]))) .nil))))⟩
noncomputable def cr4:Df:=⟨"_law_on",3,5,(.cons (.A (.Y 3) (.mk .list (.comp (.Y 0) (.seq (.X 2)) (.K .N) [bY]))) (.cons (.fo (.tp [4,5,6,7]) (.seq (.ix (.X 0) (.K (.int 4)))) (.cons (.ite (.and (.Z .eq (.X 5) (.X 1)) (.notN (.ix (.X 2) (.X 4)))) (.cons (.ite (.or (.isN (.ix (.X 3) (.X 6))) (.Z .lt (.G .add (.ix (.X 2) (.X 4)) (.X 7)) (.ix (.X 3) (.X 6)))) (.cons (.setIx (.X 3) (.X 6) (.G .add (.ix (.X 2) (.X 4)) (.X 7))) .nil) .nil) .nil) .nil) .nil)) (.cons (.ret (.X 3)) .nil)))⟩
noncomputable def jc:Df:=⟨"_law_set",4,4,(.cons (.A (.Y 4) (.call "_law_take" (.ex (.X 0) (.ex (.K (.int 8)) .nil)))) (.cons (.ite (.or (.Z .eq (.X 1) (.K (.int 1))) (.or (.Z .lt (.X 2) (.K (.int 3))) (.Z .eq (.X 4) (.K (.int 0))))) (.cons (.A (.Y 5) (.call "_law_take" (.ex (.X 0) (.ex (.K (.int 4)) .nil)))) (.cons (.ite (.or (.Z .eq (.X 5) (.K (.int 3))) (.Z .eq (.ix (.X 3) (.K (.int 0))) (.K (.int 0)))) (.cons (.ret (.tp (.cons (.K (.str [110,111,116,104,105,110,103])) .nil))) .nil) .nil) (.cons (.setIx (.X 3) (.K (.int 0)) (.G .sub (.ix (.X 3) (.K (.int 0))) (.K (.int 1)))) (.cons (.ret (.tp (.cons (.K (.str [108,101,116,116,101,114])) (.cons (.ix (.K (.str [97,98,99])) (.X 5)) .nil)))) .nil)))) .nil) (.cons (.ite (.Z .lt (.X 4) (.K (.int 3))) (.cons (.ret (.tp (.cons (.K (.str [114,101,112,101,97,116])) (.cons (.call "_law_set" (.ex (.X 0) (.ex (.G .sub (.X 1) (.K (.int 1))) (.ex (.G .sub (.X 2) (.K (.int 1))) (.ex (.X 3) .nil))))) .nil)))) .nil) .nil) (.cons (.A (.Y 6) (.G .add (.K (.int 1)) (.call "_law_take" (.ex (.X 0) (.ex (.G .sub (.X 2) (.K (.int 2))) .nil))))) (.cons (.A (.Y 7) (.call "_law_set" (.ex (.X 0) (.ex (.G .sub (.X 1) (.K (.int 1))) (.ex (.X 6) (.ex (.X 3) .nil)))))) (.cons (.ret (.tp (.cons (.ix (.J (.cons (.K (.str [101,105,116,104,101,114])) (.cons (.K (.str [98,101,104,105,110,100])) .nil))) (.G .mod (.X 4) (.K (.int 2)))) (.cons (.X 7) (.cons (.call "_law_set" (.ex (.X 0) (.ex (.G .sub (.X 1) (.K (.int 1))) (.ex (.G .sub (.G .sub (.X 2) (.K (.int 1))) (.X 6)) (.ex (.X 3) .nil))))) .nil))))) .nil))))))⟩
noncomputable def ab1:Df:=⟨"rooms_for",1,2,(.cons (.A (.Y 1) (.new "Rooms" .nil)) (.cons (.A (.Y 2) (.mcall (.X 1) "lay" (.ex (.X 0) .nil))) (.cons (.ex (.mcall (.X 1) "link" (.ex (.J (.cons (.K (.int 0)) .nil)) (.ex (.ix (.X 2) (.K (.int 1))) .nil)))) (.cons (.setA (.X 1) [101,110,100,115] (.ite (.ix (.X 2) (.K (.int 0))) (.srt (.G .add (.J (.cons (.K (.int 0)) .nil)) (.ix (.X 2) (.K (.int 2))))) (.srt (.ix (.X 2) (.K (.int 2)))))) (.cons (.ret (.X 1)) .nil)))))⟩
noncomputable def aQ7:Df:=⟨"led_by",3,3,.nil⟩
noncomputable def aI9:Df:=⟨"ends_from",3,3,.nil⟩
noncomputable def ac3:Df:=⟨"_law_onward",2,2,(.cons (.A (.Y 2) (.K (.int 0))) (.cons (.whl (.Z .gt (.X 0) (.K (.int 0))) (.cons (.A (.Y 3) (.G .sub (.bitl (.X 0)) (.K (.int 1)))) (.cons (.A (.Y 2) (.G .bor (.X 2) (.ix (.X 1) (.X 3)))) (.cons (.A (.Y 0) (.G .sub (.X 0) (.G .shl (.K (.int 1)) (.X 3)))) .nil)))) (.cons (.ret (.X 2)) .nil)))⟩
noncomputable def ad8:Df:=⟨"_law_again",1,2,(.cons (.A (.Y 1) (.mk .list (.comp (.Y 0) (.rg (.bi .len (.cons (.X 0) .nil))) (.G .shl (.K (.int 1)) (.X 0)) [bY]))) (.cons (.fo (.Y 2) (.rngD (.G .sub (.bi .len (.cons (.X 0) .nil)) (.K (.int 1)))) (.cons (.setIx (.X 1) (.X 2) (.G .bor (.ix (.X 1) (.X 2)) (.call "_law_onward" (.ex (.G .shl (.G .shr (.ix (.X 0) (.X 2)) (.G .add (.X 2) (.K (.int 1)))) (.G .add (.X 2) (.K (.int 1)))) (.ex (.X 1) .nil))))) .nil)) (.cons (.ret (.X 1)) .nil)))⟩
noncomputable abbrev aL7:Ss:=.cons (.A (.Y 2) (.bi .len (.cons (.X 1) .nil))) (.cons (.ite (.Z .eq (.ix (.X 0) (.K (.int 0))) (.K (.str [108,101,116,116,101,114]))) (.cons (.ret (.mk .list (.comp (.Y 0) (.rg (.G .add (.X 2) (.K (.int 1)))) (.G .shl (.bi .int (.cons (.Z .eq (.slLU (.X 1) (.X 0) (.G .add (.X 0) (.K (.int 1)))) (.ix (.X 2) (.K (.int 1)))) .nil)) (.G .add (.X 0) (.K (.int 1)))) [bY,aT 1,aT 0]))) .nil) .nil) (.cons (.ite (.Z .eq (.ix (.X 0) (.K (.int 0))) (.K (.str [110,111,116,104,105,110,103]))) (.cons (.ret (.mk .list (.comp (.Y 0) (.rg (.G .add (.X 2) (.K (.int 1)))) (.G .shl (.K (.int 1)) (.X 0)) [bY]))) .nil) .nil) (.cons (.A (.Y 3) (.call "_law_ends" (.ex (.ix (.X 0) (.K (.int 1))) (.ex (.X 1) .nil)))) (.cons (.ite (.Z .eq (.ix (.X 0) (.K (.int 0))) (.K (.str [114,101,112,101,97,116]))) (.cons (.ret (.call "_law_again" (.ex (.X 3) .nil))) .nil) .nil) (.cons (.A (.Y 4) (.call "_law_ends" (.ex (.ix (.X 0) (.K (.int 2))) (.ex (.X 1) .nil)))) (.cons (.ite (.Z .eq (.ix (.X 0) (.K (.int 0))) (.K (.str [101,105,116,104,101,114]))) (.cons (.ret (.mk .list (.comp (.Y 0) (.rg (.G .add (.X 2) (.K (.int 1)))) (.G .bor (.ix (.X 1) (.X 0)) (.ix (.X 2) (.X 0))) [bY,aT 3,aT 4]))) .nil) .nil) (.cons (.ret (.mk .list (.comp (.Y 0) (.seq (.X 3)) (.call "_law_onward" (.ex (.X 0) (.ex (.X 1) .nil))) [bY,aT 4]))) .nil)))))))
def ad6:Df:=⟨"_law_ends",2,3,aL7⟩
noncomputable def ab4:Df:=⟨"_law_member",3,3,(.cons (.setIx (.X 2) (.K (.int 0)) (.G .sub (.ix (.X 2) (.K (.int 0))) (.K (.int 1)))) (.cons (.ite (.Z .eq (.ix (.X 1) (.K (.int 0))) (.K (.str [108,101,116,116,101,114]))) (.cons (.ret (.ix (.X 1) (.K (.int 1)))) .nil) .nil) (.cons (.ite (.Z .eq (.ix (.X 1) (.K (.int 0))) (.K (.str [110,111,116,104,105,110,103]))) (.cons (.ret (.K (.str []))) .nil) .nil) (.cons (.ite (.Z .eq (.ix (.X 1) (.K (.int 0))) (.K (.str [101,105,116,104,101,114]))) (.cons (.ret (.call "_law_member" (.ex (.X 0) (.ex (.ix (.X 1) (.G .add (.K (.int 1)) (.call "_law_take" (.ex (.X 0) (.ex (.K (.int 2)) .nil))))) (.ex (.X 2) .nil))))) .nil) .nil) (.cons (.ite (.Z .eq (.ix (.X 1) (.K (.int 0))) (.K (.str [98,101,104,105,110,100]))) (.cons (.A (.Y 3) (.call "_law_member" (.ex (.X 0) (.ex (.ix (.X 1) (.K (.int 1))) (.ex (.X 2) .nil))))) (.cons (.ret (.G .add (.X 3) (.call "_law_member" (.ex (.X 0) (.ex (.ix (.X 1) (.K (.int 2))) (.ex (.X 2) .nil)))))) .nil)) .nil) (.cons (.A (.Y 4) (.K (.str []))) (.cons (.fo (.Y 5) (.rg (.call "_law_take" (.ex (.X 0) (.ex (.K (.int 5)) .nil)))) (.cons (.ite (.Z .gt (.ix (.X 2) (.K (.int 0))) (.K (.int 0))) (.cons (.A (.Y 4) (.G .add (.X 4) (.call "_law_member" (.ex (.X 0) (.ex (.ix (.X 1) (.K (.int 1))) (.ex (.X 2) .nil)))))) .nil) .nil) .nil)) (.cons (.ret (.X 4)) .nil))))))))⟩
noncomputable def ac5:Df:=⟨"_law_spoilt",2,2,(.cons (.A (.Y 2) (.call "_law_take" (.ex (.X 0) (.ex (.G .add (.bi .len (.cons (.X 1) .nil)) (.K (.int 1))) .nil)))) (.cons (.A (.Y 3) (.call "_law_take" (.ex (.X 0) (.ex (.K (.int 3)) .nil)))) (.cons (.ret (.G .add (.G .add (.slU (.X 1) (.X 2)) (.ix (.J (.cons (.K (.str [])) (.cons (.ix (.K (.str [97,98,99])) (.call "_law_take" (.ex (.X 0) (.ex (.K (.int 3)) .nil)))) (.cons (.ix (.K (.str [97,98,99])) (.call "_law_take" (.ex (.X 0) (.ex (.K (.int 3)) .nil)))) .nil)))) (.X 3))) (.slL (.X 1) (.G .add (.X 2) (.bi .int (.cons (.Z .lt (.X 3) (.K (.int 2))) .nil)))))) .nil)))⟩
noncomputable def ca7:Df:=⟨"_law_held",2,0,(.cons (.ret (.Z .eq (.G .band (.G .shr (.ix (.call "_law_ends" (.ex (.X 0) (.ex (.X 1) .nil))) (.K (.int 0))) (.bi .len (.cons (.X 1) .nil))) (.K (.int 1))) (.K (.int 1)))) .nil)⟩
noncomputable def aa4:Df:=⟨"Rooms.__init__",1,0,(.cons (.setA (.X 0) [108,101,116,116,101,114,115] (.J (.cons (.K (.str [])) .nil))) (.cons (.setA (.X 0) [102,111,108,108,111,119,115] (.J (.cons (.dc .nil .nil) .nil))) (.cons (.setA (.X 0) [101,110,100,115] (.J .nil)) .nil)))⟩
noncomputable abbrev ah5:Ss:=.cons (.ite (.Z .eq (.ix (.X 1) (.K (.int 0))) (.K (.str [108,101,116,116,101,114]))) (.cons (.ret (.mcall (.X 0) "lay_letter" (.ex (.ix (.X 1) (.K (.int 1))) .nil))) .nil) .nil) (.cons (.ite (.Z .eq (.ix (.X 1) (.K (.int 0))) (.K (.str [110,111,116,104,105,110,103]))) (.cons (.ret (.tp (.cons (.K (.T ca)) (.cons (.J .nil) (.cons (.J .nil) .nil))))) .nil) .nil) (.cons (.A (.Y 2) (.mcall (.X 0) "lay" (.ex (.ix (.X 1) (.K (.int 1))) .nil))) (.cons (.ite (.Z .eq (.ix (.X 1) (.K (.int 0))) (.K (.str [114,101,112,101,97,116]))) (.cons (.ex (.mcall (.X 0) "link" (.ex (.ix (.X 2) (.K (.int 2))) (.ex (.ix (.X 2) (.K (.int 1))) .nil)))) (.cons (.ret (.tp (.cons (.K (.T ca)) (.cons (.ix (.X 2) (.K (.int 1))) (.cons (.ix (.X 2) (.K (.int 2))) .nil))))) .nil)) .nil) (.cons (.A (.Y 3) (.mcall (.X 0) "lay" (.ex (.ix (.X 1) (.K (.int 2))) .nil))) (.cons (.ite (.Z .eq (.ix (.X 1) (.K (.int 0))) (.K (.str [101,105,116,104,101,114]))) (.cons (.ret (.tp (.cons (.or (.ix (.X 2) (.K (.int 0))) (.ix (.X 3) (.K (.int 0)))) (.cons (.G .add (.ix (.X 2) (.K (.int 1))) (.ix (.X 3) (.K (.int 1)))) (.cons (.G .add (.ix (.X 2) (.K (.int 2))) (.ix (.X 3) (.K (.int 2)))) .nil))))) .nil) .nil) (.cons (.ex (.mcall (.X 0) "link" (.ex (.ix (.X 2) (.K (.int 2))) (.ex (.ix (.X 3) (.K (.int 1))) .nil)))) (.cons (.A (.Y 4) (.ite (.ix (.X 2) (.K (.int 0))) (.G .add (.ix (.X 2) (.K (.int 1))) (.ix (.X 3) (.K (.int 1)))) (.ix (.X 2) (.K (.int 1))))) (.cons (.A (.Y 5) (.ite (.ix (.X 3) (.K (.int 0))) (.G .add (.ix (.X 2) (.K (.int 2))) (.ix (.X 3) (.K (.int 2)))) (.ix (.X 3) (.K (.int 2))))) (.cons (.ret (.tp (.cons (.and (.ix (.X 2) (.K (.int 0))) (.ix (.X 3) (.K (.int 0)))) (.cons (.X 4) (.cons (.X 5) .nil))))) .nil)))))))))
def aa3:Df:=⟨"Rooms.lay",2,4,ah5⟩
noncomputable def aa2:Df:=⟨"Rooms.lay_letter",2,1,(.cons (.A (.Y 2) (.bi .len (.cons (.attr (.X 0) [108,101,116,116,101,114,115]) .nil))) (.cons (.ex (.me .append (.attr (.X 0) [108,101,116,116,101,114,115]) (.cons (.X 1) .nil))) (.cons (.ex (.me .append (.attr (.X 0) [102,111,108,108,111,119,115]) (.cons (.dc .nil .nil) .nil))) (.cons (.ret (.tp (.cons (.K (.T dr)) (.cons (.J (.cons (.X 2) .nil)) (.cons (.J (.cons (.X 2) .nil)) .nil))))) .nil))))⟩
noncomputable def aa5:Df:=⟨"Rooms.link",3,2,(.cons (.fo (.Y 3) (.seq (.X 1)) (.cons (.fo (.Y 4) (.seq (.X 2)) (.cons (.setIx (.ix (.attr (.X 0) [102,111,108,108,111,119,115]) (.X 3)) (.X 4) (.K (.T ca))) .nil)) .nil)) .nil)⟩
def aw5:Df:=jc
noncomputable def aa7:Df:=⟨"few_rooms_for",1,1,(.cons (.A (.Y 1) (.call "rooms_for" (.ex (.X 0) .nil))) (.cons (.ite (.Z .gt (.G .sub (.bi .len (.cons (.attr (.X 1) [108,101,116,116,101,114,115]) .nil)) (.K (.int 1))) (.gl "MOST_SET_LETTERS")) (.cons .raise .nil) .nil) (.cons (.ret (.X 1)) .nil)))⟩
noncomputable def ab0:Df:=⟨"doors_into",4,0,(.cons (.ret (.mk .list (.compK (.Y 0) (.X 2) (.tp (.cons (.X 1) (.cons (.ix (.attr (.X 2) [108,101,116,116,101,114,115]) (.X 0)) (.cons (.X 0) (.cons (.X 3) .nil))))) [bY,aT 1,aT 0,aT 3]))) .nil)⟩
noncomputable def ab2:Df:=⟨"with_doors",3,0,(.cons (.ret (.tp (.cons (.bi .len (.cons (.gl "LETTERS") .nil)) (.cons (.bi .len (.cons (.attr (.X 0) [108,101,116,116,101,114,115]) .nil)) (.cons (.tp (.cons (.K (.int 0)) .nil)) (.cons (.mk .tuple (.seq (.X 1))) (.cons (.mk .tuple (.seq (.X 2))) .nil))))))) .nil)⟩
noncomputable def aa9:Df:=⟨"set_machine",1,4,(.cons (.A (.Y 1) (.call "few_rooms_for" (.ex (.X 0) .nil))) (.cons (.A (.Y 2) (.J .nil)) (.cons (.fo (.tp [3,4]) (.enum (.seq (.attr (.X 1) [102,111,108,108,111,119,115]))) (.cons (.ex (.extS (.X 2) (.call "doors_into" (.ex (.X 1) (.ex (.X 3) (.ex (.X 4) (.ex (.K (.int 0)) .nil))))))) .nil)) (.cons (.ret (.call "with_doors" (.ex (.X 1) (.ex (.attr (.X 1) [101,110,100,115]) (.ex (.X 2) .nil))))) .nil))))⟩
def an3:Df:=al3
def am5:Df:=ad6
def af2:Df:=ab4
def ad5:Df:=zD
def ae4:Df:=zF
def ad0:Df:=zw
noncomputable def ab3:Df:=⟨"_law_letters",1,0,(.cons (.ite (.Z .eq (.ix (.X 0) (.K (.int 0))) (.K (.str [108,101,116,116,101,114]))) (.cons (.ret (.K (.int 1))) .nil) .nil) (.cons (.ret (.mk .sum (.comp (.Y 0) (.seq (.slL (.X 0) (.K (.int 1)))) (.call "_law_letters" (.ex (.X 0) .nil)) [bY]))) .nil))⟩
noncomputable def ac2:Df:=⟨"_law_words",2,7,(.cons (.A (.Y 2) (.J (.cons (.K (.str [])) .nil))) (.cons (.A (.Y 3) (.J (.cons (.K (.str [])) .nil))) (.cons (.fo (.Y 4) (.rg (.K (.int 3))) (.cons (.A (.Y 5) (.J .nil)) (.cons (.fo (.Y 6) (.seq (.X 3)) (.cons (.ex (.ext (.X 5) (.comp (.Y 0) (.seq (.K (.str [97,98,99]))) (.G .add (.X 1) (.X 0)) [bY,aT 6]))) .nil)) (.cons (.ex (.extS (.X 2) (.X 5))) (.cons (.A (.Y 3) (.X 5)) .nil))))) (.cons (.fo (.Y 7) (.rg (.K (.int 3))) (.cons (.A (.Y 8) (.slU (.call "_law_member" (.ex (.X 0) (.ex (.X 1) (.ex (.J (.cons (.K (.int 20)) .nil)) .nil)))) (.K (.int 40)))) (.cons (.ex (.ext (.X 2) (.disp (.cons (.X 8) (.cons (.slU (.call "_law_spoilt" (.ex (.X 0) (.ex (.X 8) .nil))) (.K (.int 40))) .nil))))) .nil))) (.cons (.ret (.G .add (.X 2) (.J (.cons (.call "_law_word" (.ex (.X 0) (.ex (.K (.int 3)) (.ex (.K (.int 40)) .nil)))) .nil)))) .nil)))))⟩
noncomputable def ac7:Df:=⟨"_law_right",2,3,(.cons (.ite (.Z .gt (.call "_law_letters" (.ex (.X 1) .nil)) (.K (.int 4))) (.cons (.ret (.call "_law_refused" (.ex (.X 1) .nil))) .nil) .nil) (.cons (.A (.Y 2) (.call "set_machine" (.ex (.X 1) .nil))) (.cons (.ite (.not (.call "_law_is_machine" (.ex (.X 2) (.ex (.K (.int 3)) .nil)))) (.cons (.ret (.K (.T dr))) .nil) .nil) (.cons (.fo (.Y 3) (.seq (.call "_law_words" (.ex (.X 0) (.ex (.X 1) .nil)))) (.cons (.A (.Y 4) (.Z .eq (.G .band (.G .shr (.ix (.call "_law_ends" (.ex (.X 1) (.ex (.X 3) .nil))) (.K (.int 0))) (.bi .len (.cons (.X 3) .nil))) (.K (.int 1))) (.K (.int 1)))) (.cons (.ite (.Z .ne (.call "_law_price" (.ex (.X 2) (.ex (.X 3) .nil))) (.ix (.J (.cons (.K .N) (.cons (.K (.int 0)) .nil))) (.bi .int (.cons (.X 4) .nil)))) (.cons (.ret (.K (.T dr))) .nil) .nil) .nil))) (.cons (.ret (.K (.T ca))) .nil)))))⟩
noncomputable def ab9:Df:=⟨"law",1,4,(.cons (.A (.Y 1) (.J .nil)) (.cons (.fo (.Y 2) (.rg (.K (.int 2))) (.cons (.A (.Y 3) (.call "_law_bag" (.ex (.X 0) (.ex (.X 2) .nil)))) (.cons (.A (.Y 4) (.ix (.J (.cons (.K (.int 4)) (.cons (.K (.int 4)) (.cons (.K (.int 4)) (.cons (.K (.int 8)) .nil))))) (.call "_law_take" (.ex (.X 3) (.ex (.K (.int 4)) .nil))))) (.cons (.ex (.me .append (.X 1) (.cons (.call "_law_set" (.ex (.X 3) (.ex (.G .add (.K (.int 1)) (.call "_law_take" (.ex (.X 3) (.ex (.K (.int 8)) .nil)))) (.ex (.G .add (.K (.int 1)) (.call "_law_take" (.ex (.X 3) (.ex (.K (.int 24)) .nil)))) (.ex (.J (.cons (.X 4) .nil)) .nil))))) .nil))) .nil)))) (.cons (.A (.Y 3) (.call "_law_bag" (.ex (.X 0) (.ex (.K (.int 2)) .nil)))) (.cons (.ret (.mk .all (.comp (.Y 0) (.seq (.G .add (.X 1) (.slU (.X 1) (.K (.int 1))))) (.call "_law_right" (.ex (.X 1) (.ex (.X 0) .nil))) [bY,aT 3]))) .nil))))⟩
class Has (P:Pr)(d:Df):Prop where
 eq:P.df d.name=aT d
class HasM (P:Pr)(c m:String)(d:Df):Prop where
 at_:P.mt c m=aT d
class HasA (P:Pr)(c:String)(f:List Nat):Prop where
 at_:P.att c f=ca
class HasL (P:Pr)(d:Lm):Prop where
 eq:P.lm d.id=aT d
class HasC (P:Pr)(x:String)(v:D):Prop where
 eq:P.con x=aT v
set_option tactic.hygienic true
def fin (s:Sto)(c:Ct)(s':Sto):R D:=match c with
 | .ret v=>zp s v s'
 | .next _=>zp s .N s'
 | _=>.B
@[simp] theorem fin_ret s v s' :fin s (.ret v) s'=zp s v s':=rfl
@[simp] theorem fin_next s U s' :fin s (.next U) s'=zp s .N s':=rfl
set_option tactic.hygienic false
def ze d [h:Has P d](z:l.length=d.ps) :
  (aa0 P (n+1)).call d.name l s=(exs (aa0 P n) d.body (l.map aT++av d.vs bY) s).bind (fin s):=by
 simp only[aa0,h.eq,z];rfl
def zT d [h:HasM P c m d](z:l.length=d.ps) :
  (aa0 P (n+1)).mcall c m l s=(exs (aa0 P n) d.body (l.map aT++av d.vs bY) s).bind λ c s'=>fin s c s':=by
 simp only[aa0,h.at_,bk6,z];rfl
def av7 [h:HasA P c f]:(aa0 P n).att c f=true:=by
 have:(aa0 P n).att=P.att:=by cases n<;>rfl
 rw[this];exact h.at_
def bD3 [h:HasC P x v]:(aa0 P n).con x=aT v:=by
 cases n<;>exact h.eq
def aE5 s t :af1 s (s++t)=true:=by
 unfold af1;rw[aA];intro i z;rw[bO]at z;rw[ax z];simp
def aA5 s t r o (h:o.bnd s.length=ca):af1 s (s.set r o++t)=true:=by
 unfold af1;rw[aA];intro i z;rw[bO]at z;rw[ax (by rw[aU];exact z)];by_cases e:r=i
 .subst e;rw[aW z];simp[h]
 .rw[ar e];simp
def ah9 (h:∀ n,d.bnd n=ca)(hr:∀ r,d≠.ref r):zp s d (s++t)=.ok d s:=by
 unfold zp;rw[aE5,ij rfl];cases d with
 | ref r=>exact nc rfl (hr r)
 | _=>simp[h]
def zQ (h:∀ n,d.bnd n=ca)(hr:∀ r,d≠.ref r):zp s d s=.ok d s:=by
 have:=ah9 (s:=s) (t:=[]) h hr
 rwa [a8]at this
def ao8 (h:∀ n,d.bnd n=ca)(hr:∀ r,d≠.ref r)(ho:o.bnd s.length=ca):zp s d (s.set r o++t)=.ok d (s.set r o):=by
 unfold zp;rw[aA5 s t r o ho,ij rfl];have e:(s.set r o++t).take s.length=s.set r o:=by rw[dH (by simp),cA (by simp)]
 cases d with
 | ref r=>exact nc rfl (hr r)
 | _=>simp only[h,if_true,e]
def ai9 (h:∀ n,d.bnd n=ca)(hr:∀ r,d≠.ref r)(ho:o.bnd s.length=ca):zp s d (s.set r o)=.ok d (s.set r o):=by
 have:=ao8 (t:=[]) (r:=r) h hr ho
 rwa [a8]at this
def qc { u:Sto}(ho:o.bnd s.length=ca):zp s (.ref (s.length+t.length)) (s++(t++o::u))=.ok (.ref s.length) (s++[o]):=by
 unfold zp;rw[aE5,ij rfl];simp[ho]
@[simp] theorem ah2 :zp s (.int i) s=.ok (.int i) s:=zQ (λ _=>rfl) (by nofun)
@[simp] theorem aM8 :zp s (.T i) s=.ok (.T i) s:=zQ (λ _=>rfl) (by nofun)
@[simp] theorem bZ7 :zp s .N s=.ok .N s:=zQ (λ _=>rfl) (by nofun)
@[simp] theorem bS7 :zp s (.str x) s=.ok (.str x) s:=zQ (λ _=>rfl) (by nofun)
set_option tactic.hygienic true in
theorem qF :∀ {n} {U} {s},af6 c g n U s≠.B->af6 c g (n+1) U s=af6 c g n U s
 | 0,_,_,h=>nc rfl h
 | n+1,U,s,h=>by
  rw[show af6 c g (n+1+1) U s=tru (c U s) (λ b s=>if b then(g U s).bind λ z s=>match z with
   | .next U=>af6 c g (n+1) U s|.cont U=>af6 c g (n+1) U s|.brk U=>.ok (.next U) s|.ret d=>.ok (.ret d) s else .ok (.next U) s)from rfl]
  have e:af6 c g (n+1) U s=tru (c U s) (λ b s=>if b then(g U s).bind λ z s=>match z with
   | .next U=>af6 c g n U s|.cont U=>af6 c g n U s|.brk U=>.ok (.next U) s|.ret d=>.ok (.ret d) s else .ok (.next U) s):=rfl
  rw[e]at h ⊢;unfold tru at h ⊢;cases hc:c U s with
  | exc _ _=>rfl
  | B=>rfl
  | ok d s1 =>
   rw[hc]at h;cases d with
   | T b =>
    cases b with
    | false=>rfl
    | true =>
     simp only[R.bind_ok]at h ⊢;cases hg:g U s1 with
     | exc _ _=>rfl
     | B=>rfl
     | ok z s2 =>
      rw[hg]at h;simp only[R.bind_ok]at h ⊢;cases z with
      | next U'=>exact qF h
      | cont U'=>exact qF h
      | _=>rfl
   | _=>rfl
theorem qe (h:af6 c g n U s≠.B):∀ k,af6 c g (n+k) U s=af6 c g n U s
 | 0=>rfl
 | k+1=>by
  have e:=qe h k;rw[<-lI,qF (by rw[e];exact h),e]
def bZ8 (h:af6 c g n U s=.ok r t):whl c g U s=.ok r t:=by
 have hb:af6 c g n U s≠.B:=by rw[h];nofun
 have hx:∃ n,af6 c g n U s≠.B:=⟨n,hb⟩
 unfold whl;rw[dif_pos hx];have J:=qe hx.choose_spec n;have z:=qe hb hx.choose;rw[<-J,j9,z,h]
set_option tactic.hygienic true
def aP2 (hc:c U s=.ok (.T ca) s1)(hg:g U s1=.ok (.next U') s'):whl c g U s=whl c g U' s':=by
 have key:∀ n,af6 c g (n+1) U s=af6 c g n U' s':=λ n=>by
  show tru (c U s) _=_;rw[hc,tru_bl,ij rfl,hg];rfl
 unfold whl;by_cases hx:∃ n,af6 c g n U' s'≠.B
 .have hy:∃ n,af6 c g n U s≠.B:=⟨hx.choose+1,by rw[key];exact hx.choose_spec⟩
  rw[dif_pos hx,dif_pos hy];have z:=qe hy.choose_spec (hx.choose+1);have J:=qe (by rw[key];exact hx.choose_spec) hy.choose;rw[<-z,j9,J,key]
 .have hy:¬ ∃ n,af6 c g n U s≠.B:=λ⟨n,hn⟩=>by
   cases n with
   | zero=>exact hn rfl
   | succ n=>exact hx ⟨n,by rw[<-key];exact hn⟩
  rw[dif_neg hx,dif_neg hy]
def aY1 (hc:c U s=.ok (.T dr) s1):whl c g U s=.ok (.next U) s1 :=
 bZ8 (n:=1) (by show tru (c U s) _=_;rw[hc,tru_bl];rfl)
theorem qH (P:Nat->Env->Sto->Prop):∀ l k U s ,
  P k U s->(∀ j U s ,j<=l.length->P (k+j) U s->ok s=ca)->(∀ j d U s ,l[j]?=aT d->P (k+j) U s->∃ U' s',(g d U s=.ok (.next U') s'\/g d U s=.ok (.cont U') s')/\P (k+j+1) U' s') ->
  ∃ U' s',ba2 ok g l U s=.ok (.next U') s'/\P (k+l.length) U' s'
 | [],k,U,s,h,o,_=>⟨U,s,by show(if ok s then _ else _)=_;rw[ij (o 0 U s (al _) h)],h⟩
 | d::l,k,U,s,h,o,t=>by
  have ho:=o 0 U s (cW _) h;obtain⟨U1,s1,hg,z⟩:=t 0 d U s rfl h;obtain⟨U2,s2,e,J⟩:=qH P l (k+1) U1 s1 z (λ j U' s' hj hp=>o (j+1) U' s' (by simpa using hj) (by rwa [show k+(j+1)=k+1+j by lia])) λ j d' U' s' hj hp=>by
   have:=t (j+1) d' U' s' (by simpa using hj) (by rwa [show k+(j+1)=k+1+j by lia])
   rwa [show k+(j+1)+1=k+1+j+1 by lia]at this
  refine⟨U2,s2,?_,by rwa [aQ,show k+(l.length+1)=k+1+l.length by lia]⟩;show(if ok s then _ else _)=_;rw[ij ho];rcases hg with hg|hg<;>(rw[hg];exact e)
noncomputable def Nx (Q:Env->Sto->Prop):R Ct->Prop
 | .ok (.next U) s=>Q U s
 | .ok (.cont U) s=>Q U s
 | _=>False
@[simp] theorem ch0 Q U s :Nx Q (.ok (.next U) s)=Q U s:=rfl
@[simp] theorem ci3 Q U s :Nx Q (.ok (.cont U) s)=Q U s:=rfl
def jd (e:r=.ok (.next U) s)(h:Q U s):Nx Q r:=by rw[e];exact h
def Nx.out :∀ {r},Nx Q r->∃ U s,(r=.ok (.next U) s\/r=.ok (.cont U) s)/\Q U s
 | .ok (.next U) s,h=>⟨U,s,.inl rfl,h⟩
 | .ok (.cont U) s,h=>⟨U,s,.inr rfl,h⟩
 | .ok (.ret _) _,h=>h.elim
 | .ok (.brk _) _,h=>h.elim
 | .exc _ _,h=>h.elim
 | .B,h=>h.elim
set_option tactic.hygienic false
noncomputable def Tst (A B:Sto->Prop):R D->Prop
 | .ok (.T dr) s=>A s
 | .ok (.T ca) s=>B s
 | _=>False
@[simp] theorem bw0 A B b s :Tst A B (.ok (.T b) s)=if b then B s else A s:=by cases b<;>rfl
def Tst.out :∀ {r},Tst A B r->(∃ s,r=.ok (.T dr) s/\A s)\/∃ s,r=.ok (.T ca) s/\B s
 | .ok (.T dr) s,h=>.inl ⟨s,rfl,h⟩
 | .ok (.T ca) s,h=>.inr ⟨s,rfl,h⟩
 | .ok .N _,h=>h.elim
 | .ok (.int _) _,h=>h.elim
 | .ok (.str _) _,h=>h.elim
 | .ok (.tp _) _,h=>h.elim
 | .ok (.ref _) _,h=>h.elim
 | .ok (.fn _) _,h=>h.elim
 | .ok (.clo _ _) _,h=>h.elim
 | .exc _ _,h=>h.elim
 | .B,h=>h.elim
def bq2 (hc:c U s=.ok (.T ca) s1)(hg:g U s1=.ok (.cont U') s'):whl c g U s=whl c g U' s':=by
 have key:∀ n,af6 c g (n+1) U s=af6 c g n U' s':=λ n=>by
  show tru (c U s) _=_;rw[hc,tru_bl,ij rfl,hg];rfl
 unfold whl;by_cases hx:∃ n,af6 c g n U' s'≠.B
 .have hy:∃ n,af6 c g n U s≠.B:=⟨hx.choose+1,by rw[key];exact hx.choose_spec⟩
  rw[dif_pos hx,dif_pos hy];have z:=qe hy.choose_spec (hx.choose+1);have J:=qe (by rw[key];exact hx.choose_spec) hy.choose;rw[<-z,j9,J,key]
 .have hy:¬ ∃ n,af6 c g n U s≠.B:=λ⟨n,hn⟩=>by
   cases n with
   | zero=>exact hn rfl
   | succ n=>exact hx ⟨n,by rw[<-key];exact hn⟩
  rw[dif_neg hx,dif_neg hy]
set_option tactic.hygienic true
def bS9 (P:Nat->Env->Sto->Prop)(Q:Env->Sto->Prop)
  (step:∀ k U s,P k U s->Tst (λ s1=>Q U s1) (λ s1=>Nx (λ U' s'=>∃ z,z<k/\P z U' s') (g U s1)) (c U s)) :
  ∀ k U s ,P k U s->∃ U' s',whl c g U s=.ok (.next U') s'/\Q U' s':=by
 intro k
 induction k using kJ with
 | _ k ih =>
  intro U s h;rcases(step k U s h).out with⟨s1,hc,hq⟩|⟨s1,hc,hn⟩
  .exact⟨U,s1,aY1 hc,hq⟩
  .obtain⟨U',s',hg,z,hk,hp⟩:=hn.out;rcases hg with hg|hg
   .rw[aP2 hc hg];exact ih z hk U' s' hp
   .rw[bq2 hc hg];exact ih z hk U' s' hp
def bt1 {Ww:R α->Prop}(P:Nat->Env->Sto->Prop)(Q:Env->Sto->Prop) k (h:P k U s)
  (step:∀ k U s,P k U s->Tst (λ s1=>Q U s1) (λ s1=>Nx (λ U' s'=>∃ z,z<k/\P z U' s') (g U s1)) (c U s))
  (J:∀ U' s',Q U' s'->Ww (f (.next U') s')):Ww ((whl c g U s).bind f):=by
 obtain⟨U',s',e,q⟩:=bS9 P Q step k U s h;rw[e];exact J U' s' q
def bp2 {x:R α}(P:Nat->Env->Sto->Prop)(Q:Env->Sto->Prop) k (h:P k U s)
  (step:∀ k U s,P k U s->Tst (λ s1=>Q U s1) (λ s1=>Nx (λ U' s'=>∃ z,z<k/\P z U' s') (g U s1)) (c U s))
  (J:∀ U' s',Q U' s'->f (.next U') s'=x):(whl c g U s).bind f=x:=bt1 (Ww:=(·=x)) P Q k h step J
def qR {Ww:R α->Prop}(P:Nat->Env->Sto->Prop)(h:P 0 U s)
  (o:∀(j:Nat) (U:Env) (s:Sto),j<=l.length->P j U s->ok s=ca) (step:∀(j:Nat) (d:D) (U:Env) (s:Sto),l[j]?=aT d->P j U s->Nx (P (j+1)) (g d U s))
  (z:∀ U' s',P l.length U' s'->Ww (f (.next U') s')):Ww ((ba2 ok g l U s).bind f):=by
 obtain⟨U',s',e,q⟩:=qH P l 0 U s h (λ j U s hj hp=>o j U s hj (by rwa [bG]at hp)) (λ j d U s hj hp=>by
  rw[bG]at hp ⊢;exact(step j d U s hj hp).out)
 rw[e];rw[bG]at q;exact z U' s' q
def am4 {x:R α}(P:Nat->Env->Sto->Prop)(h:P 0 U s)
  (o:∀(j:Nat) (U:Env) (s:Sto),j<=l.length->P j U s->ok s=ca) (step:∀(j:Nat) (d:D) (U:Env) (s:Sto),l[j]?=aT d->P j U s->Nx (P (j+1)) (g d U s))
  (z:∀ U' s',P l.length U' s'->f (.next U') s'=x):(ba2 ok g l U s).bind f=x:=qR (Ww:=(·=x)) P h o step z
set_option tactic.hygienic false
section
variable {F:Fns} {U:Env} {s:Sto}
@[simp] theorem qU i :ev F (.X i) U s=by6 U i s:=rfl
@[simp] theorem ev_cst c :ev F (.K c) U s=.ok c.d s:=rfl
@[simp] theorem ev_bin op a b :ev F (.G op a b) U s=(ev F a U s).bind λ x s=>(ev F b U s).bind λ y s=>qi op x y s:=rfl
@[simp] theorem ev_not a :ev F (.not a) U s=tru (ev F a U s) λ b s=>.ok (.T (!b)) s:=rfl
@[simp] theorem ev_cmp op a b :ev F (.Z op a b) U s=(ev F a U s).bind λ x s=>(ev F b U s).bind λ y s=>zh op x y s:=rfl
@[simp] theorem cf6 o p a b c :ev F (.chain o p a b c) U s=(ev F a U s).bind λ x s=>(ev F b U s).bind λ y s=>tru (zh o x y s) λ k s=>if k then(ev F c U s).bind λ z s=>zh p y z s else .ok (.T dr) s:=rfl
@[simp] theorem ev_isN a :ev F (.isN a) U s=(ev F a U s).bind λ x s=>.ok (.T (decide (x=.N))) s:=rfl
@[simp] theorem ev_notN a :ev F (.notN a) U s=(ev F a U s).bind λ x s=>.ok (.T (!decide (x=.N))) s:=rfl
@[simp] theorem ev_and a b :ev F (.and a b) U s=tru (ev F a U s) λ c s=>if c then tru (ev F b U s) λ c s=>.ok (.T c) s else .ok (.T dr) s:=rfl
@[simp] theorem ev_or a b :ev F (.or a b) U s=tru (ev F a U s) λ c s=>if c then .ok (.T ca) s else tru (ev F b U s) λ c s=>.ok (.T c) s:=rfl
@[simp] theorem ev_ite c a b :ev F (.ite c a b) U s=tru (ev F c U s) λ k s=>if k then ev F a U s else ev F b U s:=rfl
@[simp] theorem ev_tup es :ev F (.tp es) U s=(evs F es U s).bind λ l s=>.ok (.tp l) s:=rfl
@[simp] theorem ev_lst es :ev F (.J es) U s=(evs F es U s).bind λ l s=>af3 (.J l) s:=rfl
@[simp] theorem ev_ix a b :ev F (.ix a b) U s=(ev F a U s).bind λ x s=>(ev F b U s).bind λ y s=>ixM x y s:=rfl
@[simp] theorem ev_call f z :ev F (.call f z) U s=(ag3 F z U s).bind λ l s=>F.call f l s:=rfl
@[simp] theorem ev_bi b es :ev F (.bi b es) U s=(evs F es U s).bind λ l s=>bi b l s:=rfl
@[simp] theorem ev_mk k it :ev F (.mk k it) U s=(evL F it U s).bind λ q s=>mk k q s:=rfl
@[simp] theorem ev_mkD k it d :ev F (.mkD k it d) U s=(evL F it U s).bind λ q s=>(ev F d U s).bind λ d s=>mkD k q d s:=rfl
@[simp] theorem an0 :mkq x s s r=r:=ij rfl
def bJ1 (h:a<s.length):mkq (.ref a) s (s++t) r=r:=ij (show s[a]?.map O.kd=(s++t)[a]?.map O.kd by rw[ax h])
def aJ4 (h:s[a]?=aT (.J l))(g:t[a]?=aT (.J m)):mkq (.ref a) s t r=r:=ij (show s[a]?.map O.kd=t[a]?.map O.kd by rw[h,g];rfl)
@[simp] theorem ev_meth m o es :ev F (.me m o es) U s=(ev F o U s).bind λ x s=>(evs F es U s).bind λ l t=>mkq x s t (meth m x l t):=rfl
@[simp] theorem bh5 o e :ev F (.extS o e) U s=(ev F o U s).bind λ x s=>(ev F e U s).bind λ y t=>mkq x s t (extS x y t):=rfl
@[simp] theorem bv0 o it :ev F (.ext o it) U s=(ev F o U s).bind λ x s=>(evL F it U s).bind λ q t=>mkq x s t (bL3 x q t):=rfl
@[simp] theorem evs_nil:evs F .nil U s=.ok [] s:=rfl
@[simp] theorem evs_cons e es :evs F (.cons e es) U s=(ev F e U s).bind λ d s=>(evs F es U s).bind λ l s=>.ok (d::l) s:=rfl
@[simp] theorem evas_nil:ag3 F .nil U s=.ok [] s:=rfl
@[simp] theorem evas_ex e z :ag3 F (.ex e z) U s=(ev F e U s).bind λ d s=>(ag3 F z U s).bind λ l s=>.ok (d::l) s:=rfl
@[simp] theorem ci2 f z :ag3 F (.fn f z) U s=(ag3 F z U s).bind λ l s=>.ok (.fn f::l) s:=rfl
@[simp] theorem evI_seq e :evI F (.seq e) U s=(ev F e U s).bind λ d s=>am0 d s:=rfl
@[simp] theorem bp6 es :evL F (.disp es) U s=evs F es U s:=rfl
@[simp] theorem evL_seq e :evL F (.seq e) U s=(ev F e U s).bind λ d s=>ca2 d s:=rfl
def aA7 (x:D):M Sq:=λ s=>match x with|.int i=>if -Ww62<=i/\i<Ww62 then .ok ⟨af8 0 i,[]⟩ s else .B|_=>.B
@[simp] theorem evI_rng1 a :evI F (.rg a) U s=(ev F a U s).bind λ x s=>aA7 x s:=rfl
def qo (h0:-Ww62<=i)(h:i<Ww62):aA7 (.int i) s=.ok ⟨af8 0 i,[]⟩ s:=by unfold aA7;simp only[h0,h,and_self,if_true]
set_option tactic.hygienic true
def nxt (F:Fns)(ss:Ss)(c:Ct)(s:Sto):R Ct:=match c with|.next U=>exs F ss U s|c=>.ok c s
@[simp] theorem qM z U s :nxt F z (.next U) s=exs F z U s:=rfl
set_option tactic.hygienic false
@[simp] theorem nxt_ret z d s :nxt F z (.ret d) s=.ok (.ret d) s:=rfl
@[simp] theorem nxt_cont z U s :nxt F z (.cont U) s=.ok (.cont U) s:=rfl
set_option tactic.hygienic true
@[simp] theorem exs_nil:exs F .nil U s=.ok (.next U) s:=rfl
@[simp] theorem qT st z :exs F (.cons st z) U s=(ex F st U s).bind (nxt F z):=rfl
noncomputable def cq1 (U:Option Env)(s:Sto):R Ct:=match U with|some U=>.ok (.next U) s|none=>.B
@[simp] theorem setC_some U s :cq1 (aT U) s=.ok (.next U) s:=rfl
@[simp] theorem ex_asg tg e :ex F (.A tg e) U s=(ev F e U s).bind λ d s=>cq1 (ac9 U tg d) s:=rfl
@[simp] theorem ex_setIx o i e :ex F (.setIx o i e) U s=(ev F e U s).bind λ d s=>(ev F o U s).bind λ x s=>(ev F i U s).bind λ y s=>(setIx x y d s).bind λ _ s=>.ok (.next U) s:=rfl
@[simp] theorem ex_ex e :ex F (.ex e) U s=(ev F e U s).bind λ _ s=>.ok (.next U) s:=rfl
set_option tactic.hygienic false
@[simp] theorem ex_ret e :ex F (.ret e) U s=(ev F e U s).bind λ d s=>.ok (.ret d) s:=rfl
@[simp] theorem ex_ite c a b :ex F (.ite c a b) U s=tru (ev F c U s) λ k s=>if k then exs F a U s else exs F b U s:=rfl
@[simp] theorem ex_whl c b :ex F (.whl c b) U s=whl (ev F c) (exs F b) U s:=rfl
def turn (F:Fns)(tg:Tg)(b:Ss)(d:D)(U:Env)(s:Sto):R Ct:=match ac9 U tg d with
 | some U=>exs F b U s
 | none=>.B
@[simp] theorem ex_for tg it b :ex F (.fo tg it b) U s=(evI F it U s).bind λ q s0=>ba2 (λ s=>chk s0 s q.src) (turn F tg b) q.its U s0:=rfl
@[simp] theorem qu i d :ac9 U (.Y i) d=aN7 U i d:=rfl
@[simp] theorem bindT_tup is l :ac9 U (.tp is) (.tp l)=ap0 U is l:=rfl
@[simp] theorem setVs_nil:ap0 U [] []=aT U:=rfl
@[simp] theorem setVs_cons i is d l :ap0 U (i::is) (d::l)=(aN7 U i d).bind λ U=>ap0 U is l:=rfl
@[simp] theorem qX d (U:Env):by6 (aT d::U) 0 s=.ok d s:=rfl
@[simp] theorem qY x (U:Env) i :by6 (x::U) (i+1) s=by6 U i s:=by unfold by6;rw[cx]
@[simp] theorem setV_0 d x (U:Env):aN7 (x::U) 0 d=aT (aT d::U):=rfl
@[simp] theorem setV_s d x (U:Env) i :aN7 (x::U) (i+1) d=(aN7 U i d).map (x::·):=by
 unfold aN7;by_cases h:i < U.length
 .rw[ij (by simpa using h),ij h];rfl
 .rw[iF (by simpa using h),iF h];rfl
@[simp] theorem unsetV_0 x (U:Env):aP6 (x::U) 0=aT (bY::U):=rfl
@[simp] theorem unsetV_s x (U:Env) i :aP6 (x::U) (i+1)=(aP6 U i).map (x::·):=by
 unfold aP6;by_cases h:i < U.length
 .rw[ij (by simpa using h),ij h];rfl
 .rw[iF (by simpa using h),iF h];rfl
@[simp] theorem Cn_int i :(Cn.int i).d=.int i:=rfl
@[simp] theorem Cn_bl i :(Cn.T i).d=.T i:=rfl
@[simp] theorem Cn_str i :(Cn.str i).d=.str i:=rfl
@[simp] theorem Cn_non:Cn.N.d=.N:=rfl
@[simp] theorem add_int a b :qi .add (.int a) (.int b) s=.ok (.int (a+b)) s:=rfl
@[simp] theorem sub_int a b :qi .sub (.int a) (.int b) s=.ok (.int (a - b)) s:=rfl
def aO4 (z:s[a]?=aT (.J l))(J:s[b]?=aT (.J m))(h:l.length+m.length<=LIM):qi .add (.ref a) (.ref b) s=.ok (.ref s.length) (s++[.J (l++m)]):=by
 show(match s[a]?,s[b]? with|some (.J l),aT (.J m)=>(if l.length+m.length<=LIM then af3 (.J (l++m)) s else .B)|_,_=>.B)=_;rw[z,J];exact ij h
def aj6 (h:mulOk a b=ca):qi .mul (.int a) (.int b) s=.ok (.int (a*b)) s:=by show(if mulOk a b then _ else _:M D) s=_;rw[ij h];rfl
def bG8 (h:a.natAbs<2^64):mulOk a b=true:=by unfold mulOk;simp[h]
def ay9 (h:b.natAbs<2^64):mulOk a b=true:=by unfold mulOk;simp[h]
def ap3 (h:0<b):qi .mod (.int a) (.int b) s=.ok (.int (a % b)) s:=by show(if 0<b then _ else _:M D) s=_;rw[ij h];rfl
def bK7:(10)^200<=(DIVL:Int):=by unfold DIVL;decide +kernel
def aO5 (h:0<b)(z:b<10^200):qi .fdiv (.int a) (.int b) s=.ok (.int (a / b)) s:=by show(if 0<b/\b<(DIVL)then _ else _:M D) s=_;rw[ij ⟨h,Int.lt_of_lt_of_le z bK7⟩];rfl
def bc2 (h:0<=b/\b<=1000000/\a.natAbs<2^64):qi .pow (.int a) (.int b) s=.ok (.int (a^b.toNat)) s:=by show(if _ then _ else _:M D) s=_;rw[ij h];rfl
@[simp] theorem lt_int a b :zh .lt (.int a) (.int b) s=.ok (.T (decide (a<b))) s:=rfl
@[simp] theorem le_int a b :zh .le (.int a) (.int b) s=.ok (.T (decide (a<=b))) s:=rfl
@[simp] theorem gt_int a b :zh .gt (.int a) (.int b) s=.ok (.T (decide (b<a))) s:=rfl
@[simp] theorem ge_int a b :zh .ge (.int a) (.int b) s=.B:=rfl
@[simp] theorem eq_int a b :zh .eq (.int a) (.int b) s=.ok (.T (decide (a=b))) s:=rfl
@[simp] theorem ne_int a b :zh .ne (.int a) (.int b) s=.ok (.T (!decide (a=b))) s:=rfl
@[simp] theorem alloc_eq o :af3 o s=.ok (.ref s.length) (s++[o]):=rfl
@[simp] theorem bL0 l :bi .len [.tp l] s=.ok (.int l.length) s:=rfl
@[simp] theorem bI7 l :bi .len [.str l] s=.ok (.int l.length) s:=rfl
def ak0 (h:s[r]?=aT (.J l)):bi .len [.ref r] s=.ok (.int l.length) s:=by
 show bJ7 (.ref r) s=_;unfold bJ7;simp only[h]
def bW4 (h:s[r]?=aT (.ro l)):bi .len [.ref r] s=.ok (.int l.length) s:=by
 show bJ7 (.ref r) s=_;unfold bJ7;simp only[h]
@[simp] theorem ci4 i :bi .abs [.int i] s=.ok (.int (if i<0 then -i else i)) s:=rfl
@[simp] theorem cf5 a b :bi .min2 [.int a,.int b] s=.ok (.int (if b<a then b else a)) s:=rfl
@[simp] theorem cf1 a b :bi .max2 [.int a,.int b] s=.ok (.int (if b > a then b else a)) s:=rfl
@[simp] theorem bT3 a :bi .isInt [.int a] s=.ok (.T ca) s:=rfl
@[simp] theorem bO6 a :bi .isBool [.int a] s=.ok (.T dr) s:=rfl
@[simp] theorem bQ0 l :bi .isTup [.tp l] s=.ok (.T ca) s:=rfl
def bP7 {j:Nat}(h:s[r]?=aT (.ro l))(hj:l[j]?=aT d):ixM (.ref r) (.int (j)) s=.ok d s:=by
 have z:=(ac.mp hj).1;have e:=(ac.mp hj).2;simp[ixM,h,ixn,z,e]
def zB {j:Nat}(h:s[r]?=aT (.J l))(hj:l[j]?=aT d):ixM (.ref r) (.int (j)) s=.ok d s:=by
 have z:=(ac.mp hj).1;have e:=(ac.mp hj).2;simp[ixM,h,ixn,z,e]
def ix_tup {j:Nat}(hj:l[j]?=aT d):ixM (.tp l) (.int (j)) s=.ok d s:=by
 have z:=(ac.mp hj).1;have e:=(ac.mp hj).2;simp[ixM,ixn,z,e]
def aw8 {j:Nat}(h:s[r]?=aT (.J l))(z:j<l.length):setIx (.ref r) (.int (j)) v s=.ok () (s.set r (.J (l.set j v))):=by
 simp[setIx,h,ixn,z]
def aj5 (h:s[r]?=aT (.J l))(z:l.length<LIM):meth .append (.ref r) [v] s=.ok .N (s.set r (.J (l++[v]))):=by
 show(match s[r]? with|some (.J l)=>(if l.length<LIM then R.ok D.N (s.set r (.J (l++[v])))else .B)|_=>.B)=_;rw[h];exact ij z
end
def aJ6 s t b :∃ s',zp s (.T b) t=.ok (.T b) s':=by
 unfold zp;by_cases h:af1 s t=ca
 .rw[ij h];exact⟨_,rfl⟩
 .rw[iF h];exact⟨_,rfl⟩
def Yes (r:R D):Prop:=∃ s',r=.ok (.T ca) s'
def bi4 s t :Yes (zp s (.T ca) t):=aJ6 s t ca
def am7 {j:Nat}(h:(af8 a b)[j]?=aT d):(j)<b - a/\d=.int (a+j):=by
 have hj:=(ac.mp h).1;simp only[af8,aq,ci]at hj;unfold af8 at h;rw[aI,cB hj]at h;exact⟨by omega,(aM h).symm⟩
def bT8 (P:Pr)(k:Nat):Prop:=∀ ns:List Int,ns.length<=63->Yes ((aa0 P k).call "law" [.ref 0] [.ro (ns.map D.int)])
noncomputable def aP8:Option Int->D
 | none=>.N
 | some i=>.int i
@[simp] theorem ao4:aP8 bY=.N:=rfl
@[simp] theorem aE6 i :aP8 (aT i)=.int i:=rfl
@[simp] theorem aP3 p n :(aP8 p).bnd n=true:=by cases p<;>rfl
def aM7 p r :aP8 p≠.ref r:=by cases p<;>nofun
@[simp] theorem bP0 :zp s (aP8 p) s=.ok (aP8 p) s:=zQ (aP3 p) (aM7 p)
noncomputable def zm (b:Nat×Nat):O:=.J [.int b.1,.int b.2]
@[simp] theorem cf4 b n :(zm b).bnd n=true:=rfl
noncomputable def tkW (many:Nat):Nat->Nat->Nat->Nat->Nat×Nat
 | 0,mix,num,_=>(num,mix)
 | n+1,mix,num,room=>if room<many then tkW many n ((mix*48271+7919) % 2147483647) (num*1073741789+(mix*48271+7919) % 2147483647 / 8*69621 % 1073741789) (room*1073741789)else(num,mix)
def tk (b:Nat×Nat)(many:Nat):Nat×(Nat×Nat) :=
 if 0<b.1 then(b.1 % many,(b.1 / many,b.2))else let r:=tkW many 12 b.2 0 1;(r.1 % many,(b.1,r.2))
def cl6 b (h:0<many):(tk b many).1<many:=by
 unfold tk;split
 .exact Nat.mod_lt _ h
 .exact Nat.mod_lt _ h
def bf0 (h:many<=room):tkW many k z J room=(J,z):=by
 cases k with
 | zero=>rfl
 | succ k=>unfold tkW;rw[iF (by lia)]
def bt3 (h:room<many):tkW many (k+1) z J room=tkW many k ((z*48271+7919) % 2147483647) (J*1073741789+(z*48271+7919) % 2147483647 / 8*69621 % 1073741789) (room*1073741789):=by
 conv=>lhs;unfold tkW
 rw[ij h]
def bO1 [Has P ad4] n b (many:Nat)(h0:0<many)(h:many<=10^90) s r (hs:s[r]?=aT (zm b)) :
  (aa0 P (n+1)).call "_law_take" [.ref r,.int many] s=.ok (.int (tk b many).1) (s.set r (zm (tk b many).2)):=by
 refine(ze ad4 rfl).trans ?_;obtain⟨c,m⟩:=b;have hr:=(ac.mp hs).1;have a0:(0:Int)<(many:Int):=by lia
 have a2:(many:Int)<10^200:=by
  have:(10:Int)^90<10^200:=by decide +kernel
  have:((many:Nat):Int)<=((10^90:Nat):Int):=by exact_mod_cast h
  lia
 by_cases hc:0<c
 .have Y:s[r]?=aT (.J [.int c,.int m]):=hs;simp[ad4,ixM,Y,ixn,hc,ap3 a0,aO5 a0 a2,setIx,tk];exact ai9 (λ _=>rfl) (by nofun) rfl
 .have a1:c=0:=by lia
  subst a1;have Y:s[r]?=aT (.J [.int 0,.int m]):=hs;simp[ad4,ixM,Y,ixn];refine bp2 (λ k U t=>∃ z J room:Nat,U=[aT (.ref r),aT (.int many),bY,aT (.int J),aT (.int room)]/\t=s.set r (zm (0,z))/\many<=room*1073741789^k/\tkW many k z J room=tkW many 12 m 0 1)
   (λ U t=>∃ room:Nat,U=[aT (.ref r),aT (.int many),bY,aT (.int (tkW many 12 m 0 1).1),aT (.int room)]/\t=s.set r (zm (0,(tkW many 12 m 0 1).2))) 12 ⟨m,0,1,by simp,?_,?_,rfl⟩ ?_ ?_
  .have e:s[r]=zm (0,m):=(ac.mp hs).2;rw[<-e,dU]
  .refine ak h ?_
   decide +kernel
  .rintro k U t ⟨z,J,room,rfl,rfl,Z,he⟩
   by_cases hlt:room<many
   .simp only[ev_cmp,qU,qX,qY,R.bind_ok,lt_int,bw0,jW,hlt,decide_true,if_true];cases k with
    | zero=>simp at Z;omega
    | succ k =>
     have h1:(s.set r (zm (0,z)))[r]?=aT (.J [.int 0,.int z]):=by rw[aW hr];rfl
     have m1:∀ a:Int,mulOk a 48271=true:=λ a=>ay9 (by decide);have m2:∀ a:Int,mulOk a 1073741789=true:=λ a=>ay9 (by decide);have m3:∀ a:Int,mulOk a 69621=true:=λ a=>ay9 (by decide);refine jd ?_ ⟨k,bV k,(z*48271+7919) % 2147483647,J*1073741789+(z*48271+7919) % 2147483647 / 8*69621 % 1073741789,room*1073741789,rfl,rfl,?_,?_⟩
     .simp[ixM,h1,ixn,aj6 (m1 _),ap3,setIx,hr,aj6 (m2 _),aj6 (m3 _),aO5,zm]
     .rw[f8]at Z;rw[Nat.mul_assoc,Nat.mul_comm 1073741789];exact Z
     .rw[<-he,bt3 hlt]
   .simp only[ev_cmp,qU,qX,qY,R.bind_ok,lt_int,bw0,jW,hlt,decide_false,if_false,bI];refine⟨room,?_,?_⟩
    .rw[<-he,bf0 (by lia)]
    .rw[<-he,bf0 (by omega)]
  .rintro U t ⟨room,rfl,rfl⟩
   simp[ap3 a0,tk];exact ai9 (λ _=>rfl) (by nofun) rfl
noncomputable def bw4 (at_:Int)(ns:List Int):Nat->Int
 | 0=>7919*at_+17
 | k+1=>(bw4 at_ ns k*48271+(ns.getD k 0) % 2147483647+k) % 2147483629
def bM8 at_ (h:0<=at_) ns :∀ k,0<=bw4 at_ ns k
 | 0=>by unfold bw4;lia
 | k+1=>by unfold bw4;exact Int.emod_nonneg _ (by decide)
noncomputable def cellF (ns:List Int)(at_:Nat):Nat:=if 10^18<=(ns.getD at_ 0).natAbs then(ns.getD at_ 0).natAbs else 0
def bJ9 (ns:List Int)(at_:Nat):Nat×Nat:=(cellF ns at_,(bw4 at_ ns (min ns.length 60)).toNat)
def by2 [Has P ay0] n ns (at_:Nat) s r (hs:s[r]?=aT (.ro (ns.map D.int)))(hl:ns.length<=63) :
  (aa0 P (n+1)).call "_law_bag" [.ref r,.int at_] s=.ok (.ref s.length) (s++[zm (bJ9 ns at_)]):=by
 refine(ze ay0 rfl).trans ?_;have m1:∀ a:Int,mulOk 7919 a=true:=λ a=>bG8 (by decide);have m2:∀ a:Int,mulOk a 48271=true:=λ a=>ay9 (by decide);have z:bi .len [.ref r] s=.ok (.int ns.length) s:=by rw[bW4 hs,aq]
 have J:∀(c:Int),(c<10^18->cellF ns at_=0)->(10^18<=c->(cellF ns at_:Int)=c) ->
   (exs (aa0 P n) (.cons (.A (.Y 3) (.G .add (.G .mul (.K (.int 7919)) (.X 1)) (.K (.int 17)))) (.cons (.fo (.Y 4) (.rg (.bi .min2 (.cons (.bi .len (.cons (.X 0) .nil)) (.cons (.K (.int 60)) .nil)))) (.cons (.A (.Y 3) (.G .mod (.G .add (.G .add (.G .mul (.X 3) (.K (.int 48271))) (.G .mod (.ix (.X 0) (.X 4)) (.K (.int 2147483647)))) (.X 4)) (.K (.int 2147483629)))) .nil)) (.cons (.ite (.Z .lt (.X 2) (.G .pow (.K (.int 10)) (.K (.int 18)))) (.cons (.A (.Y 2) (.K (.int 0))) .nil) .nil) (.cons (.ret (.J (.cons (.X 2) (.cons (.X 3) .nil)))) .nil)))) [aT (.ref r),aT (.int at_),aT (.int c),bY,bY] s).bind (fin s)=.ok (.ref s.length) (s++[zm (bJ9 ns at_)]):=by
  intro c h1 h2;simp[aj6 (m1 _),z];have hk:(if(60:Int)<(ns.length:Int)then 60 else(ns.length:Int))=((min ns.length 60:Nat):Int):=by lia
  rw[hk,qo (by unfold Ww62;lia) (by unfold Ww62;omega)];simp only[R.bind_ok];refine am4 (λ j U t=>t=s/\∃ x,U=[aT (.ref r),aT (.int at_),aT (.int c),aT (.int (bw4 at_ ns j)),x]) ⟨rfl,bY,rfl⟩ (λ _ _ _ _ _=>rfl) ?_ ?_
  .rintro j d U t hj ⟨rfl,x,rfl⟩
   have a1:=by have:=(ac.mp hj).1;simpa [af8]using this
   have hd:d=.int (j:Int):=by simpa [af8,a1]using hj.symm
   subst hd;refine jd ?_ ⟨rfl,aT (.int (j:Int)),rfl⟩;have hx:ixM (.ref r) (.int (j:Int)) t=.ok (.int (ns.getD j 0)) t:=bP7 hs (by simp[show j<ns.length by lia]);simp[turn,aj6 (m2 _),hx,ap3,bw4]
  .rintro U t ⟨rfl,x,rfl⟩
   have a2:(af8 0 ((min ns.length 60:Nat):Int)).length=min ns.length 60:=by simp[af8]
   rw[a2];have a0:=bM8 at_ (by lia) ns (min ns.length 60);have Y:∀ c',(c':Int)=cellF ns at_->zp t (.ref t.length) (t++[.J [.int c',.int (bw4 at_ ns (min ns.length 60))]])=.ok (.ref t.length) (t++[zm (bJ9 ns at_)]):=by
    intro c' Z;have:=qc (s:=t) (t:=[]) (u:=[]) (o:=zm (bJ9 ns at_)) rfl;simp only[fO,fg,fP]at this;rw[<-this];simp[zm,bJ9,Z,Int.toNat_of_nonneg a0]
   by_cases h:c<10^18
   .have h':c<1000000000000000000:=h;simp[bc2,h'];exact Y 0 (by rw[h1 h];rfl)
   .have h':¬ c<1000000000000000000:=h;simp[bc2,h'];exact Y c (h2 (by omega)).symm
 by_cases hat:at_<ns.length
 .have hx:ixM (.ref r) (.int at_) s=.ok (.int (ns.getD at_ 0)) s:=bP7 hs (by simp[hat]);have e:=J (if ns.getD at_ 0<0 then -ns.getD at_ 0 else ns.getD at_ 0) (by unfold cellF;intro h;rw[iF (by omega)]) (by unfold cellF;intro h;rw[ij (by omega)];omega);rw[<-e];simp[ay0,z,hat,hx]
 .have e:=J 0 (by unfold cellF;intro h;rw[iF];rw[aB,cj (by lia)];decide) (by intro h;exact nc h (by decide));rw[<-e];simp[ay0,z,hat]
def aj3 { t:Sto}(h:r<s.length):(s++t).set r o=s.set r o++t:=by rw[fQ,ij h]
def zb { t:Sto}{r:Nat}(h:s[r]?=aT o):(s++t)[r]?=aT o:=by
 rw[ax (ac.mp h).1];exact h
def zy {s:Sto}(h:r<s.length):(s.set r o)[r]?=aT o:=aW h
def bo9 [Has P ad4] n b many (h0:0<many)(h:many<=10^90) s r (hs:s[r]?=aT (zm b)) :
  (aa0 P (n+1)).call "_law_take" [.ref r,.int many] s=.ok (.int (tk b many.toNat).1) (s.set r (zm (tk b many.toNat).2)):=by
 have:=bO1 n b many.toNat (P:=P) (by lia) (by have:=(by simpa using h);lia) s r hs
 rwa [show((many.toNat))=many by lia]at this
def bd (b:Nat×Nat):Nat×(Nat×Nat) :=
 let x0:=tk b 3
 let x1:=tk x0.2 13
 let x2:=tk x1.2 1000000000
 let x3:=tk x2.2 1000000000000000000000000000000
 let i:=tk x3.2 4
 ([x0.1,x1.1,x2.1,x3.1].getD i.1 0,i.2)
section
variable {F:Fns} {U:Env} {s:Sto}
def zJ (F:Fns)(tg:Tg)(e:E)(d:D)(U:Env)(s:Sto):R (Option D×Env):=match ac9 U tg d with
 | some U=>(ev F e U s).bind λ v s=>.ok (aT v,U) s
 | none=>.B
def bJ6 (F:Fns)(tg:Tg)(c e:E)(d:D)(U:Env)(s:Sto):R (Option D×Env):=match ac9 U tg d with
 | some U=>tru (ev F c U s) λ k s=>if k then(ev F e U s).bind λ v s=>.ok (aT v,U) s else .ok (bY,U) s
 | none=>.B
@[simp] theorem zO tg it e z :evL F (.comp tg it e z) U s=(evI F it U s).bind λ q s0=>if q.its.length<=LIM then zX (λ s=>chk s0 s q.src) (zJ F tg e) q.its (zM U z) s0 else .B:=rfl
@[simp] theorem bO8 tg it c e z :evL F (.compIf tg it c e z) U s=(evI F it U s).bind λ q s0=>if q.its.length<=LIM then zX (λ s=>chk s0 s q.src) (bJ6 F tg c e) q.its (zM U z) s0 else .B:=rfl
@[simp] theorem bc1 a z :ev F (.slU a z) U s=(ev F a U s).bind λ x s=>(ev F z U s).bind λ y s=>match y with|.int i=>slM x bY (aT i) s|_=>.B:=rfl
@[simp] theorem aL5 a z :ev F (.slL a z) U s=(ev F a U s).bind λ x s=>(ev F z U s).bind λ y s=>match y with|.int i=>slM x (aT i) bY s|_=>.B:=rfl
end
theorem qw (P:Env->Sto->Prop) f :∀ l U s ,P U s ->
  (∀ U s,P U s->ok s=ca)->(∀ d∈l,∀ U s,P U s->∃ U' s',g d U s=.ok (f d,U') s'/\P U' s')->∃ U' s',zX ok g l U s=.ok (l.filterMap f) s'/\P U' s'
 | [],U,s,h,o,_=>⟨U,s,by unfold zX;rw[ij (o U s h)];rfl,h⟩
 | d::l,U,s,h,o,st=>by
  obtain⟨U1,s1,e1,z⟩:=st d (ao ..) U s h;obtain⟨U2,s2,e2,J⟩:=qw P f l U1 s1 z o λ x hx=>st x (ah _ hx);refine⟨U2,s2,?_,J⟩;unfold zX;rw[ij (o U s h),e1];simp only[R.bind_ok];rw[e2,bB];cases f d<;>rfl
def zV [Has P ad4] n {s}{r}(hs:∃ b,s[r]?=aT (zm b)) many (h0:0<many)(h:many<=10^90) :
  ∃(k:Nat) (b:Nat×Nat),(k:Int)<many/\(aa0 P (n+1)).call "_law_take" [.ref r,.int many] s=.ok (.int k) (s.set r (zm b)):=by
 obtain⟨b,hb⟩:=hs;have:=cl6 b (many:=many.toNat) (by omega);exact⟨(tk b many.toNat).1,(tk b many.toNat).2,by lia,bo9 n b many h0 h s r hb⟩
def qd {k:Int}(h:k<=1000):k<=10^90:=iq h (by decide)
def qJ {s:Sto}(h:r<s.length):∃ z,(s.set r (zm b))[r]?=aT (zm z):=⟨b,zy h⟩
def ar7 { t:Sto}{r:Nat}(h:∃ b,s[r]?=aT (zm b)):∃ b,(s++t)[r]?=aT (zm b):=by obtain⟨b,hb⟩:=h;exact⟨b,zb hb⟩
def aq2 {s:Sto}(h:∃ b,s[r]?=aT (zm b)):r<s.length:=by obtain⟨b,hb⟩:=h;exact(ac.mp hb).1
def qA (h:∀ d∈l,∀ n,d.bnd n=ca) n :D.bndL n l=true:=by
 induction l with
 | nil=>rfl
 | cons d l ih=>unfold D.bndL;rw[h d (ao ..),ih λ x hx=>h x (ah _ hx)];rfl
def aP9 {k:Nat}(h:k<3) s :ixM (.str [97,98,99]) (.int (k)) s=.ok (.str [97+k]) s:=by
 match k,h with
 | 0,_=>rfl
 | 1,_=>rfl
 | 2,_=>rfl
def af7 (h:a.length+b.length<=LIM):qi .add (.str a) (.str b) s=.ok (.str (a++b)) s:=by
 show(if a.length+b.length<=LIM then _ else _:M D) s=_;rw[ij h];rfl
def Lts (L:Nat)(w:List Nat):Prop:=∀ c∈w,97<=c/\c<97+L
noncomputable def ce7 (L:Nat)(d:D):Bool:=match d with
 | .str w=>decide (w.length<=200)&&w.all λ c=>decide (97<=c/\c<97+L)
 | _=>dr
def aG5 [HasC P x v]{n}{U}{s}:ev (aa0 P n) (.gl x) U s=.ok v s:=by
 show(match(aa0 P n).con x with|some d=>R.ok d s|none=>.B)=_;rw[bD3 (v:=v)]
def aJ0 :zh .isin a b s=(inM a b s).bind λ r s=>.ok (.T r) s:=rfl
@[simp] theorem cq8 a :ev F (.neg a) U s=(ev F a U s).bind λ x s=>match x with|.int i=>.ok (.int (-i)) s|_=>.B:=rfl
structure Dr where
 a:Nat
 l:Nat
 b:Nat
 t:Nat
noncomputable def Dr.d (x:Dr):D:=.tp [.int x.a,.str [x.l],.int x.b,.int x.t]
structure Mc where
 L:Nat
 R:Nat
 bg:List Nat
 en:List Nat
 ds:List Dr
noncomputable def as0 (l:List Nat):List D:=l.map λ(k:Nat)=>D.int (k)
def Mc.ps (m:Mc):List D:=[.int m.L,.int m.R,.tp (as0 m.bg),.tp (as0 m.en),.tp (m.ds.map Dr.d)]
noncomputable def Mc.d (m:Mc):D:=.tp m.ps
structure Dr.Ok (m:Mc)(x:Dr):Prop where
 a:x.a<m.R
 l:97<=x.l/\x.l<97+m.L
 b:x.b<m.R
 t:x.t<4
structure Mc.Ok (m:Mc):Prop where
 L1:1<=m.L
 L3:m.L<=3
 R1:1<=m.R
 R5:m.R<=5
 bg:(∀ k∈m.bg,k<m.R)/\m.bg.Pairwise (· < ·)
 en:(∀ k∈m.en,k<m.R)/\m.en.Pairwise (· < ·)
 ds:(∀ x∈m.ds,x.Ok m)/\m.ds.length<=75
def aQ0 :∀ d∈as0 l,∀ n,d.bnd n=true:=λ d hd n=>by
 obtain⟨c,_,rfl⟩:=aS.mp hd;rfl
def bj0 {l:List Dr}:∀ d∈l.map Dr.d,∀ n,d.bnd n=true:=λ d hd n=>by
 obtain⟨c,_,rfl⟩:=aS.mp hd;rfl
def aX3 {m:Mc}:∀ d∈m.ps,∀ n,d.bnd n=true:=λ d hd n=>by
 simp only[Mc.ps,aw,bw,or_false]at hd;rcases hd with rfl|rfl|rfl|rfl|rfl
 .rfl
 .rfl
 .unfold D.bnd;exact qA aQ0 n
 .unfold D.bnd;exact qA aQ0 n
 .unfold D.bnd;exact qA bj0 n
section
variable {P:Pr}
def aw6 (j:Nat)(h:l[j]?=aT d):ixM (.tp l) (.int (j)) s=.ok d s:=ix_tup h
def ixL (m:Mc) s :ixM m.d (.int 0) s=.ok (.int m.L) s:=aw6 0 rfl
def ixR (m:Mc) s :ixM m.d (.int 1) s=.ok (.int m.R) s:=aw6 1 rfl
def ixB (m:Mc) s :ixM m.d (.int 2) s=.ok (.tp (as0 m.bg)) s:=aw6 2 rfl
def ixE (m:Mc) s :ixM m.d (.int 3) s=.ok (.tp (as0 m.en)) s:=aw6 3 rfl
def ixD (m:Mc) s :ixM m.d (.int 4) s=.ok (.tp (m.ds.map Dr.d)) s:=aw6 4 rfl
def bg8 (h:∀ d∈l,∀ n,d.bnd n=ca):zp s (.tp l) s=.ok (.tp l) s:=zQ (λ n=>by unfold D.bnd;exact qA h n) (by nofun)
@[simp] theorem cl0 a b s :zh .ne (.str [a]) (.str [b]) s=.ok (.T (!decide (a=b))) s:=by
 show(match eqv s DEEP (.str [a]) (.str [b])with|some r=>R.ok (D.T (!r)) s|none=>.B)=_;have:eqv s DEEP (.str [a]) (.str [b])=aT ([a]==[b]):=rfl;rw[this];have e:([a]==[b])=decide (a=b):=by rw[cC];simp
 rw[e]
@[simp] theorem bB9 a b s :zh .eq (.str [a]) (.str [b]) s=.ok (.T (decide (a=b))) s:=by
 show(match eqv s DEEP (.str [a]) (.str [b])with|some r=>R.ok (D.T r) s|none=>.B)=_;have:eqv s DEEP (.str [a]) (.str [b])=aT ([a]==[b]):=rfl;rw[this];have e:([a]==[b])=decide (a=b):=by rw[cC];simp
 rw[e]
def cm2 (x:Dr) s :ixM x.d (.int 0) s=.ok (.int x.a) s:=aw6 0 rfl
def ch1 (x:Dr) s :ixM x.d (.int 1) s=.ok (.str [x.l]) s:=aw6 1 rfl
def ci6 (x:Dr) s :ixM x.d (.int 2) s=.ok (.int x.b) s:=aw6 2 rfl
def ci7 (x:Dr) s :ixM x.d (.int 3) s=.ok (.int x.t) s:=aw6 3 rfl
end
def ax4 {o:O}(hr:r<s.length)(hj:T[j]?=aT o)(ho:o.bnd s.length=ca):zp s (.ref (s.length+j)) (s.set r (zm b)++T)=.ok (.ref s.length) (s.set r (zm b)++[o]):=by
 unfold zp;rw[ij (aA5 s T r (zm b) rfl)];simp only;rw[iF (by lia)];have e:(s.set r (zm b)++T)[s.length+j]?=aT o:=by rw[aK (by simp)];simpa using hj
 rw[e];simp only;rw[ij ho,dH (by simp),cA (by simp)]
def good_of {L}(h:w.length<=200)(hw:Lts L w):ce7 L (.str w)=true:=by
 unfold ce7;simp only[h,decide_true,eL,aA,oR];exact hw
@[simp] theorem cl8 a J Y :ev F (.slLU a J Y) U s=(ev F a U s).bind λ x s=>(ev F J U s).bind λ y s=>match y with|.int i=>(ev F Y U s).bind (λ z s=>match z with|.int j=>slM x (aT i) (aT j) s|_=>.B)|_=>.B:=rfl
noncomputable abbrev qz:List Nat:=[108,101,116,116,101,114]
def two {l:List D}(h:l.length=2):∃ a b,l=[a,b]:=by
 match l,h with
 | [a,b],_=>exact⟨a,b,rfl⟩
theorem enumL_len:∀ l m ,(ae2 m l).length=l.length
 | [],_=>rfl
 | a::l,m=>by unfold ae2;rw[aQ,aQ,enumL_len l]
@[simp] theorem bk8 e :evI F (.enum (.seq e)) U s=(ev F e U s).bind λ d s=>(aH3 d s).bind λ q s=>.ok ⟨ae2 0 q.its,q.src⟩ s:=rfl
noncomputable abbrev zH:List Nat:=[110,111,116,104,105,110,103]
noncomputable abbrev zE:List Nat:=[114,101,112,101,97,116]
noncomputable abbrev zu:List Nat:=[101,105,116,104,101,114]
noncomputable abbrev zr:List Nat:=[98,101,104,105,110,100]
theorem av0:∀ l:List Int,zP (l.map D.int)=aT l
 | []=>rfl
 | a::l=>by rw[aY];unfold zP;rw[av0 l];rfl
def bs2 (l:List Nat):(l.map λ(k:Nat)=>(k:Int)).sum=((l.sum)):=by
 induction l with
 | nil=>rfl
 | cons a l ih=>rw[aY,ju,ju,ih];lia
def bv8 {l:List Nat}(Y:l.length<=1000)(h:∀ k∈l,k<=1000000000) s :mk .sum (l.map λ(k:Nat)=>D.int (k:Int)) s=.ok (.int ((l.sum:Nat):Int)) s:=by
 have e:(l.map λ(k:Nat)=>D.int (k:Int))=(l.map λ(k:Nat)=>(k:Int)).map D.int:=by rw[cU];rfl
 have J:cc9 (l.map λ(k:Nat)=>(k:Int))=true:=by
  unfold cc9;rw[aj,aA];refine⟨λ i z=>?_,by rw[aq];exact iN (by omega)⟩;obtain⟨k,hk,rfl⟩:=aS.mp z;have:=h k hk;exact iN (by lia)
 rw[e];unfold mk;simp only[av0,J,if_true,bs2]
def SS (s:Sto)(r q:Nat)(b:Nat×Nat)(y:Int):Sto:=(s.set r (zm b)).set q (.J [.int y])
def ai8 :(SS s r q b y).length=s.length:=by unfold SS;simp
def bm2 (hr:r<s.length)(hq:r≠q):(SS s r q b y)[r]?=aT (zm b):=by
 unfold SS;rw[ar (bP hq)];exact zy hr
def bo0 (hq:q<s.length):(SS s r q b y)[q]?=aT (.J [.int y]):=by
 unfold SS;exact zy (by rw[aU];exact hq)
def aw3 (hq:r≠q):(SS s r q b y).set r (zm z)=SS s r q z y:=by
 unfold SS;rw[List.set_comm _ _ (bP hq),cH]
def aI1 :(SS s r q b y).set q (.J [.int y'])=SS s r q b y':=by
 unfold SS;rw[cH]
def aX1 (z:s[r]?=aT (zm b))(J:s[q]?=aT (.J [.int y])):SS s r q b y=s:=by
 unfold SS;have e1:s.set r (zm b)=s:=by
  have e:=(ac.mp z).2;rw[<-e,dU]
 have e2:s.set q (.J [.int y])=s:=by
  have e:=(ac.mp J).2;rw[<-e,dU]
 rw[e1,e2]
def bT0 (hr:r<s.length)(hq:q<s.length):SS (s++T) r q b y=SS s r q b y++T:=by
 unfold SS;rw[aj3 hr,aj3 (by rw[aU];exact hq)]
def aR9 (hq:r≠q):SS (SS s r q b y) r q z y'=SS s r q z y':=by
 show List.set (List.set (SS s r q b y) r (zm z)) q (.J [.int y'])=_;rw[aw3 hq,aI1]
def aN1 (h:∀ n,d.bnd n=ca)(hd:∀ r,d≠.ref r):zp s d (SS s r q b y++T)=.ok d (SS s r q b y):=by
 have ho:af1 s (SS s r q b y++T)=true:=by
  unfold af1;rw[aA];intro i z;rw[bO]at z;rw[ax (by rw[ai8];exact z)];unfold SS;by_cases e:q=i
  .subst e;rw[aW (by simpa using z),bz];exact .inr rfl
  .rw[ar e];by_cases e2:r=i
   .subst e2;rw[aW z,bz];exact .inr rfl
   .rw[ar e2];simp
 have e:(SS s r q b y++T).take s.length=SS s r q b y:=by rw[dH (by rw[ai8];exact al _),cA (by rw[ai8];exact al _)]
 unfold zp;rw[ij ho];cases d with
 | ref r=>exact nc rfl (hd r)
 | _=>simp only[h,if_true,e]
set_option genCtorIdx true in
inductive Tr where
 | nothing|letter (c:Nat)|rep (t:Tr)|two (b:Bool) (t u:Tr)
def cf3 (b:Bool):List Nat:=if b then zu else zr
noncomputable def cs8 (b:Bool):Nat:=if b then 124 else 46
def Tr.d:Tr->D
 | .nothing=>.tp [.str zH]
 | .letter c=>.tp [.str qz,.str [c]]
 | .rep t=>.tp [.str zE,t.d]
 | .two b t u=>.tp [.str (cf3 b),t.d,u.d]
def Tr.wr:Tr->List Nat
 | .nothing=>[45]
 | .letter c=>[c]
 | .rep t=>t.wr++[42]
 | .two b t u=>40::(t.wr++cs8 b::(u.wr++[41]))
noncomputable def Tr.ok:Tr->Prop
 | .nothing=>True
 | .letter c=>97<=c/\c<100
 | .rep t=>t.ok
 | .two _ t u=>t.ok/\u.ok
noncomputable def Tr.dep:Tr->Nat
 | .nothing=>1
 | .letter _=>1
 | .rep t=>t.dep+1
 | .two _ t u=>max t.dep u.dep+1
noncomputable def Tr.sz:Tr->Nat
 | .nothing=>1
 | .letter _=>1
 | .rep t=>t.sz+1
 | .two _ t u=>t.sz+u.sz+1
theorem Tr.bnd:∀(t:Tr) n ,t.d.bnd n=ca
 | .nothing,n=>rfl
 | .letter c,n=>rfl
 | .rep t,n=>by unfold Tr.d D.bnd D.bndL D.bndL D.bndL;rw[Tr.bnd t n];rfl
 | .two b t u,n=>by unfold Tr.d D.bnd D.bndL D.bndL D.bndL D.bndL;rw[Tr.bnd t n,Tr.bnd u n];rfl
def Tr.noref (t:Tr):∀ r,t.d≠.ref r:=by cases t<;>nofun
def Tr.dep1 (t:Tr):1<=t.dep:=by cases t<;>simp[Tr.dep]
def bR2 (s:Sto)(r q k room:Nat)(x:R D):Prop:=∃(t:Tr) (b:Nat×Nat) (y:Int),(t.ok/\t.dep<=k/\t.sz<=room)/\x=.ok t.d (SS s r q b y)
def aC8 [Has P ad4][Has P jc] n {r q}(a0:r≠q) k s room (hs:∃ b,s[r]?=aT (zm b))(hy:∃ y,s[q]?=aT (.J [.int y]))(a6:1<=room)(c3:room<=40)
  (ih:0<k->∀(s:Sto) (room:Nat),(∃ b,s[r]?=aT (zm b))->(∃ y,s[q]?=aT (.J [.int y]))->1<=room->room<=40->bR2 s r q k room ((aa0 P (n+1)).call "_law_set" [.ref r,.int (k:Int),.int room,.ref q] s)) :
  bR2 s r q (k+1) room ((aa0 P (n+2)).call "_law_set" [.ref r,.int ((k)+1),.int room,.ref q] s):=by
 have e0:(aa0 P (n+2)).call "_law_set" [.ref r,.int ((k:Int)+1),.int room,.ref q] s=_:=ze jc (n:=n+1) rfl;rw[e0];have hr:=aq2 hs;obtain⟨b0,c2⟩:=hs;obtain⟨y0,a5⟩:=hy;have hq:q<s.length:=(ac.mp a5).1;have s0:=aX1 c2 a5;have tk:∀(b:Nat×Nat) (y:Int) (T:Sto) (many:Int),0<many->many<=1000->∃(k:Nat) (b':Nat×Nat),(k:Int)<many/\(aa0 P (n+1)).call "_law_take" [.ref r,.int many] (SS s r q b y++T)=.ok (.int k) (SS s r q b' y++T):=λ b y T many h0 h1=>by
  obtain⟨k,b',h2,h3⟩:=zV (P:=P) n (s:=SS s r q b y++T) (r:=r) ⟨b,zb (bm2 hr a0)⟩ many h0 (qd h1);exact⟨k,b',h2,by rw[h3,aj3 (by rw[ai8];exact hr),aw3 a0]⟩
 have a3:∀(b:Nat×Nat) (y:Int) (many:Int),0<many->many<=1000->∃(k:Nat) (b':Nat×Nat),(k:Int)<many/\(aa0 P (n+1)).call "_law_take" [.ref r,.int many] (SS s r q b y)=.ok (.int k) (SS s r q b' y):=λ b y many h0 h1=>by
  have:=tk b y [] many h0 h1;simpa using this
 have rc:0<k->∀(b:Nat×Nat) (y:Int) (T:Sto) (rm:Nat),1<=rm->rm<=40->∃(d:Tr) (b':Nat×Nat) (y':Int),(d.ok/\d.dep<=k/\d.sz<=rm)/\(aa0 P (n+1)).call "_law_set" [.ref r,.int (k:Int),.int rm,.ref q] (SS s r q b y++T)=.ok d.d (SS s r q b' y'++T):=λ hk b y T rm h1 h2=>by
  obtain⟨d,b',y',hd,e⟩:=ih hk (SS s r q b y++T) rm ⟨b,zb (bm2 hr a0)⟩ ⟨y,zb (bo0 hq)⟩ h1 h2;exact⟨d,b',y',hd,by rw[e,bT0 (by rw[ai8];exact hr) (by rw[ai8];exact hq),aR9 a0]⟩
 obtain⟨kind,b1,c6,e1⟩:=a3 b0 y0 8 (by decide) (by decide);have c0:(aa0 P (n+1)).call "_law_take" [.ref r,.int 8] s=.ok (.int kind) (SS s r q b1 y0):=by rw[s0]at e1;exact e1
 have Y:∀(d:Tr) (b:Nat×Nat) (y:Int) (T:Sto),(d.ok/\d.dep<=k+1/\d.sz<=room)->bR2 s r q (k+1) room (zp s d.d (SS s r q b y++T)):=λ d b y T hd=>⟨d,b,y,hd,aN1 d.bnd d.noref⟩
 have J:∀(d:Tr) (b:Nat×Nat) (y:Int),(d.ok/\d.dep<=k+1/\d.sz<=room)->bR2 s r q (k+1) room (zp s d.d (SS s r q b y)):=λ d b y hd=>by
  have:=Y d b y [] hd
  rwa [a8]at this
 have hc:ev (aa0 P (n+1)) (.or (.Z .eq (.X 1) (.K (.int 1))) (.or (.Z .lt (.X 2) (.K (.int 3))) (.Z .eq (.X 4) (.K (.int 0))))) [aT (.ref r),aT (.int ((k:Int)+1)),aT (.int room),aT (.ref q),aT (.int kind),bY,bY,bY] (SS s r q b1 y0)=.ok (.T (decide (k=0\/room<3\/kind=0))) (SS s r q b1 y0):=by
  by_cases h0:k=0
  .simp -implicitDefEqProofs [h0]
  .have a1:¬((k:Int)+1=1):=by lia
   by_cases h1:room<3
   .have a4:(room:Int)<3:=by lia
    simp -implicitDefEqProofs [h0,a1,h1,a4]
   .have a4:¬(room:Int)<3:=by lia
    simp -implicitDefEqProofs [h0,a1,h1,a4]
 conv=>arg 6;simp -implicitDefEqProofs only[jc,qT,aY,cR,cZ,fP,av,ex_asg,ev_call,evas_ex,evas_nil,qU,qX,qY,ev_cst,Cn_int,R.bind_ok,c0,qu,setV_s,setV_0,cO,setC_some,qM,ex_ite,hc,tru_bl]
 by_cases hleaf:k=0\/room<3\/kind=0
 .rw[iN hleaf];obtain⟨z,Z,c4,e2⟩:=a3 b1 y0 4 (by decide) (by decide);have il:ixM (.ref q) (.int 0) (SS s r q Z y0)=.ok (.int y0) (SS s r q Z y0):=zB (j:=0) (bo0 hq) rfl;have c1:ev (aa0 P (n+1)) (.or (.Z .eq (.X 5) (.K (.int 3))) (.Z .eq (.ix (.X 3) (.K (.int 0))) (.K (.int 0)))) [aT (.ref r),aT (.int ((k:Int)+1)),aT (.int room),aT (.ref q),aT (.int kind),aT (.int z),bY,bY] (SS s r q Z y0)=.ok (.T (decide (z=3\/y0=0))) (SS s r q Z y0):=by
   by_cases h0:z=3
   .simp -implicitDefEqProofs [h0]
   .have a1:¬((z:Int)=3):=by lia
    simp -implicitDefEqProofs [h0,a1,il]
  conv=>arg 6;simp -implicitDefEqProofs only[if_true,qT,ex_asg,ev_call,evas_ex,evas_nil,qU,qX,qY,ev_cst,Cn_int,R.bind_ok,e2,qu,setV_s,setV_0,cO,setC_some,qM,ex_ite,c1,tru_bl]
  by_cases h3:z=3\/y0=0
  .rw[iN h3]
   conv=>arg 6;simp -implicitDefEqProofs
   exact J .nothing _ _ ⟨trivial,by show 1<=k+1;lia,a6⟩
  .rw[js h3];have b6:setIx (.ref q) (.int 0) (.int (y0 - 1)) (SS s r q Z y0)=.ok () (SS s r q Z (y0 - 1)):=by
    have:=aw8 (j:=0) (v:=.int (y0 - 1)) (bo0 (b:=Z) (y:=y0) (r:=r) hq) (by simp);rw[show((0:Nat):Int)=0 from rfl]at this;rw[this]
    congr 1
    exact aI1
   have b5:=aP9 (k:=z) (by lia) (SS s r q Z (y0 - 1))
   conv=>arg 6;simp -implicitDefEqProofs [il,b6,b5]
   exact J (.letter (97+z)) _ _ ⟨⟨by lia,by lia⟩,by show 1<=k+1;omega,a6⟩
 .rw[js hleaf];have a2:0<k:=by lia
  have c5:(k:Int)+1 - 1=(k:Int):=by lia
  by_cases h3:(kind:Int)<3
  .obtain⟨d,Z,y2,hd,e2⟩:=rc a2 b1 y0 [] (room - 1) (by omega) (by lia);rw[a8,a8,show((room - 1:Nat):Int)=(room:Int) - 1 by lia]at e2
   conv=>arg 6;simp -implicitDefEqProofs [h3,e2]
   exact J (.rep d) _ _ ⟨hd.1,by show d.dep+1<=k+1;lia,by show d.sz+1<=room;lia⟩
  .obtain⟨a,Z,ha,e2⟩:=a3 b1 y0 ((room:Int) - 2) (by lia) (by lia);obtain⟨d,b3,y3,hd,e3⟩:=rc a2 Z y0 [] (a+1) (by lia) (by lia);rw[a8,a8,show((a+1:Nat):Int)=1+(a:Int)by lia]at e3;obtain⟨d',b4,y4,b9,e4⟩:=rc a2 b3 y3 [.J [.str zu,.str zr]] (room - 1 - (a+1)) (by omega) (by lia);rw[show((room - 1 - (a+1):Nat):Int)=(room:Int) - 1 - (1+(a:Int))by lia]at e4;obtain⟨x,hx,ix⟩:∃ x,(x=zu\/x=zr)/\ixM (.ref s.length) (.int ((kind:Int) % 2)) (SS s r q b3 y3++[.J [.str zu,.str zr]])=.ok (.str x) (SS s r q b3 y3++[.J [.str zu,.str zr]]):=by
    have hl:(SS s r q b3 y3++[O.J [.str zu,.str zr]])[s.length]?=aT (.J [.str zu,.str zr]):=by rw[aK (by rw[ai8];exact al _),ai8];simp
    rcases(show(kind:Int) % 2=((0:Nat):Int)\/(kind:Int) % 2=((1:Nat):Int)by lia)with h|h
    .exact⟨zu,.inl rfl,by rw[h];exact zB hl rfl⟩
    .exact⟨zr,.inr rfl,by rw[h];exact zB hl rfl⟩
   conv=>arg 6;simp -implicitDefEqProofs [h3,e2,e3,ai8,ap3,ix,e4]
   rcases hx with rfl|rfl
   .exact Y (.two ca d d') _ _ _ ⟨⟨hd.1,b9.1⟩,by show max d.dep d'.dep+1<=k+1;lia,by show d.sz+d'.sz+1<=room;omega⟩
   .exact Y (.two dr d d') _ _ _ ⟨⟨hd.1,b9.1⟩,by show max d.dep d'.dep+1<=k+1;omega,by show d.sz+d'.sz+1<=room;omega⟩
def bG9 [Has P ad4][Has P jc] n {r q}(Y:r≠q):∀ k s room ,(∃ b,s[r]?=aT (zm b))->(∃ y,s[q]?=aT (.J [.int y]))->1<=room->room<=40 ->
  bR2 s r q (k+1) room ((aa0 P (n+k+2)).call "_law_set" [.ref r,.int ((k)+1),.int room,.ref q] s):=by
 intro k
 induction k with
 | zero=>intro s room z J h3 h4;exact aC8 n Y 0 s room z J h3 h4 (λ h=>nc h (by decide))
 | succ k ih =>
  intro s room z J h3 h4;have:=aC8 (n+k+1) Y (k+1) s room z J h3 h4 (λ _ s room z J h3 h4=>by
   rw[show((k+1))=(k)+1 by lia];exact ih s room z J h3 h4)
  rw[show n+(k+1)+2=n+k+1+2 by lia];exact this
inductive Mt' (w:List Nat):Tr->Nat->Nat->Prop where
 | nothing {k:Nat} (h:k<=w.length):Mt' w .nothing k k
 | letter {c k:Nat} (h:w[k]?=aT c):Mt' w (.letter c) k (k+1)
 | rep0 {t:Tr} {k:Nat} (h:k<=w.length):Mt' w (.rep t) k k
 | repS {t:Tr} {k m j:Nat} (h:Mt' w t k m) (g:Mt' w (.rep t) m j):Mt' w (.rep t) k j
 | inl {t u:Tr} {k j:Nat} (h:Mt' w t k j):Mt' w (.two ca t u) k j
 | inr {t u:Tr} {k j:Nat} (h:Mt' w u k j):Mt' w (.two ca t u) k j
 | both {t u:Tr} {k m j:Nat} (h:Mt' w t k m) (g:Mt' w u m j):Mt' w (.two dr t u) k j
def Mt'.le (h:Mt' w t k j):k<=j/\j<=w.length:=by
 induction h with
 | nothing h=>exact⟨al _,h⟩
 | letter h=>exact⟨cg _,(ac.mp h).1⟩
 | rep0 h=>exact⟨al _,h⟩
 | repS _ _ a b=>exact⟨ak a.1 b.1,b.2⟩
 | inl _ a=>exact a
 | inr _ a=>exact a
 | both _ _ a b=>exact⟨ak a.1 b.1,b.2⟩
noncomputable def Tr.cnt:Tr->Nat
 | .nothing=>0
 | .letter _=>1
 | .rep t=>t.cnt
 | .two _ t u=>t.cnt+u.cnt
noncomputable def Tr.nul:Tr->Bool
 | .nothing=>ca
 | .letter _=>dr
 | .rep _=>ca
 | .two ca t u=>t.nul||u.nul
 | .two dr t u=>t.nul&&u.nul
noncomputable def Tr.fs:Tr->Nat->List Nat
 | .nothing,_=>[]
 | .letter _,b=>[b]
 | .rep t,b=>t.fs b
 | .two ca t u,b=>t.fs b++u.fs (b+t.cnt)
 | .two dr t u,b=>if t.nul then t.fs b++u.fs (b+t.cnt)else t.fs b
noncomputable def Tr.la:Tr->Nat->List Nat
 | .nothing,_=>[]
 | .letter _,b=>[b]
 | .rep t,b=>t.la b
 | .two ca t u,b=>t.la b++u.la (b+t.cnt)
 | .two dr t u,b=>if u.nul then t.la b++u.la (b+t.cnt)else u.la (b+t.cnt)
noncomputable def Tr.lt:Tr->List Nat
 | .nothing=>[]
 | .letter c=>[c]
 | .rep t=>t.lt
 | .two _ t u=>t.lt++u.lt
noncomputable def Tr.ed:Tr->Nat->Nat->Nat->Prop
 | .nothing,_,_,_=>False
 | .letter _,_,_,_=>False
 | .rep t,b,p,q=>t.ed b p q\/(p∈t.la b/\q∈t.fs b)
 | .two ca t u,b,p,q=>t.ed b p q\/u.ed (b+t.cnt) p q
 | .two dr t u,b,p,q=>(t.ed b p q\/u.ed (b+t.cnt) p q)\/(p∈t.la b/\q∈u.fs (b+t.cnt))
theorem Tr.lt_len:∀ t:Tr,t.lt.length=t.cnt
 | .nothing=>rfl
 | .letter _=>rfl
 | .rep t=>t.lt_len
 | .two _ t u=>by unfold Tr.lt Tr.cnt;rw[au,t.lt_len,u.lt_len]
theorem Tr.cnt_sz:∀ t:Tr,t.cnt<=t.sz
 | .nothing=>by decide
 | .letter _=>al _
 | .rep t=>by have:=t.cnt_sz;unfold Tr.cnt Tr.sz;lia
 | .two _ t u=>by have:=t.cnt_sz;have:=u.cnt_sz;unfold Tr.cnt Tr.sz;lia
theorem Tr.fs_in:∀(t:Tr) b ,∀ p∈t.fs b,b<=p/\p<b+t.cnt
 | .nothing,b,p,h=>by cases h
 | .letter c,b,p,h=>by cases az.mp h;exact⟨al _,bV _⟩
 | .rep t,b,p,h=>t.fs_in b p h
 | .two ca t u,b,p,h=>by
  show b<=p/\p<b+(t.cnt+u.cnt);rcases aE.mp (h)with z|z
  .have:=t.fs_in b p z;lia
  .have:=u.fs_in _ p z;lia
 | .two dr t u,b,p,h=>by
  show b<=p/\p<b+(t.cnt+u.cnt);have h:p∈(if t.nul then t.fs b++u.fs (b+t.cnt)else t.fs b):=h;split at h
  .rcases aE.mp h with z|z
   .have:=t.fs_in b p z;omega
   .have:=u.fs_in _ p z;omega
  .have:=t.fs_in b p h;omega
theorem Tr.la_in:∀(t:Tr) b ,∀ p∈t.la b,b<=p/\p<b+t.cnt
 | .nothing,b,p,h=>by cases h
 | .letter c,b,p,h=>by cases az.mp h;exact⟨al _,bV _⟩
 | .rep t,b,p,h=>t.la_in b p h
 | .two ca t u,b,p,h=>by
  show b<=p/\p<b+(t.cnt+u.cnt);rcases aE.mp (h)with z|z
  .have:=t.la_in b p z;omega
  .have:=u.la_in _ p z;omega
 | .two dr t u,b,p,h=>by
  show b<=p/\p<b+(t.cnt+u.cnt);have h:p∈(if u.nul then t.la b++u.la (b+t.cnt)else u.la (b+t.cnt)):=h;split at h
  .rcases aE.mp h with z|z
   .have:=t.la_in b p z;omega
   .have:=u.la_in _ p z;omega
  .have:=u.la_in _ p h;omega
theorem Tr.ed_in:∀(t:Tr) b p q ,t.ed b p q->(b<=p/\p<b+t.cnt)/\b<=q/\q<b+t.cnt
 | .nothing,b,p,q,h=>h.elim
 | .letter c,b,p,q,h=>h.elim
 | .rep t,b,p,q,h=>by
  rcases(h)with z|z
  .exact t.ed_in b p q z
  .exact⟨t.la_in b p z.1,t.fs_in b q z.2⟩
 | .two ca t u,b,p,q,h=>by
  show(b<=p/\p<b+(t.cnt+u.cnt))/\b<=q/\q<b+(t.cnt+u.cnt);rcases(h)with z|z
  .have:=t.ed_in b p q z;lia
  .have:=u.ed_in _ p q z;omega
 | .two dr t u,b,p,q,h=>by
  show(b<=p/\p<b+(t.cnt+u.cnt))/\b<=q/\q<b+(t.cnt+u.cnt);rcases(h)with(z|z)|z
  .have:=t.ed_in b p q z;omega
  .have:=u.ed_in _ p q z;omega
  .have:=t.la_in b p z.1;have:=u.fs_in _ q z.2;lia
inductive Rn (w:List Nat)(lt:Nat->Option Nat)(E:Nat->Nat->Prop):Nat->Nat->Nat->Nat->Prop where
 | Y {k p c:Nat} (h:w[k]?=aT c) (l:lt p=aT c):Rn w lt E k p (k+1) p
 | step {k p c p' j q:Nat} (h:w[k]?=aT c) (l:lt p=aT c) (e:E p p') (r:Rn w lt E (k+1) p' j q):Rn w lt E k p j q
def Rn.mono {E }(m:∀ p q,E p q->z p q)(h:Rn w lt E k p j q):Rn w lt z k p j q:=by
 induction h with
 | Y h l=>exact .Y h l
 | step h l e _ ih=>exact .step h l (m _ _ e) ih
def Rn.cat {E}(h:Rn w lt E k p m q)(e:E q q')(g:Rn w lt E m q' j r):Rn w lt E k p j r:=by
 induction h with
 | Y h l=>exact .step h l e g
 | step h l e' _ ih=>exact .step h l e' (ih e g)
def Rn.snoc {E}(h:Rn w lt E k p j q)(e:E q r)(hc:w[j]?=aT c)(l:lt r=aT c):Rn w lt E k p (j+1) r:=h.cat e (.Y hc l)
def Rn.last {E}(h:Rn w lt E k p j q):∃ z c,j=z+1/\w[z]?=aT c/\lt q=aT c/\((z=k/\q=p)\/∃ q',Rn w lt E k p z q'/\E q' q):=by
 induction h with
 | Y h l=>exact⟨_,_,rfl,h,l,.inl ⟨rfl,rfl⟩⟩
 | step h l e r ih =>
  obtain⟨z,c,e1,e2,J,Y⟩:=ih;refine⟨z,c,e1,e2,J,.inr ?_⟩;rcases Y with⟨rfl,rfl⟩|⟨q',r',e'⟩
  .exact⟨_,.Y h l,e⟩
  .exact⟨q',.step h l e r',e'⟩
def Rn.lt {lt}{E}(h:Rn w lt E k p j q):k<j:=by
 induction h with
 | Y=>exact bV _
 | step _ _ _ _ ih=>lia
def Rn.stay {lt}{E }{S:Nat->Prop}(cl:∀ p q,S p->E p q->z p q/\S q)(h:Rn w lt E k p j q)(hp:S p):Rn w lt z k p j q/\S q:=by
 induction h with
 | Y h l=>exact⟨.Y h l,hp⟩
 | step h l e _ ih =>
  obtain⟨a,b⟩:=cl _ _ hp e;obtain⟨c,d⟩:=ih b;exact⟨.step h l a c,d⟩
def Glu (w:List Nat)(lt:Nat->Option Nat)(t:Tr)(b k j:Nat):Prop:=(k=j/\k<=w.length/\t.nul=ca)\/∃ p q,p∈t.fs b/\q∈t.la b/\Rn w lt (t.ed b) k p j q
def bn2 (lt:Nat->Option Nat)(t:Tr)(b:Nat):Prop:=∀ i,i<t.cnt->lt (b+i)=t.lt[i]?
def bn2.l (h:bn2 lt (.two x t u) b):bn2 lt t b:=λ i z=>by
 have:=h i (by show i<t.cnt+u.cnt;lia);rw[this];show(t.lt++u.lt)[i]?=_;rw[ax (by rw[t.lt_len];exact z)]
def bn2.r (h:bn2 lt (.two x t u) b):bn2 lt u (b+t.cnt):=λ i z=>by
 have:=h (t.cnt+i) (by show t.cnt+i<t.cnt+u.cnt;lia);rw[lI,this];show(t.lt++u.lt)[t.cnt+i]?=_;rw[aK (by rw[t.lt_len];lia),t.lt_len,cy]
def glu_of (h:Mt' w t k j):∀ b,bn2 lt t b->Glu w lt t b k j:=by
 induction h with
 | nothing h=>exact λ b _=>.inl ⟨rfl,h,rfl⟩
 | @letter c k h=>exact λ b J=>.inr ⟨b,b,az.mpr rfl,az.mpr rfl,.Y h (J 0 kK)⟩
 | rep0 h=>exact λ b _=>.inl ⟨rfl,h,rfl⟩
 | @repS t k m j h g ih1 ih2 =>
  intro b J;have up:∀ {p q},t.ed b p q->(Tr.rep t).ed b p q:=λ z=>.inl z;rcases ih1 b J with⟨rfl,_,_⟩|⟨p,q,hp,hq,r⟩
  .exact ih2 b J
  .rcases ih2 b J with⟨rfl,_,_⟩|⟨p',q',hp',hq',r'⟩
   .exact .inr ⟨p,q,hp,hq,r.mono λ _ _=>up⟩
   .exact .inr ⟨p,q',hp,hq',(r.mono λ _ _=>up).cat (.inr ⟨hq,hp'⟩) r'⟩
 | @inl t u k j h ih =>
  intro b J;rcases ih b J.l with⟨rfl,hk,hn⟩|⟨p,q,hp,hq,r⟩
  .exact .inl ⟨rfl,hk,by show(t.nul||u.nul)=ca;rw[hn];rfl⟩
  .exact .inr ⟨p,q,bT _ hp,bT _ hq,r.mono λ _ _ z=>.inl z⟩
 | @inr t u k j h ih =>
  intro b J;rcases ih _ J.r with⟨rfl,hk,hn⟩|⟨p,q,hp,hq,r⟩
  .exact .inl ⟨rfl,hk,by show(t.nul||u.nul)=ca;rw[hn,Bool.or_true]⟩
  .exact .inr ⟨p,q,aO _ hp,aO _ hq,r.mono λ _ _ z=>.inr z⟩
 | @both t u k m j h g ih1 ih2 =>
  intro b J;have u1:∀ p q,t.ed b p q->(Tr.two dr t u).ed b p q:=λ _ _ z=>.inl (.inl z);have u2:∀ p q,u.ed (b+t.cnt) p q->(Tr.two dr t u).ed b p q:=λ _ _ z=>.inl (.inr z);have hf:∀ p,p∈t.fs b->p∈(Tr.two dr t u).fs b:=λ p hp=>by show p∈(if t.nul then _ else _);split;exact bT _ hp;exact hp
  have Z:∀ p,p∈u.la (b+t.cnt)->p∈(Tr.two dr t u).la b:=λ p hp=>by show p∈(if u.nul then _ else _);split;exact aO _ hp;exact hp
  rcases ih1 b J.l with⟨rfl,hk,hn⟩|⟨p,q,hp,hq,r⟩
  .rcases ih2 _ J.r with⟨rfl,a0,Y⟩|⟨p',q',hp',hq',r'⟩
   .exact .inl ⟨rfl,hk,by show(t.nul&&u.nul)=ca;rw[hn,Y];rfl⟩
   .exact .inr ⟨p',q',by show p'∈(if t.nul then _ else _);rw[ij hn];exact aO _ hp',Z _ hq',r'.mono u2⟩
  .rcases ih2 _ J.r with⟨rfl,a0,Y⟩|⟨p',q',hp',hq',r'⟩
   .exact .inr ⟨p,q,hf _ hp,by show q∈(if u.nul then _ else _);rw[ij Y];exact bT _ hq,r.mono u1⟩
   .exact .inr ⟨p,q',hf _ hp,Z _ hq',(r.mono u1).cat (.inr ⟨hq,hp'⟩) (r'.mono u2)⟩
theorem ai4 :∀ t {k},t.nul=ca->k<=w.length->Mt' w t k k
 | .nothing,k,_,h=>.nothing h
 | .letter _,k,z,h=>by cases z
 | .rep t,k,_,h=>.rep0 h
 | .two ca t u,k,z,h=>by
  rcases(bz _ _).mp (z)with z|z
  .exact .inl (ai4 t z h)
  .exact .inr (ai4 u z h)
 | .two dr t u,k,z,h=>by
  obtain⟨z1,z2⟩:=(aj _ _).mp (z);exact .both (ai4 t z1 h) (ai4 u z2 h)
def rep_cut (Y:∀ {k j:Nat},Glu w lt t b k j->Mt' w t k j)(h:Rn w lt ((Tr.rep t).ed b) k p j q)(hq:q∈t.la b) :
  (Rn w lt (t.ed b) k p j q)\/∃ m p' ,Rn w lt (t.ed b) k p m p'/\p'∈t.la b/\Mt' w (.rep t) m j:=by
 induction h with
 | Y h l=>exact .inl (.Y h l)
 | @step k p c p' j q h l e r ihr =>
  rcases ihr hq with z|⟨m,J,z1,z2,z3⟩
  .rcases e with e|⟨e1,e2⟩
   .exact .inl (.step h l e z)
   .refine .inr ⟨k+1,p,.Y h l,e1,?_⟩;have g:=Y (.inr ⟨p',q,e2,hq,z⟩);exact .repS g (.rep0 g.le.2)
  .rcases e with e|⟨e1,e2⟩
   .exact .inr ⟨m,J,.step h l e z1,z2,z3⟩
   .exact .inr ⟨k+1,p,.Y h l,e1,.repS (Y (.inr ⟨p',J,e2,z2,z1⟩)) z3⟩
theorem aT0 :∀ t b ,bn2 lt t b->∀ {k j},Glu w lt t b k j->Mt' w t k j
 | .nothing,b,hl,k,j,h=>by
  rcases h with⟨rfl,hk,_⟩|⟨p,q,hp,_⟩
  .exact .nothing hk
  .cases hp
 | .letter c,b,hl,k,j,h=>by
  rcases h with⟨rfl,hk,z⟩|⟨p,q,hp,hq,r⟩
  .cases z
  .cases az.mp hp;cases r with
   | Y h l =>
    have:=hl 0 kK;rw[fg,l]at this;cases this;exact .letter h
   | step h l e r=>exact e.elim
 | .rep t,b,hl,k,j,h=>by
  rcases h with⟨rfl,hk,_⟩|⟨p,q,hp,hq,r⟩
  .exact .rep0 hk
  .have ih:∀ {k j},Glu w lt t b k j->Mt' w t k j:=λ g=>aT0 t b hl g;rcases rep_cut ih r hq with z|⟨m,p',z1,z2,z3⟩
   .have g:=ih (.inr ⟨p,q,hp,hq,z⟩);exact .repS g (.rep0 g.le.2)
   .exact .repS (ih (.inr ⟨p,p',hp,z2,z1⟩)) z3
 | .two ca t u,b,hl,k,j,h=>by
  rcases h with⟨rfl,hk,z⟩|⟨p,q,hp,hq,r⟩
  .exact ai4 _ z hk
  .have c1:∀ p q,(b<=p/\p<b+t.cnt)->(Tr.two ca t u).ed b p q->t.ed b p q/\(b<=q/\q<b+t.cnt):=λ p q hp e=>by
    rcases(e)with z|z
    .exact⟨z,(t.ed_in b p q z).2⟩
    .have:=(u.ed_in _ p q z).1;omega
   have c2:∀ p q,(b+t.cnt<=p)->(Tr.two ca t u).ed b p q->u.ed (b+t.cnt) p q/\b+t.cnt<=q:=λ p q hp e=>by
    rcases(e)with z|z
    .have:=(t.ed_in b p q z).1;lia
    .exact⟨z,(u.ed_in _ p q z).2.1⟩
   rcases aE.mp (hp)with z|z
   .obtain⟨r1,s1⟩:=r.stay c1 (t.fs_in b p z);rcases aE.mp (hq)with y|y
    .exact .inl (aT0 t b hl.l (.inr ⟨p,q,z,y,r1⟩))
    .have:=(u.la_in _ q y).1;lia
   .obtain⟨r1,s1⟩:=r.stay c2 (u.fs_in _ p z).1;rcases aE.mp (hq)with y|y
    .have:=(t.la_in _ q y).2;lia
    .exact .inr (aT0 u _ hl.r (.inr ⟨p,q,z,y,r1⟩))
 | .two dr t u,b,hl,k,j,h=>by
  rcases h with⟨rfl,hk,z⟩|⟨p,q,hp,hq,r⟩
  .exact ai4 _ z hk
  .have i1:∀ {k j},Glu w lt t b k j->Mt' w t k j:=λ g=>aT0 t b hl.l g;have i2:∀ {k j},Glu w lt u (b+t.cnt) k j->Mt' w u k j:=λ g=>aT0 u _ hl.r g;have c2:∀ p q,(b+t.cnt<=p)->(Tr.two dr t u).ed b p q->u.ed (b+t.cnt) p q/\b+t.cnt<=q:=λ p q hp e=>by
    rcases(e)with(z|z)|z
    .have:=(t.ed_in b p q z).1;omega
    .exact⟨z,(u.ed_in _ p q z).2.1⟩
    .have:=(t.la_in b p z.1).2;omega
   have a1:∀ {k p j q},Rn w lt ((Tr.two dr t u).ed b) k p j q->(b<=p/\p<b+t.cnt)->(Rn w lt (t.ed b) k p j q/\q<b+t.cnt)\/∃ m p1 J,Rn w lt (t.ed b) k p m p1/\p1∈t.la b/\J∈u.fs (b+t.cnt)/\Rn w lt (u.ed (b+t.cnt)) m J j q/\b+t.cnt<=q:=by
    intro k p j q r
    induction r with
    | Y h l=>intro hp;exact .inl ⟨.Y h l,hp.2⟩
    | @step k p c p' j q h l e r ihr =>
     intro hp;rcases e with(e|e)|⟨e1,e2⟩
     .rcases ihr (t.ed_in b _ _ e).2 with⟨z,y⟩|⟨m,p1,J,z1,z2,z3,z4,z5⟩
      .exact .inl ⟨.step h l e z,y⟩
      .exact .inr ⟨m,p1,J,.step h l e z1,z2,z3,z4,z5⟩
     .have:=(u.ed_in _ _ _ e).1;omega
     .obtain⟨r1,s1⟩:=r.stay c2 (u.fs_in _ _ e2).1;exact .inr ⟨k+1,p,p',.Y h l,e1,e2,r1,s1⟩
   have a0:∀ {p},p∈u.fs (b+t.cnt)->p∈(Tr.two dr t u).fs b->t.nul=true:=λ {p} hu hp=>by
    have hp:p∈(if t.nul then t.fs b++u.fs (b+t.cnt)else t.fs b):=hp;split at hp
    .assumption
    .have:=(t.fs_in b p hp).2;have:=(u.fs_in _ p hu).1;lia
   have Y:∀ {q},q<b+t.cnt->q∈(Tr.two dr t u).la b->u.nul=ca/\q∈t.la b:=λ {q} hq1 hq=>by
    have hq:q∈(if u.nul then t.la b++u.la (b+t.cnt)else u.la (b+t.cnt)):=hq;split at hq
    .rcases aE.mp hq with z|z
     .exact⟨‹_›,z⟩
     .have:=(u.la_in _ q z).1;omega
    .have:=(u.la_in _ q hq).1;omega
   have Z:∀ {q},b+t.cnt<=q->q∈(Tr.two dr t u).la b->q∈u.la (b+t.cnt):=λ {q} hq1 hq=>by
    have hq:q∈(if u.nul then t.la b++u.la (b+t.cnt)else u.la (b+t.cnt)):=hq;split at hq
    .rcases aE.mp hq with z|z
     .have:=(t.la_in _ q z).2;omega
     .exact z
    .exact hq
   have a2:=by
    have hp:p∈(if t.nul then t.fs b++u.fs (b+t.cnt)else t.fs b):=hp;split at hp
    .exact aE.mp hp
    .exact .inl hp
   rcases a2 with z|z
   .rcases a1 r (t.fs_in b p z)with⟨r1,y⟩|⟨m,p1,J,z1,z2,z3,z4,z5⟩
    .obtain⟨n1,n2⟩:=Y y hq;have g:=i1 (.inr ⟨p,q,z,n2,r1⟩);exact .both g (ai4 u n1 g.le.2)
    .exact .both (i1 (.inr ⟨p,p1,z,z2,z1⟩)) (i2 (.inr ⟨J,q,z3,Z z5 hq,z4⟩))
   .obtain⟨r1,s1⟩:=r.stay c2 (u.fs_in _ p z).1;have g:=i2 (.inr ⟨p,q,z,Z s1 hq,r1⟩);exact .both (ai4 t (a0 z hp) (ak g.le.1 g.le.2)) g
noncomputable def row (m:Nat)(f:Nat->Int):List D:=(aH m).map λ j=>.int (f j)
@[simp] theorem cj7 :(row m f).length=m:=by unfold row;simp
def cb7 (m:Nat)(f:Nat->Nat->Int):Sto:=(aH m).map λ i=>.J (row m (f i))
@[simp] theorem bZ2 :(cb7 m f).length=m:=by unfold cb7;simp
noncomputable def ct3 (p m:Nat):List D:=(aH m).map λ i=>.ref (p+i)
def ix_str {j :Nat}(hj:l[j]?=aT c):ixM (.str l) (.int (j)) s=.ok (.str [c]) s:=by
 have z:=(ac.mp hj).1;have e:=(ac.mp hj).2;simp[ixM,ixn,z,e]
noncomputable def shN (f:Nat->Nat->Int)(i j:Nat):Nat->Int
 | 0=>3
 | k+1=>let b:=max (max (f i k) (if f k k=1 then 2 else f k k)) (f k j);if b<shN f i j k then b else shN f i j k
def sh (m:Nat)(f:Nat->Nat->Int)(i j:Nat):Int:=shN f i j m
inductive Stp where
 | let_ (c:Nat)|pair (i j:Nat)|sharp (i:Nat)
noncomputable abbrev Stp.ctorIdx (x:Stp):Nat:=Stp.casesOn x (λ _=>0) (λ _ _=>1) (λ _=>2)
noncomputable def Stp.d:Stp->D
 | .let_ c=>.tp [.str [108,101,116,116,101,114],.str [c]]
 | .pair i j=>.tp [.str [112,97,105,114],.int i,.int j]
 | .sharp i=>.tp [.str [115,104,97,114,112],.int i]
section
variable {s:Sto} {r:Nat} {b:Int} {A B Cc:List D} {T:Sto}
end
section
variable {m:Nat} {f:Nat->Nat->Int} {x:Int}
end
noncomputable def ck3 (a c:Int)(vs:List Int):Stp->Int
 | .let_ _=>a
 | .pair i j=>vs.getD i 0+vs.getD j 0
 | .sharp i=>vs.getD i 0*c
def vl (a c:Int)(l:List Stp):List Int:=l.foldl (λ vs x=>vs++[ck3 a c vs x]) []
section
variable {F:Fns} {U:Env} {s:Sto}
end
noncomputable def Stp.t (c:Int):Stp->D
 | .sharp i=>.tp [.str [116,105,109,101,115],.int i,.int c]
 | x=>x.d
def bk0 (ho:o.bnd s.length=ca):zp s (.ref s.length) (s++[o])=.ok (.ref s.length) (s++[o]):=by
 have:=qc (t:=[]) (u:=[]) ho;simpa using this
section
variable {P:Pr} [Has P bP1] [Has P at1] [HasL P aj4]
end
def qC {s:Sto}:(s++[o])[s.length]?=aT o:=by rw[aK (al _)];simp
end DV
end
noncomputable section
namespace DV
section
variable {F:Fns} {U:Env} {s:Sto}
def qK o f :ev F (.attr o f) U s=(ev F o U s).bind λ x s=>aq6 f x s:=rfl
def bR0 e :ev F (.srt e) U s=(ev F e U s).bind λ x s=>(bj5 x s).bind λ q s=>bu2 q s:=rfl
def ce3 c z :ev F (.new c z) U s=(ag3 F z U s).bind λ l s=>(F.new c (.ref s.length::l) (s++[.ins c []])).bind λ d s'=>if d=.N then .ok (.ref s.length) s' else .B:=rfl
def ah3 o m z :ev F (.mcall o m z) U s=(ev F o U s).bind λ x s=>(bO7 x s).bind λ c s=>(ag3 F z U s).bind λ l s=>F.mcall c m (x::l) s:=rfl
set_option tactic.hygienic true in
def bj3 o f e :ex F (.setA o f e) U s=(ev F e U s).bind λ d s=>(ev F o U s).bind λ x s=>(ax0 (λ c=>F.att c f) f x d s).bind λ _ s=>.ok (.next U) s:=rfl
end
noncomputable def ag2:List Nat:=[108,101,116,116,101,114,115]
noncomputable def am1:List Nat:=[102,111,108,108,111,119,115]
noncomputable def al2:List Nat:=[101,110,100,115]
def flds (a b e:Nat):List (D×D):=[(.str ag2,.ref a),(.str am1,.ref b),(.str al2,.ref e)]
def bF4 a b e :look (.str ag2) (flds a b e)=aT (.ref a):=by simp[look,flds,al2]
def bB1 a b e :look (.str am1) (flds a b e)=aT (.ref b):=by simp[look,flds,ag2,am1]
def bO3 a b e :look (.str al2) (flds a b e)=aT (.ref e):=by simp[look,flds,ag2,am1,al2]
def ao5 (h:s[o]?=aT (.ins "Rooms" (flds a b e))):aq6 ag2 (.ref o) s=.ok (.ref a) s:=by unfold aq6;simp only[h,bF4]
def aK3 (h:s[o]?=aT (.ins "Rooms" (flds a b e))):aq6 am1 (.ref o) s=.ok (.ref b) s:=by unfold aq6;simp only[h,bB1]
def bE0 (h:s[o]?=aT (.ins "Rooms" (flds a b e))):aq6 al2 (.ref o) s=.ok (.ref e) s:=by unfold aq6;simp only[h,bO3]
def qV (h:s[o]?=aT (.ins "Rooms" (flds a b e))):bO7 (.ref o) s=.ok "Rooms" s:=by unfold bO7;simp only[h]
def aU9 (ho:af1 s t=ca)(z:t.length=s.length):zp s .N t=.ok .N t:=by
 unfold zp;rw[ij ho];have:D.bnd s.length .N=true:=rfl;simp only[this,if_true];rw[<-z,cE]
noncomputable def dk (l:List Nat):List (D×D):=l.map λ(q:Nat)=>(D.int (q),D.T ca)
noncomputable def zd (l:List Nat):List D:=l.map λ(q:Nat)=>D.int (q)
noncomputable def aV6 (q:Nat)(l:List Nat):List Nat:=if q∈l then l else l++[q]
def aQ6 :x∈aV6 q l↔x∈l\/x=q:=by
 unfold aV6;split
 .constructor
  .exact .inl
  .rintro(h|rfl)
   .exact h
   .assumption
 .simp
set_option tactic.hygienic true in
def bE9 (h:l.Nodup):(aV6 q l).Nodup:=by
 unfold aV6;split
 .exact h
 .rename_i hq;rw[gE];exact⟨h,by simp,λ a ha b hb z=>hq (by rw[az.mp hb]at z;rw[<-z];exact ha)⟩
theorem aM0:∀ n (l:List Nat),l.Nodup->(∀ x∈l,x<n)->l.length<=n
 | 0,[],_,_=>al _
 | 0,x::l,_,h=>nc (h x (ao ..)) (by lia)
 | n+1,l,nd,h=>by
  have g:=aM0 n (l.filter λ x=>decide (x≠n)) (nd.filter _) λ x hx=>by
   have:=iw.mp hx;have J:=h x this.1;have Y:=dO this.2;lia
  have k:∀ m:List Nat,m.Nodup->m.length<=(m.filter λ x=>decide (x≠n)).length+1:=by
   intro m
   induction m with
   | nil=>intro _;simp
   | cons a m ih =>
    intro hm;rw[dP]at hm;by_cases ha:a=n
    .have e:m.filter (λ x=>decide (x≠n))=m:=List.filter_eq_self.mpr λ x hx=>iN λ z=>hm.1 (by rw[ha,<-z];exact hx);rw[List.filter_cons_of_neg (by simp[ha]),e];simp
    .rw[List.filter_cons_of_pos (by simp[ha])];have:=ih hm.2;simp only[aQ];lia
  have:=k l nd;lia
theorem aZ8 {q:Nat}:∀ {l},(look (.int (q)) (dk l)).isSome=decide (q∈l)
 | []=>rfl
 | x::l=>by
  show(if D.int (x)=D.int (q)then aT (D.T ca)else look _ (dk l)).isSome=_;by_cases h:x=q
  .subst h;simp
  .have:¬ D.int (x)=D.int (q):=λ z=>h (by injection z with z;lia);rw[iF this,aZ8];simp[bP h]
def bA4 {q:Nat}:aG4 (.int (q)) (.T ca) (dk l)=dk (aV6 q l):=by
 unfold aG4 aV6;rw[aZ8];by_cases h:q∈l
 .rw[ij h,ij (by simpa using h)];unfold dk;rw[cU];refine eF λ x _=>?_;show(if D.int (x)=D.int (q)then(D.int (x),D.T ca)else(D.int (x),D.T ca))=_;split<;>rfl
 .rw[iF h,iF (by simpa using h)];unfold dk;rw[cu];rfl
def cc3 l n :(O.dc (dk l)).bnd n=true:=by
 unfold O.bnd;rw[aj];refine⟨?_,?_⟩<;>(induction l with
  | nil=>rfl
  | cons x l ih=>exact ih)
def aQ9 l n :D.bndL n (zd l)=true:=by
 induction l with
 | nil=>rfl
 | cons x l ih=>exact ih
def bl6 (h:∀ i,i<s.length->t[i]?=s[i]?\/∃ o,t[i]?=aT o/\o.bnd s.length=ca):af1 s t=true:=by
 unfold af1;rw[aA];intro i J;rcases h i (bO.mp J)with z|⟨o,z1,z2⟩
 .rw[z];simp
 .rw[z1];simp[z2]
structure RoomsS (s:Sto)(o a b e:Nat)(L:List (List Nat))(rs:List Nat)(Fo:Nat->List Nat):Prop where
 ins:s[o]?=aT (.ins "Rooms" (flds a b e))
 let_:s[a]?=aT (.J (L.map D.str))
 fol:s[b]?=aT (.J (rs.map D.ref))
 len:rs.length=L.length
 dic:∀(i r:Nat),rs[i]?=aT r->s[r]?=aT (.dc (dk (Fo i)))
 nd:rs.Nodup
 pos:0<L.length
 big:L.length<=60
 nf:∀ i,(Fo i).Nodup
 lt:∀ i q,q∈Fo i->q<L.length
def RoomsS.notIn {L}(h:RoomsS s o a b e L J Y)(Z:s[i]?=aT x)(hx:∀ l,x≠.dc l):i ∉ J:=λ z=>by
 obtain⟨j,hj⟩:=fq.mp z;have:=h.dic j i hj;rw[Z]at this;exact hx _ (aM this)
section
variable {P:Pr} [HasM P "Rooms" "link" aa5]
def lkB:Ss:=.cons (.setIx (.ix (.attr (.X 0) am1) (.X 3)) (.X 4) (.K (.T ca))) .nil
def bf3:aa5.body=.cons (.fo (.Y 3) (.seq (.X 1)) (.cons (.fo (.Y 4) (.seq (.X 2)) lkB) .nil)) .nil:=rfl
set_option tactic.hygienic true in
def bC0 n {L}(h:RoomsS s o a b e L Y J)(hp:p<L.length)(hq:q<L.length) x4 :
  ∃ s' a0,turn (aa0 P n) (.Y 4) lkB (.int (q)) [aT (.ref o),aT (.ref f),aT (.ref g),aT (.int (p)),x4] s=.ok (.next [aT (.ref o),aT (.ref f),aT (.ref g),aT (.int (p)),aT (.int (q))]) s' /\
   RoomsS s' o a b e L Y a0/\(∀ p' q',q'∈a0 p'↔q'∈J p'\/(p'=p/\q'=q))/\s'.length=s.length/\∀ i,i ∉ Y->s'[i]?=s[i]?:=by
 have hr:p<Y.length:=by rw[h.len];exact hp
 have er:Y[p]?=aT Y[p]:=ag hr;have hd:=h.dic p _ er;have e1:=aK3 h.ins;have e2:ixM (.ref b) (.int (p:Int)) s=.ok (.ref Y[p]) s:=zB h.fol (by rw[aI,er];rfl);have hl:(J p).length<=60:=ak (aM0 _ _ (h.nf p) (h.lt p)) h.big;have e3:setIx (.ref Y[p]) (.int (q:Int)) (.T ca) s=.ok () (s.set Y[p] (.dc (dk (aV6 q (J p))))):=by
  unfold setIx;simp only[hd];rw[ij (by
   have:(dk (J p)).length=(J p).length:=by unfold dk;simp
   rw[aj];exact⟨rfl,iN (by rw[this];unfold LIM;lia)⟩),bA4]
 have hlt:Y[p]<s.length:=(ac.mp hd).1;have Z:∀ i,i ∉ Y->(s.set Y[p] (.dc (dk (aV6 q (J p)))))[i]?=s[i]?:=λ i hi=>ar λ z=>hi (by rw[<-z];exact ef hr);refine⟨s.set Y[p] (.dc (dk (aV6 q (J p)))),λ i=>if i=p then aV6 q (J p)else J i,?_,⟨?_,?_,?_,h.len,λ i r hi=>?_,h.nd,h.pos,h.big,λ i=>?_,λ i x hx=>?_⟩,λ p' q'=>?_,by simp,Z⟩
 .unfold turn lkB;simp -implicitDefEqProofs only[qT,exs_nil,ex_setIx,qU,ev_cst,ev_ix,Cn_bl,R.bind_ok,qu,setV_s,setV_0,qX,qY,Option.map_some,qM,qK,e1,e2,e3]
 .rw[Z _ (h.notIn h.ins (by nofun))];exact h.ins
 .rw[Z _ (h.notIn h.let_ (by nofun))];exact h.let_
 .rw[Z _ (h.notIn h.fol (by nofun))];exact h.fol
 .by_cases z:i=p
  .subst z;rw[er]at hi;cases hi;rw[zy hlt,ij rfl]
  .rw[iF z];rw[ar λ y=>z ((List.getElem?_inj (ac.mp hi).1 h.nd).mp (by rw[hi,<-y,er]))];exact h.dic i r hi
 .show(if i=p then _ else _:List Nat).Nodup;split
  .exact bE9 (h.nf p)
  .exact h.nf i
 .have hx:x∈(if i=p then aV6 q (J p)else J i):=hx;split at hx
  .rcases aQ6.mp hx with z|z
   .exact h.lt p x z
   .rw[z];exact hq
  .exact h.lt i x hx
 .show q'∈(if p'=p then aV6 q (J p)else J p')↔_;split
  .rename_i z;subst z;rw[aQ6];simp
  .rename_i z;simp[z]
def aM1 {i:Nat}(h:(zd l)[i]?=aT d):∃ q,l[i]?=aT q/\d=.int (q):=by
 unfold zd at h;rw[aI]at h;cases e:l[i]? with
 | none=>rw[e]at h;cases h
 | some q=>rw[e]at h;cases h;exact⟨q,rfl,rfl⟩
def zI l :(zd l).length=l.length:=by unfold zd;simp
def aK8 {α:Type}{l:List α}{x}(h:l[i]?=aT x) y :y∈l.take (i+1)↔y∈l.take i\/y=x:=by
 rw[j0,h];simp
def aG2 n {L}(h:RoomsS s o a b e L Z Fo)(hA:∀ p∈A,p<L.length)(hB:∀ q∈B,q<L.length)(hf:s[f]?=aT (.J (zd A)))(hg:s[g]?=aT (.J (zd B))) :
  ∃ s' J,(aa0 P (n+1)).mcall "Rooms" "link" [.ref o,.ref f,.ref g] s=.ok .N s'/\RoomsS s' o a b e L Z J/\(∀ p q,q∈J p↔q∈Fo p\/(p∈A/\q∈B))/\s'.length=s.length/\∀ i,i ∉ Z->s'[i]?=s[i]?:=by
 have nf:=h.notIn hf (by nofun);have ng:=h.notIn hg (by nofun);have q1:∀ {t:Sto},t[f]?=aT (.J (zd A))->am0 (.ref f) t=.ok ⟨zd A,[f]⟩ t:=λ {t} ht=>by unfold am0;simp only[ht]
 have q2:∀ {t:Sto},t[g]?=aT (.J (zd B))->am0 (.ref g) t=.ok ⟨zd B,[g]⟩ t:=λ {t} ht=>by unfold am0;simp only[ht]
 have key:=qH (ok:=λ t=>chk s t [f]) (g:=turn (aa0 P n) (.Y 3) (.cons (.fo (.Y 4) (.seq (.X 2)) lkB) .nil)) (λ j U t=>∃ x3 x4 J,U=[aT (.ref o),aT (.ref f),aT (.ref g),x3,x4]/\RoomsS t o a b e L Z J/\(∀ p q,q∈J p↔q∈Fo p\/(p∈A.take j/\q∈B))/\t.length=s.length/\∀ i,i ∉ Z->t[i]?=s[i]?)
  (zd A) 0 [aT (.ref o),aT (.ref f),aT (.ref g),bY,bY] s ⟨bY,bY,Fo,rfl,h,λ p q=>by simp,rfl,λ _ _=>rfl⟩ (λ j U t _ ⟨_,_,_,_,_,_,_,a1⟩=>by
   unfold chk;rw[dR,a1 f nf];simp) ?_
 .obtain⟨U',s',e1,x3,x4,J,rfl,R',m',l',a3⟩:=key;rw[bG,zI,cE]at m';refine⟨s',J,?_,R',m',l',a3⟩;rw[zT aa5 rfl,bf3,show(bq aT [D.ref o,D.ref f,D.ref g]++av aa5.vs bY)=[aT (.ref o),aT (.ref f),aT (.ref g),bY,bY]from rfl];simp -implicitDefEqProofs only[qT,ex_for,qU,evI_seq,R.bind_ok,qX,qY,q1 hf];rw[e1];simp -implicitDefEqProofs only[exs_nil,R.bind_ok,qM,fin_next];have ho:=bl6 λ i hi=>by
   by_cases z:i∈Z
   .obtain⟨j,hj⟩:=fq.mp z;exact .inr ⟨_,R'.dic j i hj,cc3 _ _⟩
   .exact .inl (a3 i z)
  exact aU9 ho l'
 .rintro j d U t hj ⟨x3,x4,a2,rfl,R1,m1,l1,a4⟩
  obtain⟨p,hp,rfl⟩:=aM1 hj;rw[bG]at m1;have b2:=aP hp;have b0:t[g]?=aT (.J (zd B)):=by rw[a4 g ng];exact hg
  have a5:=qH (ok:=λ u=>chk t u [g]) (g:=turn (aa0 P n) (.Y 4) lkB) (λ k U u=>∃ x4 Y,U=[aT (.ref o),aT (.ref f),aT (.ref g),aT (.int (p:Int)),x4]/\RoomsS u o a b e L Z Y/\(∀ p' q,q∈Y p'↔q∈a2 p'\/(p'=p/\q∈B.take k))/\u.length=t.length/\∀ i,i ∉ Z->u[i]?=t[i]?)
   (zd B) 0 [aT (.ref o),aT (.ref f),aT (.ref g),aT (.int (p:Int)),x4] t ⟨x4,a2,rfl,R1,λ p' q=>by simp,rfl,λ _ _=>rfl⟩ (λ k U u _ ⟨_,_,_,_,_,_,a1⟩=>by
    unfold chk;rw[dR,a1 g ng];simp) ?_
  .obtain⟨U',t',e2,a6,Y,rfl,R2,m2,l2,a0⟩:=a5;rw[bG,zI,cE]at m2;refine⟨[aT (.ref o),aT (.ref f),aT (.ref g),aT (.int (p:Int)),a6],t',.inl ?_,_,_,Y,rfl,R2,λ p' q=>?_,by rw[l2,l1],λ i hi=>by rw[a0 i hi,a4 i hi]⟩
   .unfold turn;simp -implicitDefEqProofs only[qT,ex_for,qU,evI_seq,R.bind_ok,qu,setV_s,setV_0,qX,qY,Option.map_some,q2 b0];rw[e2];simp -implicitDefEqProofs only[exs_nil,R.bind_ok,qM]
   .rw[m2,m1,bG,aK8 hp];constructor
    .rintro((z|z)|⟨rfl,z⟩)
     .exact .inl z
     .exact .inr ⟨.inl z.1,z.2⟩
     .exact .inr ⟨.inr rfl,z⟩
    .rintro(z|⟨z|z,y⟩)
     .exact .inl (.inl z)
     .exact .inl (.inr ⟨z,y⟩)
     .exact .inr ⟨z,y⟩
  .rintro k d U u hk ⟨x5,Y,rfl,R2,m2,l2,a0⟩
   obtain⟨q,hq,rfl⟩:=aM1 hk;rw[bG]at m2;obtain⟨u',b3,e3,R3,m3,l3,b1⟩:=bC0 (P:=P) n (f:=f) (g:=g) R2 (hA p b2) (hB q (aP hq)) x5;refine⟨_,u',.inl e3,_,b3,rfl,R3,λ p' q'=>?_,by rw[l3,l2],λ i hi=>by rw[b1 i hi,a0 i hi]⟩;rw[m3,m2,bG,aK8 hq];constructor
   .rintro((z|z)|⟨rfl,rfl⟩)
    .exact .inl z
    .exact .inr ⟨z.1,.inl z.2⟩
    .exact .inr ⟨rfl,.inr rfl⟩
   .rintro(z|⟨rfl,z|rfl⟩)
    .exact .inl (.inl z)
    .exact .inl (.inr ⟨rfl,z⟩)
    .exact .inr ⟨rfl,rfl⟩
end
section
variable {P:Pr} [HasM P "Rooms" "link" aa5] [HasM P "Rooms" "lay_letter" aa2] [HasM P "Rooms" "lay" aa3]
def z9 (hb:d.bnd s.length=dr)(hr:∀ r,d≠.ref r):zp s d t=.ok d t:=by
 unfold zp;split
 .cases d with
  | ref r=>exact nc rfl (hr r)
  | _=>simp only[hb,bI,if_false]
 .rfl
structure Laid (s s':Sto)(o a b e:Nat)(L:List (List Nat))(rs:List Nat)(Fo:Nat->List Nat)(t:Tr)(rs':List Nat)(Fo':Nat->List Nat)(f l:Nat):Prop where
 st:RoomsS s' o a b e (L++t.lt.map λ c=>[c]) (rs++rs') Fo'
 ed:∀ p q,q∈Fo' p↔q∈Fo p\/t.ed L.length p q
 fs:s'[f]?=aT (.J (zd (t.fs L.length)))
 la:s'[l]?=aT (.J (zd (t.la L.length)))
 nf:s.length<=f
 nl:s.length<=l
 le:s.length<=s'.length
 nr:∀ r∈rs',s.length<=r
 fr:∀ i,i<s.length->i≠a->i≠b->i ∉ rs->s'[i]?=s[i]?
def aI3 {L:List (List Nat)}(h:0<L.length):zd A≠L.map D.str:=λ z=>by
 cases L with
 | nil=>cases h
 | cons x L=>cases A with
  | nil=>cases z
  | cons y A=>cases z
def aG6 {L:List Nat}(h:0<L.length):zd A≠L.map D.ref:=λ z=>by
 cases L with
 | nil=>cases h
 | cons x L=>cases A with
  | nil=>cases z
  | cons y A=>cases z
def RoomsS.apart {L}(h:RoomsS s o a b e L Y Z)(J:s[i]?=aT (.J (zd A))):i≠a/\i≠b/\i ∉ Y:=by
 refine⟨λ z=>?_,λ z=>?_,h.notIn J (by nofun)⟩
 .subst z;rw[h.let_]at J;injection J with J;injection J with J;exact aI3 h.pos J.symm
 .subst z;rw[h.fol]at J;injection J with J;injection J with J;exact aG6 (by rw[h.len];exact h.pos) J.symm
def bk4:aa2.body=.cons (.A (.Y 2) (.bi .len (.cons (.attr (.X 0) ag2) .nil))) (.cons (.ex (.me .append (.attr (.X 0) ag2) (.cons (.X 1) .nil))) (.cons (.ex (.me .append (.attr (.X 0) am1) (.cons (.dc .nil .nil) .nil))) (.cons (.ret (.tp (.cons (.K (.T dr)) (.cons (.J (.cons (.X 2) .nil)) (.cons (.J (.cons (.X 2) .nil)) .nil))))) .nil))):=rfl
def bd5 :ev F (.dc .nil .nil) U s=.ok (.ref s.length) (s++[.dc []]):=rfl
def qN (h:n<=f):(D.tp [.T b,.ref f,.ref l]).bnd n=false:=by
 unfold D.bnd D.bndL D.bndL D.bndL D.bnd;simp;lia
def aH6 (n:Nat){s:Sto}{o a b e:Nat}{L:List (List Nat)}{rs:List Nat}{Fo:Nat->List Nat}(h:RoomsS s o a b e L rs Fo)(hab:a≠b)(ho:o≠a/\o≠b)(c:Nat)(hL:L.length<60)(hF:∀ p,L.length<=p->Fo p=[]) :
  ∃ s' a3 f l,(aa0 P (n+1)).mcall "Rooms" "lay_letter" [.ref o,.str [c]] s=.ok (.tp [.T dr,.ref f,.ref l]) s'/\Laid s s' o a b e L rs Fo (.letter c) a3 Fo f l:=by
 have ha:a<s.length:=(ac.mp h.let_).1;have hb:b<s.length:=(ac.mp h.fol).1;have a0:o<s.length:=(ac.mp h.ins).1;have e1:=ao5 h.ins;have e2:bi .len [.ref a] s=.ok (.int L.length) s:=by rw[ak0 h.let_,aq]
 have e3:=aj5 (v:=.str [c]) h.let_ (by rw[aq];unfold LIM;lia);generalize Y:s.set a (.J (L.map D.str++[.str [c]]))=s1 at e3;have l1:s1.length=s.length:=by rw[<-Y];simp
 have i1:s1[o]?=aT (.ins "Rooms" (flds a b e)):=by rw[<-Y,ar (bP ho.1)];exact h.ins
 have b1:s1[b]?=aT (.J (rs.map D.ref)):=by rw[<-Y,ar hab];exact h.fol
 have a1:s1[a]?=aT (.J (L.map D.str++[.str [c]])):=by rw[<-Y];exact zy ha
 have e4:=aK3 i1;have e5:=aj5 (s:=s1++[.dc []]) (v:=.ref s1.length) (zb b1) (by rw[aq,h.len];unfold LIM;lia);generalize J:(s1++[O.dc []]).set b (.J (rs.map D.ref++[.ref s1.length]))=s2 at e5;have l2:s2.length=s.length+1:=by rw[<-J];simp[l1]
 have g2:∀ i,i<s.length->i≠a->i≠b->s2[i]?=s[i]?:=λ i Z ia ib=>by
  rw[<-J,ar (bP ib),ax (by lia),<-Y,ar (bP ia)]
 have d2:s2[s.length]?=aT (.dc []):=by rw[<-J,ar (by lia),<-l1];exact qC
 have b2:s2[b]?=aT (.J (rs.map D.ref++[.ref s1.length])):=by rw[<-J];exact zy (by simp;lia)
 have a2:s2[a]?=aT (.J (L.map D.str++[.str [c]])):=by rw[<-J,ar (bP hab)];exact zb a1
 have a5:∀ r,mkq (.ref b) s1 (s1++[O.dc []]) r=r:=λ r=>aJ4 b1 (zb b1);refine⟨s2++[.J [.int L.length]]++[.J [.int L.length]],[s.length],s2.length,s2.length+1,?_,⟨⟨?_,?_,?_,?_,λ i r Z=>?_,?_,?_,?_,h.nf,λ i q hq=>?_⟩,λ p q=>?_,?_,?_,by lia,by lia,by simp;lia,λ r hr=>?_,λ i Z ia ib ir=>?_⟩⟩
 .rw[zT aa2 rfl,bk4,show(bq aT [D.ref o,D.str [c]]++av aa2.vs bY)=[aT (.ref o),aT (.str [c]),bY]from rfl];simp -implicitDefEqProofs only[an0,qT,ex_asg,ex_ret,ex_ex,qU,ev_cst,ev_tup,ev_lst,ev_bi,ev_meth,evs_nil,evs_cons,Cn_bl,R.bind_ok,qu,setV_s,setV_0,qX,qY,Option.map_some,setC_some,qM,nxt_ret,fin_ret,alloc_eq,a5,qK,e1,e2,e3,e4,bd5,e5];rw[show(s2++[O.J [D.int L.length]]).length=s2.length+1 by simp];exact z9 (qN (by omega)) (by nofun)
 .exact zb (zb (by rw[g2 o a0 ho.1 ho.2];exact h.ins))
 .exact zb (zb (by rw[a2,cu];rfl))
 .exact zb (zb (by rw[b2,cu,l1];rfl))
 .rw[au,au,h.len];rfl
 .refine zb (zb ?_);by_cases z:i<rs.length
  .rw[ax z]at Z;have hd:=h.dic i r Z;rw[g2 r (ac.mp hd).1 (λ y=>?_) (λ y=>?_)]
   .exact hd
   .subst y;rw[h.let_]at hd;cases hd
   .subst y;rw[h.fol]at hd;cases hd
  .rw[aK (by lia)]at Z;have a4:i - rs.length=0:=by
    have:=(ac.mp Z).1;simp at this;omega
   rw[a4]at Z;cases Z;rw[hF i (by rw[<-h.len];omega)];exact d2
 .rw[gE];refine⟨h.nd,by simp,λ x hx y hy z=>?_⟩;obtain⟨j,hj⟩:=fq.mp hx;have:=(ac.mp (h.dic j x hj)).1;rw[az.mp hy]at z;lia
 .rw[au];have:=h.pos;lia
 .simp[Tr.lt];lia
 .have:=h.lt i q hq;rw[au];lia
 .constructor
  .exact .inl
  .rintro(z|z)
   .exact z
   .exact z.elim
 .exact zb qC
 .rw[show s2.length+1=(s2++[O.J [D.int L.length]]).length by simp];exact qC
 .rw[az.mp hr];exact al _
 .rw[aN,ax (by lia)];exact g2 i Z ia ib
end
theorem Tr.fs_len:∀(t:Tr) b ,(t.fs b).length<=t.cnt
 | .nothing,b=>al _
 | .letter c,b=>al _
 | .rep t,b=>t.fs_len b
 | .two ca t u,b=>by show(t.fs b++u.fs (b+t.cnt)).length<=t.cnt+u.cnt;have:=t.fs_len b;have:=u.fs_len (b+t.cnt);rw[au];lia
 | .two dr t u,b=>by
  show(if t.nul then t.fs b++u.fs (b+t.cnt)else t.fs b).length<=t.cnt+u.cnt;have:=t.fs_len b;have:=u.fs_len (b+t.cnt);split
  .rw[au];omega
  .lia
theorem Tr.la_len:∀(t:Tr) b ,(t.la b).length<=t.cnt
 | .nothing,b=>al _
 | .letter c,b=>al _
 | .rep t,b=>t.la_len b
 | .two ca t u,b=>by show(t.la b++u.la (b+t.cnt)).length<=t.cnt+u.cnt;have:=t.la_len b;have:=u.la_len (b+t.cnt);rw[au];lia
 | .two dr t u,b=>by
  show(if u.nul then t.la b++u.la (b+t.cnt)else u.la (b+t.cnt)).length<=t.cnt+u.cnt;have:=t.la_len b;have:=u.la_len (b+t.cnt);split
  .rw[au];omega
  .lia
def RoomsS.app {L:List (List Nat)}{J:List Nat}{z:Nat->List Nat}(h:RoomsS s o a b e L J z)(X:Sto):RoomsS (s++X) o a b e L J z :=
 ⟨zb h.ins,zb h.let_,zb h.fol,h.len,λ i r Y=>zb (h.dic i r Y),h.nd,h.pos,h.big,h.nf,h.lt⟩
def ah1 {S:Sto}(z:S[f]?=aT (.J (zd A)))(hg:S[g]?=aT (.J (zd B)))(J:A.length+B.length<=1000):qi .add (.ref f) (.ref g) S=.ok (.ref S.length) (S++[.J (zd (A++B))]):=by
 unfold qi;simp only[z,hg];rw[ij (by rw[zI,zI];unfold LIM;lia)];unfold zd;rw[cu];rfl
def Laid.nil {L}(H:Laid s s' o a b e L rs Z t Y J f l)(hF:∀ p,L.length<=p->Z p=[]):∀ p,(L++t.lt.map λ c=>[c]).length<=p->J p=[]:=λ p hp=>by
 rw[au,aq,t.lt_len]at hp;refine List.eq_nil_iff_forall_not_mem.mpr λ q hq=>?_;rcases(H.ed p q).mp hq with z|z
 .rw[hF p (by lia)]at z;cases z
 .have:=(t.ed_in _ p q z).1;lia
section
variable {P:Pr} [HasM P "Rooms" "link" aa5] [HasM P "Rooms" "lay_letter" aa2] [HasM P "Rooms" "lay" aa3]
def ag4:aa3.body=ah5:=rfl
def qg (h:(a==b)=v) s :zh .eq (.str a) (.str b) s=.ok (.T v) s:=by rw[<-h];rfl
theorem av1:∀ t n {s} {o a b e} {L} {rs} {Fo},RoomsS s o a b e L rs Fo->a≠b->(o≠a/\o≠b)->L.length+t.cnt<=60->(∀ p,L.length<=p->Fo p=[]) ->
  ∃ s' b0 c1 f l,(aa0 P (n+t.dep+1)).mcall "Rooms" "lay" [.ref o,t.d] s=.ok (.tp [.T t.nul,.ref f,.ref l]) s'/\Laid s s' o a b e L rs Fo t b0 c1 f l
 | .nothing,n,s,o,a,b,e,L,rs,Fo,h,hab,ho,hL,hF=>by
  refine⟨s++[.J []]++[.J []],[],Fo,s.length,s.length+1,?_,⟨?_,λ p q=>⟨.inl,λ z=>z.elim id bn⟩,zb qC,?_,al _,cg _,by simp,(λ r hr=>by cases hr),λ i hi _ _ _=>?_⟩⟩
  .rw[zT aa3 rfl,ag4,show(bq aT [D.ref o,Tr.nothing.d]++av aa3.vs bY)=[aT (.ref o),aT Tr.nothing.d,bY,bY,bY,bY]from rfl];have I0:∀ S,ixM Tr.nothing.d (.int 0) S=.ok (.str zH) S:=λ S=>rfl;have E1:∀ S,zh .eq (.str zH) (.str [108,101,116,116,101,114]) S=.ok (.T dr) S:=λ S=>qg (by decide) S;have E2:∀ S,zh .eq (.str zH) (.str [110,111,116,104,105,110,103]) S=.ok (.T ca) S:=λ S=>qg (by decide) S;simp -implicitDefEqProofs only[qT,exs_nil,ex_ite,ex_ret,qU,ev_cst,ev_cmp,ev_tup,ev_lst,ev_ix,evs_nil,evs_cons,Cn_bl,Cn_int,Cn_str,R.bind_ok,qX,qY,qM,nxt_ret,fin_ret,alloc_eq,tru_bl,if_true,if_false,Bool.false_eq_true,I0,E1,E2];rw[show(s++[O.J []]).length=s.length+1 by simp];exact z9 (qN (al _)) (by nofun)
  .rw[show L++Tr.nothing.lt.map (λ c=>[c])=L from a8 _,a8];exact(h.app _).app _
  .rw[show s.length+1=(s++[O.J []]).length by simp];exact qC
  .rw[aN,ax hi]
 | .letter c,n,s,o,a,b,e,L,rs,Fo,h,hab,ho,hL,hF=>by
  obtain⟨s',b0,f,l,e1,H⟩:=aH6 (P:=P) n h hab ho c (by have:(Tr.letter c).cnt=1:=rfl;lia) hF;refine⟨s',b0,Fo,f,l,?_,H⟩;rw[show n+(Tr.letter c).dep+1=(n+1)+1 from rfl,zT aa3 rfl,ag4,show(bq aT [D.ref o,(Tr.letter c).d]++av aa3.vs bY)=[aT (.ref o),aT (Tr.letter c).d,bY,bY,bY,bY]from rfl];have I0:∀ S,ixM (Tr.letter c).d (.int 0) S=.ok (.str qz) S:=λ S=>rfl;have I1:∀ S,ixM (Tr.letter c).d (.int 1) S=.ok (.str [c]) S:=λ S=>rfl;have E1:∀ S,zh .eq (.str qz) (.str [108,101,116,116,101,114]) S=.ok (.T ca) S:=λ S=>qg (by decide) S;simp -implicitDefEqProofs only[qT,exs_nil,ex_ite,ex_ret,qU,ev_cst,ev_cmp,ev_ix,evas_nil,evas_ex,Cn_int,Cn_str,R.bind_ok,qX,qY,nxt_ret,fin_ret,tru_bl,if_true,I0,I1,E1,ah3,qV h.ins,e1];exact z9 (qN H.nf) (by nofun)
 | .rep t,n,s,o,a,b,e,L,rs,Fo,h,hab,ho,hL,hF=>by
  obtain⟨s1,a0,b6,f,l,e1,H⟩:=av1 t n h hab ho hL hF;have Z:(L++t.lt.map λ c=>[c]).length=L.length+t.cnt:=by rw[au,aq,t.lt_len]
  obtain⟨s2,a5,e2,R2,m2,l2,a6⟩:=aG2 (P:=P) (n+t.dep) H.st (A:=t.la L.length) (B:=t.fs L.length) (λ p hp=>by rw[Z];exact(t.la_in _ p hp).2) (λ p hp=>by rw[Z];exact(t.fs_in _ p hp).2) H.la H.fs;refine⟨s2,a0,a5,f,l,?_,⟨R2,λ p q=>?_,?_,?_,H.nf,H.nl,by rw[l2];exact H.le,H.nr,λ i hi ia ib ir=>?_⟩⟩
  .rw[show n+(Tr.rep t).dep+1=(n+t.dep+1)+1 from rfl,zT aa3 rfl,ag4,show(bq aT [D.ref o,(Tr.rep t).d]++av aa3.vs bY)=[aT (.ref o),aT (Tr.rep t).d,bY,bY,bY,bY]from rfl];have I0:∀ S,ixM (Tr.rep t).d (.int 0) S=.ok (.str zE) S:=λ S=>rfl;have I1:∀ S,ixM (Tr.rep t).d (.int 1) S=.ok t.d S:=λ S=>rfl;have E1:∀ S,zh .eq (.str zE) (.str [108,101,116,116,101,114]) S=.ok (.T dr) S:=λ S=>qg (by decide) S;have E2:∀ S,zh .eq (.str zE) (.str [110,111,116,104,105,110,103]) S=.ok (.T dr) S:=λ S=>qg (by decide) S;have E3:∀ S,zh .eq (.str zE) (.str [114,101,112,101,97,116]) S=.ok (.T ca) S:=λ S=>qg (by decide) S;have J1:∀ S,ixM (.tp [.T t.nul,.ref f,.ref l]) (.int 1) S=.ok (.ref f) S:=λ S=>rfl;have J2:∀ S,ixM (.tp [.T t.nul,.ref f,.ref l]) (.int 2) S=.ok (.ref l) S:=λ S=>rfl;simp -implicitDefEqProofs only[qT,exs_nil,ex_asg,ex_ite,ex_ret,ex_ex,qU,ev_cst,ev_cmp,ev_tup,ev_lst,ev_ix,evs_nil,evs_cons,evas_nil,evas_ex,Cn_bl,Cn_int,Cn_str,R.bind_ok,qu,setV_s,setV_0,qX,qY,Option.map_some,setC_some,qM,nxt_ret,fin_ret,alloc_eq,tru_bl,if_true,if_false,Bool.false_eq_true,I0,I1,E1,E2,E3,ah3,qV h.ins,e1,J1,J2,qV H.st.ins,e2];exact z9 (qN H.nf) (by nofun)
  .rw[m2,H.ed];exact or_assoc
  .rw[a6 f (H.st.apart H.fs).2.2];exact H.fs
  .rw[a6 l (H.st.apart H.la).2.2];exact H.la
  .rw[a6 i λ z=>?_]
   .exact H.fr i hi ia ib ir
   .rcases aE.mp z with z|z
    .exact ir z
    .have:=H.nr i z;lia
 | .two ca t u,n,s,o,a,b,e,L,rs,Fo,h,hab,ho,hL,hF=>by
  have hL:L.length+(t.cnt+u.cnt)<=60:=hL;have Z:(L++t.lt.map λ c=>[c]).length=L.length+t.cnt:=by rw[au,aq,t.lt_len]
  obtain⟨s1,a0,b6,f1,l1,e1,J⟩:=av1 t (n+max t.dep u.dep - t.dep) h hab ho (by lia) hF;rw[show n+max t.dep u.dep - t.dep+t.dep+1=n+max t.dep u.dep+1 by lia]at e1;obtain⟨s2,b5,a5,f2,l2,e2,H2⟩:=av1 u (n+max t.dep u.dep - u.dep) J.st hab ho (by rw[Z];lia) (J.nil hF);rw[show n+max t.dep u.dep - u.dep+u.dep+1=n+max t.dep u.dep+1 by lia]at e2;have a1:=J.st.apart J.fs;have a2:=J.st.apart J.la;have g1:s2[f1]?=aT (.J (zd (t.fs L.length))):=by rw[H2.fr f1 (ac.mp J.fs).1 a1.1 a1.2.1 a1.2.2];exact J.fs
  have g2:s2[l1]?=aT (.J (zd (t.la L.length))):=by rw[H2.fr l1 (ac.mp J.la).1 a2.1 a2.2.1 a2.2.2];exact J.la
  have g3:=H2.fs;have g4:=H2.la;rw[Z]at g3 g4;have b1:=t.fs_len L.length;have b2:=u.fs_len (L.length+t.cnt);have b3:=t.la_len L.length;have b4:=u.la_len (L.length+t.cnt);have p1:=ah1 g1 g3 (by lia);have p2:=ah1 (zb (t:=[.J (zd (t.fs L.length++u.fs (L.length+t.cnt)))]) g2) (zb g4) (by lia);have b9:s.length<=s2.length:=ak J.le H2.le;refine⟨s2++[.J (zd (t.fs L.length++u.fs (L.length+t.cnt)))]++[.J (zd (t.la L.length++u.la (L.length+t.cnt)))],a0++b5,a5,s2.length,s2.length+1,?_,⟨?_,λ p q=>?_,zb qC,?_,b9,by lia,?_,λ r hr=>?_,λ i hi ia ib ir=>?_⟩⟩
  rotate_left
  .have:=(H2.st.app [.J (zd (t.fs L.length++u.fs (L.length+t.cnt)))]).app [.J (zd (t.la L.length++u.la (L.length+t.cnt)))];rw[show(Tr.two ca t u).lt=t.lt++u.lt from rfl,cu,<-aN,<-aN];exact this
  .rw[H2.ed,J.ed,Z];exact or_assoc
  .rw[show s2.length+1=(s2++[O.J (zd (t.fs L.length++u.fs (L.length+t.cnt)))]).length by simp];exact qC
  .simp;lia
  .rcases aE.mp hr with z|z
   .exact J.nr r z
   .have:=H2.nr r z;have:=J.le;lia
  .rw[aN,ax (by lia),H2.fr i (by have:=J.le;lia) ia ib λ z=>?_]
   .exact J.fr i hi ia ib ir
   .rcases aE.mp z with z|z
    .exact ir z
    .have:=J.nr i z;lia
  .rw[show n+(Tr.two ca t u).dep+1=(n+max t.dep u.dep+1)+1 from rfl,zT aa3 rfl,ag4,show(bq aT [D.ref o,(Tr.two ca t u).d]++av aa3.vs bY)=[aT (.ref o),aT (Tr.two ca t u).d,bY,bY,bY,bY]from rfl];have I0:∀ S,ixM (Tr.two ca t u).d (.int 0) S=.ok (.str zu) S:=λ S=>rfl;have I1:∀ S,ixM (Tr.two ca t u).d (.int 1) S=.ok t.d S:=λ S=>rfl;have I2:∀ S,ixM (Tr.two ca t u).d (.int 2) S=.ok u.d S:=λ S=>rfl;have E1:∀ S,zh .eq (.str zu) (.str [108,101,116,116,101,114]) S=.ok (.T dr) S:=λ S=>qg (by decide) S;have E2:∀ S,zh .eq (.str zu) (.str [110,111,116,104,105,110,103]) S=.ok (.T dr) S:=λ S=>qg (by decide) S;have E3:∀ S,zh .eq (.str zu) (.str [114,101,112,101,97,116]) S=.ok (.T dr) S:=λ S=>qg (by decide) S;have E4:∀ S,zh .eq (.str zu) (.str [101,105,116,104,101,114]) S=.ok (.T ca) S:=λ S=>qg (by decide) S;have J0:∀ S,ixM (.tp [.T t.nul,.ref f1,.ref l1]) (.int 0) S=.ok (.T t.nul) S:=λ S=>rfl;have J1:∀ S,ixM (.tp [.T t.nul,.ref f1,.ref l1]) (.int 1) S=.ok (.ref f1) S:=λ S=>rfl;have J2:∀ S,ixM (.tp [.T t.nul,.ref f1,.ref l1]) (.int 2) S=.ok (.ref l1) S:=λ S=>rfl;have K0:∀ S,ixM (.tp [.T u.nul,.ref f2,.ref l2]) (.int 0) S=.ok (.T u.nul) S:=λ S=>rfl;have K1:∀ S,ixM (.tp [.T u.nul,.ref f2,.ref l2]) (.int 1) S=.ok (.ref f2) S:=λ S=>rfl;have K2:∀ S,ixM (.tp [.T u.nul,.ref f2,.ref l2]) (.int 2) S=.ok (.ref l2) S:=λ S=>rfl;have c2:∀ S:Sto,(if t.nul=ca then R.ok (D.T ca) S else R.ok (D.T u.nul) S)=.ok (.T (t.nul||u.nul)) S:=λ S=>by cases t.nul<;>rfl
   simp -implicitDefEqProofs only[qT,exs_nil,ex_asg,ex_ite,ex_ret,ex_ex,qU,ev_cst,ev_bin,ev_cmp,ev_or,ev_tup,ev_lst,ev_ix,evs_nil,evs_cons,evas_nil,evas_ex,Cn_bl,Cn_int,Cn_str,R.bind_ok,qu,setV_s,setV_0,qX,qY,Option.map_some,setC_some,qM,nxt_ret,fin_ret,alloc_eq,tru_bl,if_true,if_false,Bool.false_eq_true,I0,I1,I2,E1,E2,E3,E4,ah3,qV h.ins,e1,qV J.st.ins,e2,J0,K0,c2,J1,K1,p1,J2,K2,p2];rw[show(s2++[O.J (zd (t.fs L.length++u.fs (L.length+t.cnt)))]).length=s2.length+1 by simp];exact z9 (qN b9) (by nofun)
 | .two dr t u,n,s,o,a,b,e,L,rs,Fo,h,hab,ho,hL,hF=>by
  have hL:L.length+(t.cnt+u.cnt)<=60:=hL;have Z:(L++t.lt.map λ c=>[c]).length=L.length+t.cnt:=by rw[au,aq,t.lt_len]
  obtain⟨s1,a0,b6,f1,l1,e1,J⟩:=av1 t (n+max t.dep u.dep - t.dep) h hab ho (by omega) hF;rw[show n+max t.dep u.dep - t.dep+t.dep+1=n+max t.dep u.dep+1 by omega]at e1;obtain⟨s2,b5,a5,f2,l2,e2,H2⟩:=av1 u (n+max t.dep u.dep - u.dep) J.st hab ho (by rw[Z];omega) (J.nil hF);rw[show n+max t.dep u.dep - u.dep+u.dep+1=n+max t.dep u.dep+1 by omega]at e2;have a1:=J.st.apart J.fs;have a2:=J.st.apart J.la;have g1:s2[f1]?=aT (.J (zd (t.fs L.length))):=by rw[H2.fr f1 (ac.mp J.fs).1 a1.1 a1.2.1 a1.2.2];exact J.fs
  have g2:s2[l1]?=aT (.J (zd (t.la L.length))):=by rw[H2.fr l1 (ac.mp J.la).1 a2.1 a2.2.1 a2.2.2];exact J.la
  have g3:=H2.fs;have g4:=H2.la;rw[Z]at g3 g4;have a3:(L++(t.lt.map λ c=>[c])++u.lt.map λ c=>[c]).length=L.length+(t.cnt+u.cnt):=by rw[au,Z,aq,u.lt_len];lia
  obtain⟨s3,c3,e3,R3,m3,l3,a4⟩:=aG2 (P:=P) (n+max t.dep u.dep) H2.st (A:=t.la L.length) (B:=u.fs (L.length+t.cnt)) (λ p hp=>by rw[a3];have:=(t.la_in _ p hp).2;lia) (λ p hp=>by rw[a3];have:=(u.fs_in _ p hp).2;lia) g2 g3;have k1:s3[f1]?=_:=(a4 f1 (H2.st.apart g1).2.2).trans g1;have k2:s3[l1]?=_:=(a4 l1 (H2.st.apart g2).2.2).trans g2;have k3:s3[f2]?=_:=(a4 f2 (H2.st.apart g3).2.2).trans g3;have k4:s3[l2]?=_:=(a4 l2 (H2.st.apart g4).2.2).trans g4;have b1:=t.fs_len L.length;have b2:=u.fs_len (L.length+t.cnt);have b3:=t.la_len L.length;have b4:=u.la_len (L.length+t.cnt);have c4:s.length<=s3.length:=by rw[l3];exact ak J.le H2.le
  obtain⟨X,r,x1,x2,x3⟩:∃ X r,(if t.nul=ca then qi .add (.ref f1) (.ref f2) s3 else .ok (.ref f1) s3)=.ok (.ref r) (s3++X)/\(s3++X)[r]?=aT (.J (zd ((Tr.two dr t u).fs L.length)))/\s.length<=r:=by
   by_cases c:t.nul=ca
   .refine⟨[.J (zd (t.fs L.length++u.fs (L.length+t.cnt)))],s3.length,?_,?_,c4⟩
    .rw[ij c];exact ah1 k1 k3 (by lia)
    .rw[qC,show(Tr.two dr t u).fs L.length=(if t.nul then t.fs L.length++u.fs (L.length+t.cnt)else t.fs L.length)from rfl,ij c]
   .refine⟨[],f1,?_,?_,J.nf⟩
    .rw[iF c,a8]
    .rw[a8,k1,show(Tr.two dr t u).fs L.length=(if t.nul then t.fs L.length++u.fs (L.length+t.cnt)else t.fs L.length)from rfl,iF c]
  obtain⟨Y,r',y1,y2,y3⟩:∃ Y r',(if u.nul=ca then qi .add (.ref l1) (.ref l2) (s3++X)else .ok (.ref l2) (s3++X))=.ok (.ref r') (s3++X++Y)/\(s3++X++Y)[r']?=aT (.J (zd ((Tr.two dr t u).la L.length)))/\s.length<=r':=by
   by_cases c:u.nul=ca
   .refine⟨[.J (zd (t.la L.length++u.la (L.length+t.cnt)))],(s3++X).length,?_,?_,by rw[au];lia⟩
    .rw[ij c];exact ah1 (zb k2) (zb k4) (by lia)
    .rw[qC,show(Tr.two dr t u).la L.length=(if u.nul then t.la L.length++u.la (L.length+t.cnt)else u.la (L.length+t.cnt))from rfl,ij c]
   .refine⟨[],l2,?_,?_,ak J.le H2.nl⟩
    .rw[iF c,a8]
    .rw[a8,zb k4,show(Tr.two dr t u).la L.length=(if u.nul then t.la L.length++u.la (L.length+t.cnt)else u.la (L.length+t.cnt))from rfl,iF c]
  refine⟨s3++X++Y,a0++b5,c3,r,r',?_,⟨?_,λ p q=>?_,zb x2,y2,x3,y3,?_,λ r hr=>?_,λ i hi ia ib ir=>?_⟩⟩
  .rw[show n+(Tr.two dr t u).dep+1=(n+max t.dep u.dep+1)+1 from rfl,zT aa3 rfl,ag4,show(bq aT [D.ref o,(Tr.two dr t u).d]++av aa3.vs bY)=[aT (.ref o),aT (Tr.two dr t u).d,bY,bY,bY,bY]from rfl];have I0:∀ S,ixM (Tr.two dr t u).d (.int 0) S=.ok (.str zr) S:=λ S=>rfl;have I1:∀ S,ixM (Tr.two dr t u).d (.int 1) S=.ok t.d S:=λ S=>rfl;have I2:∀ S,ixM (Tr.two dr t u).d (.int 2) S=.ok u.d S:=λ S=>rfl;have E1:∀ S,zh .eq (.str zr) (.str [108,101,116,116,101,114]) S=.ok (.T dr) S:=λ S=>qg (by decide) S;have E2:∀ S,zh .eq (.str zr) (.str [110,111,116,104,105,110,103]) S=.ok (.T dr) S:=λ S=>qg (by decide) S;have E3:∀ S,zh .eq (.str zr) (.str [114,101,112,101,97,116]) S=.ok (.T dr) S:=λ S=>qg (by decide) S;have E4:∀ S,zh .eq (.str zr) (.str [101,105,116,104,101,114]) S=.ok (.T dr) S:=λ S=>qg (by decide) S;have J0:∀ S,ixM (.tp [.T t.nul,.ref f1,.ref l1]) (.int 0) S=.ok (.T t.nul) S:=λ S=>rfl;have J1:∀ S,ixM (.tp [.T t.nul,.ref f1,.ref l1]) (.int 1) S=.ok (.ref f1) S:=λ S=>rfl;have J2:∀ S,ixM (.tp [.T t.nul,.ref f1,.ref l1]) (.int 2) S=.ok (.ref l1) S:=λ S=>rfl;have K0:∀ S,ixM (.tp [.T u.nul,.ref f2,.ref l2]) (.int 0) S=.ok (.T u.nul) S:=λ S=>rfl;have K1:∀ S,ixM (.tp [.T u.nul,.ref f2,.ref l2]) (.int 1) S=.ok (.ref f2) S:=λ S=>rfl;have K2:∀ S,ixM (.tp [.T u.nul,.ref f2,.ref l2]) (.int 2) S=.ok (.ref l2) S:=λ S=>rfl;have c0:∀ S:Sto,(if t.nul=ca then R.ok (D.T u.nul) S else R.ok (D.T dr) S)=.ok (.T (t.nul&&u.nul)) S:=λ S=>by cases t.nul<;>rfl
   simp -implicitDefEqProofs only[qT,exs_nil,ex_asg,ex_ite,ex_ret,ex_ex,qU,ev_cst,ev_bin,ev_cmp,ev_and,ev_or,ev_ite,ev_tup,ev_lst,ev_ix,evs_nil,evs_cons,evas_nil,evas_ex,Cn_bl,Cn_int,Cn_str,R.bind_ok,qu,setV_s,setV_0,qX,qY,Option.map_some,setC_some,qM,nxt_ret,fin_ret,alloc_eq,tru_bl,if_false,Bool.false_eq_true,I0,I1,I2,E1,E2,E3,E4,ah3,qV h.ins,e1,qV J.st.ins,e2,qV H2.st.ins,J2,K1,e3,J0,J1,x1,K0,K2,y1,c0];exact z9 (qN x3) (by nofun)
  .have:=(R3.app X).app Y;rw[show(Tr.two dr t u).lt=t.lt++u.lt from rfl,cu,<-aN,<-aN];exact this
  .rw[m3,H2.ed,J.ed,Z];show _↔q∈Fo p\/((t.ed L.length p q\/u.ed (L.length+t.cnt) p q)\/(p∈t.la L.length/\q∈u.fs (L.length+t.cnt)));constructor
   .rintro(((z|z)|z)|z)
    .exact .inl z
    .exact .inr (.inl (.inl z))
    .exact .inr (.inl (.inr z))
    .exact .inr (.inr z)
   .rintro(z|(z|z)|z)
    .exact .inl (.inl (.inl z))
    .exact .inl (.inl (.inr z))
    .exact .inl (.inr z)
    .exact .inr z
  .simp;lia
  .rcases aE.mp hr with z|z
   .exact J.nr r z
   .have:=H2.nr r z;have:=J.le;lia
  .have q1:=J.le;have q2:=H2.le;have n1:i ∉ rs++a0:=λ z=>by
    rcases aE.mp z with z|z
    .exact ir z
    .have:=J.nr i z;lia
   rw[aN,ax (by lia),a4 i λ z=>?_,H2.fr i (by lia) ia ib n1,J.fr i hi ia ib ir];rcases aE.mp z with z|z
   .exact n1 z
   .have:=H2.nr i z;lia
end
def ai1 {s:Sto}{X:Sto}:(s++x::X).set s.length y=s++y::X:=by
 rw[List.set_append_right _ _ (al _),cT];rfl
def aJ5 (hk:ok "Rooms"=ca){ X:Sto}(z:fs.length<1000):ax0 ok f (.ref s.length) v (s++.ins "Rooms" fs::X)=.ok () (s++.ins "Rooms" (ao0 (.str f) v fs)::X):=by
 unfold ax0;have:(s++O.ins "Rooms" fs::X)[s.length]?=aT (.ins "Rooms" fs):=by rw[aK (al _)];simp
 simp only[this,hk,eL,iN z,if_true,ai1]
def aY0 i (Z:i<s.length)(J:t[i]?=aT x)(Y:s[i]?≠aT x)(h3:x.bnd s.length=dr):zp s d t=.ok d t:=by
 have:af1 s t=false:=by
  rw[<-ku];intro z;unfold af1 at z;have:=aA.mp z i (bO.mpr Z);rw[J]at this;simp only[h3,lE,oR]at this;exact Y this.symm
 unfold zp;rw[this];rfl
def aq7 (hr:s.length<=r)(z:t[r]?=aT x)(h3:x.bnd s.length=dr):zp s (.ref r) t=.ok (.ref r) t:=by
 unfold zp;split
 .simp only[im.mpr hr,if_false,z,h3,bI]
 .rfl
def aw7 (h:n<=a):(O.ins "Rooms" (flds a b e)).bnd n=false:=by
 unfold O.bnd flds;simp only[aY,D.bndL,D.bnd];rw[js (by omega)];simp
def bh6 { t:Sto}(z:s.length<=t.length)(h:∀ i,i<s.length->t[i]?=s[i]?):∃ G,t=s++G:=by
 refine⟨t.drop s.length,?_⟩;have:t.take s.length=s:=by
  apply fh;intro i;rw[jI];split
  .exact h i ‹_›
  .rw[cj (by omega)]
 conv=>lhs;rw[<-fo s.length t,this]
theorem aI4 :∀ {l},x∈ins a l↔x=a\/x∈l
 | []=>by simp[ins]
 | b::l=>by
  unfold ins;split
  .simp
  .rw[aw,aI4,aw];constructor
   .rintro(h|h|h)
    .exact .inr (.inl h)
    .exact .inl h
    .exact .inr (.inr h)
   .rintro(h|h|h)
    .exact .inr (.inl h)
    .exact .inl h
    .exact .inr (.inr h)
theorem ad7 :∀ {l},x∈as4 l↔x∈l
 | []=>l9
 | a::l=>by unfold as4;rw[aI4,ad7,aw]
theorem aq5:∀ l:List Nat,zP (zd l)=aT (l.map λ(q:Nat)=>(q:Int))
 | []=>rfl
 | x::l=>by
  show(zP (zd l)).map _=_;rw[aq5 l];rfl
set_option tactic.hygienic true in
theorem aL9 :∀ {l},l.Pairwise (· < ·)->a ∉ l->(ins a l).Pairwise (· < ·)
 | [],_,_=>by unfold ins;simp
 | b::l,h,hn=>by
  have hb:=bJ.mp h;have Y:a≠b:=λ z=>hn (by rw[z];exact ao ..);unfold ins;split
  .rename_i J;refine bJ.mpr ⟨λ x hx=>?_,h⟩;rcases aw.mp hx with rfl|hx
   .lia
   .have:=hb.1 x hx;lia
  .rename_i J;refine bJ.mpr ⟨λ x hx=>?_,aL9 hb.2 λ z=>hn (ah _ z)⟩;rcases aI4.mp hx with rfl|hx
   .lia
   .exact hb.1 x hx
theorem co6:∀ {l},l.Nodup->(as4 l).Pairwise (· < ·)
 | [],_=>List.Pairwise.nil
 | a::l,h=>by
  have:=dP.mp h;exact aL9 (co6 this.2) λ z=>this.1 (ad7.mp z)
def bg5 { m:List Nat}(J:l.Nodup)(Y:m.Nodup)(h3:∀ x∈l,x<b)(h4:∀ x∈m,b<=x):(l++m).Nodup:=by
 rw[gE];exact⟨J,Y,λ x hx y hy z=>by have:=h3 x hx;have:=h4 y hy;lia⟩
theorem Tr.la_nd:∀(t:Tr) b ,(t.la b).Nodup
 | .nothing,_=>lf
 | .letter _,b=>by show[b].Nodup;simp
 | .rep t,b=>t.la_nd b
 | .two ca t u,b=>bg5 (t.la_nd b) (u.la_nd _) (λ x hx=>(t.la_in b x hx).2) λ x hx=>(u.la_in _ x hx).1
 | .two dr t u,b=>by
  show(if u.nul then t.la b++u.la (b+t.cnt)else u.la (b+t.cnt)).Nodup;split
  .exact bg5 (t.la_nd b) (u.la_nd _) (λ x hx=>(t.la_in b x hx).2) λ x hx=>(u.la_in _ x hx).1
  .exact u.la_nd _
def aL6 (J:l.length<64) S :∃ En,bu2 (zd l) S=.ok (.ref S.length) (S++[.J (zd En)])/\(∀ q,q∈En↔q∈l)/\(l.Nodup->En.Pairwise (· < ·)):=by
 refine⟨(as4 (l.map λ(q:Nat)=>(q))).map Int.toNat,?_,λ q=>?_,λ h=>?_⟩
 .unfold bu2;rw[aq5];simp only[aq,J];unfold zd;rw[cU];refine congrArg (λ z=>R.ok (D.ref S.length) (S++[O.J z])) (eF λ x hx=>?_);obtain⟨y,_,rfl⟩:=aS.mp (ad7.mp hx);rfl
 .rw[aS];constructor
  .rintro⟨x,hx,rfl⟩
   obtain⟨y,hy,rfl⟩:=aS.mp (ad7.mp hx);exact hy
  .exact λ h=>⟨(q),ad7.mpr (aS.mpr ⟨q,h,rfl⟩),rfl⟩
 .rw[ka];refine lJ (λ {x y} hx hy hxy=>?_) (co6 ?_)
  .obtain⟨Y,_,rfl⟩:=aS.mp (ad7.mp hx);obtain⟨y',_,rfl⟩:=aS.mp (ad7.mp hy);simp only[bR];lia
  .unfold List.Nodup at *;rw[ka];exact h.imp λ z=>by lia
section
variable {P:Pr} [HasM P "Rooms" "link" aa5] [HasM P "Rooms" "lay_letter" aa2] [HasM P "Rooms" "lay" aa3] [HasM P "Rooms" "__init__" aa4] [HasA P "Rooms" ag2] [HasA P "Rooms" am1] [HasA P "Rooms" al2]
def ba6:aa4.body=.cons (.setA (.X 0) ag2 (.J (.cons (.K (.str [])) .nil))) (.cons (.setA (.X 0) am1 (.J (.cons (.dc .nil .nil) .nil))) (.cons (.setA (.X 0) al2 (.J .nil)) .nil)):=rfl
def S0 (s:Sto):Sto:=s++[.ins "Rooms" (flds (s.length+1) (s.length+3) (s.length+4)),.J [.str []],.dc [],.J [.ref (s.length+2)],.J []]
def bM7  n  s :(aa0 P (n+1)).mcall "Rooms" "__init__" [.ref s.length] (s++[.ins "Rooms" []])=.ok .N (S0 s):=by
 have k1:(λ c=>(aa0 P n).att c ag2) "Rooms"=true:=av7;have k2:(λ c=>(aa0 P n).att c am1) "Rooms"=true:=av7;have k3:(λ c=>(aa0 P n).att c al2) "Rooms"=true:=av7;have e1:=aJ5 (ok:=λ c=>(aa0 P n).att c ag2) k1 (s:=s) (X:=[.J [.str []]]) (fs:=[]) (by decide) (f:=ag2) (v:=.ref (s.length+1));have e2:=aJ5 (ok:=λ c=>(aa0 P n).att c am1) k2 (s:=s) (X:=[.J [.str []],.dc [],.J [.ref (s.length+2)]]) (fs:=ao0 (.str ag2) (.ref (s.length+1)) []) (by simp[ao0]) (f:=am1) (v:=.ref (s.length+3));have J:=aJ5 (ok:=λ c=>(aa0 P n).att c al2) k3 (s:=s) (X:=[.J [.str []],.dc [],.J [.ref (s.length+2)],.J []]) (fs:=ao0 (.str am1) (.ref (s.length+3)) (ao0 (.str ag2) (.ref (s.length+1)) [])) (by simp[ao0,ag2,am1]) (f:=al2) (v:=.ref (s.length+4));have hp:ao0 (.str al2) (.ref (s.length+4)) (ao0 (.str am1) (.ref (s.length+3)) (ao0 (.str ag2) (.ref (s.length+1)) []))=flds (s.length+1) (s.length+3) (s.length+4):=by simp[ao0,flds,ag2,am1,al2]
 rw[hp]at J;rw[zT aa4 rfl,ba6,show(bq aT [D.ref s.length]++av aa4.vs bY)=[aT (.ref s.length)]from rfl];have l1:(s++[O.ins "Rooms" []]).length=s.length+1:=by simp
 have l2:∀ x y:O,(s++[x,y]).length=s.length+2:=λ _ _=>by simp
 have Y:∀ x y z:O,(s++[x,y,z]).length=s.length+3:=λ _ _ _=>by simp
 have Z:∀ x y z v:O,(s++[x,y,z,v]).length=s.length+4:=λ _ _ _ _=>by simp
 simp -implicitDefEqProofs only[qT,exs_nil,qU,ev_cst,ev_lst,evs_nil,evs_cons,Cn_str,R.bind_ok,qX,qM,fin_next,alloc_eq,bj3,bd5,aN,cZ,fP,l1,l2,Y,Z,e1,e2,J];refine aY0 s.length (by simp) (x:=.ins "Rooms" (flds (s.length+1) (s.length+3) (s.length+4))) ?_ ?_ ?_
 .rw[aK (al _)];simp
 .rw[qC];intro z;injection z with z;injection z with _ z;cases z
 .rw[l1];exact aw7 (al _)
def bw1 s :RoomsS (S0 s) s.length (s.length+1) (s.length+3) (s.length+4) [[]] [s.length+2] (λ _=>[]):=by
 have g:∀ i,s.length<=i->(S0 s)[i]?=([.ins "Rooms" (flds (s.length+1) (s.length+3) (s.length+4)),.J [.str []],.dc [],.J [.ref (s.length+2)],.J []])[i - s.length]?:=λ i z=>aK z;refine⟨?_,?_,?_,rfl,λ i r z=>?_,by simp,by simp,by simp,λ i=>lf,λ i q hq=>by cases hq⟩
 .rw[g _ (al _),cT];rfl
 .rw[g _ (by lia),cy];rfl
 .rw[g _ (by lia),cy];rfl
 .have J:=by
   have:=(ac.mp z).1;simp at this;omega
  subst J;cases z;rw[g _ (by lia),cy];rfl
def bu4:ab1.body=(.cons (.A (.Y 1) (.new "Rooms" .nil)) (.cons (.A (.Y 2) (.mcall (.X 1) "lay" (.ex (.X 0) .nil))) (.cons (.ex (.mcall (.X 1) "link" (.ex (.J (.cons (.K (.int 0)) .nil)) (.ex (.ix (.X 2) (.K (.int 1))) .nil)))) (.cons (.setA (.X 1) al2 (.ite (.ix (.X 2) (.K (.int 0))) (.srt (.G .add (.J (.cons (.K (.int 0)) .nil)) (.ix (.X 2) (.K (.int 2))))) (.srt (.ix (.X 2) (.K (.int 2)))))) (.cons (.ret (.X 1)) .nil))))):=rfl
def bB8 :(aa0 P (k+2)).new c l s=(aa0 P (k+1)).mcall c "__init__" l s:=rfl
def bE3 a b e r :ao0 (.str al2) (.ref r) (flds a b e)=flds a b r:=by simp[ao0,flds,ag2,am1,al2]
def al5 [Has P ab1](t:Tr)(ht:t.cnt<=40) n  s :∃ G o a b e rs Fo En,(aa0 P (n+t.dep+2)).call "rooms_for" [t.d] s=.ok (.ref o) (s++G)/\RoomsS (s++G) o a b e ([]::t.lt.map λ c=>[c]) rs Fo /\
  (∀ p q,q∈Fo p↔(p=0/\q∈t.fs 1)\/t.ed 1 p q)/\(s++G)[e]?=aT (.J (zd En))/\(∀ q,q∈En↔(q=0/\t.nul=ca)\/q∈t.la 1)/\En.Pairwise (· < ·)/\s.length<=o/\s.length<=a:=by
 have hd:=t.dep1;obtain⟨k,hk⟩:∃ k,n+t.dep=k+1:=⟨n+t.dep - 1,by lia⟩
 obtain⟨s2,a4,b2,f,l,e1,H⟩:=av1 (P:=P) t n (bw1 s) (by lia) ⟨by lia,by lia⟩ (by simp;lia) (λ _ _=>rfl);have e0:=bM7 (P:=P) k s;have R1:=H.st.app [.J (zd [0])];have b0:([]::t.lt.map λ c=>[c]:List (List Nat)).length=t.cnt+1:=by rw[aQ,aq,t.lt_len]
 obtain⟨s3,a6,e2,R3,m3,l3,a2⟩:=aG2 (P:=P) (n+t.dep) R1 (f:=s2.length) (g:=f) (A:=[0]) (B:=t.fs 1) (λ p hp=>by rw[az.mp hp];exact R1.pos) (λ q hq=>by have:=(t.fs_in 1 q hq).2;show q<([]::t.lt.map λ c=>[c]:List (List Nat)).length;rw[b0];lia) qC (zb H.fs);have a5:s3[l]?=aT (.J (zd (t.la 1))):=(a2 l (R1.apart (zb H.la)).2.2).trans (zb H.la);have b1:=t.la_len 1;obtain⟨X,r,En,x1,x2,x3,x4⟩:∃ X r En,(if t.nul=ca then((qi .add (.ref s3.length) (.ref l) (s3++[.J (zd [0])])).bind λ x s=>(bj5 x s).bind λ q s=>bu2 q s)else(bj5 (.ref l) s3).bind λ q s=>bu2 q s)=.ok (.ref r) (s3++X)/\(s3++X)[r]?=aT (.J (zd En))/\(∀ q,q∈En↔(q=0/\t.nul=ca)\/q∈t.la 1)/\En.Pairwise (· < ·):=by
  by_cases c:t.nul=ca
  .rw[ij c,ah1 (A:=[0]) qC (zb a5) (by simp;lia)];simp only[R.bind_ok];have:bj5 (.ref (s3++[O.J (zd [0])]).length) (s3++[O.J (zd [0])]++[O.J (zd ([0]++t.la 1))])=.ok (zd ([0]++t.la 1)) (s3++[O.J (zd [0])]++[O.J (zd ([0]++t.la 1))]):=by unfold bj5;simp only[qC]
   rw[this];simp only[R.bind_ok];obtain⟨En,q1,q2,q3⟩:=aL6 (l:=[0]++t.la 1) (by simp;lia) (s3++[O.J (zd [0])]++[O.J (zd ([0]++t.la 1))]);refine⟨[O.J (zd [0]),O.J (zd ([0]++t.la 1)),.J (zd En)],(s3++[O.J (zd [0])]++[O.J (zd ([0]++t.la 1))]).length,En,?_,?_,λ q=>?_,q3 (bg5 (b:=1) (by simp) (t.la_nd 1) (by simp) λ x hx=>(t.la_in 1 x hx).1)⟩
   .rw[q1];simp
   .rw[show s3++[O.J (zd [0]),O.J (zd ([0]++t.la 1)),O.J (zd En)]=(s3++[O.J (zd [0])]++[O.J (zd ([0]++t.la 1))])++[O.J (zd En)]by simp];exact qC
   .rw[q2,aE,az];simp[c]
  .rw[iF c];have:bj5 (.ref l) s3=.ok (zd (t.la 1)) s3:=by unfold bj5;simp only[a5]
   rw[this];simp only[R.bind_ok];obtain⟨En,q1,q2,q3⟩:=aL6 (l:=t.la 1) (by lia) s3;refine⟨[.J (zd En)],_,En,q1,qC,λ q=>?_,q3 (t.la_nd 1)⟩;rw[q2];simp[c]
 have J:=R3.app X;have a3:s.length<(s3++X).length:=(ac.mp J.ins).1;have e5:ax0 (λ c=>(aa0 P (n+t.dep+1)).att c al2) al2 (.ref s.length) (.ref r) (s3++X)=.ok () ((s3++X).set s.length (.ins "Rooms" (flds (s.length+1) (s.length+3) r))):=by
  have k3:(aa0 P (n+t.dep+1)).att "Rooms" al2=true:=av7;unfold ax0;simp only[J.ins,k3,bE3];rfl
 generalize hT:(s3++X).set s.length (.ins "Rooms" (flds (s.length+1) (s.length+3) r))=T at e5;have Y:∀ i,i≠s.length->T[i]?=(s3++X)[i]?:=λ i Z=>by rw[<-hT];exact ar (bP Z)
 have RT:RoomsS T s.length (s.length+1) (s.length+3) r ([]::t.lt.map λ c=>[c]) ([s.length+2]++a4) a6:=by
  refine⟨?_,?_,?_,J.len,λ i r' Z=>?_,J.nd,J.pos,J.big,J.nf,J.lt⟩
  .rw[<-hT];exact zy a3
  .rw[Y _ (by lia)];exact J.let_
  .rw[Y _ (by lia)];exact J.fol
  .have:=J.dic i r' Z;rw[Y r' λ z=>by subst z;rw[J.ins]at this;cases this];exact this
 have hr:T[r]?=aT (.J (zd En)):=by
  rw[Y r λ z=>by subst z;rw[J.ins]at x2;cases x2];exact x2
 have a1:∀ i,i<s.length->T[i]?=s[i]?:=λ i Z=>by
  have q1:i<s2.length:=by have:=H.le;unfold S0 at this;simp at this;lia
  have nr:i ∉ [s.length+2]++a4:=λ z=>by
   rcases aE.mp z with z|z
   .rw[az.mp z]at Z;lia
   .have:=H.nr i z;unfold S0 at this;simp at this;lia
  have q2:i<s3.length:=by rw[l3,au];lia
  rw[Y i (by lia),ax q2,a2 i nr,ax q1,H.fr i (by unfold S0;simp;lia) (by lia) (by lia) (by simp;lia)];unfold S0;rw[ax Z]
 obtain⟨G,hG⟩:=bh6 (s:=s) (t:=T) (by rw[<-hT,aU];lia) a1;refine⟨G,s.length,s.length+1,s.length+3,r,_,a6,En,?_,hG▸RT,λ p q=>?_,hG▸hr,x3,x4,al _,cg _⟩
 .rw[<-hG];have c0:(aa0 P (n+t.dep+2)).call "rooms_for" [t.d] s=_:=ze ab1 (n:=n+t.dep+1) rfl;rw[c0,bu4,show(bq aT [t.d]++av ab1.vs bY)=[aT t.d,bY,bY]from rfl];have nw:(aa0 P (n+t.dep+1)).new "Rooms" [.ref s.length] (s++[.ins "Rooms" []])=.ok .N (S0 s):=by rw[hk,bB8];exact e0
  have J0:∀ S,ixM (.tp [.T t.nul,.ref f,.ref l]) (.int 0) S=.ok (.T t.nul) S:=λ S=>rfl;have J1:∀ S,ixM (.tp [.T t.nul,.ref f,.ref l]) (.int 1) S=.ok (.ref f) S:=λ S=>rfl;have J2:∀ S,ixM (.tp [.T t.nul,.ref f,.ref l]) (.int 2) S=.ok (.ref l) S:=λ S=>rfl;have a0:∀ S:Sto,S++[O.J [D.int 0]]=S++[O.J (zd [0])]:=λ S=>rfl;simp -implicitDefEqProofs only[qT,ex_asg,ex_ex,qU,ev_cst,ev_bin,ev_ite,ev_lst,ev_ix,evs_nil,evs_cons,evas_nil,evas_ex,Cn_int,R.bind_ok,qu,setV_s,setV_0,qX,qY,Option.map_some,setC_some,qM,alloc_eq,tru_bl,if_true,ce3,nw,ah3,qV (bw1 s).ins,e1,qV H.st.ins,J1,a0,e2,bj3,J0,bR0,J2];rw[x1];simp -implicitDefEqProofs only[qT,ex_ret,qU,R.bind_ok,qX,qY,qM,nxt_ret,fin_ret,e5];exact aq7 (al _) (by rw[<-hT];exact zy a3) (aw7 (cg _))
 .rw[m3,H.ed];constructor
  .rintro((z|z)|⟨z1,z2⟩)
   .cases z
   .exact .inr z
   .exact .inl ⟨az.mp z1,z2⟩
  .rintro(⟨z1,z2⟩|z)
   .exact .inr ⟨az.mpr z1,z2⟩
   .exact .inl (.inr z)
end
section
variable {P:Pr} [Has P aQ7]
def bB2 l :(dk l).map (·.1)=zd l:=by unfold dk zd;rw[cU];rfl
def bB7 l :(dk l).all (λ p=>p.1.keyF)=true:=by
 rw[aA];intro p hp;obtain⟨x,_,rfl⟩:=aS.mp hp;rfl
end
noncomputable def RS (w:List Nat)(k:Nat)(L:List (List Nat))(Fo:Nat->List Nat):Nat->Nat->Prop
 | 0,q=>q=0
 | j+1,q=>∃ p,RS w k L Fo j p/\q∈Fo p/\L[q]?=aT ((w.drop (k+j)).take 1)
noncomputable def ltR (t:Tr)(p:Nat):Option Nat:=if p=0 then bY else t.lt[p - 1]?
def bi2 t :bn2 (ltR t) t 1:=λ i z=>by
 unfold ltR;rw[iF (by lia),cy]
def ar3 :([]::t.lt.map λ c=>[c])[q]?=aT [c]↔ltR t q=aT c:=by
 unfold ltR;cases q with
 | zero=>simp
 | succ q =>
  rw[cx,iF (by lia),Nat.add_sub_cancel,aI];cases t.lt[q]?<;>simp
def aC2 {w:List Nat} h :(w.drop k).take 1=[w[k]]:=by
 rw[ce h];rfl
section
variable {w:List Nat} {t:Tr} {Fo:Nat->List Nat} (hFo:∀ p q,q∈Fo p↔(p=0/\q∈t.fs 1)\/t.ed 1 p q)
include hFo
def bf4 :q∈Fo 0↔q∈t.fs 1:=by
 rw[hFo];constructor
 .rintro(z|z)
  .exact z.2
  .have:=(t.ed_in 1 0 q z).1.1;omega
 .exact λ z=>.inl ⟨rfl,z⟩
def bw7 (hp:p≠0):q∈Fo p↔t.ed 1 p q:=by
 rw[hFo];constructor
 .rintro(z|z)
  .exact nc z.1 hp
  .exact z
 .exact .inr
theorem aP4 :∀ j q ,k+j<w.length->(RS w k ([]::t.lt.map λ c=>[c]) Fo (j+1) q↔∃ p∈t.fs 1,Rn w (ltR t) (t.ed 1) k p (k+j+1) q)
 | 0,q,hj=>by
  rw[fg]at hj ⊢;have hw:=ag hj;constructor
  .rintro⟨p,z1,z2,z3⟩
   have z1:=z1;subst z1;rw[fg,aC2 hj]at z3;exact⟨q,(bf4 hFo).mp z2,.Y hw (ar3.mp z3)⟩
  .rintro⟨p,hp,r⟩
   cases r with
   | Y h l =>
    rw[hw]at h;cases h;exact⟨0,rfl,(bf4 hFo).mpr hp,by rw[fg,aC2 hj];exact ar3.mpr l⟩
   | step h l e r=>have:=r.lt;lia
 | j+1,q,hj=>by
  have hw:=ag hj;constructor
  .rintro⟨p,z1,z2,z3⟩
   obtain⟨Z,J,r⟩:=(aP4 j p (by lia)).mp z1;rw[aC2 hj]at z3;have pn:p≠0:=λ z=>by
    obtain⟨_,c,_,_,l,_⟩:=r.last;rw[z]at l;cases l
   exact⟨Z,J,r.snoc ((bw7 hFo pn).mp z2) hw (ar3.mp z3)⟩
  .rintro⟨Z,J,r⟩
   obtain⟨j',c,e1,e2,e3,e4⟩:=r.last;have ej:j'=k+j+1:=by lia
   subst ej;rcases e4 with⟨z,_⟩|⟨p,r',e⟩
   .lia
   .have pn:p≠0:=λ z=>by have:=(t.ed_in 1 p q e).1.1;lia
    refine⟨p,(aP4 j p (by omega)).mpr ⟨Z,J,r'⟩,(bw7 hFo pn).mpr e,?_⟩;rw[aC2 hj];have Y:w[k+(j+1)]?=aT c:=e2;rw[hw]at Y;cases Y;exact ar3.mpr e3
def bL5 {En:List Nat}(J:∀ q,q∈En↔(q=0/\t.nul=ca)\/q∈t.la 1):∀ j ,k+j<=w.length->((∃ q,RS w k ([]::t.lt.map λ c=>[c]) Fo j q/\q∈En)↔Mt' w t k (k+j))
 | 0,hj=>by
  constructor
  .rintro⟨q,z,y⟩
   have z:=z;subst z;rcases(J 0).mp y with z|z
   .exact ai4 t z.2 hj
   .have:=(t.la_in 1 0 z).1;lia
  .intro h;rcases glu_of h 1 (bi2 t)with⟨_,_,z⟩|⟨p,q,_,_,r⟩
   .exact⟨0,rfl,(J 0).mpr (.inl ⟨rfl,z⟩)⟩
   .have:=r.lt;lia
 | j+1,hj=>by
  constructor
  .rintro⟨q,z,y⟩
   obtain⟨p,hp,r⟩:=(aP4 hFo j q (by omega)).mp z;have Y:q≠0:=λ z=>by
    obtain⟨_,c,_,_,l,_⟩:=r.last;rw[z]at l;cases l
   rcases(J q).mp y with z|z
   .exact nc z.1 Y
   .exact aT0 t 1 (bi2 t) (.inr ⟨p,q,hp,z,r⟩)
  .intro h;rcases glu_of h 1 (bi2 t)with⟨z,_,_⟩|⟨p,q,hp,hq,r⟩
   .lia
   .exact⟨q,(aP4 hFo j q (by omega)).mpr ⟨p,hp,r⟩,(J q).mpr (.inr hq)⟩
end
def bo6 a J Y :ev F (.slLU a J Y) U s=(ev F a U s).bind λ x s=>(ev F J U s).bind λ y s=>match y with|.int i=>(ev F Y U s).bind (λ z s=>match z with|.int j=>slM x (aT i) (aT j) s|_=>.B)|_=>.B:=rfl
def bD1 {k:Nat}(hk:k<=w.length) s :slM (.str w) (aT (k)) (aT ((k)+1)) s=.ok (.str ((w.drop k).take 1)) s:=by
 unfold slM ag1;simp only[loB,hiB,sbd];rw[ij (by lia),ij (by lia)];have e1:min (k:Int).toNat w.length=k:=by lia
 rw[e1]
 congr 2
 by_cases h:k<w.length
 .have e2:min ((k:Int)+1).toNat w.length - k=1:=by lia
  rw[e2]
 .have hd:w.drop k=[]:=dJ (by lia);rw[hd];simp
section
variable {P:Pr} [Has P aQ7] [Has P aI9]
end
def bE1 (a b:Nat) s :qi .bor (.int (a)) (.int (b)) s=.ok (.int ((a ||| b))) s:=by
 show(if 0<=(a:Int)/\0<=(b:Int)then pur (.int ((((a:Int).toNat ||| (b:Int).toNat))))else bad) s=_;rw[ij ⟨db _,db _⟩];rfl
def bq0 {a k:Nat}(ha:a<2^128)(hk:k<=1000) s :qi .shl (.int (a)) (.int (k)) s=.ok (.int ((a*2^k:Nat))) s:=by
 show(if 0<=(k:Int)/\(k:Int)<=1000000/\(a:Int).natAbs<2^128 then pur (.int ((a)*2^(k:Int).toNat))else bad) s=_;rw[ij ⟨db _,by lia,by simpa using ha⟩];rw[bR];push_cast;rfl
def bW6 (a k:Nat) s :qi .shr (.int (a)) (.int (k)) s=.ok (.int ((a / 2^k:Nat))) s:=by
 show(if 0<=(k:Int)then pur (.int ((a) / 2^(k:Int).toNat))else bad) s=_;rw[ij (db _)];rw[bR];push_cast;rfl
def bV9 (a:Nat) s :qi .band (.int (a)) (.int 1) s=.ok (.int ((a % 2:Nat))) s:=by
 show(if 0<=(a:Int)/\(1)=1 then pur (.int ((a) % 2))else bad) s=_;rw[ij ⟨db _,rfl⟩]
 push_cast;rfl
def aF9 (h:x≠0):2^x.log2<=x/\x<2^(x.log2+1):=⟨Nat.log2_self_le h,Nat.lt_log2_self⟩
def bG4 (h:x≠0):x - 2^x.log2=x % 2^x.log2:=by
 obtain⟨z,J⟩:=aF9 h;rw[f8]at J;rw[Nat.mod_eq_sub_mod z,Nat.mod_eq_of_lt (by omega)]
def ap9 (h:x≠0):x.testBit j=ca↔(x - 2^x.log2).testBit j=ca\/j=x.log2:=by
 obtain⟨Y,J⟩:=aF9 h;rw[bG4 h,Nat.testBit_mod_two_pow];rcases fc j x.log2 with z|z|z
 .simp[z,aJ z]
 .subst z;simp only[bH,decide_false,kT,bI,false_or,iff_true];rw[fi];have:x / 2^x.log2=1:=by
   rw[Nat.div_eq_iff (kL _)];rw[f8]at J;omega
  rw[this];rfl
 .have e:x.testBit j=false:=Nat.testBit_lt_two_pow (aG J (Nat.pow_le_pow_right (by decide) (by lia)));rw[e];simp[im.mpr (eU z),eV z]
section
variable {P:Pr} [Has P ac3]
noncomputable def owC:E:=.Z .gt (.X 0) (.K (.int 0))
noncomputable def owB:Ss:=.cons (.A (.Y 3) (.G .sub (.bitl (.X 0)) (.K (.int 1)))) (.cons (.A (.Y 2) (.G .bor (.X 2) (.ix (.X 1) (.X 3)))) (.cons (.A (.Y 0) (.G .sub (.X 0) (.G .shl (.K (.int 1)) (.X 3)))) .nil))
def bo2:ac3.body=.cons (.A (.Y 2) (.K (.int 0))) (.cons (.whl owC owB) (.cons (.ret (.X 2)) .nil)):=rfl
def ev_bitl' a :ev F (.bitl a) U s=(ev F a U s).bind λ x s=>bh1 x s:=rfl
set_option tactic.hygienic true in
def bl8 n {S}(hr:S[r]?=aT (.J (zd J)))(hR:J.length<=64):∀(x f:Nat) x3 ,(∀ k,x.testBit k=ca->k<J.length) ->
  ∃(Y:Nat) (y3:Option D),whl (ev (aa0 P n) owC) (exs (aa0 P n) owB) [aT (.int (x)),aT (.ref r),aT (.int (f)),x3] S=.ok (.next [aT (.int 0),aT (.ref r),aT (.int (Y)),y3]) S/\∀ j,Y.testBit j=ca↔f.testBit j=ca\/∃ k,x.testBit k=ca/\(J.getD k 0).testBit j=true:=by
 intro x
 induction x using kJ with
 | _ x ih =>
  intro f x3 hx;by_cases h0:x=0
  .subst h0;refine⟨f,x3,?_,λ j=>by simp⟩;refine aY1 ?_;unfold owC;simp -implicitDefEqProofs only[qU,ev_cst,ev_cmp,Cn_int,R.bind_ok,qX,gt_int];simp
  .have hk:=hx x.log2 ((ap9 h0).mpr (.inr rfl));have h1:=(aF9 h0).1;have hlt:x - 2^x.log2<x:=by have:=kL x.log2;omega
   obtain⟨Y,y3,e1,e2⟩:=ih (x - 2^x.log2) hlt (f ||| J.getD x.log2 0) (aT (.int (x.log2))) λ k hk=>hx k ((ap9 h0).mpr (.inl hk));refine⟨Y,y3,?_,λ j=>?_⟩
   .rw[<-e1];refine aP2 (s1:=S) ?_ ?_
    .unfold owC;simp -implicitDefEqProofs only[qU,ev_cst,ev_cmp,Cn_int,R.bind_ok,qX,gt_int];simp;lia
    .have b1:bh1 (.int (x:Int)) S=.ok (.int ((x.log2:Int)+1)) S:=by
      unfold bh1 bitsN;simp only[Int.natCast_eq_zero,h0,Int.natAbs_natCast];rfl
     have b2:(x.log2:Int)+1 - 1=(x.log2:Int):=by lia
     have b3:ixM (.ref r) (.int (x.log2:Int)) S=.ok (.int ((J.getD x.log2 0:Nat):Int)) S:=zB hr (by unfold zd;rw[aI,aB,ag hk];rfl);have b4:=bq0 (a:=1) (k:=x.log2) (by decide) (by lia) S;rw[kC]at b4;have b5:(x:Int) - ((2^x.log2:Nat):Int)=((x - 2^x.log2:Nat):Int):=by omega
     have Z:qi .shl (.int 1) (.int (x.log2:Int)) S=.ok (.int ((2^x.log2:Nat):Int)) S:=b4;unfold owB;simp -implicitDefEqProofs only[qT,exs_nil,ex_asg,qU,ev_cst,ev_bin,ev_ix,Cn_int,R.bind_ok,qu,setV_s,setV_0,qX,qY,Option.map_some,setC_some,qM,sub_int,ev_bitl',b1,b2,b3,bE1,Z,b5]
   .rw[e2,i9,bz];constructor
    .rintro((z|z)|⟨k,z1,z2⟩)
     .exact .inl z
     .exact .inr ⟨x.log2,(ap9 h0).mpr (.inr rfl),z⟩
     .exact .inr ⟨k,(ap9 h0).mpr (.inl z1),z2⟩
    .rintro(z|⟨k,z1,z2⟩)
     .exact .inl (.inl z)
     .rcases(ap9 h0).mp z1 with y|y
      .exact .inr ⟨k,y,z2⟩
      .rw[y]at z2;exact .inl (.inr z2)
def az7 n {S}(hr:S[r]?=aT (.J (zd z)))(Y:z.length<=64)(x:Nat)(hx:∀ k,x.testBit k=ca->k<z.length) :
  ∃ f:Nat,(aa0 P (n+1)).call "_law_onward" [.int (x),.ref r] S=.ok (.int (f)) S/\∀ j,f.testBit j=ca↔∃ k,x.testBit k=ca/\(z.getD k 0).testBit j=true:=by
 obtain⟨f,y3,e1,e2⟩:=bl8 (P:=P) n hr Y x 0 bY hx;refine⟨f,?_,λ j=>by rw[e2];simp⟩;have Z:(aa0 P (n+1)).call "_law_onward" [.int (x),.ref r] S=_:=ze ac3 rfl;rw[Z,bo2,show(bq aT [D.int (x),D.ref r]++av ac3.vs bY)=[aT (.int (x)),aT (.ref r),bY,bY]from rfl];have J:whl (ev (aa0 P n) owC) (exs (aa0 P n) owB) [aT (.int (x)),aT (.ref r),aT (.int 0),bY] S=_:=e1;simp -implicitDefEqProofs only[qT,ex_asg,ex_ret,ex_whl,qU,ev_cst,Cn_int,R.bind_ok,qu,setV_s,setV_0,qX,qY,Option.map_some,setC_some,qM,nxt_ret,fin_ret,J];exact zQ (by intro n;rfl) (by nofun)
end
structure Bt (w:List Nat)(t:Tr)(Ro:List Nat):Prop where
 len:Ro.length=w.length+1
 bit:∀ k,k<=w.length->∀ j,(Ro.getD k 0).testBit j=ca↔Mt' w t k j
def Bt.lt (h:Bt w t J)(hw:w.length<=40)(hk:k<=w.length):J.getD k 0<2^64:=by
 refine aG (Nat.lt_pow_two_of_testBit (n:=41) _ λ i Y=>?_) (by decide);rw[<-ku];intro z;have:=((h.bit k hk i).mp z).le.2;lia
theorem ag7 (hok:ok u=ca)(E:Env->Prop) f :∀ l U ,E U->(∀ d∈l,∀ U,E U->∃ U',g d U u=.ok (aT (f d),U') u/\E U')->zX ok g l U u=.ok (l.map f) u
 | [],U,_,_=>by show(if ok u=ca then _ else _)=_;rw[ij hok];rfl
 | d::l,U,hE,h=>by
  obtain⟨U',e1,J⟩:=h d (ao ..) U hE;have Y:=ag7 hok E f l U' J λ d' z=>h d' (ah _ z);unfold zX;rw[ij hok,e1];simp only[R.bind_ok];rw[Y];rfl
def am9 (n:Nat):af8 0 (n)=zd (aH n):=by
 unfold af8 zd;rw[j8,bR];refine eF λ k _=>?_;rw[iu]
def bt8 l f g (h:∀ q∈l,g (.int (q:Int))=.int ((f q:Nat):Int)):(zd l).map g=zd (l.map f):=by
 unfold zd;rw[cU,cU];exact eF λ q hq=>h q hq
def qW f (h:k<n):((aH n).map f).getD k 0=f k:=by
 rw[aB,aI,cB h];rfl
def be3 a m j :(a / 2^m*2^m).testBit j=ca↔m<=j/\a.testBit j=true:=by
 rw[<-Nat.shiftRight_eq_div_pow,<-Nat.shiftLeft_eq,Nat.testBit_shiftLeft,Nat.testBit_shiftRight,aj,oR];constructor
 .rintro⟨J,z⟩
  exact⟨J,by rw[show m+(j - m)=j by lia]at z;exact z⟩
 .rintro⟨J,z⟩
  exact⟨J,by rw[show m+(j - m)=j by lia];exact z⟩
def bN1 :Mt' w (.rep t) k j↔(j=k/\k<=w.length)\/∃ m,k<m/\Mt' w t k m/\Mt' w (.rep t) m j:=by
 constructor
 .intro h;generalize hr:Tr.rep t=r at h
  induction h with
  | rep0 h=>exact .inl ⟨rfl,h⟩
  | @repS t' k m j h g ih1 ih2 =>
   cases hr;by_cases z:k=m
   .subst z;exact ih2 rfl
   .exact .inr ⟨m,by have:=h.le.1;lia,h,g⟩
  | _=>cases hr
 .rintro(⟨rfl,h⟩|⟨m,_,h,g⟩)
  .exact .rep0 h
  .exact .repS h g
section
variable {P:Pr} [Has P ac3] [Has P ad8]
noncomputable def agB:Ss:=.cons (.setIx (.X 1) (.X 2) (.G .bor (.ix (.X 1) (.X 2)) (.call "_law_onward" (.ex (.G .shl (.G .shr (.ix (.X 0) (.X 2)) (.G .add (.X 2) (.K (.int 1)))) (.G .add (.X 2) (.K (.int 1)))) (.ex (.X 1) .nil))))) .nil
def aU0:ad8.body=.cons (.A (.Y 1) (.mk .list (.comp (.Y 0) (.rg (.bi .len (.cons (.X 0) .nil))) (.G .shl (.K (.int 1)) (.X 0)) [bY]))) (.cons (.fo (.Y 2) (.rngD (.G .sub (.bi .len (.cons (.X 0) .nil)) (.K (.int 1)))) agB) (.cons (.ret (.X 1)) .nil)):=rfl
def aN5 F {S} n (hn:n<=100)(hok:ok S=ca):zX ok (zJ F (.Y 0) (.G .shl (.K (.int 1)) (.X 0))) (zd (aH n)) [bY] S=.ok (zd ((aH n).map λ k=>2^k)) S:=by
 have key:=ag7 (g:=zJ F (.Y 0) (.G .shl (.K (.int 1)) (.X 0))) hok (λ U=>∃ x,U=[x]) (λ d=>match d with|.int i=>.int ((2^i.toNat))|_=>.N) (zd (aH n)) [bY] ⟨bY,rfl⟩ ?_
 .rw[key]
  congr 1
  exact bt8 _ _ _ λ q _=>rfl
 .rintro d hd U ⟨x,rfl⟩
  obtain⟨q,hq,rfl⟩:=aS.mp hd;have hq:=bO.mp hq;have J:=bq0 (a:=1) (k:=q) (by decide) (by lia) S;rw[kC]at J;have z:qi .shl (.int 1) (.int (q)) S=.ok (.int ((2^q))) S:=J;refine⟨[aT (.int (q))],?_,_,rfl⟩;unfold zJ;simp -implicitDefEqProofs only[qU,ev_cst,ev_bin,Cn_int,R.bind_ok,qu,setV_0,qX,z];rfl
def bA0 (x:D):M Sq:=λ s=>match x with|.int i=>if -1<=i/\i<1048576 then .ok ⟨ag6 i,[]⟩ s else .B|_=>.B
def bj7 a :evI F (.rngD a) U s=(ev F a U s).bind λ x s=>bA0 x s:=rfl
def qE (h:k<l.length):(zd l)[k]?=aT (.int ((l.getD k 0))):=by
 unfold zd;rw[aI,aB,ag h];rfl
def bk9 l (k x:Nat):(zd l).set k (.int (x))=zd (l.set k x):=by
 unfold zd;rw[mn]
def aO9 {l:List Nat}(h:k<l.length):(l.set k x).getD i 0=if i=k then x else l.getD i 0:=by
 rw[aB,aB];by_cases z:i=k
 .subst z;rw[aW h,ij rfl];rfl
 .rw[ar (bP z),iF z]
def bs0 n {S:Sto}(hw:w.length<=40)(hB:Bt w t Z)(hr:S[r]?=aT (.J (zd Z))) :
  ∃ F,(aa0 P (n+2)).call "_law_again" [.ref r] S=.ok (.ref S.length) (S++[.J (zd F)])/\Bt w (.rep t) F:=by
 have hl:∀ {X:Sto},bi .len [.ref r] (S++X)=.ok (.int ((w.length+1:Nat):Int)) (S++X):=λ {X}=>by rw[ak0 (zb hr),zI,hB.len]
 have a4:bi .len [.ref r] S=.ok (.int ((w.length+1:Nat):Int)) S:=by rw[ak0 hr,zI,hB.len]
 have key:=qH (ok:=λ u=>chk (S++[.J (zd ((aH (w.length+1)).map λ k=>2^k))]) u []) (g:=turn (aa0 P (n+1)) (.Y 2) agB) (λ i U u=>∃ F x2,U=[aT (.ref r),aT (.ref S.length),x2]/\u=S++[.J (zd F)]/\F.length=w.length+1/\(∀ k,k<=w.length->w.length+1<=k+i->∀ j,(F.getD k 0).testBit j=ca↔Mt' w (.rep t) k j)/\∀ k,k+i<=w.length->F.getD k 0=2^k)
  (ag6 (w.length:Int)) 0 [aT (.ref r),aT (.ref S.length),bY] (S++[.J (zd ((aH (w.length+1)).map λ k=>2^k))]) ⟨_,bY,rfl,rfl,by simp,λ k h1 h2=>by lia,λ k hk=>qW _ (by lia)⟩ (λ _ _ _ _ _=>rfl) ?_
 .have a2:(ag6 (w.length:Int)).length=w.length+1:=by unfold ag6;simp
  obtain⟨U',s',k1,F,x2,rfl,rfl,m1,Y,m3⟩:=key;rw[bG,a2]at Y;refine⟨F,?_,m1,λ k hk j=>Y k hk (by lia) j⟩;have c0:(aa0 P (n+2)).call "_law_again" [.ref r] S=_:=ze ad8 (n:=n+1) rfl;rw[c0,aU0,show(bq aT [D.ref r]++av ad8.vs bY)=[aT (.ref r),bY,bY]from rfl];have pc:=aN5 (aa0 P (n+1)) (S:=S) (w.length+1) (by lia) (ok:=λ a3=>chk S a3 []) rfl;have e1:aA7 (.int ((w.length+1:Nat):Int)) S=.ok ⟨zd (aH (w.length+1)),[]⟩ S:=by rw[qo (by unfold Ww62;lia) (by unfold Ww62;lia),am9]
  have hL:(zd (aH (w.length+1))).length<=LIM:=by rw[zI,ci];unfold LIM;lia
  have e2:((w.length+1:Nat):Int) - 1=(w.length:Int):=by lia
  have e3:∀ u,bA0 (.int (w.length:Int)) u=.ok ⟨ag6 (w.length:Int),[]⟩ u:=λ u=>by
   unfold bA0;exact ij ⟨by lia,by lia⟩
  have a5:∀(l:List D) (u:Sto),mk .list l u=.ok (.ref u.length) (u++[.J l]):=λ _ _=>rfl;have cap:zM [aT (D.ref r),bY,bY] [bY]=[bY]:=rfl;simp -implicitDefEqProofs only[qT,ex_asg,ex_for,qU,ev_cst,ev_bin,ev_bi,ev_mk,evs_nil,evs_cons,evI_rng1,Cn_int,R.bind_ok,qu,setV_s,setV_0,qX,Option.map_some,setC_some,qM,sub_int,zO,evI_rng1,a4,e1,ij hL,cap,pc,a5,bj7,hl,e2,e3];rw[k1];simp -implicitDefEqProofs only[qT,ex_ret,qU,R.bind_ok,qX,qY,qM,nxt_ret,fin_ret];have cn:=qc (s:=S) (t:=[]) (u:=[]) (o:=.J (zd F)) (by unfold O.bnd;exact aQ9 _ _);exact cn
 .rintro i d U u hi ⟨F,x2,rfl,rfl,m1,Y,m3⟩
  rw[bG]at Y m3;have a6:i<w.length+1:=by
   have:=(ac.mp hi).1;unfold ag6 at this;simp at this;omega
  have hd:d=.int ((w.length - i:Nat):Int):=by
   unfold ag6 at hi;rw[aI,cB (by lia)]at hi;have hi:=aM hi;rw[<-hi];show D.int ((w.length:Int)+(i:Int)*(-1))=_;rw[show(w.length:Int)+(i:Int)*(-1)=((w.length - i:Nat):Int)by lia]
  subst hd;generalize hk:w.length - i=k at *;have a0:k<=w.length:=by lia
  have f0:=m3 k (by lia);have i1:ixM (.ref S.length) (.int (k:Int)) (S++[.J (zd F)])=.ok (.int ((2^k:Nat):Int)) (S++[.J (zd F)]):=by
   rw[<-f0];exact zB qC (qE (by lia))
  have i2:ixM (.ref r) (.int (k:Int)) (S++[.J (zd F)])=.ok (.int ((Z.getD k 0:Nat):Int)) (S++[.J (zd F)]):=zB (zb hr) (qE (by rw[hB.len];lia));have hlt:=hB.lt hw a0;have i3:=bW6 (Z.getD k 0) (k+1) (S++[.J (zd F)]);have i4:=bq0 (a:=Z.getD k 0 / 2^(k+1)) (k:=k+1) (gj (Nat.div_le_self _ _) (lX hlt (by decide))) (by lia) (S++[.J (zd F)]);have ek:(k:Int)+1=((k+1:Nat):Int):=by lia
  have J:∀ m,(Z.getD k 0 / 2^(k+1)*2^(k+1)).testBit m=ca↔k<m/\Mt' w t k m:=λ m=>by rw[be3,hB.bit k a0];exact l9
  obtain⟨x,o1,o2⟩:=az7 (P:=P) n (S:=S++[.J (zd F)]) qC (by lia) (Z.getD k 0 / 2^(k+1)*2^(k+1)) λ m hm=>by
   have:=((J m).mp hm).2.le.2;lia
  have i5:=bE1 (2^k) x (S++[.J (zd F)]);have i6:setIx (.ref S.length) (.int (k:Int)) (.int ((2^k ||| x:Nat):Int)) (S++[.J (zd F)])=.ok () (S++[.J (zd (F.set k (2^k ||| x)))]):=by
   rw[aw8 qC (by rw[zI];lia),ai1,bk9]
  have a1:k<F.length:=by omega
  refine⟨[aT (.ref r),aT (.ref S.length),aT (.int (k:Int))],_,.inl ?_,F.set k (2^k ||| x),_,rfl,rfl,by rw[aU];exact m1,λ k' h1 h2 j=>?_,λ k' h1=>?_⟩
  .unfold turn agB;simp -implicitDefEqProofs only[qT,exs_nil,ex_setIx,qU,ev_cst,ev_bin,ev_ix,ev_call,evas_nil,evas_ex,Cn_int,R.bind_ok,qu,setV_s,setV_0,qX,qY,Option.map_some,qM,add_int,i1,i2,ek,i3,i4,o1,i5,i6]
  .rw[aO9 a1];by_cases z:k'=k
   .subst z;rw[ij rfl,i9,bz,fW,oR,o2,bN1];constructor
    .rintro(z|⟨m,z1,z2⟩)
     .exact .inl ⟨z.symm,h1⟩
     .obtain⟨y1,y2⟩:=(J m).mp z1;have:=y2.le.2;exact .inr ⟨m,y1,y2,(Y m this (by lia) j).mp z2⟩
    .rintro(⟨z,_⟩|⟨m,z1,z2,z3⟩)
     .exact .inl z.symm
     .have:=z2.le.2;exact .inr ⟨m,(J m).mpr ⟨z1,z2⟩,(Y m this (by omega) j).mpr z3⟩
   .rw[iF z];exact Y k' h1 (by lia) j
  .rw[aO9 a1,iF (by lia)];exact m3 k' (by lia)
end
section
variable {P:Pr} [Has P ac3] [Has P ad8] [Has P ad6]
def qt:ad6.body=aL7:=rfl
theorem ay4 (hok:ok u=ca)(E:Env->Prop)(Q:Nat->Nat->Prop):∀ l U ,E U->(∀ q∈l,∀ U,E U->∃ U' f ,g (.int (q)) U u=.ok (aT (.int (f)),U') u/\E U'/\Q q f)->∃ z,zX ok g (zd l) U u=.ok (zd z) u/\z.length=l.length/\∀ i,i<l.length->Q (l.getD i 0) (z.getD i 0)
 | [],U,_,_=>⟨[],by show(if ok u=ca then _ else _)=_;rw[ij hok];rfl,rfl,λ i J=>nc J (by simp)⟩
 | q::l,U,hE,h=>by
  obtain⟨U',f,e1,Z,hq⟩:=h q (ao ..) U hE;obtain⟨z,e2,e3,e4⟩:=ay4 hok E Q l U' Z λ d' Y=>h d' (ah _ Y);refine⟨f::z,?_,by simp[e3],λ i J=>?_⟩
  .show zX ok g (D.int (q)::zd l) U u=_;unfold zX;rw[ij hok,e1];simp only[R.bind_ok];rw[e2];rfl
  .cases i with
   | zero=>exact hq
   | succ i=>exact e4 i (by simpa using J)
def au9 (h:i<n):(aH n).getD i 0=i:=by rw[aB,cB h];rfl
def bI6 :Mt' w (.two ca t u) k j↔Mt' w t k j\/Mt' w u k j:=by
 constructor
 .intro h;cases h with
  | inl h=>exact .inl h
  | inr h=>exact .inr h
 .rintro(h|h)
  .exact .inl h
  .exact .inr h
def bq8 :Mt' w (.two dr t u) k j↔∃ m,Mt' w t k m/\Mt' w u m j:=by
 constructor
 .intro h;cases h with
  | both h g=>exact⟨_,h,g⟩
 .rintro⟨m,h,g⟩
  exact .both h g
def aY7 b s :bi .int [.T b] s=.ok (.int ((b.toNat))) s:=by cases b<;>rfl
def bE2 b m j :(b.toNat*2^m).testBit j=ca↔b=ca/\j=m:=by
 cases b with
 | false=>simp
 | true =>
  rw[Bool.toNat_true,kC,fW,oR];simp[eq_comm]
def ah8 l n :(O.J (zd l)).bnd n=true:=by unfold O.bnd;exact aQ9 _ _
theorem an2:∀ t   n  {w},w.length<=40->∀ S ,∃ J,(aa0 P (n+t.dep+2)).call "_law_ends" [t.d,.str w] S=.ok (.ref S.length) (S++[.J (zd J)])/\Bt w t J
 | .letter c,n,w,hw,S=>by
  have I0:∀ S,ixM (Tr.letter c).d (.int 0) S=.ok (.str qz) S:=λ S=>rfl;have I1:∀ S,ixM (Tr.letter c).d (.int 1) S=.ok (.str [c]) S:=λ S=>rfl;obtain⟨l',cm,l1,l2⟩:=ay4 (g:=zJ (aa0 P (n+2)) (.Y 0) (.G .shl (.bi .int (.cons (.Z .eq (.slLU (.X 1) (.X 0) (.G .add (.X 0) (.K (.int 1)))) (.ix (.X 2) (.K (.int 1)))) .nil)) (.G .add (.X 0) (.K (.int 1))))) (ok:=λ Y=>chk S Y []) (u:=S) rfl (λ U=>∃ x,U=[x,aT (.str w),aT (Tr.letter c).d]) (λ q f=>∀ j,f.testBit j=ca↔Mt' w (.letter c) q j) (aH (w.length+1)) [bY,aT (.str w),aT (Tr.letter c).d] ⟨bY,rfl⟩ (by
   rintro q hq U ⟨x,rfl⟩
   have hq:=bO.mp hq;have a1:(q:Int)+1=((q+1:Nat):Int):=by lia
   have sl:=bD1 (w:=w) (k:=q) (by lia) S;rw[a1]at sl;have E2:zh .eq (.str ((w.drop q).take 1)) (.str [c]) S=.ok (.T ((w.drop q).take 1==[c])) S:=qg rfl S;have sh:=bq0 (a:=(((w.drop q).take 1==[c]):Bool).toNat) (k:=q+1) (by cases((w.drop q).take 1==[c])<;>decide) (by lia) S;refine⟨[aT (.int (q:Int)),aT (.str w),aT (Tr.letter c).d],(((w.drop q).take 1==[c]):Bool).toNat*2^(q+1),?_,⟨_,rfl⟩,λ j=>?_⟩
   .unfold zJ;simp -implicitDefEqProofs only[qU,ev_cst,ev_bin,ev_cmp,ev_ix,ev_bi,evs_nil,evs_cons,Cn_int,R.bind_ok,qu,setV_0,qX,qY,add_int,bo6,a1,sl,I1,E2,aY7,sh]
   .rw[bE2,beq_iff_eq];constructor
    .rintro⟨z1,rfl⟩
     by_cases h:q<w.length
     .rw[aC2 h]at z1;injection z1 with z1 _;exact .letter (by rw[ag h,z1])
     .rw[dJ (by lia)]at z1;cases z1
    .intro h;cases h with
     | letter h =>
      have hlt:=(ac.mp h).1;rw[ag hlt]at h;rw[aC2 hlt,aM h];exact⟨rfl,rfl⟩)
  rw[ci]at l1 l2;refine⟨l',?_,l1,λ k hk j=>by have:=l2 k (by lia);rw[au9 (by omega)]at this;exact this j⟩;have c0:(aa0 P (n+(Tr.letter c).dep+2)).call "_law_ends" [(Tr.letter c).d,.str w] S=_:=ze ad6 (n:=n+2) rfl;rw[c0,qt,show(bq aT [(Tr.letter c).d,D.str w]++av ad6.vs bY)=[aT (Tr.letter c).d,aT (.str w),bY,bY,bY]from rfl];have E1:∀ S,zh .eq (.str qz) (.str [108,101,116,116,101,114]) S=.ok (.T ca) S:=λ S=>qg (by decide) S;have z:∀ u,bi .len [.str w] u=.ok (.int w.length) u:=λ u=>rfl;have ek:(w.length:Int)+1=((w.length+1:Nat):Int):=by lia
  have e1:aA7 (.int ((w.length+1:Nat):Int)) S=.ok ⟨zd (aH (w.length+1)),[]⟩ S:=by rw[qo (by unfold Ww62;lia) (by unfold Ww62;lia),am9]
  have hL:(zd (aH (w.length+1))).length<=LIM:=by rw[zI,ci];unfold LIM;lia
  have cap:zM [aT (Tr.letter c).d,aT (D.str w),aT (D.int w.length),bY,bY] [bY,aT 1,aT 0]=[bY,aT (.str w),aT (Tr.letter c).d]:=rfl;have Z:∀(l:List D) (u:Sto),mk .list l u=.ok (.ref u.length) (u++[.J l]):=λ _ _=>rfl;simp -implicitDefEqProofs only[qT,exs_nil,ex_asg,ex_ite,ex_ret,qU,ev_cst,ev_bin,ev_cmp,ev_ix,ev_bi,ev_mk,evs_nil,evs_cons,evI_rng1,Cn_int,Cn_str,R.bind_ok,qu,setV_s,setV_0,qX,qY,Option.map_some,setC_some,qM,nxt_ret,fin_ret,add_int,tru_bl,if_true,z,I0,E1,ek,zO,evI_rng1,e1,ij hL,cap,cm,Z];exact qc (s:=S) (t:=[]) (u:=[]) (ah8 _ _)
 | .nothing,n,w,hw,S=>by
  refine⟨(aH (w.length+1)).map λ k=>2^k,?_,by simp,λ k hk j=>?_⟩
  .have c0:(aa0 P (n+Tr.nothing.dep+2)).call "_law_ends" [Tr.nothing.d,.str w] S=_:=ze ad6 (n:=n+2) rfl;rw[c0,qt,show(bq aT [Tr.nothing.d,D.str w]++av ad6.vs bY)=[aT Tr.nothing.d,aT (.str w),bY,bY,bY]from rfl];have I0:∀ S,ixM Tr.nothing.d (.int 0) S=.ok (.str zH) S:=λ S=>rfl;have E1:∀ S,zh .eq (.str zH) (.str [108,101,116,116,101,114]) S=.ok (.T dr) S:=λ S=>qg (by decide) S;have E2:∀ S,zh .eq (.str zH) (.str [110,111,116,104,105,110,103]) S=.ok (.T ca) S:=λ S=>qg (by decide) S;have z:∀ u,bi .len [.str w] u=.ok (.int w.length) u:=λ u=>rfl;have ek:(w.length:Int)+1=((w.length+1:Nat):Int):=by lia
   have e1:aA7 (.int ((w.length+1:Nat):Int)) S=.ok ⟨zd (aH (w.length+1)),[]⟩ S:=by rw[qo (by unfold Ww62;lia) (by unfold Ww62;lia),am9]
   have hL:(zd (aH (w.length+1))).length<=LIM:=by rw[zI,ci];unfold LIM;lia
   have pc:=aN5 (aa0 P (n+2)) (S:=S) (w.length+1) (by lia) (ok:=λ Y=>chk S Y []) rfl;have cap:zM [aT Tr.nothing.d,aT (D.str w),aT (D.int w.length),bY,bY] [bY]=[bY]:=rfl;have Z:∀(l:List D) (u:Sto),mk .list l u=.ok (.ref u.length) (u++[.J l]):=λ _ _=>rfl;simp -implicitDefEqProofs only[qT,exs_nil,ex_asg,ex_ite,ex_ret,qU,ev_cst,ev_bin,ev_cmp,ev_ix,ev_bi,ev_mk,evs_nil,evs_cons,evI_rng1,Cn_int,Cn_str,R.bind_ok,qu,setV_s,setV_0,qX,qY,Option.map_some,setC_some,qM,nxt_ret,fin_ret,add_int,tru_bl,if_true,if_false,Bool.false_eq_true,z,I0,E1,E2,ek,zO,evI_rng1,e1,ij hL,cap,pc,Z];exact qc (s:=S) (t:=[]) (u:=[]) (ah8 _ _)
  .rw[qW _ (by lia),fW,oR];constructor
   .rintro rfl;exact .nothing hk
   .intro h;cases h;rfl
 | .rep t,n,w,hw,S=>by
  obtain⟨J,e1,hB⟩:=an2 t n hw S;obtain⟨F,e2,hF⟩:=bs0 (P:=P) (n+t.dep) hw hB (S:=S++[.J (zd J)]) qC;refine⟨F,?_,hF⟩;have c0:(aa0 P (n+(Tr.rep t).dep+2)).call "_law_ends" [(Tr.rep t).d,.str w] S=_:=ze ad6 (n:=n+t.dep+2) rfl;rw[c0,qt,show(bq aT [(Tr.rep t).d,D.str w]++av ad6.vs bY)=[aT (Tr.rep t).d,aT (.str w),bY,bY,bY]from rfl];have I0:∀ S,ixM (Tr.rep t).d (.int 0) S=.ok (.str zE) S:=λ S=>rfl;have I1:∀ S,ixM (Tr.rep t).d (.int 1) S=.ok t.d S:=λ S=>rfl;have E1:∀ S,zh .eq (.str zE) (.str [108,101,116,116,101,114]) S=.ok (.T dr) S:=λ S=>qg (by decide) S;have E2:∀ S,zh .eq (.str zE) (.str [110,111,116,104,105,110,103]) S=.ok (.T dr) S:=λ S=>qg (by decide) S;have E3:∀ S,zh .eq (.str zE) (.str [114,101,112,101,97,116]) S=.ok (.T ca) S:=λ S=>qg (by decide) S;have z:∀ u,bi .len [.str w] u=.ok (.int w.length) u:=λ u=>rfl;simp -implicitDefEqProofs only[qT,exs_nil,ex_asg,ex_ite,ex_ret,qU,ev_cst,ev_cmp,ev_ix,ev_call,ev_bi,ev_mk,evs_nil,evs_cons,evas_nil,evas_ex,Cn_int,Cn_str,R.bind_ok,qu,setV_s,setV_0,qX,qY,Option.map_some,setC_some,qM,nxt_ret,fin_ret,tru_bl,if_true,if_false,Bool.false_eq_true,z,I0,I1,E1,E2,E3,e1,e2];have cn:=qc (s:=S) (t:=[.J (zd J)]) (u:=[]) (o:=.J (zd F)) (ah8 _ _);rw[aN,au];exact cn
 | .two x t u,n,w,hw,S=>by
  obtain⟨J,e1,hB⟩:=an2 t (n+max t.dep u.dep - t.dep) hw S;rw[show n+max t.dep u.dep - t.dep+t.dep+2=n+max t.dep u.dep+2 by lia]at e1;obtain⟨Ru,e2,hU⟩:=an2 u (n+max t.dep u.dep - u.dep) hw (S++[.J (zd J)]);rw[show n+max t.dep u.dep - u.dep+u.dep+2=n+max t.dep u.dep+2 by lia]at e2;have c0:(aa0 P (n+(Tr.two x t u).dep+2)).call "_law_ends" [(Tr.two x t u).d,.str w] S=_:=ze ad6 (n:=n+max t.dep u.dep+2) rfl;have z:∀ u,bi .len [.str w] u=.ok (.int w.length) u:=λ u=>rfl;have ek:(w.length:Int)+1=((w.length+1:Nat):Int):=by omega
  generalize hT:S++[O.J (zd J)]++[O.J (zd Ru)]=T at *;have gR:T[S.length]?=aT (.J (zd J)):=by rw[<-hT];exact zb qC
  have gU:T[S.length+1]?=aT (.J (zd Ru)):=by rw[<-hT,show S.length+1=(S++[O.J (zd J)]).length by simp];exact qC
  have a0:(S++[O.J (zd J)]).length=S.length+1:=by simp
  have Z:∀(l:List D) (u:Sto),mk .list l u=.ok (.ref u.length) (u++[.J l]):=λ _ _=>rfl;have fin:∀ F:List Nat,zp S (.ref T.length) (T++[.J (zd F)])=.ok (.ref S.length) (S++[.J (zd F)]):=λ F=>by
   have cn:=qc (s:=S) (t:=[.J (zd J),.J (zd Ru)]) (u:=[]) (o:=.J (zd F)) (ah8 _ _);rw[<-hT];have e:S++[O.J (zd J)]++[O.J (zd Ru)]++[O.J (zd F)]=S++([O.J (zd J),O.J (zd Ru)]++[O.J (zd F)]):=by simp
   rw[e,show(S++[O.J (zd J)]++[O.J (zd Ru)]).length=S.length+[O.J (zd J),O.J (zd Ru)].length by simp];exact cn
  cases x with
  | true =>
   obtain⟨l',cm,l1,l2⟩:=ay4 (g:=zJ (aa0 P (n+max t.dep u.dep+2)) (.Y 0) (.G .bor (.ix (.X 1) (.X 0)) (.ix (.X 2) (.X 0)))) (ok:=λ Y=>chk T Y []) (u:=T) rfl (λ U=>∃ x,U=[x,aT (.ref S.length),aT (.ref (S.length+1))]) (λ q f=>∀ j,f.testBit j=ca↔Mt' w (.two ca t u) q j) (aH (w.length+1)) [bY,aT (.ref S.length),aT (.ref (S.length+1))] ⟨bY,rfl⟩ (by
    rintro q hq U ⟨x,rfl⟩
    have hq:=bO.mp hq;have i1:=zB gR (qE (k:=q) (by rw[hB.len];omega));have i2:=zB gU (qE (k:=q) (by rw[hU.len];omega));refine⟨[aT (.int (q:Int)),aT (.ref S.length),aT (.ref (S.length+1))],J.getD q 0 ||| Ru.getD q 0,?_,⟨_,rfl⟩,λ j=>?_⟩
    .unfold zJ;simp -implicitDefEqProofs only[qU,ev_bin,ev_ix,R.bind_ok,qu,setV_0,qX,qY,i1,i2,bE1]
    .rw[i9,bz,hB.bit q (by lia),hU.bit q (by omega),bI6])
   rw[ci]at l1 l2;refine⟨l',?_,l1,λ k hk j=>by have:=l2 k (by lia);rw[au9 (by omega)]at this;exact this j⟩;rw[c0,qt,show(bq aT [(Tr.two ca t u).d,D.str w]++av ad6.vs bY)=[aT (Tr.two ca t u).d,aT (.str w),bY,bY,bY]from rfl];have I0:∀ S,ixM (Tr.two ca t u).d (.int 0) S=.ok (.str zu) S:=λ S=>rfl;have I1:∀ S,ixM (Tr.two ca t u).d (.int 1) S=.ok t.d S:=λ S=>rfl;have I2:∀ S,ixM (Tr.two ca t u).d (.int 2) S=.ok u.d S:=λ S=>rfl;have E1:∀ S,zh .eq (.str zu) (.str [108,101,116,116,101,114]) S=.ok (.T dr) S:=λ S=>qg (by decide) S;have E2:∀ S,zh .eq (.str zu) (.str [110,111,116,104,105,110,103]) S=.ok (.T dr) S:=λ S=>qg (by decide) S;have E3:∀ S,zh .eq (.str zu) (.str [114,101,112,101,97,116]) S=.ok (.T dr) S:=λ S=>qg (by decide) S;have E4:∀ S,zh .eq (.str zu) (.str [101,105,116,104,101,114]) S=.ok (.T ca) S:=λ S=>qg (by decide) S;have r1:aA7 (.int ((w.length+1:Nat):Int)) T=.ok ⟨zd (aH (w.length+1)),[]⟩ T:=by rw[qo (by unfold Ww62;lia) (by unfold Ww62;lia),am9]
   have hL:(zd (aH (w.length+1))).length<=LIM:=by rw[zI,ci];unfold LIM;lia
   have cap:zM [aT (Tr.two ca t u).d,aT (D.str w),aT (D.int w.length),aT (D.ref S.length),aT (D.ref (S.length+1))] [bY,aT 3,aT 4]=[bY,aT (.ref S.length),aT (.ref (S.length+1))]:=rfl;simp -implicitDefEqProofs only[qT,exs_nil,ex_asg,ex_ite,ex_ret,qU,ev_cst,ev_bin,ev_cmp,ev_ix,ev_call,ev_bi,ev_mk,evs_nil,evs_cons,evas_nil,evas_ex,evI_rng1,Cn_int,Cn_str,R.bind_ok,qu,setV_s,setV_0,qX,qY,Option.map_some,setC_some,qM,nxt_ret,fin_ret,add_int,tru_bl,if_true,if_false,Bool.false_eq_true,z,I0,I1,I2,E1,E2,E3,E4,e1,e2,a0,ek,zO,evI_rng1,r1,ij hL,cap,cm,Z];exact fin _
  | false =>
   obtain⟨l',cm,l1,l2⟩:=ay4 (g:=zJ (aa0 P (n+max t.dep u.dep+2)) (.Y 0) (.call "_law_onward" (.ex (.X 0) (.ex (.X 1) .nil)))) (ok:=λ Y=>chk T Y [S.length]) (u:=T) (by unfold chk;simp) (λ U=>∃ x,U=[x,aT (.ref (S.length+1))]) (λ v f=>∀ j,f.testBit j=ca↔∃ k,v.testBit k=ca/\(Ru.getD k 0).testBit j=ca) J [bY,aT (.ref (S.length+1))] ⟨bY,rfl⟩ (by
    rintro q hq U ⟨x,rfl⟩
    obtain⟨i,hi,rfl⟩:=cJ.mp hq;have a2:i<=w.length:=by rw[hB.len]at hi;omega
    have hd:J.getD i 0=J[i]:=by rw[aB,ag hi];rfl
    obtain⟨f,o1,o2⟩:=az7 (P:=P) (n+max t.dep u.dep+1) gU (by rw[hU.len];lia) J[i] λ k hk=>by rw[hU.len];have:=((hB.bit i a2 k).mp (by rw[hd];exact hk)).le.2;lia
    refine⟨[aT (.int (J[i]:Int)),aT (.ref (S.length+1))],f,?_,⟨_,rfl⟩,o2⟩;unfold zJ;simp -implicitDefEqProofs only[qU,ev_call,evas_nil,evas_ex,R.bind_ok,qu,setV_0,qX,qY,o1])
   refine⟨l',?_,l1.trans hB.len,λ k hk j=>?_⟩
   .rw[c0,qt,show(bq aT [(Tr.two dr t u).d,D.str w]++av ad6.vs bY)=[aT (Tr.two dr t u).d,aT (.str w),bY,bY,bY]from rfl];have I0:∀ S,ixM (Tr.two dr t u).d (.int 0) S=.ok (.str zr) S:=λ S=>rfl;have I1:∀ S,ixM (Tr.two dr t u).d (.int 1) S=.ok t.d S:=λ S=>rfl;have I2:∀ S,ixM (Tr.two dr t u).d (.int 2) S=.ok u.d S:=λ S=>rfl;have E1:∀ S,zh .eq (.str zr) (.str [108,101,116,116,101,114]) S=.ok (.T dr) S:=λ S=>qg (by decide) S;have E2:∀ S,zh .eq (.str zr) (.str [110,111,116,104,105,110,103]) S=.ok (.T dr) S:=λ S=>qg (by decide) S;have E3:∀ S,zh .eq (.str zr) (.str [114,101,112,101,97,116]) S=.ok (.T dr) S:=λ S=>qg (by decide) S;have E4:∀ S,zh .eq (.str zr) (.str [101,105,116,104,101,114]) S=.ok (.T dr) S:=λ S=>qg (by decide) S;have q1:am0 (.ref S.length) T=.ok ⟨zd J,[S.length]⟩ T:=by unfold am0;simp only[gR]
    have hL:(zd J).length<=LIM:=by rw[zI,hB.len];unfold LIM;lia
    have cap:zM [aT (Tr.two dr t u).d,aT (D.str w),aT (D.int w.length),aT (D.ref S.length),aT (D.ref (S.length+1))] [bY,aT 4]=[bY,aT (.ref (S.length+1))]:=rfl;simp -implicitDefEqProofs only[qT,exs_nil,ex_asg,ex_ite,ex_ret,qU,ev_cst,ev_bin,ev_cmp,ev_ix,ev_call,ev_bi,ev_mk,evs_nil,evs_cons,evas_nil,evas_ex,evI_seq,evI_rng1,Cn_int,Cn_str,R.bind_ok,qu,setV_s,setV_0,qX,qY,Option.map_some,setC_some,qM,nxt_ret,fin_ret,add_int,tru_bl,if_false,Bool.false_eq_true,z,I0,I1,I2,E1,E2,E3,E4,e1,e2,a0,zO,q1,ij hL,cap,cm,Z];exact fin _
   .rw[l2 k (by rw[hB.len];lia),bq8];constructor
    .rintro⟨m,z1,z2⟩
     have y:=(hB.bit k hk m).mp z1;exact⟨m,y,(hU.bit m y.le.2 j).mp z2⟩
    .rintro⟨m,z1,z2⟩
     exact⟨m,(hB.bit k hk m).mpr z1,(hU.bit m z1.le.2 j).mpr z2⟩
variable [Has P ca7]
end
noncomputable def cm7:Ss:=.cons (.ite (.Z .gt (.ix (.X 2) (.K (.int 0))) (.K (.int 0))) (.cons (.A (.Y 4) (.G .add (.X 4) (.call "_law_member" (.ex (.X 0) (.ex (.ix (.X 1) (.K (.int 1))) (.ex (.X 2) .nil)))))) .nil) .nil) .nil
def qa:ab4.body=(.cons (.setIx (.X 2) (.K (.int 0)) (.G .sub (.ix (.X 2) (.K (.int 0))) (.K (.int 1)))) (.cons (.ite (.Z .eq (.ix (.X 1) (.K (.int 0))) (.K (.str [108,101,116,116,101,114]))) (.cons (.ret (.ix (.X 1) (.K (.int 1)))) .nil) .nil) (.cons (.ite (.Z .eq (.ix (.X 1) (.K (.int 0))) (.K (.str [110,111,116,104,105,110,103]))) (.cons (.ret (.K (.str []))) .nil) .nil) (.cons (.ite (.Z .eq (.ix (.X 1) (.K (.int 0))) (.K (.str [101,105,116,104,101,114]))) (.cons (.ret (.call "_law_member" (.ex (.X 0) (.ex (.ix (.X 1) (.G .add (.K (.int 1)) (.call "_law_take" (.ex (.X 0) (.ex (.K (.int 2)) .nil))))) (.ex (.X 2) .nil))))) .nil) .nil) (.cons (.ite (.Z .eq (.ix (.X 1) (.K (.int 0))) (.K (.str [98,101,104,105,110,100]))) (.cons (.A (.Y 3) (.call "_law_member" (.ex (.X 0) (.ex (.ix (.X 1) (.K (.int 1))) (.ex (.X 2) .nil))))) (.cons (.ret (.G .add (.X 3) (.call "_law_member" (.ex (.X 0) (.ex (.ix (.X 1) (.K (.int 2))) (.ex (.X 2) .nil)))))) .nil)) .nil) (.cons (.A (.Y 4) (.K (.str []))) (.cons (.fo (.Y 5) (.rg (.call "_law_take" (.ex (.X 0) (.ex (.K (.int 5)) .nil)))) cm7) (.cons (.ret (.X 4)) .nil)))))))):=rfl
def cl1 (s:Sto)(r q B:Nat)(x:R D):Prop:=∃(m:List Nat) (b:Nat×Nat) (y':Int),m.length+40*y'.toNat<=B/\x=.ok (.str m) (SS s r q b y')
def aj7 (h:m.length+40*y'.toNat<=B):cl1 s r q B (zp s (.str m) (SS s r q b y')):=by
 have z:=aN1 (s:=s) (T:=[]) (r:=r) (q:=q) (b:=b) (y:=y') (d:=.str m) (λ _=>rfl) (by nofun);rw[a8]at z;exact⟨m,b,y',h,z⟩
section
variable {P:Pr} [Has P ad4] [Has P ab4]
theorem qr (z:r≠q):∀(t:Tr)  n ,t.sz<=40->∀ s   y ,(∃ b,s[r]?=aT (zm b))->s[q]?=aT (.J [.int y])->y<=20->cl1 s r q (t.sz+40*(y - 1).toNat) ((aa0 P (n+t.dep+1)).call "_law_member" [.ref r,t.d,.ref q] s)
 | t,n,ht,s,y,⟨b0,hb⟩,hq,hy=>by
  have hr:=(ac.mp hb).1;have Y:=(ac.mp hq).1;have il:∀(b:Nat×Nat) (y:Int),ixM (.ref q) (.int 0) (SS s r q b y)=.ok (.int y) (SS s r q b y):=λ b y=>zB (bo0 Y) rfl;have i0:ixM (.ref q) (.int 0) s=.ok (.int y) s:=zB hq rfl;have J:setIx (.ref q) (.int 0) (.int (y - 1)) s=.ok () (SS s r q b0 (y - 1)):=by
   have:=aw8 (j:=0) (v:=.int (y - 1)) hq (by simp);rw[show((0:Nat):Int)=0 from rfl]at this;rw[this]
   congr 1
   have e:=aI1 (s:=s) (r:=r) (q:=q) (b:=b0) (y:=y) (y':=y - 1);rw[aX1 hb hq]at e;exact e
  match t,ht with
  | .letter c,ht =>
   have c0:(aa0 P (n+(Tr.letter c).dep+1)).call "_law_member" [.ref r,(Tr.letter c).d,.ref q] s=_:=ze ab4 (n:=n+1) rfl;rw[c0,qa,show(bq aT [D.ref r,(Tr.letter c).d,.ref q]++av ab4.vs bY)=[aT (.ref r),aT (Tr.letter c).d,aT (.ref q),bY,bY,bY]from rfl];have I0:∀ S,ixM (Tr.letter c).d (.int 0) S=.ok (.str qz) S:=λ S=>rfl;have I1:∀ S,ixM (Tr.letter c).d (.int 1) S=.ok (.str [c]) S:=λ S=>rfl;have Z:∀ S,zh .eq (.str qz) (.str [108,101,116,116,101,114]) S=.ok (.T ca) S:=λ S=>qg (by decide) S;simp -implicitDefEqProofs only[qT,exs_nil,ex_ite,ex_ret,ex_setIx,qU,ev_cst,ev_bin,ev_cmp,ev_ix,Cn_int,Cn_str,R.bind_ok,qX,qY,qM,nxt_ret,fin_ret,sub_int,tru_bl,if_true,i0,J,I0,I1,Z];exact aj7 (by show 1+_<=1+_;lia)
  | .nothing,ht =>
   have c0:(aa0 P (n+Tr.nothing.dep+1)).call "_law_member" [.ref r,Tr.nothing.d,.ref q] s=_:=ze ab4 (n:=n+1) rfl;rw[c0,qa,show(bq aT [D.ref r,Tr.nothing.d,.ref q]++av ab4.vs bY)=[aT (.ref r),aT Tr.nothing.d,aT (.ref q),bY,bY,bY]from rfl];have I0:∀ S,ixM Tr.nothing.d (.int 0) S=.ok (.str zH) S:=λ S=>rfl;have Z:∀ S,zh .eq (.str zH) (.str [108,101,116,116,101,114]) S=.ok (.T dr) S:=λ S=>qg (by decide) S;have E2:∀ S,zh .eq (.str zH) (.str [110,111,116,104,105,110,103]) S=.ok (.T ca) S:=λ S=>qg (by decide) S;simp -implicitDefEqProofs only[qT,exs_nil,ex_ite,ex_ret,ex_setIx,qU,ev_cst,ev_bin,ev_cmp,ev_ix,Cn_int,Cn_str,R.bind_ok,qX,qY,qM,nxt_ret,fin_ret,sub_int,tru_bl,if_true,if_false,Bool.false_eq_true,i0,J,I0,Z,E2];exact aj7 (by show 0+_<=1+_;lia)
  | .rep t,ht =>
   have a1:t.sz+1<=40:=ht;have c0:(aa0 P (n+(Tr.rep t).dep+1)).call "_law_member" [.ref r,(Tr.rep t).d,.ref q] s=_:=ze ab4 (n:=n+t.dep+1) rfl;rw[c0,qa,show(bq aT [D.ref r,(Tr.rep t).d,.ref q]++av ab4.vs bY)=[aT (.ref r),aT (Tr.rep t).d,aT (.ref q),bY,bY,bY]from rfl];have I0:∀ S,ixM (Tr.rep t).d (.int 0) S=.ok (.str zE) S:=λ S=>rfl;have I1:∀ S,ixM (Tr.rep t).d (.int 1) S=.ok t.d S:=λ S=>rfl;have Z:∀ S,zh .eq (.str zE) (.str [108,101,116,116,101,114]) S=.ok (.T dr) S:=λ S=>qg (by decide) S;have E2:∀ S,zh .eq (.str zE) (.str [110,111,116,104,105,110,103]) S=.ok (.T dr) S:=λ S=>qg (by decide) S;have E3:∀ S,zh .eq (.str zE) (.str [101,105,116,104,101,114]) S=.ok (.T dr) S:=λ S=>qg (by decide) S;have E4:∀ S,zh .eq (.str zE) (.str [98,101,104,105,110,100]) S=.ok (.T dr) S:=λ S=>qg (by decide) S;obtain⟨k,b1,hk,et⟩:=zV (P:=P) (n+t.dep) (s:=SS s r q b0 (y - 1)) ⟨b0,bm2 hr z⟩ 5 (by decide) (qd (by decide));rw[aw3 z]at et;simp -implicitDefEqProofs only[qT,exs_nil,ex_asg,ex_ite,ex_ret,ex_for,ex_setIx,qU,ev_cst,ev_bin,ev_cmp,ev_ix,ev_call,evas_nil,evas_ex,evI_rng1,Cn_int,Cn_str,R.bind_ok,qu,setV_s,setV_0,qX,qY,Option.map_some,setC_some,qM,nxt_ret,sub_int,tru_bl,if_false,Bool.false_eq_true,i0,J,I0,Z,E2,E3,E4,et];rw[qo (by unfold Ww62;lia) (by unfold Ww62;lia)];simp only[R.bind_ok];rw[R.bind_assoc];refine qR (Ww:=cl1 s r q ((Tr.rep t).sz+40*(y - 1).toNat)) (λ j U u=>∃(m:List Nat) (b:Nat×Nat) (y':Int) (x:Option D),m.length+40*y'.toNat<=40*(y - 1).toNat/\U=[aT (.ref r),aT (Tr.rep t).d,aT (.ref q),bY,aT (.str m),x]/\u=SS s r q b y') ⟨[],b1,y - 1,_,by simp,rfl,rfl⟩ (λ _ _ _ _ _=>rfl) ?_ ?_
   .rintro j d U u hj ⟨m,b,y',x,hm,rfl,rfl⟩
    obtain⟨a3,rfl⟩:=am7 hj;have gy:zh .gt (.int y') (.int 0) (SS s r q b y')=.ok (.T (decide (y' > 0))) (SS s r q b y'):=gt_int ..;by_cases h0:y' > 0
    .rw[iN h0]at gy;obtain⟨m2,b2,y2,a0,e2⟩:=qr z t n (by lia) (SS s r q b y') y' ⟨b,bm2 hr z⟩ (bo0 Y) (by lia);rw[aR9 z]at e2;have ad:=af7 (a:=m) (b:=m2) (s:=SS s r q b2 y2) (by unfold LIM;omega);refine jd (U:=[aT (.ref r),aT (Tr.rep t).d,aT (.ref q),bY,aT (.str (m++m2)),aT (.int (0+j))]) (s:=SS s r q b2 y2) ?_ ⟨m++m2,b2,y2,_,?_,rfl,rfl⟩
     .unfold turn cm7;simp -implicitDefEqProofs only[qT,exs_nil,ex_asg,ex_ite,qU,ev_cst,ev_bin,ev_cmp,ev_ix,ev_call,evas_nil,evas_ex,Cn_int,R.bind_ok,qu,setV_s,setV_0,qX,qY,Option.map_some,setC_some,qM,tru_bl,if_true,il,gy,I1,e2,ad]
     .rw[au];lia
    .rw[js h0]at gy;refine jd (U:=[aT (.ref r),aT (Tr.rep t).d,aT (.ref q),bY,aT (.str m),aT (.int (0+j))]) (s:=SS s r q b y') ?_ ⟨m,b,y',_,hm,rfl,rfl⟩;unfold turn cm7;simp -implicitDefEqProofs only[qT,exs_nil,ex_asg,ex_ite,qU,ev_cst,ev_bin,ev_cmp,ev_ix,ev_call,evas_nil,evas_ex,Cn_int,R.bind_ok,qu,setV_s,setV_0,qX,qY,Option.map_some,setC_some,qM,tru_bl,if_false,Bool.false_eq_true,il,gy]
   .rintro U u ⟨m,b,y',x,hm,rfl,rfl⟩
    simp -implicitDefEqProofs only[qT,ex_ret,qU,R.bind_ok,qX,qY,qM,nxt_ret,fin_ret];exact aj7 (by lia)
  | .two ca t u,ht =>
   have a1:t.sz+u.sz+1<=40:=ht;have c0:(aa0 P (n+(Tr.two ca t u).dep+1)).call "_law_member" [.ref r,(Tr.two ca t u).d,.ref q] s=_:=ze ab4 (n:=n+max t.dep u.dep+1) rfl;rw[c0,qa,show(bq aT [D.ref r,(Tr.two ca t u).d,.ref q]++av ab4.vs bY)=[aT (.ref r),aT (Tr.two ca t u).d,aT (.ref q),bY,bY,bY]from rfl];have I0:∀ S,ixM (Tr.two ca t u).d (.int 0) S=.ok (.str zu) S:=λ S=>rfl;have Z:∀ S,zh .eq (.str zu) (.str [108,101,116,116,101,114]) S=.ok (.T dr) S:=λ S=>qg (by decide) S;have E2:∀ S,zh .eq (.str zu) (.str [110,111,116,104,105,110,103]) S=.ok (.T dr) S:=λ S=>qg (by decide) S;have E3:∀ S,zh .eq (.str zu) (.str [101,105,116,104,101,114]) S=.ok (.T ca) S:=λ S=>qg (by decide) S;obtain⟨k,b1,hk,et⟩:=zV (P:=P) (n+max t.dep u.dep) (s:=SS s r q b0 (y - 1)) ⟨b0,bm2 hr z⟩ 2 (by decide) (qd (by decide));rw[aw3 z]at et;obtain⟨m1,b2,y2,a2,e1⟩:=qr z t (n+max t.dep u.dep - t.dep) (by lia) (SS s r q b1 (y - 1)) (y - 1) ⟨b1,bm2 hr z⟩ (bo0 Y) (by lia);rw[aR9 z,show n+max t.dep u.dep - t.dep+t.dep+1=n+max t.dep u.dep+1 by lia]at e1;obtain⟨m2,b3,y3,a0,e2⟩:=qr z u (n+max t.dep u.dep - u.dep) (by lia) (SS s r q b1 (y - 1)) (y - 1) ⟨b1,bm2 hr z⟩ (bo0 Y) (by lia);rw[aR9 z,show n+max t.dep u.dep - u.dep+u.dep+1=n+max t.dep u.dep+1 by lia]at e2;have hs:(Tr.two ca t u).sz=t.sz+u.sz+1:=rfl;rcases(by lia:k=0\/k=1)with rfl|rfl
   .have I1:∀ S,ixM (Tr.two ca t u).d (.int (1+((0:Nat):Int))) S=.ok t.d S:=λ S=>rfl;simp -implicitDefEqProofs only[qT,exs_nil,ex_ite,ex_ret,ex_setIx,qU,ev_cst,ev_bin,ev_cmp,ev_ix,ev_call,evas_nil,evas_ex,Cn_int,Cn_str,R.bind_ok,qX,qY,qM,nxt_ret,fin_ret,add_int,sub_int,tru_bl,if_true,if_false,Bool.false_eq_true,i0,J,I0,Z,E2,E3,et,I1,e1];exact aj7 (by lia)
   .have I1:∀ S,ixM (Tr.two ca t u).d (.int (1+((1:Nat):Int))) S=.ok u.d S:=λ S=>rfl;simp -implicitDefEqProofs only[qT,exs_nil,ex_ite,ex_ret,ex_setIx,qU,ev_cst,ev_bin,ev_cmp,ev_ix,ev_call,evas_nil,evas_ex,Cn_int,Cn_str,R.bind_ok,qX,qY,qM,nxt_ret,fin_ret,add_int,sub_int,tru_bl,if_true,if_false,Bool.false_eq_true,i0,J,I0,Z,E2,E3,et,I1,e2];exact aj7 (by omega)
  | .two dr t u,ht =>
   have a1:t.sz+u.sz+1<=40:=ht;have c0:(aa0 P (n+(Tr.two dr t u).dep+1)).call "_law_member" [.ref r,(Tr.two dr t u).d,.ref q] s=_:=ze ab4 (n:=n+max t.dep u.dep+1) rfl;rw[c0,qa,show(bq aT [D.ref r,(Tr.two dr t u).d,.ref q]++av ab4.vs bY)=[aT (.ref r),aT (Tr.two dr t u).d,aT (.ref q),bY,bY,bY]from rfl];have I0:∀ S,ixM (Tr.two dr t u).d (.int 0) S=.ok (.str zr) S:=λ S=>rfl;have I1:∀ S,ixM (Tr.two dr t u).d (.int 1) S=.ok t.d S:=λ S=>rfl;have I2:∀ S,ixM (Tr.two dr t u).d (.int 2) S=.ok u.d S:=λ S=>rfl;have Z:∀ S,zh .eq (.str zr) (.str [108,101,116,116,101,114]) S=.ok (.T dr) S:=λ S=>qg (by decide) S;have E2:∀ S,zh .eq (.str zr) (.str [110,111,116,104,105,110,103]) S=.ok (.T dr) S:=λ S=>qg (by decide) S;have E3:∀ S,zh .eq (.str zr) (.str [101,105,116,104,101,114]) S=.ok (.T dr) S:=λ S=>qg (by decide) S;have E4:∀ S,zh .eq (.str zr) (.str [98,101,104,105,110,100]) S=.ok (.T ca) S:=λ S=>qg (by decide) S;obtain⟨m1,b2,y2,a2,e1⟩:=qr z t (n+max t.dep u.dep - t.dep) (by lia) (SS s r q b0 (y - 1)) (y - 1) ⟨b0,bm2 hr z⟩ (bo0 Y) (by lia);rw[aR9 z,show n+max t.dep u.dep - t.dep+t.dep+1=n+max t.dep u.dep+1 by lia]at e1;obtain⟨m2,b3,y3,a0,e2⟩:=qr z u (n+max t.dep u.dep - u.dep) (by lia) (SS s r q b2 y2) y2 ⟨b2,bm2 hr z⟩ (bo0 Y) (by lia);rw[aR9 z,show n+max t.dep u.dep - u.dep+u.dep+1=n+max t.dep u.dep+1 by lia]at e2;have hs:(Tr.two dr t u).sz=t.sz+u.sz+1:=rfl;have ad:=af7 (a:=m1) (b:=m2) (s:=SS s r q b3 y3) (by unfold LIM;omega);simp -implicitDefEqProofs only[qT,exs_nil,ex_asg,ex_ite,ex_ret,ex_setIx,qU,ev_cst,ev_bin,ev_cmp,ev_ix,ev_call,evas_nil,evas_ex,Cn_int,Cn_str,R.bind_ok,qu,setV_s,setV_0,qX,qY,Option.map_some,setC_some,qM,nxt_ret,fin_ret,sub_int,tru_bl,if_true,if_false,Bool.false_eq_true,i0,J,I0,Z,E2,E3,E4,I1,I2,e1,e2,ad];exact aj7 (by rw[au];omega)
def SpR (s:Sto)(r B:Nat)(x:R D):Prop:=∃ m b ,m.length<=B/\x=.ok (.str m) (s.set r (zm b))
def bd7 [Has P al3] n {s}{r}(hs:∃ b,s[r]?=aT (zm b)):SpR s r 40 ((aa0 P (n+2)).call "_law_word" [.ref r,.int 3,.int 40] s):=by
 have Y:(aa0 P (n+2)).call "_law_word" [.ref r,.int 3,.int 40] s=_:=ze al3 rfl;have hr:=aq2 hs;obtain⟨a,J,ha,e1⟩:=zV (P:=P) n hs 41 (by decide) (by decide);rw[Y];simp -implicitDefEqProofs [al3,e1];rw[qo (by unfold Ww62;lia) (by unfold Ww62;lia)];simp only[R.bind_ok];refine qR (λ j U u=>∃(b:Nat×Nat) (w:List Nat) (x:Option D),w.length=j/\U=[aT (.ref r),aT (.int 3),aT (.int 40),aT (.str w),x]/\u=s.set r (zm b)) ⟨J,[],bY,rfl,rfl,rfl⟩ (λ _ _ _ _ _=>rfl) ?_ ?_
 .rintro j d U u hj ⟨b,w,x,z,rfl,rfl⟩
  obtain⟨Z,rfl⟩:=am7 hj;obtain⟨k,c,hk,f⟩:=zV (P:=P) n (qJ (b:=b) hr) 3 (by lia) (qd (by lia));rw[cH]at f;refine jd (U:=[aT (.ref r),aT (.int 3),aT (.int 40),aT (.str (w++[97+k])),aT (.int j)]) ?_ ⟨c,_,_,by simp[z],rfl,rfl⟩;simp -implicitDefEqProofs [turn,f,aP9 (show k<3 by lia)];rw[af7 (by unfold LIM;simp;lia)];rfl
 .rintro U u ⟨b,w,x,z,rfl,rfl⟩
  simp -implicitDefEqProofs;refine⟨w,b,?_,ai9 (λ _=>rfl) (by nofun) rfl⟩;rw[z];simp[af8];lia
end
def aL4 (l:List α) z J :(ag1 l z J).length<=l.length:=by
 unfold ag1;rw[bW,dA];omega
def cc5 (l:List α):(ag1 l bY (aT 40)).length<=40:=by
 unfold ag1;rw[bW,dA];have:hiB l.length (aT 40)<=40:=by show sbd l.length 40<=40;unfold sbd;simp;lia
 lia
def slS l z J s :slM (.str l) z J s=.ok (.str (ag1 l z J)) s:=rfl
section
variable {P:Pr} [Has P ad4] [Has P ac5]
def aZ6  n (hs:∃ b,s[r]?=aT (zm b))(hw:w.length<=40):SpR s r 100 ((aa0 P (n+2)).call "_law_spoilt" [.ref r,.str w] s):=by
 have e0:(aa0 P (n+2)).call "_law_spoilt" [.ref r,.str w] s=_:=ze ac5 rfl;have hr:=aq2 hs;obtain⟨a,b1,ha,e1⟩:=zV (P:=P) n hs ((w.length)+1) (by lia) (qd (by lia));obtain⟨k,b2,hk,e2⟩:=zV (P:=P) n (qJ (b:=b1) hr) 3 (by lia) (qd (by lia));rw[cH]at e2;obtain⟨Z,b3,a4,e3⟩:=zV (P:=P) n (qJ (b:=b2) hr) 3 (by lia) (qd (by lia));rw[cH]at e3;obtain⟨J,z,a5,e4⟩:=zV (P:=P) n (qJ (b:=b3) hr) 3 (by lia) (qd (by lia));rw[cH]at e4;have a1:=aP9 (k:=Z) (by lia) (s.set r (zm b3));have a2:=aP9 (k:=J) (by lia) (s.set r (zm z));have Y:∀ u,bi .len [.str w] u=.ok (.int w.length) u:=λ u=>rfl;obtain⟨x,hx,ix⟩:∃ x,x.length<=1/\ixM (.ref (s.set r (zm z)).length) (.int (k)) (s.set r (zm z)++[.J [.str [],.str [97+Z],.str [97+J]]])=.ok (.str x) (s.set r (zm z)++[.J [.str [],.str [97+Z],.str [97+J]]]):=by
  rcases(by lia:k=0\/k=1\/k=2)with rfl|rfl|rfl
  .exact⟨[],by decide,zB qC rfl⟩
  .exact⟨[97+Z],al 1,zB qC rfl⟩
  .exact⟨[97+J],al 1,zB qC rfl⟩
 generalize hT:s.set r (zm z)++[O.J [.str [],.str [97+Z],.str [97+J]]]=T at ix;have h1:=aL4 w bY (aT (a));have a3:=af7 (a:=ag1 w bY (aT (a:Int))) (b:=x) (s:=T) (by unfold LIM;lia);have cl:zh .lt (.int (k:Int)) (.int 2) T=.ok (.T (decide ((k:Int)<2))) T:=lt_int ..;have h2:=aL4 w (aT ((a:Int)+((decide ((k:Int)<2)).toNat:Nat))) bY;have a0:=af7 (a:=ag1 w bY (aT (a:Int))++x) (b:=ag1 w (aT ((a:Int)+((decide ((k:Int)<2)).toNat:Nat))) bY) (s:=T) (by unfold LIM;rw[au];lia);rw[e0,show ac5.body=(.cons (.A (.Y 2) (.call "_law_take" (.ex (.X 0) (.ex (.G .add (.bi .len (.cons (.X 1) .nil)) (.K (.int 1))) .nil)))) (.cons (.A (.Y 3) (.call "_law_take" (.ex (.X 0) (.ex (.K (.int 3)) .nil)))) (.cons (.ret (.G .add (.G .add (.slU (.X 1) (.X 2)) (.ix (.J (.cons (.K (.str [])) (.cons (.ix (.K (.str [97,98,99])) (.call "_law_take" (.ex (.X 0) (.ex (.K (.int 3)) .nil)))) (.cons (.ix (.K (.str [97,98,99])) (.call "_law_take" (.ex (.X 0) (.ex (.K (.int 3)) .nil)))) .nil)))) (.X 3))) (.slL (.X 1) (.G .add (.X 2) (.bi .int (.cons (.Z .lt (.X 3) (.K (.int 2))) .nil)))))) .nil)))from rfl,show(bq aT [D.ref r,D.str w]++av ac5.vs bY)=[aT (.ref r),aT (.str w),bY,bY]from rfl];simp -implicitDefEqProofs only[qT,ex_asg,ex_ret,qU,ev_cst,ev_bin,ev_cmp,ev_lst,ev_ix,ev_call,ev_bi,evs_nil,evs_cons,evas_nil,evas_ex,Cn_int,Cn_str,R.bind_ok,qu,setV_s,setV_0,qX,qY,Option.map_some,setC_some,qM,nxt_ret,fin_ret,add_int,lt_int,alloc_eq,Y,e1,e2,e3,e4,a1,a2,bc1,aL5,slS,hT,ix,cl,aY7,a3,a0];rw[<-hT];refine⟨_,z,?_,ao8 (λ _=>rfl) (by nofun) rfl⟩;rw[au,au];lia
end
noncomputable def ae0 (S:Int->Prop):Option Int->Prop
 | none=>∀ c,¬ S c
 | some c=>S c/\∀ c',S c'->c<=c'
def ae0.eq {S }(h:ae0 S o)(h':ae0 S' o')(e:∀ c,S c↔S' c):o=o':=by
 cases o with
 | none =>
  cases o' with
  | none=>rfl
  | some c=>exact nc ((e c).mpr h'.1) (h c)
 | some c =>
  cases o' with
  | none=>exact nc ((e c).mp h.1) (h' c)
  | some c' =>
   have z:=h.2 c' ((e c').mpr h'.1);have J:=h'.2 c ((e c).mp h.1);rw[show c=c' by lia]
def ae0.congr {S }(h:ae0 S o)(e:∀ c,S c↔S' c):ae0 S' o:=by
 cases o with
 | none=>exact λ c hc=>h c ((e c).mpr hc)
 | some c=>exact⟨(e c).mp h.1,λ z hc=>h.2 z ((e z).mpr hc)⟩
noncomputable def minO:Option Int->Option Int->Option Int
 | none,x=>x
 | some a,bY=>aT a
 | some a,aT b=>if b<a then aT b else aT a
def ae0.or {S }(h:ae0 S o)(h':ae0 S' o'):ae0 (λ c=>S c\/S' c) (minO o o'):=by
 cases o with
 | none =>
  cases o' with
  | none=>exact λ c hc=>hc.elim (h c) (h' c)
  | some b=>exact⟨.inr h'.1,λ c hc=>hc.elim (λ z=>nc z (h c)) (h'.2 c)⟩
 | some a =>
  cases o' with
  | none=>exact⟨.inl h.1,λ c hc=>hc.elim (h.2 c) (λ z=>nc z (h' c))⟩
  | some b =>
   show ae0 _ (if b<a then aT b else aT a);by_cases hlt:b<a
   .rw[ij hlt];exact⟨.inr h'.1,λ c hc=>hc.elim (λ z=>by have:=h.2 c z;lia) (h'.2 c)⟩
   .rw[iF hlt];exact⟨.inl h.1,λ c hc=>hc.elim (h.2 c) (λ z=>by have:=h'.2 c z;lia)⟩
def ae0.add {S}(h:ae0 S o) k :ae0 (λ c=>∃ z,S z/\c=z+k) (o.map (·+k)):=by
 cases o with
 | none=>rintro c ⟨z,h',_⟩;exact h z h'
 | some a=>exact⟨⟨a,h.1,rfl⟩,by rintro c ⟨z,h',rfl⟩;have:=h.2 z h';show a+k<=z+k;lia⟩
noncomputable def Wk (ds:List Dr):List Nat->Nat->Nat->Int->Prop
 | [],p,q,c=>p=q/\c=0
 | x::w,p,q,c=>∃ d∈ds,d.a=p/\d.l=x/\∃ c',Wk ds w d.b q c'/\c=(d.t)+c'
theorem ay7 :∀ {w} {p q} {c},Wk ds (w++[x]) p q c↔∃ d∈ds,d.l=x/\d.b=q/\∃ z,Wk ds w p d.a z/\c=z+(d.t)
 | [],p,q,c=>by
  constructor
  .rintro⟨d,hd,rfl,hx,z,⟨Z,J⟩,rfl⟩
   exact⟨d,hd,hx,Z,0,⟨rfl,rfl⟩,by lia⟩
  .rintro⟨d,hd,hx,hb,z,⟨Z,J⟩,rfl⟩
   exact⟨d,hd,Z.symm,hx,0,⟨hb,rfl⟩,by lia⟩
 | y::w,p,q,c=>by
  constructor
  .rintro⟨d,hd,ha,hy,z,h,rfl⟩
   obtain⟨e,he,hx,hb,Y,J,rfl⟩:=ay7.mp h;exact⟨e,he,hx,hb,d.t+Y,⟨d,hd,ha,hy,Y,J,rfl⟩,by lia⟩
  .rintro⟨e,he,hx,hb,z,⟨d,hd,ha,hy,Y,J,rfl⟩,rfl⟩
   exact⟨d,hd,ha,hy,Y+e.t,ay7.mpr ⟨e,he,hx,hb,Y,J,rfl⟩,by lia⟩
noncomputable def Dr.turn (x:Dr):Dr:=⟨x.b,x.l,x.a,x.t⟩
def Mc.Wk (m:Mc)(w:List Nat)(c:Int):Prop:=∃ p∈m.bg,∃ q∈m.en,DV.Wk m.ds w p q c
def Mc.turn (m:Mc):Mc:=⟨m.L,m.R,m.en,m.bg,m.ds.map Dr.turn⟩
def ah7 (row:List (Option Int)):List D:=row.map aP8
def aP7 row :(ah7 row).length=row.length:=aq ..
def aH7 {row}{k:Nat}(h:row[k]?=aT o):(ah7 row)[k]?=aT (aP8 o):=by unfold ah7;rw[aI,h];rfl
def bW3 { T:Sto}(h:s.length<=k):(s++T).set k o=s++T.set (k - s.length) o:=by rw[fQ,iF (by omega)]
def as7 (S:Nat->Int->Prop)(row:List (Option Int)):Prop:=∀ k o,row[k]?=aT o->ae0 (S k) o
theorem aA1 {k:Nat}:∀ {l},inL s (.int k) (as0 l)=aT (decide (k∈l))
 | []=>rfl
 | a::l=>by
  have z:=aA1 (s:=s) (k:=k) (l:=l);have e:eqv s DEEP (.int (a)) (.int (k))=aT ((a)==(k:Int)):=rfl;show(match eqv s DEEP (.int (a)) (.int (k)),inL s (.int k) (as0 l)with|some a,aT b=>aT (a||b)|_,_=>bY)=_;rw[e,z];show aT (((a)==(k:Int))||decide (k∈l))=aT _
  congr 1
  rw[cC];simp;constructor
  .rintro(h|h)
   .exact .inl (by lia)
   .exact .inr h
  .rintro(h|h)
   .exact .inl (by lia)
   .exact .inr h
def bo8 {k:Nat}:inM (.int k) (.tp (as0 l)) s=.ok (decide (k∈l)) s:=by unfold inM;simp only[aA1]
def ax2 b s :bi .int [.T b] s=.ok (.int (if b then 1 else 0)) s:=by cases b<;>rfl
theorem at3:∀ l:List Int,zP (l.map D.int)=aT l
 | []=>rfl
 | a::l=>by rw[aY];unfold zP;rw[at3 l];rfl
theorem aF1:∀(l:List Int) a ,(l.foldl min a=a\/l.foldl min a∈l)/\l.foldl min a<=a/\∀ y∈l,l.foldl min a<=y
 | [],a=>⟨.inl rfl,eS _,λ y hy=>by cases hy⟩
 | b::l,a=>by
  obtain⟨J,Y,h3⟩:=aF1 l (min a b);rw[kG];refine⟨?_,by omega,λ y hy=>?_⟩
  .rcases J with h|h
   .rw[h];rcases l8 a b with z|z
    .left;omega
    .right;rw[show min a b=b by omega];exact ao ..
   .exact .inr (ah _ h)
  .rcases aw.mp hy with z|z
   .rw[z];omega
   .exact h3 y z
def aS8 l :ae0 (λ c=>c∈l) (minI l):=by
 cases l with
 | nil=>exact λ c hc=>by cases hc
 | cons a l =>
  obtain⟨J,Y,h3⟩:=aF1 l a;refine⟨?_,λ y hy=>?_⟩
  .rcases J with h|h
   .rw[h];exact ao ..
   .exact ah _ h
  .rcases aw.mp hy with z|z
   .rw[z];exact Y
   .exact h3 y z
def bI2 l s :mkD .min (l.map D.int) .N s=.ok (aP8 (minI l)) s:=by
 unfold mkD;simp only[at3];cases minI l<;>rfl
def by1 (m:Mc)(w:List Nat)(s:Sto)(x:R D):Prop:=∃ o,ae0 (m.Wk w) o/\x=.ok (aP8 o) s
def av6 (S:Nat->Int->Prop)(x:Nat)(ds:List Dr)(k:Nat)(c:Int):Prop:=∃ d∈ds,d.l=x/\d.b=k/\∃ c':Int,S d.a c'/\c=c'+(d.t:Int)
def aD8 {S}(h:as7 (av6 S x ds) th)(hn:∀ J,¬(d.l=x/\S d.a J)):as7 (av6 S x (ds++[d])) th:=λ k o hk=>by
 refine(h k o hk).congr λ c=>?_;constructor
 .rintro⟨e,Z,r⟩;exact⟨e,aE.mpr (.inl Z),r⟩
 .rintro⟨e,Z,Y,hb,J,hs,r⟩
  rcases aE.mp Z with z|z
  .exact⟨e,z,Y,hb,J,hs,r⟩
  .rw[az.mp z]at Y hs;exact nc ⟨Y,hs⟩ (hn J)
def be8 {S:Nat->Int->Prop}(h:as7 (av6 S x ds) Y)(hx:d.l=x)(hi:ae0 (S d.a) (aT i)){o:Option Int}(ho:Y[d.b]?=aT o) :
  as7 (av6 S x (ds++[d])) (Y.set d.b (minO o (aT (i+d.t)))):=λ k o' hk=>by
 have hlt:d.b<Y.length:=(ac.mp ho).1;by_cases e:d.b=k
 .subst e;rw[aW hlt]at hk;cases hk;refine((h _ o ho).or (hi.add d.t)).congr λ c=>?_;constructor
  .rintro(⟨e,J,r⟩|r)
   .exact⟨e,aE.mpr (.inl J),r⟩
   .exact⟨d,aE.mpr (.inr (az.mpr rfl)),hx,rfl,r⟩
  .rintro⟨e,J,Z,hb,r⟩
   rcases aE.mp J with z|z
   .exact .inl ⟨e,z,Z,hb,r⟩
   .rw[az.mp z]at r;exact .inr r
 .rw[ar e]at hk;refine(h k o' hk).congr λ c=>?_;constructor
  .rintro⟨e,J,r⟩;exact⟨e,aE.mpr (.inl J),r⟩
  .rintro⟨e',J,Z,hb,r⟩
   rcases aE.mp J with z|z
   .exact⟨e',z,Z,hb,r⟩
   .rw[az.mp z]at hb;exact nc hb e
def as1 (m:Mc)(w:List Nat)(k:Nat)(c:Int):Prop:=∃ p∈m.bg,Wk m.ds w p k c
def az2 :av6 (as1 m w) x m.ds k c↔as1 m (w++[x]) k c:=by
 constructor
 .rintro⟨d,hd,z,hb,J,⟨p,hp,h⟩,rfl⟩
  exact⟨p,hp,ay7.mpr ⟨d,hd,z,hb,J,h,rfl⟩⟩
 .rintro⟨p,hp,h⟩
  obtain⟨d,hd,z,hb,J,Y,rfl⟩:=ay7.mp h;exact⟨d,hd,z,hb,J,⟨p,hp,Y⟩,rfl⟩
def aB2 {row}(Y:row.length=m.R)(a0:∀ k∈m.en,k<m.R)(h:as7 (as1 m w) row):ae0 (m.Wk w) (minI (m.en.filterMap λ q=>row.getD q bY)):=by
 have at_:∀ q∈m.en,∃ o,row[q]?=aT o/\row.getD q bY=o/\ae0 (as1 m w q) o:=λ q hq=>by
  have hlt:q<row.length:=by rw[Y];exact a0 q hq
  exact⟨row[q],ag hlt,by simp[hlt],h q _ (ag hlt)⟩
 have J:∀ c,c∈(m.en.filterMap λ q=>row.getD q bY)↔∃ q∈m.en,row.getD q bY=aT c:=λ c=>eO;have hl:=aS8 (m.en.filterMap λ q=>row.getD q bY);cases e:minI (m.en.filterMap λ q=>row.getD q bY)with
 | none =>
  rw[e]at hl
  rintro c ⟨p,hp,q,hq,hw⟩
  obtain⟨o,h1,Z,h3⟩:=at_ q hq;cases o with
  | none=>exact h3 c ⟨p,hp,hw⟩
  | some y=>exact hl y ((J y).mpr ⟨q,hq,Z⟩)
 | some z =>
  rw[e]at hl;obtain⟨q,hq,hz⟩:=(J z).mp hl.1;refine⟨?_,λ c hc=>?_⟩
  .obtain⟨o,h1,Z,h3⟩:=at_ q hq;rw[Z]at hz;subst hz;obtain⟨p,hp,hw⟩:=h3.1;exact⟨p,hp,q,hq,hw⟩
  .obtain⟨p,hp,q,hq,hw⟩:=hc;obtain⟨o,h1,Z,h3⟩:=at_ q hq;cases o with
   | none=>exact nc ⟨p,hp,hw⟩ (h3 c)
   | some y =>
    have h4:=h3.2 c ⟨p,hp,hw⟩;have h5:=hl.2 y ((J y).mpr ⟨q,hq,Z⟩);lia
theorem zS {α β:Type}{f g:α->Option β}:∀ {l:List α},(∀ x∈l,f x=g x)->l.filterMap f=l.filterMap g
 | [],_=>rfl
 | a::l,h=>by rw[bB,bB,h a (ao ..),zS λ x hx=>h x (ah _ hx)]
def bo1 [Has P ac6] n {m}(hm:m.Ok) w (hw:w.length<=1000) s :by1 m w s ((aa0 P (n+1)).call "_law_price" [m.d,.str w] s):=by
 have e0:(aa0 P (n+1)).call "_law_price" [m.d,.str w] s=_:=ze ac6 rfl;rw[e0];have h5:=hm.R5;simp -implicitDefEqProofs [ac6,ixR];rw[qo (by unfold Ww62;lia) (by unfold Ww62;lia)];simp only[R.bind_ok];rw[ij (by simp[af8];unfold LIM;lia)];obtain⟨U1,s1,e1,T1,c4⟩:=qw (ok:=λ a4=>chk s a4 []) (g:=zJ (aa0 P n) (.Y 0) (.ix (.J (.cons (.K .N) (.cons (.K (.int 0)) .nil))) (.bi .int (.cons (.Z .isin (.X 0) (.ix (.X 1) (.K (.int 2)))) .nil)))) (λ U u=>∃ T,u=s++T/\∃ x,U=[x,aT m.d])
  (λ d=>match d with|.int i=>aT (aP8 (if i.toNat∈m.bg then aT 0 else bY))|_=>bY) (af8 0 m.R) (zM [aT m.d,aT (.str w),bY,bY,bY,bY,bY,bY,bY] [bY,aT 0]) s ⟨[],by simp,bY,rfl⟩ (λ _ _ _=>rfl) (by
   rintro d hd U u ⟨T,rfl,x,rfl⟩
   obtain⟨j,hj⟩:=iZ hd;obtain⟨f3,rfl⟩:=am7 hj;rw[iu];have c1:=bo8 (s:=s++T++[.J [.N,.int 0]]) (k:=j) (l:=m.bg);have hl:(s++T++[O.J [.N,.int 0]])[(s++T).length]?=aT (.J [.N,.int 0]):=by simp
   by_cases hb:j∈m.bg
   .have b4:ixM (.ref (s++T).length) (.int 1) (s++T++[O.J [.N,.int 0]])=.ok (.int 0) _:=zB (j:=1) hl rfl;refine⟨[aT (.int j),aT m.d],s++T++[.J [.N,.int 0]],?_,T++[.J [.N,.int 0]],by simp,_,rfl⟩;unfold zJ;simp -implicitDefEqProofs only[qu,setV_0,ev_ix,ev_lst,evs_cons,evs_nil,ev_cst,Cn_non,Cn_int,R.bind_ok,alloc_eq,ev_bi,ev_cmp,qU,qX,qY,ixB,aJ0,c1,hb,decide_true,ax2,if_true,b4,bR,aE6]
   .have b4:ixM (.ref (s++T).length) (.int 0) (s++T++[O.J [.N,.int 0]])=.ok .N _:=zB (j:=0) hl rfl;refine⟨[aT (.int j),aT m.d],s++T++[.J [.N,.int 0]],?_,T++[.J [.N,.int 0]],by simp,_,rfl⟩;unfold zJ;simp -implicitDefEqProofs only[qu,setV_0,ev_ix,ev_lst,evs_cons,evs_nil,ev_cst,Cn_non,Cn_int,R.bind_ok,alloc_eq,ev_bi,ev_cmp,qU,qX,qY,ixB,aJ0,c1,hb,decide_false,ax2,if_false,bI,b4,bR,ao4])
 obtain⟨rfl,x1,rfl⟩:=c4;have b9:(af8 0 (m.R:Int)).filterMap (λ d=>match d with|.int i=>aT (aP8 (if i.toNat∈m.bg then aT 0 else bY))|_=>bY)=ah7 ((aH m.R).map λ k=>if k∈m.bg then aT 0 else bY):=by
  unfold af8 ah7;rw[dg,cU,<-dW];simp only[j8,bR];refine zS λ k _=>?_;simp only[lK,iu,bR]
 rw[b9]at e1;rw[e1];simp -implicitDefEqProofs [mk];have sW:am0 (.str w) (s++(T1++[O.J (ah7 (bq (λ k=>if k∈m.bg then aT 0 else bY) (aH m.R)))]))=.ok ⟨w.map λ c=>.str [c],[]⟩ _:=rfl;rw[sW];simp only[R.bind_ok];refine qR (Ww:=by1 m w s) (λ j U u=>∃(T:Sto) (k2:Nat) (row:List (Option Int)) (x3 x4 x5 x6 x7 x8:Option D),u=s++T/\s.length<=k2/\u[k2]?=aT (.J (ah7 row))/\row.length=m.R/\as7 (as1 m (w.take j)) row/\U=[aT m.d,aT (.str w),aT (.ref k2),x3,x4,x5,x6,x7,x8])
  ⟨_,s.length+T1.length,(aH m.R).map (λ k=>if k∈m.bg then aT 0 else bY),_,_,_,_,_,_,rfl,by lia,by rw[<-aN,<-au];simp,by simp,?_,rfl⟩ (λ _ _ _ _ _=>rfl) ?_ ?_
 .intro k o hk;rw[aI]at hk;by_cases hkR:k<m.R
  .rw[cB hkR]at hk;cases hk;show ae0 _ (if k∈m.bg then aT 0 else bY);by_cases hb:k∈m.bg
   .rw[ij hb];exact⟨⟨k,hb,rfl,rfl⟩,by rintro c ⟨p,_,_,rfl⟩;lia⟩
   .rw[iF hb]
    rintro c ⟨p,hp,rfl,_⟩;exact hb hp
  .rw[cj (by simp;lia)]at hk;cases hk
 .rintro j d U u hj ⟨T,k2,row,x3,x4,x5,x6,x7,x8,rfl,d3,g2,a2,a5,rfl⟩
  obtain⟨c,hc,rfl⟩:∃ c,w[j]?=aT c/\d=.str [c]:=by
   rw[aI]at hj;cases e:w[j]? with
   | none=>rw[e]at hj;cases hj
   | some c=>rw[e]at hj;cases hj;exact⟨c,rfl,rfl⟩
  have e5:k2<(s++T).length:=(ac.mp g2).1;have sq:am0 (.ref k2) (s++T)=.ok ⟨ah7 row,[k2]⟩ (s++T):=by simp only[am0,g2]
  obtain⟨U2,s2,e2,d2,_⟩:=qw (ok:=λ a4=>chk (s++T) a4 [k2]) (g:=zJ (aa0 P n) (.Y 0) (.K .N)) (λ U u=>u=s++T/\∃ x,U=[x]) (λ _=>aT .N) (ah7 row) (zM [aT m.d,aT (.str w),aT (.ref k2),aT (.str [c]),x4,x5,x6,x7,x8] [bY]) (s++T) ⟨rfl,bY,rfl⟩ (λ _ _ h=>by rw[h.1];simp[chk]) (by
   rintro d _ U u ⟨rfl,x,rfl⟩
   exact⟨[aT d],s++T,by unfold zJ;simp -implicitDefEqProofs,rfl,_,rfl⟩)
  subst d2;have d1:(ah7 row).filterMap (λ _=>aT D.N)=ah7 (row.map λ _=>bY):=by
   unfold ah7;rw[cU,dg,<-dW];exact zS λ _ _=>rfl
  rw[d1]at e2;have c3:(ah7 row).length<=LIM:=by rw[aP7,a2];unfold LIM;lia
  have sD:∀ S,am0 (.tp (m.ds.map Dr.d)) S=.ok ⟨m.ds.map Dr.d,[]⟩ S:=λ _=>rfl
  conv=>arg 2;simp -implicitDefEqProofs [turn,sq,c3,e2,mk,ixD,sD]
  rw[<-aN,<-au];have c2:(s++T++[O.J (ah7 (row.map λ _=>bY))])[(s++T).length]?=aT (.J (ah7 (row.map λ _=>bY))):=by simp
  have c0:s.length<=(s++T).length:=by simp
  generalize f1:(s++T).length=k4 at *;have e4:w.take j++[c]=w.take (j+1):=by
   have hlt:j<w.length:=(ac.mp hc).1;have e:w[j]=c:=(ac.mp hc).2;rw[<-e,eM]
  refine qR (Ww:=Nx _) (λ i U v=>∃(J:Sto) (Y:List (Option Int)) (y5 y6 y7 y8:Option D),v=s++J/\v[k2]?=aT (.J (ah7 row))/\v[k4]?=aT (.J (ah7 Y))/\Y.length=m.R/\as7 (av6 (as1 m (w.take j)) c (m.ds.take i)) Y/\U=[aT m.d,aT (.str w),aT (.ref k2),aT (.str [c]),aT (.ref k4),y5,y6,y7,y8])
   ⟨T++[.J (ah7 (row.map λ _=>bY))],row.map λ _=>bY,_,_,_,_,by simp,zb g2,c2,by simp[a2],?_,rfl⟩ (λ _ _ _ _ _=>rfl) ?_ ?_
  .intro k o hk;rw[aI]at hk;cases e:row[k]? with
   | none=>rw[e]at hk;cases hk
   | some _ =>
    rw[e]at hk;cases hk
    rintro c' ⟨d,hd,_⟩
    rw[lh]at hd;cases hd
  .rintro i d U v hi ⟨J,Y,y5,y6,y7,y8,rfl,a6,g4,a1,a0,rfl⟩
   obtain⟨x,hx,rfl⟩:∃ x,m.ds[i]?=aT x/\d=x.d:=by
    rw[aI]at hi;cases e:m.ds[i]? with
    | none=>rw[e]at hi;cases hi
    | some x=>rw[e]at hi;cases hi;exact⟨x,rfl,rfl⟩
   have hok:=hm.ds.1 x (aP hx);have b0:m.ds.take (i+1)=m.ds.take i++[x]:=by
    have hlt:i<m.ds.length:=(ac.mp hx).1;have e:m.ds[i]=x:=(ac.mp hx).2;rw[<-e,eM]
   obtain⟨oa,ha⟩:∃ o,row[x.a]?=aT o:=⟨row[x.a]'(by rw[a2];exact hok.a),ag _⟩
   obtain⟨ob,hb⟩:∃ o,Y[x.b]?=aT o:=⟨Y[x.b]'(by rw[a1];exact hok.b),ag _⟩
   have ia:ixM (.ref k2) (.int x.a) (s++J)=.ok (aP8 oa) (s++J):=zB a6 (aH7 ha);have ib:ixM (.ref k4) (.int x.b) (s++J)=.ok (aP8 ob) (s++J):=zB g4 (aH7 hb);have c7:k2≠k4:=by lia
   have c6:k4<(s++J).length:=(ac.mp g4).1;have a3:x.d=.tp [.int x.a,.str [x.l],.int x.b,.int x.t]:=rfl;have stay:as7 (av6 (as1 m (w.take j)) c (m.ds.take (i+1))) Y->∃(b3:Sto) (Z:List (Option Int)) (z5 z6 z7 z8:Option D),s++J=s++b3/\(s++J)[k2]?=aT (.J (ah7 row))/\(s++J)[k4]?=aT (.J (ah7 Z))/\Z.length=m.R/\as7 (av6 (as1 m (w.take j)) c (m.ds.take (i+1))) Z/\[aT m.d,aT (.str w),aT (.ref k2),aT (.str [c]),aT (.ref k4),aT (.int x.a),aT (.str [x.l]),aT (.int x.b),aT (.int x.t)]=[aT m.d,aT (.str w),aT (.ref k2),aT (.str [c]),aT (.ref k4),z5,z6,z7,z8]:=λ h=>⟨J,Y,_,_,_,_,rfl,a6,g4,a1,h,rfl⟩
   by_cases hl:x.l=c
   .cases oa with
    | none =>
     refine jd (U:=[aT m.d,aT (.str w),aT (.ref k2),aT (.str [c]),aT (.ref k4),aT (.int x.a),aT (.str [x.l]),aT (.int x.b),aT (.int x.t)]) (s:=s++J) ?_ (stay ?_)
     .simp -implicitDefEqProofs only[turn,a3,bindT_tup,setVs_cons,setVs_nil,setV_s,setV_0,cO,Option.bind_some,qT,exs_nil,ex_ite,ev_and,ev_cmp,qU,qX,qY,R.bind_ok,bB9,hl,decide_true,tru_bl,if_true,ev_notN,ev_ix,ia,ao4,jt,if_false,bI,qM]
     .rw[b0];refine aD8 a0 λ c' b6=>?_;exact a5 x.a bY ha c' b6.2
    | some y =>
     have b5:=be8 a0 hl (a5 x.a (aT y) ha) hb;have b1:setIx (.ref k4) (.int x.b) (.int (y+x.t)) (s++J)=.ok () ((s++J).set k4 (.J (ah7 (Y.set x.b (aT (y+x.t)))))):=by
      rw[aw8 g4 (by rw[aP7,a1];exact hok.b)];unfold ah7;rw[mn];rfl
     have b2:minO ob (aT (y+x.t))=aT (y+x.t)->∃(b3:Sto) (Z:List (Option Int)) (z5 z6 z7 z8:Option D),(s++J).set k4 (.J (ah7 (Y.set x.b (aT (y+x.t)))))=s++b3/\((s++J).set k4 (.J (ah7 (Y.set x.b (aT (y+x.t))))))[k2]?=aT (.J (ah7 row))/\((s++J).set k4 (.J (ah7 (Y.set x.b (aT (y+x.t))))))[k4]?=aT (.J (ah7 Z))/\Z.length=m.R/\as7 (av6 (as1 m (w.take j)) c (m.ds.take (i+1))) Z/\[aT m.d,aT (.str w),aT (.ref k2),aT (.str [c]),aT (.ref k4),aT (.int x.a),aT (.str [x.l]),aT (.int x.b),aT (.int x.t)]=[aT m.d,aT (.str w),aT (.ref k2),aT (.str [c]),aT (.ref k4),z5,z6,z7,z8]:=λ h =>
      ⟨_,Y.set x.b (aT (y+x.t)),_,_,_,_,bW3 c0,by rw[ar (bP c7)];exact a6,zy c6,by simp[a1],by rw[b0,<-h];exact b5,rfl⟩
     cases ob with
     | none =>
      refine jd (U:=[aT m.d,aT (.str w),aT (.ref k2),aT (.str [c]),aT (.ref k4),aT (.int x.a),aT (.str [x.l]),aT (.int x.b),aT (.int x.t)]) (s:=(s++J).set k4 (.J (ah7 (Y.set x.b (aT (y+x.t)))))) ?_ (b2 rfl);simp -implicitDefEqProofs [turn,a3,hl,ia,ib,b1]
     | some z =>
      by_cases hlt:y+x.t<z
      .refine jd (U:=[aT m.d,aT (.str w),aT (.ref k2),aT (.str [c]),aT (.ref k4),aT (.int x.a),aT (.str [x.l]),aT (.int x.b),aT (.int x.t)]) (s:=(s++J).set k4 (.J (ah7 (Y.set x.b (aT (y+x.t)))))) ?_ (b2 (by show(if y+(x.t:Int)<z then _ else _)=_;rw[ij hlt]));simp -implicitDefEqProofs [turn,a3,hl,ia,ib,b1,hlt]
      .refine jd (U:=[aT m.d,aT (.str w),aT (.ref k2),aT (.str [c]),aT (.ref k4),aT (.int x.a),aT (.str [x.l]),aT (.int x.b),aT (.int x.t)]) (s:=s++J) ?_ (stay ?_)
       .simp -implicitDefEqProofs [turn,a3,hl,ia,ib,hlt]
       .rw[b0];have e:minO (aT z) (aT (y+(x.t:Int)))=aT z:=by show(if y+(x.t:Int)<z then _ else _)=_;rw[iF hlt]
        rw[e]at b5;have e2:Y.set x.b (aT z)=Y:=by
         have f0:x.b<Y.length:=(ac.mp hb).1;have e3:Y[x.b]=aT z:=(ac.mp hb).2;rw[<-e3,dU]
        rwa [e2]at b5
   .refine jd (U:=[aT m.d,aT (.str w),aT (.ref k2),aT (.str [c]),aT (.ref k4),aT (.int x.a),aT (.str [x.l]),aT (.int x.b),aT (.int x.t)]) (s:=s++J) ?_ (stay ?_)
    .simp -implicitDefEqProofs [turn,a3,hl]
    .rw[b0];exact aD8 a0 λ c' b6=>hl b6.1
  .rintro U v ⟨J,Y,y5,y6,y7,y8,rfl,a6,g4,a1,a0,rfl⟩
   rw[aq,cE]at a0;refine jd (U:=[aT m.d,aT (.str w),aT (.ref k4),aT (.str [c]),aT (.ref k4),y5,y6,y7,y8]) (s:=s++J) (by simp -implicitDefEqProofs) ⟨J,k4,Y,_,_,_,_,_,_,rfl,c0,g4,a1,?_,rfl⟩;intro k o hk;rw[<-e4];exact(a0 k o hk).congr λ c=>az2
 .rintro U u ⟨T,k2,row,x3,x4,x5,x6,x7,x8,rfl,d3,g2,a2,a5,rfl⟩
  rw[aq,cE]at a5;have sE:am0 (.tp (as0 m.en)) (s++T)=.ok ⟨as0 m.en,[]⟩ (s++T):=rfl;have f2:m.en.length<=5:=by
   have nd:m.en.Nodup:=hm.en.2.imp (λ h=>aJ h);have:=List.Nodup.length_le_of_subset (l₂:=aH m.R) nd (λ x hx=>bO.mpr (hm.en.1 x hx));simp at this;lia
  obtain⟨U3,s3,e3,c5,_⟩:=qw (ok:=λ a4=>chk (s++T) a4 []) (g:=bJ6 (aa0 P n) (.Y 0) (.notN (.ix (.X 1) (.X 0))) (.ix (.X 1) (.X 0))) (λ U u=>u=s++T/\∃ x,U=[x,aT (.ref k2)]) (λ d=>match d with|.int i=>(row.getD i.toNat bY).map D.int|_=>bY) (as0 m.en) (zM [aT m.d,aT (.str w),aT (.ref k2),x3,x4,x5,x6,x7,x8] [bY,aT 2]) (s++T) ⟨rfl,bY,rfl⟩ (λ _ _ h=>rfl) (by
   rintro d hd U u ⟨rfl,x,rfl⟩
   obtain⟨q,hq,rfl⟩:=aS.mp hd;have hlt:q<row.length:=by rw[a2];exact hm.en.1 q hq
   have ix:=zB (s:=s++T) g2 (aH7 (ag hlt));refine⟨[aT (.int q),aT (.ref k2)],s++T,?_,rfl,_,rfl⟩;have hg:row.getD ((q:Int).toNat) bY=row[q]:=by simp[List.getD,hlt]
   unfold bJ6;simp only[hg];cases e:row[q]with
   | none=>rw[e]at ix;simp -implicitDefEqProofs [ix]
   | some y=>rw[e]at ix;simp -implicitDefEqProofs [ix])
  subst c5;have d0:(as0 m.en).filterMap (λ d=>match d with|.int i=>(row.getD i.toNat bY).map D.int|_=>bY)=(m.en.filterMap λ q=>row.getD q bY).map D.int:=by
   unfold as0;rw[dg,List.map_filterMap];exact zS λ q _=>rfl
  rw[d0]at e3;refine⟨_,aB2 a2 hm.en.1 a5,?_⟩;have d4:(as0 m.en).length<=LIM:=by unfold as0;rw[aq];unfold LIM;lia
  simp -implicitDefEqProofs [ixE,sE,d4,e3,bI2];exact ah9 (aP3 _) (aM7 _)
def aj8 [Has P ab7] n  i z J  s :(aa0 P (n+1)).call "_law_whole" [.int i,.int z,.int J] s=.ok (.T (decide (z<=i)&&decide (i<=J))) s:=by
 refine(ze ab7 rfl).trans ?_;by_cases h:z<=i<;>simp -implicitDefEqProofs [ab7,h]
def ak3 [Has P ab7][Has P zD] n {l}{k:Nat}(h:(∀ i∈l,i<k)/\l.Pairwise (· < ·)) s :(aa0 P (n+2)).call "_law_are_rooms" [.tp (as0 l),.int k] s=.ok (.T ca) s:=by
 have Y:(aa0 P (n+2)).call "_law_are_rooms" [.tp (as0 l),.int k] s=_:=ze zD rfl;rw[Y];have J:am0 (.tp (as0 l)) s=.ok ⟨as0 l,[]⟩ s:=rfl;simp -implicitDefEqProofs [zD];refine am4 (λ j U t=>t=s/\∃ a x ,U=[aT (.tp (as0 l)),aT (.int k),aT (.int a),x]/\(∀ i∈l.drop j,a<(i))) ⟨rfl,-1,bY,rfl,λ i _=>by lia⟩ (λ _ _ _ _ _=>rfl) ?_ ?_
 .rintro j d U t hj ⟨rfl,a,x,rfl,ha⟩
  obtain⟨i,hi,rfl⟩:∃ i,l[j]?=aT i/\d=.int (i):=by
   unfold as0 at hj;rw[aI]at hj;cases e:l[j]? with
   | none=>rw[e]at hj;cases hj
   | some i=>rw[e]at hj;cases hj;exact⟨i,rfl,rfl⟩
  have hlt:=(ac.mp hi).1;have hij:=(ac.mp hi).2;have hd:l.drop j=i::l.drop (j+1):=by rw[<-hij,ce hlt]
  have z:a+1<=(i):=by have:=ha i (by rw[hd];exact ao ..);lia
  have Z:(i)<=(k:Int) - 1:=by have:=h.1 i (aP hi);lia
  refine jd (U:=[aT (.tp (as0 l)),aT (.int k),aT (.int i),aT (.int i)]) ?_ ⟨rfl,i,_,rfl,λ y hy=>?_⟩
  .simp -implicitDefEqProofs [turn,aj8 (P:=P) n,z,Z]
  .have hp:=h.2;rw[<-fo j l,fC]at hp;have:=hp.2.1;rw[hd,bJ]at this;have:=this.1 y hy;lia
 .rintro U t ⟨rfl,a,x,rfl,_⟩
  simp -implicitDefEqProofs
def aH2 [Has P ab7][Has P zF] n {m}(hm:m.Ok){x:Dr}(hx:x.Ok m) s :(aa0 P (n+2)).call "_law_is_door" [x.d,.int m.L,.int m.R] s=.ok (.T ca) s:=by
 have e0:(aa0 P (n+2)).call "_law_is_door" [x.d,.int m.L,.int m.R] s=_:=ze zF (n:=n+1) rfl;rw[e0];have J:x.d=.tp [.int x.a,.str [x.l],.int x.b,.int x.t]:=rfl;have Z:=cm2 x;have i1:=ch1 x;have i2:=ci6 x;have i3:=ci7 x;rw[J]at Z i1 i2 i3 ⊢;have ha:=hx.a;have hb:=hx.b;have ht:=hx.t;have hl:=hx.l;have iS:bi .isStr [.str [x.l]] s=.ok (.T ca) s:=rfl;have Y:slM (.str [97,98,99]) bY (aT (m.L:Int)) s=.ok (.str ([97,98,99].take m.L)) s:=by
  have h3:=hm.L3;show R.ok (D.str (ag1 [97,98,99] bY (aT (m.L:Int)))) s=_;unfold ag1;simp only[loB,hiB,sbd,gk,Nat.sub_zero];rw[ij (by lia),bR];show R.ok (D.str (List.take (min m.L 3) [97,98,99])) s=_;rw[Nat.min_eq_left h3]
 have z:inM (.str [x.l]) (.str ([97,98,99].take m.L)) s=.ok ca s:=by
  show R.ok (decide (x.l∈[97,98,99].take m.L)) s=_;have h1:=hm.L1;have h3:=hm.L3;have:x.l∈[97,98,99].take m.L:=by
   rcases(show m.L=1\/m.L=2\/m.L=3 by lia)with e|e|e<;>(rw[e]at hl ⊢;simp;lia)
  rw[iN this]
 have q1:(x.a:Int)<=(m.R:Int) - 1:=by lia
 have q2:(x.b:Int)<=(m.R:Int) - 1:=by lia
 have q3:(x.t:Int)<=3:=by lia
 simp -implicitDefEqProofs [zF,Z,i1,i2,i3,iS,aj8 (P:=P) n,q1,q2,q3,Y,aJ0,z]
def as8 [Has P ab7][Has P zD][Has P zF][Has P zw] n {m:Mc}(hm:m.Ok) s :(aa0 P (n+3)).call "_law_is_machine" [m.d,.int m.L] s=.ok (.T ca) s:=by
 have e0:(aa0 P (n+3)).call "_law_is_machine" [m.d,.int m.L] s=_:=ze zw rfl;rw[e0];have iT:bi .isTup [m.d] s=.ok (.T ca) s:=rfl;have lT:bi .len [m.d] s=.ok (.int 5) s:=rfl;have Y:bi .isTup [.tp (m.ds.map Dr.d)] s=.ok (.T ca) s:=rfl;have Z:bi .len [.tp (m.ds.map Dr.d)] s=.ok (.int m.ds.length) s:=by rw[bL0,aq]
 have h1:=hm.R1;have h5:=hm.R5;have a2:=hm.ds.2;have q1:(1:Int)<=(m.R:Int):=by lia
 have q2:(m.R:Int)<=5:=by lia
 have q3:¬((75:Int)<(m.ds.length:Int)):=by lia
 have sD:am0 (.tp (m.ds.map Dr.d)) s=.ok ⟨m.ds.map Dr.d,[]⟩ s:=rfl;obtain⟨U1,s1,e1,rfl,_⟩:=qw (ok:=λ a0=>chk s a0 []) (g:=zJ (aa0 P (n+2)) (.Y 0) (.call "_law_is_door" (.ex (.X 0) (.ex (.X 1) (.ex (.ix (.X 2) (.K (.int 1))) .nil))))) (λ U u=>u=s/\∃ a,U=[a,aT (.int m.L),aT m.d]) (λ _=>aT (.T ca)) (m.ds.map Dr.d) (zM [aT m.d,aT (.int m.L)] [bY,aT 1,aT 0]) s ⟨rfl,bY,rfl⟩ (λ _ _ _=>rfl) (by
  rintro d hd U u ⟨rfl,a,rfl⟩
  obtain⟨x,hx,rfl⟩:=aS.mp hd;exact⟨[aT x.d,aT (.int m.L),aT m.d],u,by unfold zJ;simp -implicitDefEqProofs [ixR,aH2 (P:=P) n hm (hm.ds.1 x hx)],rfl,_,rfl⟩)
 have z:(m.ds.map Dr.d).length<=LIM:=by rw[aq];unfold LIM;lia
 have a1:ag0 ((m.ds.map Dr.d).filterMap λ _=>aT (D.T ca))=aT (m.ds.map λ _=>ca):=by
  rw[dg];generalize m.ds=l
  induction l with
  | nil=>rfl
  | cons a l ih=>rw[bB];simp only[lK];unfold ag0;rw[ih];rfl
 have J:(m.ds.map λ _=>ca).all id=true:=by simp
 simp -implicitDefEqProofs only[zw,qT,exs_nil,aY,cR,cZ,fP,av,ex_ite,ev_or,ev_not,ev_bi,evs_cons,evs_nil,qU,qX,qY,R.bind_ok,iT,tru_bl,jt,if_false,bI,ev_cmp,lT,ev_cst,Cn_int,ne_int,decide_true,ev_call,evas_ex,evas_nil,ev_ix,ixL,aj8 (P:=P) (n+1),eS,gS,ixR,q1,q2,ixD,Y,Z,gt_int,q3,decide_false,ixB,ixE,ak3 (P:=P) n hm.bg,ak3 (P:=P) n hm.en,qM,ex_ret,ev_mk,zO,evI_seq,sD,z,if_true,e1,mk,a1,J,nxt_ret,fin_ret,aM8]
def WL (B:Nat)(l:List D):Prop:=∀ d∈l,∃ w,d=.str w/\w.length<=B
def WL.app (h:WL B l)(z:WL B m):WL B (l++m):=λ d hd=>(aE.mp hd).elim (h d) (z d)
def WL.mono (h:WL B l)(z:B<=Cc):WL Cc l:=λ d hd=>by obtain⟨w,e,hw⟩:=h d hd;exact⟨w,e,by lia⟩
def aF7 {S}(h:S[k]?=aT (.J l))(z:l.length+m.length<=LIM):bL3 (.ref k) m S=.ok .N (S.set k (.J (l++m))):=by
 simp only[bL3,h,z,if_true]
def aV9 tg e b z :evL F (.compK tg e b z) U s=((ev F e U s).bind λ d s=>aB4 d s).bind λ q s0=>if az6 s q.src=ca/\q.its.length<=LIM then(zX (λ s=>chk s0 s q.src) (zJ F tg b) q.its (zM U z) s0).bind λ l s=>aA4 q.src l s else .B:=rfl
def gL (t:Tr)(q:Nat):Nat:=(ltR t q).getD 0
def bl1 (J:1<=q)(Y:q<=t.cnt):([]::t.lt.map λ c=>[c])[q]?=aT [gL t q]:=by
 have z:q - 1<t.lt.length:=by rw[t.lt_len];omega
 have e:ltR t q=aT t.lt[q - 1]:=by
  unfold ltR;rw[iF (by lia)];exact ag z
 unfold gL;rw[e];exact ar3.mpr e
def gDs (t:Tr)(Fo:Nat->List Nat)(fee p:Nat):List Dr:=(Fo p).map λ q=>⟨p,gL t q,q,fee⟩
section
variable {P:Pr} [Has P ab0]
def bF2 n {S:Sto}(h:RoomsS S o a b e ([]::t.lt.map λ c=>[c]) rs Y)(a4:∀ p q,q∈Y p->1<=q/\q<=t.cnt)(hr:rs[p]?=aT r)(hl:(Y p).length<=1000)(J:Nat) :
  (aa0 P (n+1)).call "doors_into" [.ref o,.int (p:Int),.ref r,.int (J:Int)] S=.ok (.ref S.length) (S++[.J ((gDs t Y J p).map Dr.d)]):=by
 have e0:(aa0 P (n+1)).call "doors_into" [.ref o,.int (p:Int),.ref r,.int (J:Int)] S=_:=ze ab0 (n:=n) rfl;rw[e0,show(bq aT [D.ref o,.int (p:Int),.ref r,.int (J:Int)]++av ab0.vs bY)=[aT (.ref o),aT (.int (p:Int)),aT (.ref r),aT (.int (J:Int))]from rfl];have hd:=h.dic p r hr;have a0:r<S.length:=(ac.mp hd).1;have ho:o≠r:=λ z=>by subst z;rw[h.ins]at hd;cases hd
 have ha:a≠r:=λ z=>by subst z;rw[h.let_]at hd;cases hd
 generalize Z:S.set r (.dicF (dk (Y p)))=S';have g1:S'[o]?=aT (.ins "Rooms" (flds a b e)):=by rw[<-Z,ar (bP ho)];exact h.ins
 have g2:S'[a]?=aT (.J (([]::t.lt.map λ c=>[c]:List (List Nat)).map D.str)):=by rw[<-Z,ar (bP ha)];exact h.let_
 have hk:aB4 (.ref r) S=.ok ⟨zd (Y p),[r]⟩ S':=by
  unfold aB4;simp only[hd,bB7,if_true,bB2,Z]
 have hz:az6 S [r]=true:=by unfold az6;simp[hd]
 obtain⟨U1,s1,e1,a3,_⟩:=qw (ok:=λ a5=>chk S' a5 [r]) (g:=zJ (aa0 P n) (.Y 0) (.tp (.cons (.X 1) (.cons (.ix (.attr (.X 2) ag2) (.X 0)) (.cons (.X 0) (.cons (.X 3) .nil)))))) (λ U u=>u=S'/\∃ x,U=[x,aT (.int (p:Int)),aT (.ref o),aT (.int (J:Int))]) (λ d=>match d with|.int q=>aT (Dr.d ⟨p,gL t q.toNat,q.toNat,J⟩)|_=>bY) (zd (Y p)) [bY,aT (.int (p:Int)),aT (.ref o),aT (.int (J:Int))] S' ⟨rfl,bY,rfl⟩ (λ _ _ h=>by rw[h.1];simp[chk]) (by
  rintro d hd U u ⟨rfl,x,rfl⟩
  obtain⟨q,hq,rfl⟩:=aS.mp hd;obtain⟨q1,q2⟩:=a4 p q hq;have i1:=ao5 g1;have i2:ixM (.ref a) (.int (q:Int)) u=.ok (.str [gL t q]) u:=zB g2 (by rw[aI,bl1 q1 q2];rfl);refine⟨[aT (.int (q:Int)),aT (.int (p:Int)),aT (.ref o),aT (.int (J:Int))],u,?_,rfl,_,rfl⟩;unfold zJ;simp only[bR];simp -implicitDefEqProofs only[qU,ev_tup,ev_ix,evs_nil,evs_cons,R.bind_ok,qu,setV_0,qX,qY,qK,i1,i2];rfl)
 subst a3;have a2:(zd (Y p)).filterMap (λ d=>match d with|.int q=>aT (Dr.d ⟨p,gL t q.toNat,q.toNat,J⟩)|_=>bY)=(gDs t Y J p).map Dr.d:=by
  unfold zd gDs;rw[dg,cU,<-dW];exact zS λ q _=>rfl
 rw[a2]at e1;have th:aA4 [r] ((gDs t Y J p).map Dr.d) s1=.ok ((gDs t Y J p).map Dr.d) S:=by
  unfold aA4;have:s1[r]?=aT (.dicF (dk (Y p))):=by rw[<-Z];exact zy a0
  simp only[this];rw[<-Z,cH]
  congr 1
  refine fh λ i=>?_;by_cases hi:i=r
  .subst hi;rw[zy a0,hd]
  .rw[ar (bP hi)]
 have a1:∀ q (s:Sto),mk .list q s=.ok (.ref s.length) (s++[.J q]):=λ _ _=>rfl;rw[show ab0.body=.cons (.ret (.mk .list (.compK (.Y 0) (.X 2) (.tp (.cons (.X 1) (.cons (.ix (.attr (.X 2) ag2) (.X 0)) (.cons (.X 0) (.cons (.X 3) .nil))))) [bY,aT 1,aT 0,aT 3]))) .nil from rfl];simp -implicitDefEqProofs only[qT,ex_ret,qU,ev_mk,R.bind_ok,qX,qY,aV9,hk];rw[ij ⟨hz,by rw[zI];unfold LIM;lia⟩,show zM [aT (.ref o),aT (.int (p:Int)),aT (.ref r),aT (.int (J:Int))] [bY,aT 1,aT 0,aT 3]=[bY,aT (.int (p:Int)),aT (.ref o),aT (.int (J:Int))]from rfl,e1];simp -implicitDefEqProofs only[R.bind_ok,nxt_ret,fin_ret,th,a1];exact bk0 (by unfold O.bnd;exact qA bj0 _)
end
noncomputable abbrev bL4:List D:=[.str [97],.str [98],.str [99]]
def aY9 (t:Tr)(Fo:Nat->List Nat)(En:List Nat):Mc:=⟨3,t.cnt+1,[0],En,(aH (t.cnt+1)).flatMap (gDs t Fo 0)⟩
def aW1 (h:s[r]?=aT (.J l)):ca2 (.ref r) s=.ok l s:=by
 unfold ca2;simp only[h]
theorem az8:∀ l (n i:Nat),(ae2 n l)[i]?=(l[i]?).map λ d=>.tp [.int ((n+i:Nat)),d]
 | [],n,i=>by unfold ae2;simp
 | d::l,n,0=>by unfold ae2;simp
 | d::l,n,i+1=>by
  unfold ae2;rw[cx,cx,az8 l (n+1) i,show n+1+i=n+(i+1)by omega]
def bb3 (z:s[a]?=aT (.J l))(J:s[b]?=aT (.J m))(hn:a≠b)(h:l.length+m.length<=LIM):extS (.ref a) (.ref b) s=.ok .N (s.set a (.J (l++m))):=by
 unfold extS;simp only[J];exact aF7 z h
theorem aH8 {α β:Type}{f:α->List β}:∀ {l:List α},(∀ x∈l,(f x).length<=B)->(l.flatMap f).length<=l.length*B
 | [],_=>by simp
 | a::l,h=>by
  rw[List.flatMap_cons,au,aQ,Nat.add_mul];have z:=h a (ao ..);have J:=aH8 λ x hx=>h x (ah _ hx);lia
section
variable {P:Pr} [HasC P "LETTERS" (.tp bL4)] [HasC P "MOST_SET_LETTERS" (.int 4)] [Has P ab0] [Has P ab2] [Has P aa9] [Has P aa7]
def bG7 n {S:Sto}{t:Tr}(h:RoomsS S o a b e ([]::t.lt.map λ c=>[c]) J Fo)(Y:S[e]?=aT (.J (zd En)))(hq:S[q]?=aT (.J (ds.map Dr.d))) :
  (aa0 P (n+1)).call "with_doors" [.ref o,.ref e,.ref q] S=.ok (Mc.d ⟨3,t.cnt+1,[0],En,ds⟩) S:=by
 have e0:(aa0 P (n+1)).call "with_doors" [.ref o,.ref e,.ref q] S=_:=ze ab2 (n:=n) rfl;rw[e0,show(bq aT [D.ref o,.ref e,.ref q]++av ab2.vs bY)=[aT (.ref o),aT (.ref e),aT (.ref q)]from rfl];have Z:=ao5 h.ins;have i2:bi .len [.ref a] S=.ok (.int ((t.cnt+1:Nat):Int)) S:=by rw[ak0 h.let_,aq,aQ,aq,t.lt_len]
 have i3:∀ s,bi .len [.tp bL4] s=.ok (.int 3) s:=λ _=>rfl;have z:∀ q (s:Sto),mk .tuple q s=.ok (.tp q) s:=λ _ _=>rfl;rw[show ab2.body=.cons (.ret (.tp (.cons (.bi .len (.cons (.gl "LETTERS") .nil)) (.cons (.bi .len (.cons (.attr (.X 0) ag2) .nil)) (.cons (.tp (.cons (.K (.int 0)) .nil)) (.cons (.mk .tuple (.seq (.X 1))) (.cons (.mk .tuple (.seq (.X 2))) .nil))))))) .nil from rfl];simp -implicitDefEqProofs only[qT,ex_ret,qU,ev_cst,ev_tup,ev_bi,ev_mk,evs_nil,evs_cons,evL_seq,Cn_int,R.bind_ok,qX,qY,nxt_ret,fin_ret,aG5 (v:=.tp bL4),i3,qK,Z,i2,aW1 Y,aW1 hq,z];exact bg8 (l:=Mc.ps ⟨3,t.cnt+1,[0],En,ds⟩) aX3
variable [HasM P "Rooms" "link" aa5] [HasM P "Rooms" "lay_letter" aa2] [HasM P "Rooms" "lay" aa3] [HasM P "Rooms" "__init__" aa4] [HasA P "Rooms" ag2] [HasA P "Rooms" am1] [HasA P "Rooms" al2] [Has P ab1]
def cd1 (t:Tr)(ht:t.cnt<=4)(n:Nat)(s:Sto):∃ G o a b e J z En,(aa0 P (n+t.dep+3)).call "few_rooms_for" [t.d] s=.ok (.ref o) (s++G)/\RoomsS (s++G) o a b e ([]::t.lt.map λ c=>[c]) J z /\
  (∀ p q,q∈z p↔(p=0/\q∈t.fs 1)\/t.ed 1 p q)/\(s++G)[e]?=aT (.J (zd En))/\(∀ q,q∈En↔(q=0/\t.nul=ca)\/q∈t.la 1)/\En.Pairwise (· < ·):=by
 obtain⟨G,o,a,b,e,J,z,En,e1,h,Z,he,Y,hp,ho,ha⟩:=al5 (P:=P) t (by lia) n s;refine⟨G,o,a,b,e,J,z,En,?_,h,Z,he,Y,hp⟩;have e0:(aa0 P (n+t.dep+3)).call "few_rooms_for" [t.d] s=_:=ze aa7 (n:=n+t.dep+2) rfl;have i1:=ao5 h.ins;have i2:bi .len [.ref a] (s++G)=.ok (.int ((t.cnt+1:Nat):Int)) (s++G):=by rw[ak0 h.let_,aq,aQ,aq,t.lt_len]
 have hd:decide ((4:Int)<((t.cnt+1:Nat):Int) - 1)=false:=js (by lia);rw[e0,show(bq aT [t.d]++av aa7.vs bY)=[aT t.d,bY]from rfl,show aa7.body=.cons (.A (.Y 1) (.call "rooms_for" (.ex (.X 0) .nil))) (.cons (.ite (.Z .gt (.G .sub (.bi .len (.cons (.attr (.X 1) ag2) .nil)) (.K (.int 1))) (.gl "MOST_SET_LETTERS")) (.cons .raise .nil) .nil) (.cons (.ret (.X 1)) .nil))from rfl];simp -implicitDefEqProofs only[qT,exs_nil,ex_asg,ex_ite,ex_ret,qU,ev_cst,ev_bin,ev_cmp,ev_call,ev_bi,evs_nil,evs_cons,evas_nil,evas_ex,Cn_int,R.bind_ok,qu,setV_s,setV_0,qX,qY,Option.map_some,setC_some,qM,nxt_ret,fin_ret,sub_int,gt_int,tru_bl,if_false,Bool.false_eq_true,e1,qK,i1,i2,aG5 (v:=.int 4),hd];exact aq7 ho h.ins (aw7 ha)
noncomputable def smB:Ss:=.cons (.ex (.extS (.X 2) (.call "doors_into" (.ex (.X 1) (.ex (.X 3) (.ex (.X 4) (.ex (.K (.int 0)) .nil))))))) .nil
def bO4 (t:Tr)(ht:t.cnt<=4)(n:Nat)(s:Sto):∃ J En,(∀ p q,q∈J p↔(p=0/\q∈t.fs 1)\/t.ed 1 p q)/\(∀ q,q∈En↔(q=0/\t.nul=ca)\/q∈t.la 1)/\En.Pairwise (· < ·)/\(∀ p,(J p).Nodup) /\
  (aa0 P (n+t.dep+4)).call "set_machine" [t.d] s=.ok (aY9 t J En).d s:=by
 obtain⟨G,o,a,b,e,Z,J,En,e1,h,a0,he,a3,hp⟩:=cd1 (P:=P) t ht n s;refine⟨J,En,a0,a3,hp,h.nf,?_⟩;generalize a4:s++G=S0 at e1 h he;have hq:∀ p q,q∈J p->1<=q/\q<=t.cnt:=λ p q z=>by
  rcases(a0 p q).mp z with⟨_,z⟩|z
  .have:=t.fs_in 1 q z;lia
  .have:=(t.ed_in 1 p q z).2;lia
 have Y:∀ p,(J p).length<=5:=λ p=>by
  have:=aM0 5 (J p) (h.nf p) λ x hx=>by have:=hq p x hx;lia
  exact this
 have a6:Z.length=t.cnt+1:=by rw[h.len,aQ,aq,t.lt_len]
 have e0:(aa0 P (n+t.dep+4)).call "set_machine" [t.d] s=_:=ze aa9 (n:=n+t.dep+3) rfl;rw[e0,show(bq aT [t.d]++av aa9.vs bY)=[aT t.d,bY,bY,bY,bY]from rfl,show aa9.body=.cons (.A (.Y 1) (.call "few_rooms_for" (.ex (.X 0) .nil))) (.cons (.A (.Y 2) (.J .nil)) (.cons (.fo (.tp [3,4]) (.enum (.seq (.attr (.X 1) am1))) smB) (.cons (.ret (.call "with_doors" (.ex (.X 1) (.ex (.attr (.X 1) al2) (.ex (.X 2) .nil))))) .nil)))from rfl];have h1:=h.app [.J []];have i1:=aK3 h1.ins;have i2:aH3 (.ref b) (S0++[.J []])=.ok ⟨Z.map D.ref,[b]⟩ (S0++[.J []]):=by unfold aH3;simp only[h1.fol]
 simp -implicitDefEqProofs only[qT,ex_asg,ex_for,qU,ev_lst,ev_call,evs_nil,evas_nil,evas_ex,R.bind_ok,qu,setV_s,setV_0,qX,qY,Option.map_some,setC_some,qM,alloc_eq,e1,qK,i1,bk8,i2,R.bind_assoc];refine am4 (λ i U u=>∃(T:Sto) (y3 y4:Option D),u=S0++.J (((aH i).flatMap (gDs t J 0)).map Dr.d)::T/\U=[aT t.d,aT (.ref o),aT (.ref S0.length),y3,y4]) ⟨[],_,_,rfl,rfl⟩ ?_ ?_ ?_
 .rintro j U u _ ⟨T,y3,y4,rfl,rfl⟩
  unfold chk;have hb:b<S0.length:=(ac.mp h.fol).1;simp[ax hb]
 .rintro i d U u hi ⟨T,y3,y4,rfl,rfl⟩
  rw[az8,aI]at hi;cases hr:Z[i]? with
  | none=>rw[hr]at hi;cases hi
  | some r =>
   rw[hr]at hi;cases hi;have b1:i<Z.length:=(ac.mp hr).1;have hR:RoomsS (S0++.J (((aH i).flatMap (gDs t J 0)).map Dr.d)::T) o a b e ([]::t.lt.map λ c=>[c]) Z J:=h.app _;have ei:=bF2 (P:=P) (n+t.dep+2) hR hq hr (by have:=Y i;lia) 0;have ln:(((aH i).flatMap (gDs t J 0)).map Dr.d).length<=100:=by
    rw[aq];refine ak (aH8 (B:=5) λ x _=>by unfold gDs;rw[aq];exact Y x) ?_;rw[ci];lia
   have ex:=bb3 (s:=S0++.J (((aH i).flatMap (gDs t J 0)).map Dr.d)::T++[.J ((gDs t J 0 i).map Dr.d)]) (a:=S0.length) (b:=(S0++.J (((aH i).flatMap (gDs t J 0)).map Dr.d)::T).length) (l:=((aH i).flatMap (gDs t J 0)).map Dr.d) (m:=(gDs t J 0 i).map Dr.d) (by simp) qC (by simp) (by
    have:=Y i;have e:((gDs t J 0 i).map Dr.d).length=(J i).length:=by unfold gDs;rw[aq,aq]
    rw[e];unfold LIM;lia)
   have a2:((aH i).flatMap (gDs t J 0)).map Dr.d++(gDs t J 0 i).map Dr.d=((aH (i+1)).flatMap (gDs t J 0)).map Dr.d:=by
    rw[kF,List.flatMap_append,cu];simp
   rw[a2,aN,cZ,ai1]at ex;refine jd (U:=[aT t.d,aT (.ref o),aT (.ref S0.length),aT (.int ((0+i:Nat):Int)),aT (.ref r)]) (s:=S0++.J (((aH (i+1)).flatMap (gDs t J 0)).map Dr.d)::(T++[.J ((gDs t J 0 i).map Dr.d)])) ?_ ⟨_,_,_,rfl,rfl⟩;rw[bG]at *;have b0:(aa0 P (n+t.dep+3)).call "doors_into" [.ref o,.int (i:Int),.ref r,.int 0] (S0++.J (((aH i).flatMap (gDs t J 0)).map Dr.d)::T)=_:=ei;have a1:extS (.ref S0.length) (.ref (S0++.J (((aH i).flatMap (gDs t J 0)).map Dr.d)::T).length) (S0++.J (((aH i).flatMap (gDs t J 0)).map Dr.d)::T++[.J ((gDs t J 0 i).map Dr.d)])=.ok .N (S0++.J (((aH (i+1)).flatMap (gDs t J 0)).map Dr.d)::(T++[.J ((gDs t J 0 i).map Dr.d)])):=by rw[aN,cZ];exact ex
   have b2:∀ r,mkq (.ref S0.length) (S0++O.J (((aH i).flatMap (gDs t J 0)).map Dr.d)::T) (S0++O.J (((aH i).flatMap (gDs t J 0)).map Dr.d)::T++[O.J ((gDs t J 0 i).map Dr.d)]) r=r:=λ r=>bJ1 (by simp);unfold turn smB;simp -implicitDefEqProofs only[qT,exs_nil,ex_ex,qU,ev_cst,ev_call,evas_nil,evas_ex,Cn_int,R.bind_ok,bindT_tup,setVs_nil,setVs_cons,setV_s,setV_0,qX,qY,Option.map_some,Option.bind_some,qM,b2,bh5,an0,b0,a1]
 .rintro U u ⟨T,y3,y4,rfl,rfl⟩
  rw[enumL_len,aq,a6];have hR:RoomsS (S0++.J (((aH (t.cnt+1)).flatMap (gDs t J 0)).map Dr.d)::T) o a b e ([]::t.lt.map λ c=>[c]) Z J:=h.app _;have i3:=bE0 hR.ins;have ew:=bG7 (P:=P) (n+t.dep+2) hR (En:=En) (q:=S0.length) (ds:=(aH (t.cnt+1)).flatMap (gDs t J 0)) (by rw[ax (ac.mp he).1];exact he) (by simp);have a5:(aa0 P (n+t.dep+3)).call "with_doors" [.ref o,.ref e,.ref S0.length] (S0++.J (((aH (t.cnt+1)).flatMap (gDs t J 0)).map Dr.d)::T)=_:=ew;simp -implicitDefEqProofs only[qT,ex_ret,qU,ev_call,evas_nil,evas_ex,R.bind_ok,qX,qY,qM,nxt_ret,fin_ret,qK,i3,a5];rw[<-a4,aN];exact ah9 (λ n=>by unfold Mc.d D.bnd;exact qA aX3 n) (by nofun)
end
theorem Tr.lt_ok:∀(t:Tr),t.ok->∀ c∈t.lt,97<=c/\c<100
 | .nothing,_,c,h=>by cases h
 | .letter x,k,c,h=>by
  have e:=az.mp h;rw[e];exact k
 | .rep t,k,c,h=>t.lt_ok k c h
 | .two _ t u,k,c,h=>by
  rcases aE.mp h with h|h
  .exact t.lt_ok k.1 c h
  .exact u.lt_ok k.2 c h
def ch3 (k:t.ok)(z:1<=q)(J:q<=t.cnt):97<=gL t q/\gL t q<100:=by
 have h:=bl1 z J;obtain⟨q,rfl⟩:∃ p,q=p+1:=⟨q - 1,by lia⟩
 rw[cx,aI]at h;cases e:t.lt[q]? with
 | none=>rw[e]at h;cases h
 | some c =>
  rw[e]at h;have h:=aM h;have e2:=(lL h).1;rw[<-e2];exact t.lt_ok k c (aP e)
section
variable {t:Tr} {Fo:Nat->List Nat} {En:List Nat} (hFo:∀ p q,q∈Fo p↔(p=0/\q∈t.fs 1)\/t.ed 1 p q)
include hFo
def aJ7 (z:q∈Fo p):(1<=q/\q<=t.cnt)/\p<t.cnt+1:=by
 rcases(hFo p q).mp z with⟨y1,y⟩|y
 .have:=t.fs_in 1 q y;lia
 .have:=t.ed_in 1 p q y;lia
def bf6 :d∈(aY9 t Fo En).ds↔∃ p q,q∈Fo p/\d=⟨p,gL t q,q,0⟩:=by
 show d∈(aH (t.cnt+1)).flatMap (gDs t Fo 0)↔_;rw[List.mem_flatMap];constructor
 .rintro⟨p,_,h⟩
  obtain⟨q,hq,rfl⟩:=aS.mp h;exact⟨p,q,hq,rfl⟩
 .rintro⟨p,q,hq,rfl⟩
  exact⟨p,bO.mpr (aJ7 hFo hq).2,aS.mpr ⟨q,hq,rfl⟩⟩
theorem an4 :∀ j q c ,j<=w.length->(as1 (aY9 t Fo En) (w.take j) q c↔c=0/\RS w 0 ([]::t.lt.map λ c=>[c]) Fo j q)
 | 0,q,c,_=>by
  rw[lh];constructor
  .rintro⟨p,hp,J,z⟩
   have:=az.mp hp;exact⟨z,show q=0 by lia⟩
  .rintro⟨J,z⟩
   have z:=z;exact⟨0,az.mpr rfl,z.symm,J⟩
 | j+1,q,c,hj=>by
  have hlt:=hj;have e:w.take (j+1)=w.take j++[w[j]]:=by rw[eM]
  rw[e,<-az2];constructor
  .rintro⟨d,hd,J,z,Y,h3,h4⟩
   obtain⟨p,q',hq,rfl⟩:=(bf6 hFo).mp hd;have z:=z;subst z;obtain⟨z1,z2⟩:=(an4 j p Y (by lia)).mp h3;refine⟨by rw[h4,z1];rfl,p,z2,hq,?_⟩;rw[bG,aC2 hlt,bl1 (aJ7 hFo hq).1.1 (aJ7 hFo hq).1.2,show gL t q'=w[j]from J]
  .rintro⟨rfl,p,J,z,h3⟩
   refine⟨⟨p,gL t q,q,0⟩,(bf6 hFo).mpr ⟨p,q,z,rfl⟩,?_,rfl,0,(an4 j p 0 (by lia)).mpr ⟨rfl,J⟩,rfl⟩;rw[bG,aC2 hlt,bl1 (aJ7 hFo z).1.1 (aJ7 hFo z).1.2]at h3;exact(lL (aM h3)).1
def bU2 (z:∀ q,q∈En↔(q=0/\t.nul=ca)\/q∈t.la 1):(aY9 t Fo En).Wk w c↔c=0/\Mt' w t 0 w.length:=by
 have ha:=bL5 hFo (w:=w) z (k:=0) w.length (by lia);rw[bG]at ha;rw[<-ha];constructor
 .rintro⟨p,hp,q,hq,h⟩
  have:=(an4 hFo w.length q c (al _)).mp (by rw[cE];exact⟨p,hp,h⟩);exact⟨this.1,q,this.2,hq⟩
 .rintro⟨J,q,Y,hq⟩
  obtain⟨p,hp,h⟩:=(an4 hFo w.length q c (al _)).mpr ⟨J,Y⟩;rw[cE]at h;exact⟨p,hp,q,hq,h⟩
def bP3 (ht:t.cnt<=4)(k:t.ok)(J:∀ q,q∈En↔(q=0/\t.nul=ca)\/q∈t.la 1)(hp:En.Pairwise (· < ·))(hn:∀ p,(Fo p).Nodup):(aY9 t Fo En).Ok:=by
 refine⟨by show 1<=3;decide,by show 3<=3;decide,Nat.succ_le_succ (cW _),by show t.cnt+1<=5;lia,⟨λ q hq=>?_,g8 ..⟩,⟨λ q hq=>?_,hp⟩,λ d hd=>?_,?_⟩
 .rw[az.mp hq];exact Nat.succ_pos _
 .show q<t.cnt+1;rcases(J q).mp hq with⟨rfl,_⟩|z
  .lia
  .have:=t.la_in 1 q z;lia
 .obtain⟨p,q,hq,rfl⟩:=(bf6 hFo).mp hd;have h:=aJ7 hFo hq;have g:=ch3 k h.1.1 h.1.2;exact⟨h.2,⟨g.1,g.2⟩,show q<t.cnt+1 by lia,by show 0<4;decide⟩
 .skip
  refine ak (aH8 (B:=5) λ x _=>?_) (by rw[ci];lia);unfold gDs;rw[aq];exact aM0 5 (Fo x) (hn x) λ y hy=>by have:=(aJ7 hFo hy).1;omega
end
structure SetM (t:Tr)(m:Mc):Prop where
 ok:m.Ok
 L:m.L=3
 wk:∀(w:List Nat) (c:Int),m.Wk w c↔c=0/\Mt' w t 0 w.length
section
variable {P:Pr} [HasC P "LETTERS" (.tp bL4)] [HasC P "MOST_SET_LETTERS" (.int 4)] [Has P ab0] [Has P ab2] [Has P aa9] [Has P aa7]
 [HasM P "Rooms" "link" aa5] [HasM P "Rooms" "lay_letter" aa2] [HasM P "Rooms" "lay" aa3] [HasM P "Rooms" "__init__" aa4] [HasA P "Rooms" ag2] [HasA P "Rooms" am1] [HasA P "Rooms" al2] [Has P ab1]
def bK5  t (ht:t.cnt<=4)(k:t.ok) n  s :∃ m,SetM t m/\(aa0 P (n+t.dep+4)).call "set_machine" [t.d] s=.ok m.d s:=by
 obtain⟨Y,En,J,z,hp,hn,e⟩:=bO4 (P:=P) t ht n s;exact⟨_,⟨bP3 J ht k z hp hn,rfl,λ w c=>bU2 J z⟩,e⟩
end
class HasX (P:Pr)(f:String)(d:Xf):Prop where
 at_:P.xf f=aT d
class HasT (P:Pr)(f:String)(d:Tf):Prop where
 no:P.df f=bY
 at_:P.tf f=aT d
class HasE (P:Pr)(c:String)(ts:List String):Prop where
 at_:P.xc c=ca
 ts:∀ t∈ts,P.xt t=ca
def aD3 d [h:HasX P f d](z:l.length=d.ps):(aa0 P (n+1)).xcall f l s=xB (aa0 P n) d.body (l.map aT++av d.vs bY) s:=by
 show(match P.xf f with|some d=>if l.length=d.ps then xB (aa0 P n) d.body (l.map aT++av d.vs bY) s else bY|none=>bY)=_;rw[h.at_];exact ij z
set_option tactic.hygienic true in
def bA9 d [h:HasT P f d](z:l.length=d.ps):(aa0 P (n+1)).call f l s=bG6 (aa0 P n) d l s:=by
 have e:(aa0 P (n+1)).call f l s=match P.df f with
   | some d=>if l.length=d.ps then(exs (aa0 P n) d.body (l.map aT++av d.vs bY) s).bind λ c s'=>match c with
     | .ret v=>zp s v s'
     | .next _=>zp s .N s'
     | _=>.B else .B
   | none=>match P.tf f with
    | some d=>if l.length=d.ps then bG6 (aa0 P n) d l s else .B
    | none=>.B:=rfl
 rw[e,h.no];rw[h.at_];exact ij z
def bm1 (h:d.pre=.nil):bG6 F d l s=bp3 F d s (l.map aT++av d.vs bY) s:=by
 unfold bG6;rw[h];rfl
def bR5 :(aa0 P n).xc=P.xc/\(aa0 P n).xt=P.xt:=by cases n<;>exact⟨rfl,rfl⟩
def br7 s :ixM (.tp (x::l)) (.int 0) s=.ok x s:=ix_tup rfl
section
variable {P:Pr} [Has P ab3]
def bc7:∀(t:Tr)  n   s ,t.sz<=1000->(aa0 P (n+t.dep)).call "_law_letters" [t.d] s=.ok (.int (t.cnt)) s:=λ t=>by
 have body:ab3.body=.cons (.ite (.Z .eq (.ix (.X 0) (.K (.int 0))) (.K (.str [108,101,116,116,101,114]))) (.cons (.ret (.K (.int 1))) .nil) .nil) (.cons (.ret (.mk .sum (.comp (.Y 0) (.seq (.slL (.X 0) (.K (.int 1)))) (.call "_law_letters" (.ex (.X 0) .nil)) [bY]))) .nil):=rfl;have Y:∀(x:D) (l:List D) (s:Sto),slM (.tp (x::l)) (aT 1) bY s=.ok (.tp l) s:=λ x l s=>by
  show R.ok (D.tp (ag1 (x::l) (aT 1) bY)) s=_
  congr 2
  have h1:loB (l.length+1) (aT 1)=1:=by unfold loB sbd;simp
  simp[ag1,h1,hiB]
 have sq:∀(l:List D) (s:Sto),am0 (.tp l) s=.ok ⟨l,[]⟩ s:=λ _ _=>rfl
 induction t with
 | nothing =>
  intro n s _;have Z:(aa0 P (n+1)).call "_law_letters" [Tr.nothing.d] s=_:=ze ab3 rfl;show(aa0 P (n+1)).call "_law_letters" [Tr.nothing.d] s=_;rw[Z,body,show(bq aT [Tr.nothing.d]++av ab3.vs bY)=[aT (.tp [.str zH])]from rfl];have q:zh .eq (.str zH) (.str [108,101,116,116,101,114]) s=.ok (.T dr) s:=qg (by decide) s;simp -implicitDefEqProofs only[qT,exs_nil,ex_ite,ex_ret,qU,ev_cst,ev_cmp,ev_ix,ev_mk,evI_seq,Cn_int,Cn_str,R.bind_ok,qX,qM,nxt_ret,tru_bl,if_false,Bool.false_eq_true,br7,q,aL5,Y,zO,sq];have cm:zX (λ z=>chk s z []) (zJ (aa0 P n) (.Y 0) (.call "_law_letters" (.ex (.X 0) .nil))) [] [bY] s=.ok [] s:=by
   unfold zX;rw[ij (show chk s s []=ca from rfl)]
  rw[ij (show([]:List D).length<=LIM by unfold LIM;simp),show zM [aT (.tp [.str zH])] [bY]=[bY]from rfl,cm];simp -implicitDefEqProofs only[R.bind_ok,nxt_ret,fin_ret,show mk .sum [] s=.ok (.int 0) s from rfl];exact ah2
 | letter c =>
  intro n s _;have Z:(aa0 P (n+1)).call "_law_letters" [(Tr.letter c).d] s=_:=ze ab3 (n:=n) rfl;show(aa0 P (n+1)).call "_law_letters" [(Tr.letter c).d] s=_;rw[Z,body,show(bq aT [(Tr.letter c).d]++av ab3.vs bY)=[aT (.tp [.str qz,.str [c]])]from rfl];have q:zh .eq (.str qz) (.str [108,101,116,116,101,114]) s=.ok (.T ca) s:=qg (by decide) s;simp -implicitDefEqProofs only[qT,exs_nil,ex_ite,ex_ret,qU,ev_cst,ev_cmp,ev_ix,Cn_int,Cn_str,R.bind_ok,qX,nxt_ret,fin_ret,tru_bl,if_true,br7,q];exact ah2
 | rep t ih =>
  intro n s hs;have Z:(aa0 P (n+t.dep+1)).call "_law_letters" [(Tr.rep t).d] s=_:=ze ab3 (n:=n+t.dep) rfl;show(aa0 P (n+t.dep+1)).call "_law_letters" [(Tr.rep t).d] s=_;rw[Z,body,show(bq aT [(Tr.rep t).d]++av ab3.vs bY)=[aT (.tp [.str zE,t.d])]from rfl];have q:zh .eq (.str zE) (.str [108,101,116,116,101,114]) s=.ok (.T dr) s:=qg (by decide) s;have e1:=ih n s (by have:(Tr.rep t).sz=t.sz+1:=rfl;lia);have cm:zX (λ z=>chk s z []) (zJ (aa0 P (n+t.dep)) (.Y 0) (.call "_law_letters" (.ex (.X 0) .nil))) [t.d] [bY] s=.ok [.int (t.cnt:Int)] s:=by
   have key:=ag7 (g:=zJ (aa0 P (n+t.dep)) (.Y 0) (.call "_law_letters" (.ex (.X 0) .nil))) (ok:=λ z=>chk s z []) (u:=s) rfl (λ U=>∃ x,U=[x]) (λ _=>.int (t.cnt:Int)) [t.d] [bY] ⟨bY,rfl⟩ (by
    rintro d hd U ⟨x,rfl⟩
    rw[az.mp hd];refine⟨[aT t.d],?_,_,rfl⟩;unfold zJ;simp -implicitDefEqProofs only[qU,ev_call,evas_nil,evas_ex,R.bind_ok,qu,setV_0,qX,e1])
   exact key
  have hm:=bv8 (l:=[t.cnt]) (by simp) (λ k hk=>by rw[az.mp hk];have:=t.cnt_sz;have:(Tr.rep t).sz=t.sz+1:=rfl;lia) s;simp -implicitDefEqProofs only[qT,exs_nil,ex_ite,ex_ret,qU,ev_cst,ev_cmp,ev_ix,ev_mk,evI_seq,Cn_int,Cn_str,R.bind_ok,qX,qM,nxt_ret,tru_bl,if_false,Bool.false_eq_true,br7,q,aL5,Y,zO,sq];rw[ij (show([t.d]:List D).length<=LIM by unfold LIM;simp),show zM [aT (.tp [.str zE,t.d])] [bY]=[bY]from rfl,cm];have J:mk .sum [.int (t.cnt:Int)] s=.ok (.int (((Tr.rep t).cnt:Nat):Int)) s:=by
   have:=hm;simp only[aY,cR]at this;rw[this];simp[Tr.cnt]
  simp -implicitDefEqProofs only[R.bind_ok,nxt_ret,fin_ret,J];exact ah2
 | two b t u iht ihu =>
  intro n s hs;have hd:(Tr.two b t u).dep=max t.dep u.dep+1:=rfl;have hz:(Tr.two b t u).sz=t.sz+u.sz+1:=rfl;have Z:(aa0 P (n+max t.dep u.dep+1)).call "_law_letters" [(Tr.two b t u).d] s=_:=ze ab3 (n:=n+max t.dep u.dep) rfl;show(aa0 P (n+max t.dep u.dep+1)).call "_law_letters" [(Tr.two b t u).d] s=_;rw[Z,body,show(bq aT [(Tr.two b t u).d]++av ab3.vs bY)=[aT (.tp [.str (cf3 b),t.d,u.d])]from rfl];have q:zh .eq (.str (cf3 b)) (.str [108,101,116,116,101,114]) s=.ok (.T dr) s:=by cases b<;>exact qg (by decide) s
  have e1:(aa0 P (n+max t.dep u.dep)).call "_law_letters" [t.d] s=.ok (.int (t.cnt:Int)) s:=by
   have:=iht (n+(max t.dep u.dep - t.dep)) s (by lia);rw[show n+(max t.dep u.dep - t.dep)+t.dep=n+max t.dep u.dep by lia]at this;exact this
  have e2:(aa0 P (n+max t.dep u.dep)).call "_law_letters" [u.d] s=.ok (.int (u.cnt:Int)) s:=by
   have:=ihu (n+(max t.dep u.dep - u.dep)) s (by lia);rw[show n+(max t.dep u.dep - u.dep)+u.dep=n+max t.dep u.dep by lia]at this;exact this
  have cm:zX (λ z=>chk s z []) (zJ (aa0 P (n+max t.dep u.dep)) (.Y 0) (.call "_law_letters" (.ex (.X 0) .nil))) [t.d,u.d] [bY] s=.ok [.int (t.cnt:Int),.int (u.cnt:Int)] s:=by
   unfold zX;rw[ij (show chk s s []=ca from rfl),show zJ (aa0 P (n+max t.dep u.dep)) (.Y 0) (.call "_law_letters" (.ex (.X 0) .nil)) t.d [bY] s=.ok (aT (.int (t.cnt:Int)),[aT t.d]) s by unfold zJ;simp -implicitDefEqProofs only[qU,ev_call,evas_nil,evas_ex,R.bind_ok,qu,setV_0,qX,e1]];unfold zX;simp only[R.bind_ok];rw[ij (show chk s s []=ca from rfl),show zJ (aa0 P (n+max t.dep u.dep)) (.Y 0) (.call "_law_letters" (.ex (.X 0) .nil)) u.d [aT t.d] s=.ok (aT (.int (u.cnt:Int)),[aT u.d]) s by unfold zJ;simp -implicitDefEqProofs only[qU,ev_call,evas_nil,evas_ex,R.bind_ok,qu,setV_0,qX,e2]];unfold zX;simp only[R.bind_ok];rw[ij (show chk s s []=ca from rfl)];rfl
  have hm:=bv8 (l:=[t.cnt,u.cnt]) (by simp) (λ k hk=>by
   have:=t.cnt_sz;have:=u.cnt_sz;simp only[aw,bw,or_false]at hk;rcases hk with rfl|rfl<;>lia) s
  simp -implicitDefEqProofs only[qT,exs_nil,ex_ite,ex_ret,qU,ev_cst,ev_cmp,ev_ix,ev_mk,evI_seq,Cn_int,Cn_str,R.bind_ok,qX,qM,nxt_ret,tru_bl,if_false,Bool.false_eq_true,br7,q,aL5,Y,zO,sq];rw[ij (show([t.d,u.d]:List D).length<=LIM by unfold LIM;simp),show zM [aT (.tp [.str (cf3 b),t.d,u.d])] [bY]=[bY]from rfl,cm];have J:mk .sum [.int (t.cnt:Int),.int (u.cnt:Int)] s=.ok (.int (((Tr.two b t u).cnt:Nat):Int)) s:=by
   have:=hm;simp only[aY,cR]at this;rw[this];simp[Tr.cnt]
  simp -implicitDefEqProofs only[R.bind_ok,nxt_ret,fin_ret,J];exact ah2
end
set_option tactic.hygienic true in
def cb6 (h:ex F st U s=.ok (.next U1) s1):xB F (.seq st b) U s=xB F b U1 s1:=by
 show(match ex F st U s with|.ok (.next U1) s1=>xB F b U1 s1|_=>bY)=_;rw[h]
def cd4 (h:ev F c U s=.ok (.T b) s1):xB F (.iteT c a r) U s=if b=ca then xB F a U s1 else xB F r U s1:=by
 show(match ev F c U s with|.ok (.T b) s1=>if b then xB F a U s1 else xB F r U s1|_=>bY)=_;rw[h]
def bH4 (h:F.xc c=ca):xB F (.rais c) U s=aT (c,s):=by
 show(if F.xc c=ca then aT (c,s)else bY)=_;rw[ij h]
def aZ0 (h:ag3 F z U s=.ok l s1):xB F (.call f z) U s=F.xcall f l s1:=by
 show(match ag3 F z U s with|.ok l s1=>F.xcall f l s1|_=>bY)=_;rw[h]
noncomputable def bG1:List Nat:=[109,117,99,104]
def bn4:E:=.Z .gt (.G .sub (.bi .len (.cons (.attr (.X 1) ag2) .nil)) (.K (.int 1))) (.gl "MOST_SET_LETTERS")
def al6:Xf:=⟨1,1,.seq (.A (.Y 1) (.call "rooms_for" (.ex (.X 0) .nil))) (.iteT bn4 (.rais "TooMuch") .no)⟩
noncomputable def ae7:Xf:=⟨1,4,.call "few_rooms_for" (.ex (.X 0) .nil)⟩
noncomputable def af5:Xf:=⟨1,1,.kind⟩
def ab5:Tf:=⟨1,1,(.cons (.ex (.call "set_machine" (.ex (.X 0) .nil))) .nil),.call "set_machine" (.ex (.X 0) .nil), "TooMuch",1,.sup "TollError" (.kin "_law_kind" (.eq bG1)),(.cons (.ret (.K (.T dr))) .nil),.nil⟩
def cs3 [h:HasX P f af5]:(aa0 P n).kd f=true:=by
 have e:(aa0 P n).kd=bO5 P:=by cases n<;>rfl
 rw[e];unfold bO5;rw[h.at_];rfl
section
variable {P:Pr} [HasC P "MOST_SET_LETTERS" (.int 4)] [HasX P "few_rooms_for" al6] [HasX P "set_machine" ae7] [HasX P "_law_kind" af5] [HasT P "_law_refused" ab5] [h6:HasE P "TooMuch" ["NoMaking", "NoName", "NoPair", "NoPaper", "NoRow", "NoText", "NotSteady", "TollError", "TooLong", "TooMuch"]]
 [HasM P "Rooms" "link" aa5] [HasM P "Rooms" "lay_letter" aa2] [HasM P "Rooms" "lay" aa3] [HasM P "Rooms" "__init__" aa4] [HasA P "Rooms" ag2] [HasA P "Rooms" am1] [HasA P "Rooms" al2] [Has P ab1]
set_option tactic.hygienic true in
def aV0 (t:Tr)(Y:t.cnt<=40)(h4:4<t.cnt) n  s :(aa0 P (n+t.dep+5)).call "_law_refused" [t.d] s=.ok (.T ca) s:=by
 obtain⟨G,o,a,b,e,rs,Fo,En,e1,h,_⟩:=al5 (P:=P) t Y n s;have i1:=ao5 h.ins;have i2:bi .len [.ref a] (s++G)=.ok (.int ((t.cnt+1:Nat):Int)) (s++G):=by rw[ak0 h.let_,aq,aQ,aq,t.lt_len]
 have hd:decide ((4:Int)<((t.cnt+1:Nat):Int) - 1)=true:=iN (by lia);have J:∀ k,(aa0 P k).xc "TooMuch"=true:=λ k=>by rw[bR5.1];exact h6.at_
 have x1:(aa0 P (n+t.dep+3)).xcall "few_rooms_for" [t.d] s=aT ("TooMuch",s++G):=by
  have c0:(aa0 P (n+t.dep+3)).xcall "few_rooms_for" [t.d] s=_:=aD3 al6 (n:=n+t.dep+2) rfl;have xa:ex (aa0 P (n+t.dep+2)) (.A (.Y 1) (.call "rooms_for" (.ex (.X 0) .nil))) [aT t.d,bY] s=.ok (.next [aT t.d,aT (.ref o)]) (s++G):=by simp -implicitDefEqProofs only[ex_asg,qU,ev_call,evas_nil,evas_ex,R.bind_ok,qu,setV_s,setV_0,qX,Option.map_some,setC_some,e1]
  have xb:ev (aa0 P (n+t.dep+2)) bn4 [aT t.d,aT (.ref o)] (s++G)=.ok (.T ca) (s++G):=by
   unfold bn4;simp -implicitDefEqProofs only[qU,ev_cst,ev_bin,ev_cmp,ev_bi,evs_nil,evs_cons,Cn_int,R.bind_ok,qX,qY,sub_int,gt_int,qK,i1,i2,aG5 (v:=.int 4),hd]
  rw[c0,show(bq aT [t.d]++av al6.vs bY)=[aT t.d,bY]from rfl,show al6.body=.seq (.A (.Y 1) (.call "rooms_for" (.ex (.X 0) .nil))) (.iteT bn4 (.rais "TooMuch") .no)from rfl,cb6 xa,cd4 xb,ij rfl,bH4 (J _)]
 have x2:(aa0 P (n+t.dep+4)).xcall "set_machine" [t.d] s=aT ("TooMuch",s++G):=by
  have c0:(aa0 P (n+t.dep+4)).xcall "set_machine" [t.d] s=_:=aD3 ae7 (n:=n+t.dep+3) rfl;have Z:ag3 (aa0 P (n+t.dep+3)) (.ex (.X 0) .nil) [aT t.d,bY,bY,bY,bY] s=.ok [t.d] s:=by simp -implicitDefEqProofs only[qU,evas_nil,evas_ex,R.bind_ok,qX]
  rw[c0,show(bq aT [t.d]++av ae7.vs bY)=[aT t.d,bY,bY,bY,bY]from rfl,show ae7.body=.call "few_rooms_for" (.ex (.X 0) .nil)from rfl,aZ0 Z,x1]
 have z:(aa0 P (n+t.dep+5)).call "_law_refused" [t.d] s=_:=bA9 ab5 (n:=n+t.dep+4) rfl;rw[bm1 rfl]at z;have Z:ag3 (aa0 P (n+t.dep+4)) (.ex (.X 0) .nil) [aT t.d,bY] s=.ok [t.d] s:=by simp -implicitDefEqProofs only[qU,evas_nil,evas_ex,R.bind_ok,qX]
 have xe:xB (aa0 P (n+t.dep+4)) ab5.xb ([t.d].map aT++av ab5.vs bY) s=aT ("TooMuch",s++G):=(aZ0 Z).trans x2;unfold bp3 at z;rw[xe]at z;have hk:ab5.h.ok (aa0 P (n+t.dep+4)).xt=true:=by
  rw[bR5.2];have a:=λ x hx=>h6.ts x hx;show(P.xt "TollError"&&ab6.all P.xt)=ca;rw[a "TollError" (by decide),eL,aA];intro x hx;exact a x (by revert x;decide)
 have hc:ab5.tk "TooMuch"=ca/\(aa0 P (n+t.dep+4)).xc "TooMuch"=ca/\ab5.h.ok (aa0 P (n+t.dep+4)).xt=ca/\ab5.h.kok (aa0 P (n+t.dep+4)).kd=true:=⟨by decide,J _,hk,cs3 (P:=P) (f := "_law_kind")⟩
 have z:(aa0 P (n+t.dep+5)).call "_law_refused" [t.d] s=if ab5.tk "TooMuch"=ca/\(aa0 P (n+t.dep+4)).xc "TooMuch"=ca/\ab5.h.ok (aa0 P (n+t.dep+4)).xt=ca/\ab5.h.kok (aa0 P (n+t.dep+4)).kd=ca then ab5.h.out "TooMuch" s (s++G)else .B:=z;rw[ij hc]at z;rw[z];show zp s (.T (decide (ad3 "TooMuch"=bG1))) (s++G)=_;rw[show decide (ad3 "TooMuch"=bG1)=ca by decide];exact ah9 (λ n=>rfl) (by nofun)
end
noncomputable def wdI:Ss:=.cons (.ex (.ext (.X 5) (.comp (.Y 0) (.seq (.K (.str [97,98,99]))) (.G .add (.X 1) (.X 0)) [bY,aT 6]))) .nil
def wdA:Ss:=.cons (.A (.Y 5) (.J .nil)) (.cons (.fo (.Y 6) (.seq (.X 3)) wdI) (.cons (.ex (.extS (.X 2) (.X 5))) (.cons (.A (.Y 3) (.X 5)) .nil)))
noncomputable def wdB:Ss:=.cons (.A (.Y 8) (.slU (.call "_law_member" (.ex (.X 0) (.ex (.X 1) (.ex (.J (.cons (.K (.int 20)) .nil)) .nil)))) (.K (.int 40)))) (.cons (.ex (.ext (.X 2) (.disp (.cons (.X 8) (.cons (.slU (.call "_law_spoilt" (.ex (.X 0) (.ex (.X 8) .nil))) (.K (.int 40))) .nil))))) .nil)
def aT5:ac2.body=.cons (.A (.Y 2) (.J (.cons (.K (.str [])) .nil))) (.cons (.A (.Y 3) (.J (.cons (.K (.str [])) .nil))) (.cons (.fo (.Y 4) (.rg (.K (.int 3))) wdA) (.cons (.fo (.Y 7) (.rg (.K (.int 3))) wdB) (.cons (.ret (.G .add (.X 2) (.J (.cons (.call "_law_word" (.ex (.X 0) (.ex (.K (.int 3)) (.ex (.K (.int 40)) .nil)))) .nil)))) .nil)))):=rfl
set_option tactic.hygienic true
def bp5 {F:Fns}{Uu:Sto}{G:List D}{w:List Nat}{k:Nat}(hw:w.length<=k)(hk:k<=100)(hG:WL (k+1) G)(hl:G.length<=1000)(x0 x1 x2 x3 x4 x6 Y x8:Option D) :
  ∃ Z,WL (k+1) Z/\Z.length=G.length+3/\turn F (.Y 6) wdI (.str w) [x0,x1,x2,x3,x4,aT (.ref Uu.length),x6,Y,x8] (Uu++[.J G])=.ok (.next [x0,x1,x2,x3,x4,aT (.ref Uu.length),aT (.str w),Y,x8]) (Uu++[.J Z]):=by
 have sq:∀ s,am0 (.str [97,98,99]) s=.ok ⟨[.str [97],.str [98],.str [99]],[]⟩ s:=λ _=>rfl;have cm:=ag7 (g:=zJ F (.Y 0) (.G .add (.X 1) (.X 0))) (ok:=λ z=>chk (Uu++[.J G]) z []) (u:=Uu++[.J G]) rfl (λ U=>∃ x,U=[x,aT (.str w)]) (λ d=>match d with|.str c=>.str (w++c)|d=>d) [.str [97],.str [98],.str [99]] [bY,aT (.str w)] ⟨bY,rfl⟩ (by
  rintro d hd U ⟨x,rfl⟩
  obtain⟨c,rfl⟩:∃ c:Nat,d=.str [c]:=by
   simp only[aw,bw,or_false]at hd;rcases hd with rfl|rfl|rfl<;>exact⟨_,rfl⟩
  have ha:qi .add (.str w) (.str [c]) (Uu++[.J G])=.ok (.str (w++[c])) (Uu++[.J G]):=af7 (by unfold LIM;simp;lia);refine⟨[aT (.str [c]),aT (.str w)],?_,_,rfl⟩;unfold zJ;simp -implicitDefEqProofs only[qU,ev_bin,R.bind_ok,qu,setV_0,qX,qY,ha])
 have hx:=aF7 (S:=Uu++[.J G]) (k:=Uu.length) (l:=G) (m:=[.str (w++[97]),.str (w++[98]),.str (w++[99])]) qC (by unfold LIM;simp;lia);rw[ai1]at hx;refine⟨G++[.str (w++[97]),.str (w++[98]),.str (w++[99])],hG.app λ d hd=>?_,by simp,?_⟩
 .simp only[aw,bw,or_false]at hd;rcases hd with rfl|rfl|rfl<;>exact⟨_,rfl,by simp;omega⟩
 .have J:zX (λ z=>chk (Uu++[.J G]) z []) (zJ F (.Y 0) (.G .add (.X 1) (.X 0))) [.str [97],.str [98],.str [99]] [bY,aT (.str w)] (Uu++[.J G])=.ok [.str (w++[97]),.str (w++[98]),.str (w++[99])] (Uu++[.J G]):=cm;unfold turn wdI;simp -implicitDefEqProofs only[qT,ex_ex,qU,ev_cst,evI_seq,Cn_str,R.bind_ok,qu,setV_s,setV_0,qX,qY,Option.map_some,bv0,an0,zO,sq];rw[ij (show([.str [97],.str [98],.str [99]]:List D).length<=LIM by unfold LIM;simp),show zM [x0,x1,x2,x3,x4,aT (.ref Uu.length),aT (.str w),Y,x8] [bY,aT 6]=[bY,aT (.str w)]from rfl,J];simp -implicitDefEqProofs only[an0,exs_nil,R.bind_ok,qM,hx]
def bu6 (hA:T[0]?=aT (.J A))(hB:(s++T)[q]?=aT (.J B))(kA:WL 3 A)(kB:WL k B)(hk:k<3)(lA:A.length<=3^(k+1))(lB:B.length<=3^k) d x0 x1 x4 x5 x6 J Y :
  ∃ T' G q' z6,T'[0]?=aT (.J (A++G))/\(s++T')[q']?=aT (.J G)/\WL 3 (A++G)/\WL (k+1) G/\(A++G).length<=3^(k+2)/\G.length<=3^(k+1) /\
   turn F (.Y 4) wdA d [x0,x1,aT (.ref s.length),aT (.ref q),x4,x5,x6,J,Y] (s++T)=.ok (.next [x0,x1,aT (.ref s.length),aT (.ref q'),aT d,aT (.ref q'),z6,J,Y]) (s++T'):=by
 have a3:B.length<=9:=ak lB (by rcases(by lia:k=0\/k=1\/k=2)with rfl|rfl|rfl<;>decide);have key:=qH (ok:=λ t=>chk (s++T++[.J []]) t [q]) (g:=turn F (.Y 6) wdI) (λ i U t=>∃ G z,t=s++T++[.J G]/\WL (k+1) G/\G.length=3*i/\U=[x0,x1,aT (.ref s.length),aT (.ref q),aT d,aT (.ref (s++T).length),z,J,Y]) B 0 [x0,x1,aT (.ref s.length),aT (.ref q),aT d,aT (.ref (s++T).length),x6,J,Y] (s++T++[.J []]) ⟨[],x6,rfl,λ d hd=>(by cases hd),rfl,rfl⟩ (by
   rintro j U t _ ⟨G,z,rfl,_⟩
   unfold chk;have hq:q<(s++T).length:=(ac.mp hB).1;simp only[dR,lZ,gS,oR];rw[ax hq,ax hq]) (by
   rintro j d' U t hj ⟨G,z,rfl,Z,h2,rfl⟩
   obtain⟨w,rfl,hw⟩:=kB d' (aP hj);have a5:j<B.length:=(ac.mp hj).1;obtain⟨G',g1,g2,g3⟩:=bp5 (F:=F) (Uu:=s++T) (G:=G) hw (by lia) Z (by lia) x0 x1 (aT (.ref s.length)) (aT (.ref q)) (aT d) z J Y;exact⟨_,_,.inl g3,G',_,rfl,g1,by lia,rfl⟩)
 obtain⟨U',s',ek,G,z,rfl,Z,h2,rfl⟩:=key;have a0:am0 (.ref q) (s++T++[.J []])=.ok ⟨B,[q]⟩ (s++T++[.J []]):=by simp only[am0,zb (t:=[.J []]) hB]
 have a6:0<T.length:=(ac.mp hA).1;have a1:(s++T)[s.length]?=aT (.J A):=by rw[aK (al _),cT];exact hA
 have a2:G.length<=3^(k+1):=by rw[h2,bG,f8];lia
 have a4:A.length<=27:=ak lA (by rcases(by lia:k=0\/k=1\/k=2)with rfl|rfl|rfl<;>decide);have hx:=bb3 (s:=s++T++[.J G]) (a:=s.length) (b:=(s++T).length) (l:=A) (m:=G) (zb a1) qC (by rw[au];lia) (by unfold LIM;lia);rw[aN,fQ,iF (by lia),cT]at hx;refine⟨(T++[O.J G]).set 0 (O.J (A++G)),G,(s++T).length,z,?_,?_,kA.app (Z.mono (by lia)),Z,?_,a2,?_⟩
 .exact zy (by simp)
 .rw[aK (by simp),ar (by simp;lia),au,cy];exact qC
 .rw[au,f8 3 (k+1)];lia
 .unfold turn wdA;simp -implicitDefEqProofs only[qT,ex_asg,ex_for,qU,ev_lst,evs_nil,evI_seq,R.bind_ok,qu,setV_s,setV_0,qX,qY,Option.map_some,setC_some,qM,alloc_eq,a0];rw[ek];simp -implicitDefEqProofs only[an0,qT,ex_ex,qU,R.bind_ok,qX,qY,qM,bh5,an0];rw[aN]at *;rw[hx];simp -implicitDefEqProofs only[qT,exs_nil,ex_asg,qU,R.bind_ok,qu,setV_s,setV_0,qX,qY,Option.map_some,setC_some,qM]
set_option tactic.hygienic false
section
variable {P:Pr} [Has P ad4] [Has P ab4] [Has P ac5] [Has P al3] [Has P ac2]
def bO2 {s T:Sto}(hr:r<s.length) b z y :SS (s.set r (zm b)++T++[.J [.int 20]]) r (s.set r (zm b)++T).length z y=s.set r (zm z)++(T++[.J [.int y]]):=by
 unfold SS;rw[aN,aj3 (by simpa using hr),cH,<-aN];have e:(s.set r (zm b)++T).length=(s.set r (zm z)++T).length:=by simp
 rw[e,ai1,aN]
set_option tactic.hygienic true in
def bu0 n {t:Tr}(h3:t.sz<=40)(hd:t.dep<=n+14){s :Sto}(hr:r<s.length) b (hA:T[0]?=aT (.J A))(kA:WL 40 A)(lA:A.length<=900) d x3 x4 x5 x6 x7 x8 :
  ∃ b' T' A' y8,T'[0]?=aT (.J A')/\WL 40 A'/\A'.length=A.length+2 /\
   turn (aa0 P (n+15)) (.Y 7) wdB d [aT (.ref r),aT t.d,aT (.ref s.length),x3,x4,x5,x6,x7,x8] (s.set r (zm b)++T)=.ok (.next [aT (.ref r),aT t.d,aT (.ref s.length),x3,x4,x5,x6,aT d,y8]) (s.set r (zm b')++T'):=by
 have a5:∃ b0,(s.set r (zm b)++T)[r]?=aT (zm b0):=⟨b,zb (zy hr)⟩
 have b3:r<(s.set r (zm b)++T).length:=by simp;lia
 obtain⟨m,b1,y1,hm,em⟩:=qr (P:=P) (r:=r) (q:=(s.set r (zm b)++T).length) (by lia) t (n+14 - t.dep) h3 (s.set r (zm b)++T++[.J [.int 20]]) 20 (ar7 a5) qC (by decide);rw[show n+14 - t.dep+t.dep+1=n+15 by omega,bO2 hr]at em;have J:=cc5 m;generalize a3:ag1 m bY (aT 40)=w1 at J;have a2:∃ b0,(s.set r (zm b1)++(T++[.J [.int y1]]))[r]?=aT (zm b0):=⟨b1,zb (zy hr)⟩
 obtain⟨m2,Y,a6,e2⟩:=aZ6 (P:=P) (n+13) a2 J;rw[aj3 (by simpa using hr),cH]at e2;have a0:=cc5 m2;generalize Z:ag1 m2 bY (aT 40)=w2 at a0;have a4:0<T.length:=(ac.mp hA).1;have z:∀ c,(s.set r (zm c)++(T++[O.J [D.int y1]]))[s.length]?=aT (.J A):=λ c=>by rw[aK (by simp),aU,cT,ax a4];exact hA
 have a1:∀ q,mkq (.ref s.length) (s.set r (zm b1)++(T++[O.J [D.int y1]])) (s.set r (zm Y)++(T++[O.J [D.int y1]])) q=q:=λ q=>aJ4 (z b1) (z Y);have hx:=aF7 (S:=s.set r (zm Y)++(T++[.J [.int y1]])) (k:=s.length) (l:=A) (m:=[.str w1,.str w2]) (z Y) (by unfold LIM;simp;lia);rw[fQ,aU,iF (by lia),cT]at hx;refine⟨Y,(T++[O.J [D.int y1]]).set 0 (O.J (A++[D.str w1,D.str w2])),A++[D.str w1,D.str w2],aT (.str w1),zy (by simp),kA.app λ d hd=>?_,by simp,?_⟩
 .simp only[aw,bw,or_false]at hd;rcases hd with rfl|rfl
  .exact⟨_,rfl,J⟩
  .exact⟨_,rfl,a0⟩
 .unfold turn wdB;simp -implicitDefEqProofs only[qT,exs_nil,ex_asg,ex_ex,qU,ev_cst,ev_lst,ev_call,evs_nil,evs_cons,evas_nil,evas_ex,Cn_int,R.bind_ok,qu,setV_s,setV_0,qX,qY,Option.map_some,setC_some,qM,alloc_eq,a1,em,bc1,slS,a3,bv0,an0,a1,bp6,e2,Z,hx]
def bq4 n {t:Tr}(h3:t.sz<=40)(hd:t.dep<=n+14)(hs:∃ b,s[r]?=aT (zm b)) :
  ∃ ws b,WL 40 ws/\ws.length<=1000/\(aa0 P (n+16)).call "_law_words" [.ref r,t.d] s=.ok (.ref s.length) (s.set r (zm b)++[.J ws]):=by
 have e0:(aa0 P (n+16)).call "_law_words" [.ref r,t.d] s=_:=ze ac2 rfl;have hr:=aq2 hs;obtain⟨b0,c0⟩:=hs;rw[e0,aT5,show(bq aT [D.ref r,t.d]++av ac2.vs bY)=[aT (.ref r),aT t.d,bY,bY,bY,bY,bY,bY,bY]from rfl];have r3:∀ u,aA7 (.int 3) u=.ok ⟨af8 0 3,[]⟩ u:=λ u=>qo (by unfold Ww62;lia) (by unfold Ww62;lia);have key:=qH (ok:=λ u=>chk (s++[O.J [D.str []]]++[O.J [D.str []]]) u []) (λ k U u=>∃(T:Sto) (A B:List D) (q:Nat) (y4 Y y6:Option D),k<=3/\u=s++T/\T[0]?=aT (.J A)/\(s++T)[q]?=aT (.J B)/\WL 3 A/\WL k B/\A.length<=3^(k+1)/\B.length<=3^k/\U=[aT (.ref r),aT t.d,aT (.ref s.length),aT (.ref q),y4,Y,y6,bY,bY]) (af8 0 3) 0 [aT (.ref r),aT t.d,aT (.ref s.length),aT (.ref (s++[O.J [D.str []]]).length),bY,bY,bY,bY,bY] (s++[O.J [D.str []]]++[O.J [D.str []]])
  ⟨[O.J [D.str []],O.J [D.str []]],[.str []],[.str []],_,_,_,_,by lia,by simp,rfl,by rw[show s++[O.J [D.str []],O.J [D.str []]]=s++[O.J [D.str []]]++[O.J [D.str []]]by simp];exact qC,λ d hd=>⟨[],az.mp hd,by simp⟩,λ d hd=>⟨[],az.mp hd,by simp⟩,by decide,by decide,rfl⟩ (λ _ _ _ _ _=>rfl) (by
   rintro k d U u hk ⟨T,A,B,q,y4,Y,y6,b9,rfl,a1,a2,a3,a4,a5,a6,rfl⟩
   have b1:=by have:=(ac.mp hk).1;simpa [af8]using this
   rw[bG]at *;obtain⟨T',G,q',z6,c1,c2,c3,c4,c5,c6,c7⟩:=bu6 (F:=aa0 P (n+15)) a1 a2 a3 a4 b1 a5 a6 d (aT (.ref r)) (aT t.d) y4 Y y6 bY bY;exact⟨_,_,.inl c7,T',A++G,G,q',_,_,_,by lia,rfl,c1,c2,c3,c4,c5,c6,rfl⟩)
 obtain⟨U1,u1,ek,T,A,B,q,y4,Y,y6,_,rfl,a1,a2,a3,a4,a5,a6,rfl⟩:=key;have b2:(0:Nat)+(af8 0 3).length=3:=by simp[af8]
 rw[b2]at a5;have a0:s=s.set r (zm b0):=by
  refine fh λ i=>?_;by_cases hi:r=i
  .subst hi;rw[zy hr,c0]
  .rw[ar hi]
 have b5:=qH (ok:=λ u=>chk (s++T) u []) (g:=turn (aa0 P (n+15)) (.Y 7) wdB) (λ k U u=>∃(b:Nat×Nat) (T:Sto) (A:List D) (y7 y8:Option D),k<=3/\u=s.set r (zm b)++T/\T[0]?=aT (.J A)/\WL 40 A/\A.length<=81+2*k/\U=[aT (.ref r),aT t.d,aT (.ref s.length),aT (.ref q),y4,Y,y6,y7,y8]) (af8 0 3) 0 [aT (.ref r),aT t.d,aT (.ref s.length),aT (.ref q),y4,Y,y6,bY,bY] (s++T)
  ⟨b0,T,A,_,_,by lia,by rw[<-a0],a1,a3.mono (by lia),by omega,rfl⟩ (λ _ _ _ _ _=>rfl) (by
   rintro k d U u hk ⟨b,T,A,y7,y8,b9,rfl,c1,c2,c3,rfl⟩
   have b1:k<3:=by have:=(ac.mp hk).1;simpa [af8]using this
   obtain⟨b',T',A',z8,d1,d2,d3,d4⟩:=bu0 (P:=P) n h3 hd hr b c1 c2 (by lia) d (aT (.ref q)) y4 Y y6 y7 y8;exact⟨_,_,.inl d4,b',T',A',_,_,by lia,rfl,d1,d2,by lia,rfl⟩)
 obtain⟨U2,u2,e1,b,J,A2,y7,y8,_,rfl,c1,c2,c3,rfl⟩:=b5;rw[b2]at c3;obtain⟨z,Z,b4,e3⟩:=bd7 (P:=P) (n+13) (s:=s.set r (zm b)++J) (r:=r) ⟨b,zb (zy hr)⟩;rw[aj3 (by simpa using hr),cH]at e3;have d0:0<J.length:=(ac.mp c1).1;have b6:=aO4 (s:=s.set r (zm Z)++J++[.J [.str z]]) (a:=s.length) (b:=(s.set r (zm Z)++J).length) (l:=A2) (m:=[.str z]) (by rw[aN,aK (by simp),aU,cT,ax d0];exact c1) qC (by unfold LIM;simp;lia);refine⟨A2++[.str z],Z,c2.app λ d hd=>⟨z,az.mp hd,b4⟩,by simp;lia,?_⟩;simp -implicitDefEqProofs only[qT,ex_asg,ex_for,ev_cst,ev_lst,evs_nil,evs_cons,evI_rng1,Cn_int,Cn_str,R.bind_ok,qu,setV_s,setV_0,Option.map_some,setC_some,qM,alloc_eq,r3];rw[ek];simp -implicitDefEqProofs only[qT,ex_for,ev_cst,evI_rng1,Cn_int,R.bind_ok,qM,r3];rw[e1];simp -implicitDefEqProofs only[qT,ex_ret,qU,ev_cst,ev_bin,ev_lst,ev_call,evs_nil,evs_cons,evas_nil,evas_ex,Cn_int,R.bind_ok,qX,qY,qM,nxt_ret,fin_ret,alloc_eq,e3,b6];have hb:(O.J (A2++[.str z])).bnd s.length=true:=by
  unfold O.bnd;refine qA (λ d hd n=>?_) _;obtain⟨w,rfl,_⟩:=(c2.app (m:=[.str z]) λ d hd=>⟨z,az.mp hd,b4⟩) d hd;rfl
 have hc:=ax4 (s:=s) (T:=J++[.J [.str z]]++[.J (A2++[.str z])]) (r:=r) (j:=(J++[O.J [.str z]]).length) (b:=Z) (o:=.J (A2++[.str z])) hr qC hb;rw[show s.set r (zm Z)++J++[.J [.str z]]++[.J (A2++[.str z])]=s.set r (zm Z)++(J++[.J [.str z]]++[.J (A2++[.str z])])by simp,show(s.set r (zm Z)++J++[O.J [.str z]]).length=s.length+(J++[O.J [.str z]]).length by simp];exact hc
end
noncomputable def cf8:Ss:=.cons (.A (.Y 4) (.Z .eq (.G .band (.G .shr (.ix (.call "_law_ends" (.ex (.X 1) (.ex (.X 3) .nil))) (.K (.int 0))) (.bi .len (.cons (.X 3) .nil))) (.K (.int 1))) (.K (.int 1)))) (.cons (.ite (.Z .ne (.call "_law_price" (.ex (.X 2) (.ex (.X 3) .nil))) (.ix (.J (.cons (.K .N) (.cons (.K (.int 0)) .nil))) (.bi .int (.cons (.X 4) .nil)))) (.cons (.ret (.K (.T dr))) .nil) .nil) .nil)
def aS5:ac7.body=.cons (.ite (.Z .gt (.call "_law_letters" (.ex (.X 1) .nil)) (.K (.int 4))) (.cons (.ret (.call "_law_refused" (.ex (.X 1) .nil))) .nil) .nil) (.cons (.A (.Y 2) (.call "set_machine" (.ex (.X 1) .nil))) (.cons (.ite (.not (.call "_law_is_machine" (.ex (.X 2) (.ex (.K (.int 3)) .nil)))) (.cons (.ret (.K (.T dr))) .nil) .nil) (.cons (.fo (.Y 3) (.seq (.call "_law_words" (.ex (.X 0) (.ex (.X 1) .nil)))) cf8) (.cons (.ret (.K (.T ca))) .nil)))):=rfl
section
variable {P:Pr} [Has P ac3] [Has P ad8] [Has P ad6] [Has P ac6]
set_option tactic.hygienic true in
def bQ8 n (hM:SetM t m)(hd:t.dep<=n+14)(hw:w.length<=40) S x0 x3 x4 :
  ∃ T y4,turn (aa0 P (n+16)) (.Y 3) cf8 (.str w) [x0,aT t.d,aT m.d,x3,x4] S=.ok (.next [x0,aT t.d,aT m.d,aT (.str w),y4]) (S++T):=by
 obtain⟨J,e1,hB⟩:=an2 (P:=P) t (n+14 - t.dep) hw S;rw[show n+14 - t.dep+t.dep+2=n+16 by omega]at e1;have Y:∀ u,bi .len [.str w] u=.ok (.int w.length) u:=λ u=>rfl;have i1:ixM (.ref S.length) (.int 0) (S++[.J (zd J)])=.ok (.int ((J.getD 0 0:Nat):Int)) (S++[.J (zd J)]):=zB (j:=0) qC (qE (by rw[hB.len];lia));have i2:=bW6 (J.getD 0 0) w.length (S++[.J (zd J)]);have i3:=bV9 (J.getD 0 0 / 2^w.length) (S++[.J (zd J)]);have hb:=hB.bit 0 (cW _) w.length;rw[fi,oR]at hb;obtain⟨o,ho,ep⟩:=bo1 (P:=P) (n+15) hM.ok w (by lia) (S++[.J (zd J)]);have hl:(S++[O.J (zd J)]++[O.J [D.N,.int 0]])[(S++[O.J (zd J)]).length]?=aT (.J [.N,.int 0]):=qC;by_cases z:Mt' w t 0 w.length
 .have Z:=ho.eq (o':=aT 0) ⟨(hM.wk w 0).mpr ⟨rfl,z⟩,λ c hc=>by rw[((hM.wk w c).mp hc).1];exact eS _⟩ λ _=>l9;subst Z;have i4:zh .eq (.int ((J.getD 0 0 / 2^w.length % 2:Nat):Int)) (.int 1) (S++[.J (zd J)])=.ok (.T ca) (S++[.J (zd J)]):=by rw[hb.mpr z];rfl
  have ix:ixM (.ref (S++[O.J (zd J)]).length) (.int 1) (S++[O.J (zd J)]++[O.J [D.N,.int 0]])=.ok (.int 0) _:=zB (j:=1) hl rfl;refine⟨[.J (zd J)]++[O.J [D.N,.int 0]],aT (.T ca),?_⟩;rw[<-aN];unfold turn cf8;simp -implicitDefEqProofs only[qu,setV_s,setV_0,cO,qT,ex_asg,ev_cmp,ev_bin,ev_ix,ev_call,evas_ex,evas_nil,qU,qX,qY,R.bind_ok,e1,ev_cst,Cn_int,i1,ev_bi,evs_cons,evs_nil,Y,i2,i3,i4,setC_some,qM];simp -implicitDefEqProofs only[qT,exs_nil,ex_ite,ex_ret,qU,ev_cst,ev_cmp,ev_lst,ev_ix,ev_call,ev_bi,evs_nil,evs_cons,evas_nil,evas_ex,Cn_bl,Cn_int,Cn_non,R.bind_ok,qX,qY,qM,nxt_ret,ne_int,alloc_eq,tru_bl,if_true,if_false,Bool.false_eq_true,decide_true,Bool.not_true,ep,aE6,ax2,ix]
 .have Z:o=none:=ho.eq (S':=m.Wk w) (o':=bY) (λ c hc=>z ((hM.wk w c).mp hc).2) λ _=>l9;subst Z;have hz:¬ J.getD 0 0 / 2^w.length % 2=1:=λ y=>z (hb.mp y);have i4:zh .eq (.int ((J.getD 0 0 / 2^w.length % 2:Nat):Int)) (.int 1) (S++[.J (zd J)])=.ok (.T dr) (S++[.J (zd J)]):=by
   rw[show J.getD 0 0 / 2^w.length % 2=0 by lia];rfl
  have ix:ixM (.ref (S++[O.J (zd J)]).length) (.int 0) (S++[O.J (zd J)]++[O.J [D.N,.int 0]])=.ok .N _:=zB (j:=0) hl rfl;have nn:zh .ne .N .N (S++[O.J (zd J)]++[O.J [D.N,.int 0]])=.ok (.T dr) (S++[O.J (zd J)]++[O.J [D.N,.int 0]]):=rfl;refine⟨[.J (zd J)]++[O.J [D.N,.int 0]],aT (.T dr),?_⟩;rw[<-aN];unfold turn cf8;simp -implicitDefEqProofs only[qu,setV_s,setV_0,cO,qT,ex_asg,ev_cmp,ev_bin,ev_ix,ev_call,evas_ex,evas_nil,qU,qX,qY,R.bind_ok,e1,ev_cst,Cn_int,i1,ev_bi,evs_cons,evs_nil,Y,i2,i3,i4,setC_some,qM];simp -implicitDefEqProofs only[qT,exs_nil,ex_ite,ex_ret,qU,ev_cst,ev_cmp,ev_lst,ev_ix,ev_call,ev_bi,evs_nil,evs_cons,evas_nil,evas_ex,Cn_bl,Cn_int,Cn_non,R.bind_ok,qX,qY,qM,nxt_ret,alloc_eq,tru_bl,if_false,Bool.false_eq_true,ep,ao4,ax2,ix,nn]
variable [HasC P "LETTERS" (.tp bL4)] [HasC P "MOST_SET_LETTERS" (.int 4)] [Has P ab0] [Has P ab2] [Has P aa9] [Has P aa7]
 [HasM P "Rooms" "link" aa5] [HasM P "Rooms" "lay_letter" aa2] [HasM P "Rooms" "lay" aa3] [HasM P "Rooms" "__init__" aa4] [HasA P "Rooms" ag2] [HasA P "Rooms" am1] [HasA P "Rooms" al2] [Has P ab1]
 [HasX P "few_rooms_for" al6] [HasX P "set_machine" ae7] [HasX P "_law_kind" af5] [HasT P "_law_refused" ab5] [HasE P "TooMuch" ["NoMaking", "NoName", "NoPair", "NoPaper", "NoRow", "NoText", "NotSteady", "TollError", "TooLong", "TooMuch"]]
 [Has P ab3] [Has P ad4] [Has P ab4] [Has P ac5] [Has P al3] [Has P ac2] [Has P ab7] [Has P zD] [Has P zF] [Has P zw] [Has P ac7]
def bD4  n {t:Tr}(k:t.ok)(h2:t.dep<=8)(h3:t.sz<=40)(hs:∃ b,s[r]?=aT (zm b)):∃ b,(aa0 P (n+17)).call "_law_right" [.ref r,t.d] s=.ok (.T ca) (s.set r (zm b)):=by
 have e0:(aa0 P (n+17)).call "_law_right" [.ref r,t.d] s=_:=ze ac7 rfl;have hr:=aq2 hs;have hc:=t.cnt_sz;rw[e0,aS5,show(bq aT [D.ref r,t.d]++av ac7.vs bY)=[aT (.ref r),aT t.d,bY,bY,bY]from rfl];have Y:=bc7 (P:=P) t (n+16 - t.dep) s (by lia);rw[show n+16 - t.dep+t.dep=n+16 by lia]at Y;by_cases h4:4<t.cnt
 .have er:=aV0 (P:=P) t (by lia) h4 (n+11 - t.dep) s;rw[show n+11 - t.dep+t.dep+5=n+16 by lia]at er;obtain⟨b0,a1⟩:=hs;have J:s.set r (zm b0)=s:=by
   refine fh λ i=>?_;by_cases hi:r=i
   .subst hi;rw[zy hr,a1]
   .rw[ar hi]
  have z:decide ((4:Int)<(t.cnt:Int))=true:=iN (by lia);refine⟨b0,?_⟩;rw[J];simp -implicitDefEqProofs only[qT,exs_nil,ex_ite,ex_ret,qU,ev_cst,ev_cmp,ev_call,evas_nil,evas_ex,Cn_int,R.bind_ok,qX,qY,nxt_ret,fin_ret,gt_int,tru_bl,if_true,Y,z,er];exact aM8
 .have z:decide ((4:Int)<(t.cnt:Int))=false:=js (by lia);obtain⟨m,hM,em⟩:=bK5 (P:=P) t (by lia) k (n+12 - t.dep) s;rw[show n+12 - t.dep+t.dep+4=n+16 by lia]at em;have ei:=as8 (P:=P) (n+13) hM.ok s;rw[hM.L]at ei;have a0:(aa0 P (n+16)).call "_law_is_machine" [m.d,.int 3] s=.ok (.T ca) s:=ei;obtain⟨ws,b,hw,a3,ew⟩:=bq4 (P:=P) n h3 (by lia) hs;have hq:(s.set r (zm b)++[O.J ws])[s.length]?=aT (.J ws):=by rw[aK (by simp),aU,cT];rfl
  have sq:am0 (.ref s.length) (s.set r (zm b)++[O.J ws])=.ok ⟨ws,[s.length]⟩ (s.set r (zm b)++[O.J ws]):=by simp only[am0,hq]
  refine⟨b,?_⟩;simp -implicitDefEqProofs only[qT,exs_nil,ex_asg,ex_ite,ex_ret,ex_for,qU,ev_cst,ev_not,ev_cmp,ev_call,evas_nil,evas_ex,evI_seq,Cn_bl,Cn_int,R.bind_ok,qu,setV_s,setV_0,qX,qY,Option.map_some,setC_some,qM,nxt_ret,gt_int,tru_bl,if_false,Bool.false_eq_true,Bool.not_true,Y,z,em,a0,ew,sq]
  try rw[R.bind_assoc]
  refine am4 (λ j U u=>∃(T:Sto) (x3 x4:Option D),u=s.set r (zm b)++.J ws::T/\U=[aT (.ref r),aT t.d,aT m.d,x3,x4]) ⟨[],_,_,rfl,rfl⟩ ?_ ?_ ?_
  .rintro j U u _ ⟨T,x3,x4,rfl,rfl⟩
   unfold chk;have Z:(s.set r (zm b)++O.J ws::T)[s.length]?=aT (.J ws):=by rw[aK (by simp),aU,cT];rfl
   simp[Z,hq]
  .rintro j d U u hj ⟨T,x3,x4,rfl,rfl⟩
   obtain⟨w,rfl,a2⟩:=hw d (aP hj);obtain⟨T',y4,et⟩:=bQ8 (P:=P) n hM (by lia) a2 (s.set r (zm b)++O.J ws::T) (aT (.ref r)) x3 x4;exact jd et ⟨T++T',_,_,by rw[aN,cZ],rfl⟩
  .rintro U u ⟨T,x3,x4,rfl,rfl⟩
   simp -implicitDefEqProofs only[qT,ex_ret,ev_cst,Cn_bl,R.bind_ok,qM,nxt_ret,fin_ret];exact ao8 (λ _=>rfl) (by nofun) rfl
end
noncomputable def co4:Ss:=(.cons (.A (.Y 3) (.call "_law_bag" (.ex (.X 0) (.ex (.X 2) .nil)))) (.cons (.A (.Y 4) (.ix (.J (.cons (.K (.int 4)) (.cons (.K (.int 4)) (.cons (.K (.int 4)) (.cons (.K (.int 8)) .nil))))) (.call "_law_take" (.ex (.X 3) (.ex (.K (.int 4)) .nil))))) (.cons (.ex (.me .append (.X 1) (.cons (.call "_law_set" (.ex (.X 3) (.ex (.G .add (.K (.int 1)) (.call "_law_take" (.ex (.X 3) (.ex (.K (.int 8)) .nil)))) (.ex (.G .add (.K (.int 1)) (.call "_law_take" (.ex (.X 3) (.ex (.K (.int 24)) .nil)))) (.ex (.J (.cons (.X 4) .nil)) .nil))))) .nil))) .nil)))
noncomputable def cn2:S:=(.ret (.mk .all (.comp (.Y 0) (.seq (.G .add (.X 1) (.slU (.X 1) (.K (.int 1))))) (.call "_law_right" (.ex (.X 1) (.ex (.X 0) .nil))) [bY,aT 3])))
def bU1:ab9.body=(.cons (.A (.Y 1) (.J .nil)) (.cons (.fo (.Y 2) (.rg (.K (.int 2))) co4) (.cons (.A (.Y 3) (.call "_law_bag" (.ex (.X 0) (.ex (.K (.int 2)) .nil)))) (.cons cn2 .nil)))):=rfl
def TrQ (t:Tr):Prop:=t.ok/\t.dep<=8/\t.sz<=40
def bV5 (l:List D) s :mk .all (l.map λ _=>D.T ca) s=.ok (.T ca) s:=by
 show(match ag0 (l.map λ _=>D.T ca)with|some bs=>R.ok (D.T (bs.all id)) s|none=>.B)=_;have e:∀ l:List D,ag0 (l.map λ _=>D.T ca)=aT (l.map λ _=>ca):=λ l=>by
  induction l with
  | nil=>rfl
  | cons a l ih=>rw[aY];unfold ag0;rw[ih];rfl
 rw[e];show R.ok (D.T ((l.map λ _=>ca).all id)) s=_
 congr 2
 rw[aA];intro x hx;obtain⟨_,_,rfl⟩:=aS.mp hx;rfl
section
variable {P:Pr} [Has P ac3] [Has P ad8] [Has P ad6] [Has P ac6] [HasC P "LETTERS" (.tp bL4)] [HasC P "MOST_SET_LETTERS" (.int 4)] [Has P ab0] [Has P ab2] [Has P aa9] [Has P aa7]
 [HasM P "Rooms" "link" aa5] [HasM P "Rooms" "lay_letter" aa2] [HasM P "Rooms" "lay" aa3] [HasM P "Rooms" "__init__" aa4] [HasA P "Rooms" ag2] [HasA P "Rooms" am1] [HasA P "Rooms" al2] [Has P ab1]
 [HasX P "few_rooms_for" al6] [HasX P "set_machine" ae7] [HasX P "_law_kind" af5] [HasT P "_law_refused" ab5] [HasE P "TooMuch" ["NoMaking", "NoName", "NoPair", "NoPaper", "NoRow", "NoText", "NotSteady", "TollError", "TooLong", "TooMuch"]]
 [Has P ab3] [Has P ad4] [Has P ab4] [Has P ac5] [Has P al3] [Has P ac2] [Has P ab7] [Has P zD] [Has P zF] [Has P zw] [Has P ac7]
 [Has P ab9] [Has P ay0] [Has P jc]
def bP9 (n:Nat):bT8 P (n+18):=by
 intro ns hl;have e0:(aa0 P (n+18)).call "law" [.ref 0] [.ro (ns.map D.int)]=_:=ze ab9 (n:=n+17) rfl;rw[e0,bU1,show(bq aT [D.ref 0]++av ab9.vs bY)=[aT (.ref 0),bY,bY,bY,bY]from rfl];have ha:([.ro (ns.map D.int)]:Sto)++[.J []]=[.ro (ns.map D.int),.J []]:=rfl;have e1:(D.ref ([.ro (ns.map D.int)]:Sto).length)=.ref 1:=rfl;simp -implicitDefEqProofs only[qT,ex_asg,ex_for,ev_cst,ev_lst,evs_nil,evI_rng1,Cn_int,R.bind_ok,qu,setV_s,setV_0,Option.map_some,setC_some,qM,alloc_eq,ha,e1];rw[qo (by unfold Ww62;lia) (by unfold Ww62;lia)];simp only[R.bind_ok];rw[R.bind_assoc];refine qR (Ww:=Yes) (λ j U t=>t[0]?=aT (.ro (ns.map D.int))/\∃(ds:List Tr) (x2 x3 x4:Option D),t[1]?=aT (.J (ds.map Tr.d))/\ds.length=j/\(∀ d∈ds,TrQ d)/\U=[aT (.ref 0),aT (.ref 1),x2,x3,x4]) ⟨rfl,[],_,_,_,rfl,rfl,λ d hd=>(by cases hd),rfl⟩ (λ _ _ _ _ _=>rfl) ?_ ?_
 .rintro j d U t hj ⟨ht,ds,x2,x3,x4,h1,Z,a2,rfl⟩
  obtain⟨g2,rfl⟩:=am7 hj;rw[iu];have f1:1<t.length:=(ac.mp h1).1;have z:=by2 (P:=P) (n+16) ns j t 0 ht hl;generalize bJ9 ns j=b0 at z;have a4:∃ b,(t++[zm b0])[t.length]?=aT (zm b):=⟨b0,by simp⟩
  have g0:(t++[zm b0]).length=t.length+1:=by simp
  have c6:(t++[zm b0])[0]?=aT (.ro (ns.map D.int)):=zb ht;have d0:(t++[zm b0])[1]?=aT (.J (ds.map Tr.d)):=zb h1;generalize g3:t++[zm b0]=S at *;generalize hr:t.length=r at *;have f0:r<S.length:=by lia
  obtain⟨k0,b9,g4,b4⟩:=zV (P:=P) (n+16) (ar7 (t:=[.J [.int 4,.int 4,.int 4,.int 8]]) a4) 4 (by decide) (qd (by decide));have e3:((S++[O.J [D.int 4,.int 4,.int 4,.int 8]]).set r (zm b9))[S.length]?=aT (.J [.int 4,.int 4,.int 4,.int 8]):=by rw[ar (by lia)];exact qC
  obtain⟨y,ix4⟩:∃ y:Int,ixM (.ref S.length) (.int (k0:Int)) ((S++[O.J [D.int 4,.int 4,.int 4,.int 8]]).set r (zm b9))=.ok (.int y) ((S++[O.J [D.int 4,.int 4,.int 4,.int 8]]).set r (zm b9)):=by
   rcases(by lia:k0=0\/k0=1\/k0=2\/k0=3)with rfl|rfl|rfl|rfl<;>exact⟨_,zB e3 rfl⟩
  have c3:((S++[O.J [D.int 4,.int 4,.int 4,.int 8]]).set r (zm b9))[0]?=aT (.ro (ns.map D.int)):=by rw[ar (by lia)];exact zb c6
  have a0:((S++[O.J [D.int 4,.int 4,.int 4,.int 8]]).set r (zm b9))[1]?=aT (.J (ds.map Tr.d)):=by rw[ar (by lia)];exact zb d0
  have a5:∃ b,((S++[O.J [D.int 4,.int 4,.int 4,.int 8]]).set r (zm b9))[r]?=aT (zm b):=qJ (by simp;lia);generalize (S++[O.J [D.int 4,.int 4,.int 4,.int 8]]).set r (zm b9)=V at b4 ix4 c3 a0 a5;have b6:=aq2 a5;obtain⟨k1,b1,f5,d3⟩:=zV (P:=P) (n+16) a5 8 (by decide) (qd (by decide));obtain⟨k2,b2,g5,c4⟩:=zV (P:=P) (n+16) (qJ (b:=b1) b6) 24 (by decide) (qd (by decide));rw[cH]at c4;have Y:(V.set r (zm b2)).length=V.length:=by simp
  obtain⟨tr,b3,y3,d1,es⟩:=bG9 (P:=P) (n+17 - k1 - 2) (r:=r) (q:=V.length) (by lia) k1 (V.set r (zm b2)++[.J [.int y]]) (k2+1) (ar7 (qJ b6)) ⟨y,by rw[<-Y];simp⟩ (by lia) (by lia);rw[show n+17 - k1 - 2+k1+2=n+17 by lia]at es;have eA:(1:Int)+(k1:Int)=(k1:Int)+1:=by lia
  have eB:(1:Int)+(k2:Int)=((k2+1:Nat):Int):=by lia
  have e5:1<V.length:=(ac.mp a0).1;have b5:(SS (V.set r (zm b2)++[O.J [D.int y]]) r V.length b3 y3)[0]?=aT (.ro (ns.map D.int)):=by
   unfold SS;rw[ar (by lia),ar (by lia)];exact zb (by rw[ar (by omega)];exact c3)
  have a1:(SS (V.set r (zm b2)++[O.J [D.int y]]) r V.length b3 y3)[1]?=aT (.J (ds.map Tr.d)):=by
   unfold SS;rw[ar (by lia),ar (by lia)];exact zb (by rw[ar (by omega)];exact a0)
  generalize SS (V.set r (zm b2)++[O.J [D.int y]]) r V.length b3 y3=Uu at es b5 a1;have c5:1<Uu.length:=(ac.mp a1).1;have f2:(af8 0 (2:Int)).length=2:=rfl;have ea:=aj5 (v:=tr.d) a1 (by rw[aq];unfold LIM;lia);have e2:D.ref (V.set r (zm b2)).length=.ref V.length:=by rw[Y]
  have f3:∀ q,mkq (.ref 1) V Uu q=q:=λ q=>aJ4 a0 a1;refine jd (U:=[aT (.ref 0),aT (.ref 1),aT (.int j),aT (.ref r),aT (.int y)]) (s:=Uu.set 1 (.J (ds.map Tr.d++[tr.d]))) ?_ ⟨by rw[ar (by lia)];exact b5,ds++[tr],_,_,_,by rw[zy c5,cu];rfl,by rw[au,Z];rfl,λ d hd=>?_,rfl⟩
  .unfold turn co4;simp -implicitDefEqProofs only[qT,exs_nil,ex_asg,ex_ex,qU,ev_cst,ev_bin,ev_lst,ev_ix,ev_call,ev_meth,evs_nil,evs_cons,evas_nil,evas_ex,Cn_int,R.bind_ok,qu,setV_s,setV_0,qX,qY,Option.map_some,setC_some,qM,add_int,alloc_eq,f3,z,b4,ix4,d3,eA,c4,eB,e2,es,ea]
  .rcases aE.mp hd with h|h
   .exact a2 d h
   .rw[az.mp h];exact⟨d1.1,by lia,by lia⟩
 rintro U v ⟨hv,ds,x2,x3,x4,h1,Z,a2,rfl⟩
 have Z:ds.length=2:=Z;have z:=by2 (P:=P) (n+16) ns 2 v 0 hv hl;have f4:1<v.length:=(ac.mp h1).1;generalize bJ9 ns 2=b0 at z;have g1:(v++[zm b0])[1]?=aT (.J (ds.map Tr.d)):=zb h1;have a4:∃ b,(v++[zm b0])[v.length]?=aT (zm b):=⟨b0,by simp⟩
 have c2:∀ ds:List Tr,ds.length=2->ag1 (ds.map Tr.d) bY (aT 1)=(ds.take 1).map Tr.d:=λ ds h=>by
  match ds,h with
  | [a,b],_=>rfl
 have sl:slM (.ref 1) bY (aT 1) (v++[zm b0])=.ok (.ref (v++[zm b0]).length) (v++[zm b0]++[.J ((ds.take 1).map Tr.d)]):=by
  unfold slM;simp only[g1];rw[c2 ds Z];rfl
 have J:=aO4 (s:=v++[zm b0]++[.J ((ds.take 1).map Tr.d)]) (a:=1) (b:=(v++[zm b0]).length) (l:=ds.map Tr.d) (m:=(ds.take 1).map Tr.d) (zb g1) qC (by rw[aq,aq,bW];unfold LIM;lia);rw[<-cu]at J;have a3:∃ b,(v++[zm b0]++[.J ((ds.take 1).map Tr.d)]++[.J ((ds++ds.take 1).map Tr.d)])[v.length]?=aT (zm b):=ar7 (ar7 a4);have hq:(v++[zm b0]++[O.J ((ds.take 1).map Tr.d)]++[O.J ((ds++ds.take 1).map Tr.d)])[(v++[zm b0]++[O.J ((ds.take 1).map Tr.d)]).length]?=aT (.J ((ds++ds.take 1).map Tr.d)):=qC;have c1:v.length≠(v++[zm b0]++[O.J ((ds.take 1).map Tr.d)]).length:=by simp
 generalize (v++[zm b0]++[O.J ((ds.take 1).map Tr.d)]).length=q at J hq c1;generalize v++[zm b0]++[O.J ((ds.take 1).map Tr.d)]++[O.J ((ds++ds.take 1).map Tr.d)]=X at J hq a3;have sq:am0 (.ref q) X=.ok ⟨(ds++ds.take 1).map Tr.d,[q]⟩ X:=by simp only[am0,hq]
 have c0:∀ t∈ds++ds.take 1,TrQ t:=λ t ht=>by
  rcases aE.mp ht with h|h
  .exact a2 t h
  .exact a2 t (cK h)
 have e4:(ds++ds.take 1).length<=4:=by rw[au,bW];lia
 generalize ds++ds.take 1=es at *;obtain⟨U',s',ec,_⟩:=qw (ok:=λ d2=>chk X d2 [q]) (g:=zJ (aa0 P (n+17)) (.Y 0) (.call "_law_right" (.ex (.X 1) (.ex (.X 0) .nil)))) (λ U u=>(u[q]?=aT (.J (es.map Tr.d))/\∃ b,u[v.length]?=aT (zm b))/\∃ x,U=[x,aT (.ref v.length)]) (λ _=>aT (.T ca)) (es.map Tr.d) [bY,aT (.ref v.length)] X ⟨⟨hq,a3⟩,bY,rfl⟩ (λ _ u h=>by unfold chk;simp[h.1.1,hq]) (by
  rintro d hd U u ⟨⟨u1,u2⟩,x,rfl⟩
  obtain⟨t,ht,rfl⟩:=aS.mp hd;obtain⟨k1,k2,k3⟩:=c0 t ht;obtain⟨b,er⟩:=bD4 (P:=P) n k1 k2 k3 u2;refine⟨[aT t.d,aT (.ref v.length)],u.set v.length (zm b),?_,⟨by rw[ar c1];exact u1,qJ (aq2 u2)⟩,_,rfl⟩;unfold zJ;simp -implicitDefEqProofs only[qU,ev_call,evas_nil,evas_ex,R.bind_ok,qu,setV_0,qX,qY,er])
 have d4:(es.map Tr.d).filterMap (λ _=>aT (D.T ca))=(es.map Tr.d).map λ _=>D.T true:=by
  show(es.map Tr.d).filterMap (aT ∘ λ _=>D.T ca)=_;rw[dW]
 rw[d4]at ec;have c7:(es.map Tr.d).length<=LIM:=by rw[aq];unfold LIM;lia
 have a6:(aa0 P (n+17)).call "_law_bag" [.ref 0,.int 2] v=_:=z;simp -implicitDefEqProofs only[qT,ex_asg,qU,ev_cst,ev_call,evas_nil,evas_ex,Cn_int,R.bind_ok,qu,setV_s,setV_0,qX,Option.map_some,setC_some,qM,a6];unfold cn2;simp -implicitDefEqProofs only[ex_ret,qU,ev_cst,ev_bin,ev_mk,evI_seq,Cn_int,R.bind_ok,qX,qY,bc1,sl,J,zO,sq];rw[ij c7,show zM [aT (.ref 0),aT (.ref 1),x2,aT (.ref v.length),x4] [bY,aT 3]=[bY,aT (.ref v.length)]from rfl,ec];simp -implicitDefEqProofs only[R.bind_ok,nxt_ret,fin_ret,bV5];exact bi4 _ _
end
def cl4 [Has P ac3][Has P ad8][i1:Has P am5][Has P ac6][HasC P "LETTERS" (.tp bL4)][HasC P "MOST_SET_LETTERS" (.int 4)][Has P ab0][Has P ab2][Has P aa9][Has P aa7]
 [HasM P "Rooms" "link" aa5] [HasM P "Rooms" "lay_letter" aa2] [HasM P "Rooms" "lay" aa3] [HasM P "Rooms" "__init__" aa4] [h1:HasA P "Rooms" [108,101,116,116,101,114,115]] [h2:HasA P "Rooms" [102,111,108,108,111,119,115]] [h3:HasA P "Rooms" [101,110,100,115]] [Has P ab1]
 [HasX P "few_rooms_for" al6] [HasX P "set_machine" ae7] [HasX P "_law_kind" af5] [HasT P "_law_refused" ab5] [HasE P "TooMuch" ["NoMaking", "NoName", "NoPair", "NoPaper", "NoRow", "NoText", "NotSteady", "TollError", "TooLong", "TooMuch"]]
 [Has P ab3] [Has P ad4] [i2:Has P af2] [Has P ac5] [i3:Has P an3] [Has P ac2] [Has P ab7] [i4:Has P ad5] [i5:Has P ae4] [i6:Has P ad0] [Has P ac7]
 [Has P ab9] [Has P ay0] [i7:Has P aw5] n :bT8 P (n+18):=by
 haveI a1:HasA P "Rooms" ag2:=h1
 haveI a2:HasA P "Rooms" am1:=h2
 haveI a3:HasA P "Rooms" al2:=h3
 haveI j1:Has P ad6:=i1
 haveI j2:Has P ab4:=i2
 haveI j3:Has P al3:=i3
 haveI j4:Has P zD:=i4
 haveI j5:Has P zF:=i5
 haveI j6:Has P zw:=i6
 haveI j7:Has P jc:=i7
 exact bP9 n
end DV
end
noncomputable section
namespace My
open PySem L2
noncomputable def top (i:Nat):Stmt:=PySem.Challenge.pw_leasttolls_k63_machines_of_sets.main.body.getD i (.Pass ⟨0,0,0,0⟩)
noncomputable def af0:List Str:=[]
abbrev an9:Stmt:=top 14
abbrev ac0:Stmt:=top 17
abbrev ak2:Stmt:=top 18
abbrev s_with_doors:Stmt:=top 19
abbrev ac8:Stmt:=top 20
abbrev at7:Stmt:=top 22
abbrev ar2:Stmt:=top 23
abbrev ao1:Stmt:=top 24
abbrev at2:Stmt:=top 25
abbrev ag8:Stmt:=top 26
abbrev ak5:Stmt:=top 27
abbrev ar9:Stmt:=top 28
abbrev ag9:Stmt:=top 29
abbrev ai7:Stmt:=top 30
abbrev al4:Stmt:=top 31
abbrev ak8:Stmt:=top 32
abbrev ae5:Stmt:=top 33
abbrev af4:Stmt:=top 34
abbrev ae3:Stmt:=top 35
abbrev af9:Stmt:=top 36
abbrev s__law_letters:Stmt:=top 37
abbrev ad9:Stmt:=top 38
abbrev ak4:Stmt:=top 39
abbrev ak9:Stmt:=top 40
abbrev aB9:Stmt:=top 41
noncomputable def bo3:Stmt->List Stmt|.ClassDef _ _ _ b _ _ _ _ _ _ _=>b|_=>[]
abbrev ae8:Stmt:=(bo3 (top 13)).getD 0 (.Pass ⟨0,0,0,0⟩)
abbrev aq3:Stmt:=(bo3 (top 13)).getD 1 (.Pass ⟨0,0,0,0⟩)
abbrev s_Rooms_lay_letter:Stmt:=(bo3 (top 13)).getD 2 (.Pass ⟨0,0,0,0⟩)
abbrev ak6:Stmt:=(bo3 (top 13)).getD 3 (.Pass ⟨0,0,0,0⟩)
def mtb:List ((String×String)×nN×Stmt):=[(("Rooms", "__init__"),DV.aa4,ae8),(("Rooms", "lay"),DV.aa3,aq3),(("Rooms", "lay_letter"),DV.aa2,s_Rooms_lay_letter),(("Rooms", "link"),DV.aa5,ak6)]
noncomputable def obt:List (String×List (List Nat)):=[("Rooms",[[101,110,100,115],[108,101,116,116,101,114,115],[102,111,108,108,111,119,115]])]
def tb:List (String×nN×Stmt):=[("rooms_for",DV.ab1,an9),("few_rooms_for",DV.aa7,ac0),("doors_into",DV.ab0,ak2),("with_doors",DV.ab2,s_with_doors),("set_machine",DV.aa9,ac8),("_law_bag",DV.ay0,at7),("_law_take",DV.ad4,ar2),("_law_word",DV.an3,ao1),("_law_set",DV.aw5,at2),("_law_onward",DV.ac3,ag8),("_law_again",DV.ad8,ak5),("_law_ends",DV.am5,ar9),("_law_member",DV.af2,ag9),("_law_spoilt",DV.ac5,ai7),("_law_price",DV.ac6,al4),("_law_whole",DV.ab7,ak8),("_law_are_rooms",DV.ad5,ae5),("_law_is_door",DV.ae4,af4),("_law_is_machine",DV.ad0,ae3),("_law_letters",DV.ab3,s__law_letters),("_law_words",DV.ac2,ak4),("_law_right",DV.ac7,ak9),("law",DV.ab9,aB9)]
noncomputable def cm4:List (String×mO):=[("LETTERS",.tp [.str [97],.str [98],.str [99]]),("MOST_SET_LETTERS",.int (4))]
noncomputable def cr5:List (String×DV.Lm):=[]
noncomputable def tbl:List (String×nN):=tb.map λ p=>(p.1,p.2.1)
def xtb:List (String×DV.Xf):=[("few_rooms_for",DV.al6),("set_machine",DV.ae7),("_law_kind",DV.af5)]
def ttb:List (String×pw):=[("_law_refused",DV.ab5)]
def dl:List (String×Stmt):=[("few_rooms_for",ac0),("set_machine",ac8),("_law_kind",af9),("_law_refused",ad9)]
noncomputable def xcs:List String:=["TooMuch"]
noncomputable def xts:List String:=["NoMaking", "NoName", "NoPair", "NoPaper", "NoRow", "NoText", "NotSteady", "TollError", "TooLong", "TooMuch"]
noncomputable def P:nk:=⟨λ f=>tbl.lookup f,λ f=>cr5.lookup f,λ x=>cm4.lookup x,λ f=>xtb.lookup f,λ f=>ttb.lookup f,λ c=>xcs.contains c,λ c=>xts.contains c,λ _=>bY,λ c m=>(mtb.lookup (c,m)).map (·.1),λ c f=>(obt.lookup c).any λ l=>l.contains f⟩
instance:DV.HasX P "few_rooms_for" DV.al6:=⟨rfl⟩
instance:DV.HasX P "set_machine" DV.ae7:=⟨rfl⟩
instance:DV.HasX P "_law_kind" DV.af5:=⟨rfl⟩
instance:DV.HasT P "_law_refused" DV.ab5:=⟨rfl,rfl⟩
instance:DV.HasE P "TooMuch" ["NoMaking", "NoName", "NoPair", "NoPaper", "NoRow", "NoText", "NotSteady", "TollError", "TooLong", "TooMuch"]:=⟨rfl,by decide⟩
instance:DV.HasC P "LETTERS" (.tp [.str [97],.str [98],.str [99]]):=⟨rfl⟩
instance:DV.HasC P "MOST_SET_LETTERS" (.int (4)):=⟨rfl⟩
instance:DV.Has P DV.ab1:=⟨rfl⟩
instance:DV.Has P DV.aa7:=⟨rfl⟩
instance:DV.Has P DV.ab0:=⟨rfl⟩
instance:DV.Has P DV.ab2:=⟨rfl⟩
instance:DV.Has P DV.aa9:=⟨rfl⟩
instance:DV.Has P DV.ay0:=⟨rfl⟩
instance:DV.Has P DV.ad4:=⟨rfl⟩
instance:DV.Has P DV.an3:=⟨rfl⟩
instance:DV.Has P DV.aw5:=⟨rfl⟩
instance:DV.Has P DV.ac3:=⟨rfl⟩
instance:DV.Has P DV.ad8:=⟨rfl⟩
instance:DV.Has P DV.am5:=⟨rfl⟩
instance:DV.Has P DV.af2:=⟨rfl⟩
instance:DV.Has P DV.ac5:=⟨rfl⟩
instance:DV.Has P DV.ac6:=⟨rfl⟩
instance:DV.Has P DV.ab7:=⟨rfl⟩
instance:DV.Has P DV.ad5:=⟨rfl⟩
instance:DV.Has P DV.ae4:=⟨rfl⟩
instance:DV.Has P DV.ad0:=⟨rfl⟩
instance:DV.Has P DV.ab3:=⟨rfl⟩
instance:DV.Has P DV.ac2:=⟨rfl⟩
instance:DV.Has P DV.ac7:=⟨rfl⟩
instance:DV.Has P DV.ab9:=⟨rfl⟩
instance:DV.HasM P "Rooms" "__init__" DV.aa4:=⟨rfl⟩
instance:DV.HasM P "Rooms" "lay" DV.aa3:=⟨rfl⟩
instance:DV.HasM P "Rooms" "lay_letter" DV.aa2:=⟨rfl⟩
instance:DV.HasM P "Rooms" "link" DV.aa5:=⟨rfl⟩
instance:DV.HasA P "Rooms" [101,110,100,115]:=⟨by decide⟩
instance:DV.HasA P "Rooms" [108,101,116,116,101,114,115]:=⟨by decide⟩
instance:DV.HasA P "Rooms" [102,111,108,108,111,119,115]:=⟨by decide⟩
def al7:DTM "Rooms" "__init__" DV.aa4 ae8:=⟨["self"],["self"],Zsc,rfl,rfl,λ _ _ _ _ _ _=>bd1 (λ _=>rfl),by decide +kernel⟩
def aJ1:DTM "Rooms" "lay" DV.aa3 aq3:=⟨["self", "words", "one", "other", "firsts", "lasts"],["self", "words"],Zsc,rfl,rfl,λ _ _ _ _ _ _=>bd2 (λ _ _=>rfl),by decide +kernel⟩
def ah6:DTM "Rooms" "lay_letter" DV.aa2 s_Rooms_lay_letter:=⟨["self", "letter", "room"],["self", "letter"],Zsc,rfl,rfl,λ _ _ _ _ _ _=>bd2 (λ _ _=>rfl),by decide +kernel⟩
def aA0:DTM "Rooms" "link" DV.aa5 ak6:=⟨["self", "rooms", "goals", "room", "goal"],["self", "rooms", "goals"],Zsc,rfl,rfl,λ _ _ _ _ _ _=>bd3 (λ _ _ _=>rfl),by decide +kernel⟩
def cg9:∀ p∈mtb,DTM p.1.1 p.1.2 p.2.1 p.2.2:=by
 intro p hp;unfold mtb at hp;simp only[aw,bw,or_false]at hp;rcases hp with rfl|rfl|rfl|rfl
 .exact al7
 .exact aJ1
 .exact ah6
 .exact aA0
def aG0:DT af0 P "rooms_for" DV.ab1 an9:=⟨["words", "laid", "whole"],["words"],Zsc,rfl,rfl,λ _ _ _ _ _ _=>bd1 (λ _=>rfl),.inl (by decide +kernel)⟩
def ar4:DT af0 P "few_rooms_for" DV.aa7 ac0:=⟨["words", "laid"],["words"],Zsc,rfl,rfl,λ _ _ _ _ _ _=>bd1 (λ _=>rfl),.inl (by decide +kernel)⟩
def aB6:DT af0 P "doors_into" DV.ab0 ak2:=⟨["laid", "room", "goals", "fee"],["laid", "room", "goals", "fee"],Zsc,rfl,rfl,λ _ _ _ _ _ _=>bd4 (λ _ _ _ _=>rfl),.inl (by decide +kernel)⟩
def az9:DT af0 P "with_doors" DV.ab2 s_with_doors:=⟨["laid", "ends", "doors"],["laid", "ends", "doors"],Zsc,rfl,rfl,λ _ _ _ _ _ _=>bd3 (λ _ _ _=>rfl),.inl (by decide +kernel)⟩
def ax1:DT af0 P "set_machine" DV.aa9 ac8:=⟨["words", "laid", "doors", "room", "goals"],["words"],Zsc,rfl,rfl,λ _ _ _ _ _ _=>bd1 (λ _=>rfl),.inl (by decide +kernel)⟩
def aT4:DT af0 P "_law_bag" DV.ay0 at7:=⟨["_law_script", "_law_at", "_law_cell", "_law_mix", "_law_k"],["_law_script", "_law_at"],Zsc,rfl,rfl,λ _ _ _ _ _ _=>bd2 (λ _ _=>rfl),.inl (by decide +kernel)⟩
def aI0:DT af0 P "_law_take" DV.ad4 ar2:=⟨["_law_bag_here", "_law_many", "_law_digit", "_law_number", "_law_room"],["_law_bag_here", "_law_many"],Zsc,rfl,rfl,λ _ _ _ _ _ _=>bd2 (λ _ _=>rfl),.inl (by decide +kernel)⟩
def aI6:DT af0 P "_law_word" DV.an3 ao1:=⟨["_law_bag_here", "_law_letters_here", "_law_most", "_law_word_here", "_law_k"],["_law_bag_here", "_law_letters_here", "_law_most"],Zsc,rfl,rfl,λ _ _ _ _ _ _=>bd3 (λ _ _ _=>rfl),.inl (by decide +kernel)⟩
def aR6:DT af0 P "_law_set" DV.aw5 at2:=⟨["_law_bag_here", "_law_deep", "_law_room", "_law_left", "_law_kind_here", "_law_sign", "_law_some", "_law_first"],["_law_bag_here", "_law_deep", "_law_room", "_law_left"],Zsc,rfl,rfl,λ _ _ _ _ _ _=>bd4 (λ _ _ _ _=>rfl),.inl (by decide +kernel)⟩
def aw0:DT af0 P "_law_onward" DV.ac3 ag8:=⟨["_law_bits", "_law_rows", "_law_found", "_law_k"],["_law_bits", "_law_rows"],Zsc,rfl,rfl,λ _ _ _ _ _ _=>bd2 (λ _ _=>rfl),.inl (by decide +kernel)⟩
def az5:DT af0 P "_law_again" DV.ad8 ak5:=⟨["_law_rows", "_law_found", "_law_k"],["_law_rows"],Zsc,rfl,rfl,λ _ _ _ _ _ _=>bd1 (λ _=>rfl),.inl (by decide +kernel)⟩
def aJ8:DT af0 P "_law_ends" DV.am5 ar9:=⟨["_law_words_here", "_law_word_here", "_law_size", "_law_first", "_law_second"],["_law_words_here", "_law_word_here"],Zsc,rfl,rfl,λ _ _ _ _ _ _=>bd2 (λ _ _=>rfl),.inl (by decide +kernel)⟩
def ax3:DT af0 P "_law_member" DV.af2 ag9:=⟨["_law_bag_here", "_law_words_here", "_law_room", "_law_first", "_law_found", "_law_k"],["_law_bag_here", "_law_words_here", "_law_room"],Zsc,rfl,rfl,λ _ _ _ _ _ _=>bd3 (λ _ _ _=>rfl),.inl (by decide +kernel)⟩
def av8:DT af0 P "_law_spoilt" DV.ac5 ai7:=⟨["_law_bag_here", "_law_word_here", "_law_at", "_law_way"],["_law_bag_here", "_law_word_here"],Zsc,rfl,rfl,λ _ _ _ _ _ _=>bd2 (λ _ _=>rfl),.inl (by decide +kernel)⟩
def aD4:DT af0 P "_law_price" DV.ac6 al4:=⟨["_law_machine", "_law_word_here", "_law_here", "_law_letter", "_law_there", "_law_start", "_law_sign", "_law_goal", "_law_cost"],["_law_machine", "_law_word_here"],Zsc,rfl,rfl,λ _ _ _ _ _ _=>bd2 (λ _ _=>rfl),.inl (by decide +kernel)⟩
def aA2:DT af0 P "_law_whole" DV.ab7 ak8:=⟨["_law_thing", "_law_low", "_law_high"],["_law_thing", "_law_low", "_law_high"],Zsc,rfl,rfl,λ _ _ _ _ _ _=>bd3 (λ _ _ _=>rfl),.inl (by decide +kernel)⟩
def al8:DT af0 P "_law_are_rooms" DV.ad5 ae5:=⟨["_law_thing", "_law_rooms", "_law_ahead", "_law_room"],["_law_thing", "_law_rooms"],Zsc,rfl,rfl,λ _ _ _ _ _ _=>bd2 (λ _ _=>rfl),.inl (by decide +kernel)⟩
def as5:DT af0 P "_law_is_door" DV.ae4 af4:=⟨["_law_thing", "_law_letters_here", "_law_rooms"],["_law_thing", "_law_letters_here", "_law_rooms"],Zsc,rfl,rfl,λ _ _ _ _ _ _=>bd3 (λ _ _ _=>rfl),.inl (by decide +kernel)⟩
def aj0:DT af0 P "_law_is_machine" DV.ad0 ae3:=⟨["_law_thing", "_law_letters_here"],["_law_thing", "_law_letters_here"],Zsc,rfl,rfl,λ _ _ _ _ _ _=>bd2 (λ _ _=>rfl),.inl (by decide +kernel)⟩
def as2:DT af0 P "_law_letters" DV.ab3 s__law_letters:=⟨["_law_words_here"],["_law_words_here"],Zsc,rfl,rfl,λ _ _ _ _ _ _=>bd1 (λ _=>rfl),.inl (by decide +kernel)⟩
def aE3:DT af0 P "_law_words" DV.ac2 ak4:=⟨["_law_bag_here", "_law_words_here", "_law_some", "_law_ahead", "_law_size", "_law_further", "_law_word_here", "_law_k", "_law_own"],["_law_bag_here", "_law_words_here"],Zsc,rfl,rfl,λ _ _ _ _ _ _=>bd2 (λ _ _=>rfl),.inl (by decide +kernel)⟩
def aF2:DT af0 P "_law_right" DV.ac7 ak9:=⟨["_law_bag_here", "_law_words_here", "_law_found", "_law_word_here", "_law_held"],["_law_bag_here", "_law_words_here"],Zsc,rfl,rfl,λ _ _ _ _ _ _=>bd2 (λ _ _=>rfl),.inl (by decide +kernel)⟩
def bx9:FnScope ["_law_script", "_law_sets", "_law_k", "_law_bag_here", "_law_many"] ["_law_script"] (defScope aB9):=Zsc
def cc8:mSs ⟨["_law_script", "_law_sets", "_law_k", "_law_bag_here", "_law_many"],defScope aB9,λ _ _ _=>dr⟩ DV.ab9.body (defBody aB9)=true:=by decide +kernel
def bS5:co5 "law" aB9 ["_law_script"]:=λ _ _ _ _ _ _=>bd1 λ _=>rfl
def ck2:DT af0 P "law" DV.ab9 aB9:=⟨_,_,bx9,rfl,rfl,bS5,.inl cc8⟩
def ao7:DTB af0 P "few_rooms_for" DV.al6.ps DV.al6.vs (λ z S=>mX z DV.al6.body S) ac0:=⟨["words", "laid"],["words"],Zsc,rfl,rfl,λ _ _ _ _ _ _=>bd1 (λ _=>rfl),.inl (by decide +kernel)⟩
def ay2:DTB af0 P "set_machine" DV.ae7.ps DV.ae7.vs (λ z S=>mX z DV.ae7.body S) ac8:=⟨["words", "laid", "doors", "room", "goals"],["words"],Zsc,rfl,rfl,λ _ _ _ _ _ _=>bd1 (λ _=>rfl),.inl (by decide +kernel)⟩
def aK0:DTB af0 P "_law_kind" DV.af5.ps DV.af5.vs (λ z S=>mX z DV.af5.body S) af9:=⟨["_law_e", "_law_kinds"],["_law_e"],Zsc,rfl,rfl,λ _ _ _ _ _ _=>bd1 (λ _=>rfl),.inl (cc2 ⟨_,_,_,_,_,_,_,_,_,_,_,_,_,_,_,_,_,_,_,_,_,_,_,_,_,_,_,_,_,_,_,_,_,_,_,_,_,_,_,_,_,_,_,_,_,_,_,_,rfl,rfl,by decide +kernel⟩)⟩
def as9:DTB af0 P "_law_refused" DV.ab5.ps DV.ab5.vs (λ z S=>mT z DV.ab5 S) ad9:=⟨["_law_words_here", "_law_e"],["_law_words_here"],Zsc,rfl,rfl,λ _ _ _ _ _ _=>bd1 (λ _=>rfl),.inl (by decide +kernel)⟩
def fmc {α:Type}{P:α->Prop}{a}{l}(h:P a)(t:∀ x∈l,P x):∀ x∈a::l,P x:=List.forall_mem_cons.mpr ⟨h,t⟩
def fmn {α:Type}{P:α->Prop}:∀ x∈([]),P x:=λ _ h=>nomatch h
def cn0:∀ p∈tb,DT af0 P p.1 p.2.1 p.2.2:=by
 unfold tb;exact fmc aG0 (fmc ar4 (fmc aB6 (fmc az9 (fmc ax1 (fmc aT4 (fmc aI0 (fmc aI6 (fmc aR6 (fmc aw0 (fmc az5 (fmc aJ8 (fmc ax3 (fmc av8 (fmc aD4 (fmc aA2 (fmc al8 (fmc as5 (fmc aj0 (fmc as2 (fmc aE3 (fmc aF2 (fmc ck2 fmn))))))))))))))))))))))
def ce2 {l:dL}{mg:yD}(X:K.In h)(G:h.Ns bc mg)(a4:mg "law"=aT (.ref fa))(hD:∀ p∈tb,cg5 K p.1 p.2.2)(hz:∀ x∈bNames,bM K bc x=aT bY)
  {a1:yJ} {a2:yF} (gc_LETTERS:bM K bc "LETTERS"=aT (aT (.ref J))) (gl_LETTERS:K.lookup J=aT ⟨.type "tuple",a1,.seq #[.str ⟨#[97]⟩ a0,.str ⟨#[98]⟩ Z,.str ⟨#[99]⟩ Y] a3,a2⟩)
  (gc_MOST_SET_LETTERS:bM K bc "MOST_SET_LETTERS"=aT (aT (.int (4) z)))
  (hT:∀ x∈af0,(bC K x).isSome=ca) (tnd:decide (((bC8 af0 K).map (·.1)).Nodup)=ca) (hDx:∀ p∈dl,cg5 K p.1 p.2) (hcl:bI0 K xcs xts=ca) (hO:(obt.all λ p=>bP8 K p.1 p.2)=ca) (hM:∀ p∈mtb,co1 K p.1.1 p.1.2 p.2.2)
  : ∃ fd:bX,(∀(s:af) (v:Value),kM s fd ⟨[v],[]⟩ [("_law_script",v)])/\∀ base:Heap,K.In base->base.Ns bc mg->BM mg base->bA5 K af0 base->FnOk l.prog w K mg base CX0 56 fa fd ["_law_script"] (spB af0 K):=by
 have OB:=bW5 (names:=af0) (P:=P) (mtb:=mtb) (obt:=obt) X G (λ _ _=>rfl) (λ _ _=>rfl) hO (by decide) hM cg9;have hP:PrOk (aW2 af0 P K) (bY0 af0 K) P mg w:=by
  refine⟨λ f d h=>aM9 (tbl:=tbl) (λ p hp=>?_) f d h,λ x d h=>aV7 (tbl:=cm4) ?_ x d h,λ x hx=>jJ X G (hz x hx),ck5 X G,trivial,dO tnd,aF8 (tbl:=xtb) (λ p hp=>?_),aF8 (tbl:=ttb) (λ p hp=>?_),(ap1 X G hcl).1,(ap1 X G hcl).2.1,(ap1 X G hcl).2.2.1,(ap1 X G hcl).2.2.2.1,(ap1 X G hcl).2.2.2.2.1,(ap1 X G hcl).2.2.2.2.2.1,(ap1 X G hcl).2.2.2.2.2.2,λ _ _ h=>(by cases h),OB.1,OB.2.1,OB.2.2⟩
  .obtain⟨r,hr,rfl⟩:=aS.mp hp;exact good_of X G hT (hD r hr) (cn0 r hr)
  .unfold cm4;refine fmc ?_ (fmc ?_ fmn)
   .exact bH8 (cz X G gc_LETTERS) gl_LETTERS rfl rfl (show 3<=1000 by decide) (.cons (.str _ _ (by decide)) (.cons (.str _ _ (by decide)) (.cons (.str _ _ (by decide)) (.nil))))
   .exact bC7 (cz X G gc_MOST_SET_LETTERS)
  .revert p hp;unfold xtb;exact fmc (ai5 X G hT (hDx ("few_rooms_for",ac0) (aP (i:=0) rfl)) ao7) (fmc (ai5 X G hT (hDx ("set_machine",ac8) (aP (i:=1) rfl)) ay2) (fmc (ai5 X G hT (hDx ("_law_kind",af9) (aP (i:=2) rfl)) aK0) fmn))
  .revert p hp;unfold ttb;exact fmc (ai5 X G hT (hDx ("_law_refused",ad9) (aP (i:=3) rfl)) as9) fmn
 obtain⟨f,od,an,sl,oc,kV,dc,pm,cd,ct,a,l0,c,k⟩:=hD ("law",DV.ab9,aB9) (aP (i:=22) rfl);have e:=a4.symm.trans (cz X G a);cases e;have F:=be4 (st:=aB9) l0 c k;refine⟨_,λ s v=>.of_eq rfl,λ base _ _ bm hk=>(cb0 hP (bx1 hT bm hk) 24 (bN3 hP (bx1 hT bm hk) 24) (d:=DV.ab9) (f := "law") rfl ⟨F,cz X G a,F.binds bS5⟩ bx9 rfl rfl cc8 aW3).imp (λ vs H Q E q=>bZ3 (λ ns h=>DV.cl4 (P:=P) 7 ns h) vs H Q E (bq1 hT q))⟩
end My
end
end
end
end Internal
open Internal
open PySem PySem.W PyProof.Rows
set_option maxRecDepth 100000 in
set_option maxHeartbeats 0 in
theorem PySem.Challenge.cw_leasttolls_k63_machines_of_sets_holds : PySem.Challenge.rw_leasttolls_k63_machines_of_sets.Holds := by
 refine My.GT0.2.2.2 My.left2 My.left5 ?_
 delta My.GT0
 dsimp only
 k_fill
 refine L2.bf1 (l:=PySem.Challenge.rw_leasttolls_k63_machines_of_sets) (n:=63) (k:=56) (x := "_law_script") (sp:=L2.spB My.af0) My.af0 rfl (by decide) rfl ⟨rfl,by decide,by decide⟩ (ts:=[]) (λ w h Y=>⟨PySem.W.kIn_of Y,λ _ hP=>absurd hP (bw)⟩) (λ w=>?R) (λ w=>?NT) ?F (λ K H a ns hl hB hS hF=>L2.bU5 hl hB hS hF)
 case R=>kernel_rfl
 case NT=>kernel_rfl
 case F =>
  intro w mg fa h KX G hmg
  refine' My.ce2 KX G hmg ?hD ?hz ?gc_LETTERS ?gl_LETTERS ?gc_MOST_SET_LETTERS ?hT ?tnd ?hDx ?hcl ?hO ?hM
  case hD=>unfold My.tb;repeat' first|exact My.fmn|refine My.fmc ?_ ?_|(dsimp only;exact ⟨_,_,_,_,_,_,_,_,_,_,by k_is,by k_is,by k_is,by k_is⟩)
  case hz=>unfold L2.bNames;repeat' first|exact My.fmn|refine My.fmc ?_ ?_|k_is
  (case gc_LETTERS=>k_is)
  (case gl_LETTERS=>k_is)
  (case gc_MOST_SET_LETTERS=>k_is)
  case hT =>
   intro x hx;cases hx
  (case tnd=>kernel_rfl)
  case hDx=>unfold My.dl;repeat' first|exact My.fmn|refine My.fmc ?_ ?_|(dsimp only;exact ⟨_,_,_,_,_,_,_,_,_,_,by k_is,by k_is,by k_is,by k_is⟩)
  (case hcl=>kernel_rfl)
  (case hO=>kernel_rfl)
  case hM =>
   intro p hp;unfold My.mtb at hp;simp only[aw,bw,or_false]at hp;rcases hp with rfl|rfl|rfl|rfl
   all_goals (dsimp only;exact ⟨_,_,_,_,_,_,_,_,_,_,_,by k_is,by k_is,by k_is,by k_is,by k_is,by k_is⟩)
