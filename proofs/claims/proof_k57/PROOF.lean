import PyProof.Rows.All
import OpenK.KLine
import OpenK.KQuick
import OpenK.KMake
import OpenK.KDescr
import OpenK.KMore
import OpenK.KCls
import OpenK.KGet
import OpenK.KCell
import OpenK.KCall
import OpenK.KWalk
import OpenK.KFacts
import KE.KLam
import KE.KNest
import KE.KNestM
import KE.KItem
import KE.KFromBytes
import KE.KIsAll
import KE.KMinBuiltin
import KE.KxBytes
import KE.KTops
import KE.KTabLook
import Wide.FinOn
import Wide.BytesRules
import Wide.ObjOpen
import Wide.Head
import Wide.Well
import PyProof.EqAt
import PyProof.EqKinds
import PyProof.TupleCall
import PyProof.MinMaxWalk
import PyProof.WalkInts
import PyProof.NeKinds
import PyProof.SliceStr2
import PyProof.StrBlockI
import PyProof.MaxThree
import PyProof.ZipIter
import PyProof.Draws
import PyProof.EnumMake
import PyProof.ListMulRoad
import PyProof.Rows.StrRev
import PyProof.DictItems
import PyProof.ListRange
import PyProof.AutoIntG2
import PyProof.FactsAll.int_6
import KE.KMinKey
import PyProof.Rows.TupDisplay
import PyProof.Rows.CatchBare
import KE.KTryMore
import PyProof.RulesAs
import PyProof.StrOps
import KE.IntBitsLaws
import KE.KIntText
import PyProof.CallStr
import PyProof.StrBlockL
import PyProof.StrLawsChain
import PyProof.StrLawsTight
import PyProof.Rows.StrItems
import PySem.Challenge.RW_leasttolls_k57_pairs_refused
set_option bootstrap.genMatcherCode false
set_option genSizeOf false
set_option genInjectivity false
set_option genCtorIdx false
set_option compiler.extract_closed false
set_option Elab.async false
set_option linter.all false
set_option maxRecDepth 100000
set_option maxHeartbeats 4000000
open PySem renaming wpAny_bind->ac,Shared->ag,wpAny_pure->am,Program->aM,sizeLine->aV,Around->be,wpAny_newObj_type->bp,mainGlobals->bu,wpAny_mono->bw,starEach->bB,bootBuiltins->bC,mem_of_lookup->bF,wpAny_truthy_bool->bI,cellsFrom->bO,wpAny_call_entry->b7,treeTable->cf,importedModules->cj,wpAny_holding->cn,FuncData->cw,argBest->cF,wpAny_callSpecial?_slot->cI,wpAny_seqItems->cN,wpAny_tryCatch->cP,wpAny_Call_Name_kw->cW,wpAny_typeNameOfWhole_itemiter->cX,binaryOp->c5,NameKind->c7,compareOp->db,wpAny_pyIter_list->dg,wpAny_field->du,Paired->dz,assignEach->dB,wpAny_typeNameOf_itemiter->dH,wpAny_passesOwn->dI,codeAny_builtin->dJ,sizeLine_eq->dL,behindInMarks->dS,attributeBase->dW,plainId_quiet->dY,wpAny_letGo->em,wpAny_setField_rec->eE,wpAny_specialOf->eI,wpAny_execs_nil->eK,wpAny_updateSeq->eL,wpAny_callSpecialIfBoundUnlessNone?_slot->eQ,foldedSetIterable->eW,relabel->eX,backTo->eZ,IsItemIter->e7,builtinsNs->fB,IsTupleKey->fC,sysModules->fD,sliceBounds->fI,wpAny_isOneOf_itemiter->fQ,swapsWith->f7,pyNext->f8,Arguments->gb,call_meets->gd,pushCells->gf,seqItems?->gh,bltViewBooted->gz,codeAny->gA,Keyword->gB,ExceptHandler->gC,callSpecialIfBoundUnlessNone?->gD,letOwnedTupleGo->gO,pushCells_keeps->gS,notedBy->hJ,wpAny_rule->hZ,wpAny_newFunctionEnv_cells->ii,firstArgMember->ip,wpAny_binaryOp_repeat_ref->iz,keywordEach->iB,wpAny_of_eq->iE,wpAny_dictEntries->iH,isTrue->iM,swappedStores->iO,IsPart->iP,wpAny_comprehension_free->iQ,wpAny_attempt->iU,wpAny_forIn_list->iZ,wpAny_isInstance->i4,noFill_tuple_add->i7,DictEntry->jm,assign->js,wpAny_pyNext_range_end->ju,wpAny_pyIter_rangeiter->jv,codeAny_mono->jw,getItem->jx,wpAny_typeOf->jy,typeIs_int->jB,codeAny_compStart_list->jD,wpAny_dictEpoch->jK,isSubtype_tuple_tuple->jP,wpAny_isTrue_Compare1->jQ,codeAny_call_function->jR,IsRangeIter->ka,wpAny_setField->kl,strIterType->km,codeAny_call_builtin->ko,holding->kF,callerA->kG,wpAny_standAt->kR,seq_tuple_add->kS,IsItemIterOut->kU,wpAny_pyIter_tuple->k9,wpAny_pyIter_range->la,wpAny_call->lh,typeOf->lp,cameBackBy->ly,eqIsQuiet_byValue->lF,wpAny_assign_Name->lH,concat_meets->lK,wpAny_sequenceKey->lL,seqIndex_neg->lM,slot_list_getitem->lN,backToKw->lO,valueAt->lQ,wpAny_pyIter_slot->lR,beq_builtin_none->lW,eqIsQuiet->lX,wpAny_execs_cons->lY,Result->l7,noteFrame->mq,updateSeq->mr,seqSlot_of->mz,setFlight->mH,wpAny_Try_except->mJ,seqIndex_of->mM,BindsTo->mY,Builtin->ng,call->ni,reduceHash->nj,wpAny_Name->nq,pyIter->nr,typeIs_str->nu,PlainAttrs->nv,quietNames->nA,KeyKind->nO,storeName->nW,PassesOwn->nX,lastMarks->nY,rawInt->n6
open List renaming getElem?_eq_some_iff->ae,replicate->ah,getElem?_eq_getElem->ai,mem_cons_of_mem->ak,length_map->aq,map_cons->av,size_toArray->aw,mem_cons_self->ax,mem_map->ay,mem_cons->az,length_append->aA,cons_append->aB,mem_of_getElem?->aE,nil_append->aF,mem_append_right->aG,getElem?_append_right->aN,getD_eq_getElem?_getD->aO,map_nil->aP,getElem?_map->aQ,length_cons->aR,getElem?_append_left->aS,all_eq_true->aU,mem_append->aW,mem_map_of_mem->aX,mem_append_left->aY,filterMap_cons->bc,length_set->bf,append_nil->bh,getElem?_set_self->bj,range->bn,lookup_cons->bz,mem_singleton->bA,getElem?_set_ne->bH,flatMap_cons->bJ,filterMap_map->bK,length_eq_zero_iff->bM,length_take->bP,mem_range->bR,map_map->bU,replicate_succ->b8,getElem?_toArray->cb,mem_iff_getElem->ci,find?_cons->cq,filterMap_eq_map->cy,all_cons->cz,foldl_cons->cE,not_mem_nil->cK,getElem?_eq_none->cV,take_length->cY,take_append_getElem->cZ,append_assoc->dh,mem_filterMap->dC,flatten_cons->dM,getElem?_range->dZ,flatMap_append->d5,any_eq_true->d7,getElem?_cons_succ->d9,getElem?_cons_zero->ed,mem_filter->eJ,set_append->eO,length_singleton->eR,contains_iff_mem->eS,take_append_drop->eT,pairwise_append->e9,drop_eq_getElem_cons->fh,length_nil->fy,map_append->fA,take_of_length_le->fS,length_range->fU,set_set->fW,pairwise_map->fX,length_filter_le->f6,length_drop->gc,filter_cons->gk,mem_flatMap->gm,flatMap_nil->gr,mem_of_mem_take->gL,take_append_of_le_length->gM,map->gN,nodup_cons->gP,of_mem_zip->gQ,map_congr_left->g6,drop_zero->ir,pairwise_cons->iw,find?_eq_none->iy,any_cons->iR,getElem?_replicate->i6,getElem_mem->jp,range_succ_eq_map->jr,drop_eq_nil_of_le->jH,getElem_cons_drop->jI,set_getElem_self->jX,forIn_nil->kg,filterMap->kj,mem_of_mem_drop->kz,getElem?_of_mem->kD,take_zero->kE,length_pos_iff->kO,getElem?_take->lz,length->mK,forIn_cons->mU,foldl->nw,getD->n4,all_map->n5,all_nil->og,lookup->ot
open PySem.W renaming Frag->af,kitOne->bo,openEnds->bv,tabIn->bN,kia_one->bV,exmOne->bW,openSeen->bX,openGood->bZ,findIn->cC,mg_of->cL,CodeHd->cQ,nsIn->cR,fencedOpening->cT,keepIn->c6,KitX->dn,fnOf->et,OpenLaw->eG,Looks->fu,cellsFrom_some->fL,recOk->gy,looks_findIn->gJ,xlAt->g7,codeIn->ig,specialIn->iI,takesIn->jL,lookIn->kc,tabObj->kC,mroIn->kW,kitx_tuple->lf,callWith_K->li,codeRec_of->lj,mg_none_of->lC,kitx_list->lI,plainGet->lZ,codeHdIn->my,instObj->mQ,kla_fn->ny,TabsAt->nB,noTabs->nD,LeftO->nK,WalkO->nM,fnX->ou
open Bool renaming and_eq_true->aj,false_ne_true->aH,false_eq_true->bE,eq_iff_iff->cD,or_eq_true->cH,not_eq_true'->eU,not_true->fj,or_eq_false_iff->gG,and_true->iV,true_and->iX,and_eq_true_iff->jY,noConfusion->mG,false_or->nR,and_self->nV
open PySem.Heap renaming get?_push_of_some->ao,get?_push_size->aI,lt_size->aJ,get?_update_other->bq,SameBut->cO,get?_update_self->cU,size_push->dD,ExtBut->kh
open Nat renaming le_trans->ar,le_refl->au,ne_of_lt->aK,lt_of_lt_of_le->aL,lt_irrefl->bG,zero_le->b9,zero_add->cG,mul_le_mul_right->c9,succ_mul->dN,le_succ->dQ,succ_le_of_lt->dR,sub_self->eF,add_assoc->eP,pow_le_pow_right->e8,mul_le_mul->fc,lt_trichotomy->fT,lt_succ_self->gi,le_of_lt->g9,le_of_succ_le->iC,lt_succ_of_lt->iD,ne_of_gt->jt,add_comm->jC,lt_or_ge->jG,not_lt_zero->jJ,lt_of_le_of_lt->lr,eq_zero_or_pos->lu,not_lt->lv,pow_succ->lU,le_of_not_lt->mf,succ_ne_self->mw,mul_add->mO,mul_comm->n9,add_zero->ol
open Option.some renaming inj->aC
open PySem.Str renaming ofString->aZ
open False renaming elim->bD
open PyProof.Rows renaming slot_tuple_getitem->bL,callWith_type1->eV,kindOf->f9,envOfC->gR,AllBare->g8,subscriptTail_builtinR->jz,entry_tuple_getitem->kL,Constant_none->kQ,tupleItemsOf_->kT,args_tuple_getitem->ln,IntsAre->mZ
open PySem.Builtin.Str renaming strSliceIndices->bQ,tooLong->nJ
open PySem.F renaming slot_dict_itemiterator_next->bS,plainAttrs_list->cJ,plain_min_loop->dv,plain_max_loop->dw,slot_tuple_iterator_next->dE,slot_NoneType_hash->eY,args_tuple_add_2->fm,slot_int_rmul->fF,entry_tuple_add->fG,slot_tuple_hash->fK,slot_tuple_add->fM,slot_list_append->fO,slot_tuple_mul->fP,args_dict_itemiterator_next_1->fY,attrBase_ValueError->fZ,entry_dict_itemiterator_next->gj,slot_dict_itemiterator_iter->gH,args_tuple_iterator_next_1->gW,entry_tuple_iterator_next->hV,type_list_append->iW,entry_min_loop->i8,slot_tuple_rmul->i9,plainAttrs_dict->jl,slot_dict_items->jn,entry_max_loop->jo,slot_dict_items_iter->jF,slot_list_extend->jS,slot_dict_get->jT,args_int_rmul_2->ke,excBase_ValueError->kr,slot_list_count->kA,slot_list_index->kB,slot_int_index->kM,entry_int_rmul->kN,fills_int_mul->lq,slot_tuple_eq->mP
open PySem.Builtin.Tuple renaming tupleHashOf->bT,tupleItemsOf->dA,tupleExact->dU,tupleTooMany->iq,tupleIsExact->nz
open Int renaming toNat_natCast->ce,le_refl->dP,natCast_mul->fx,mul_le_mul_of_nonneg_left->gK,toNat_of_nonneg->gZ,one_mul->iK,le_antisymm->jM,ofNat_lt->lP,le_total->lS,zero_add->lV,natCast_add->mW,ediv_one->n8,sub_zero->oh
open Option renaming map_eq_some_iff->cr,isSome_iff_exists->fi,bind_some->gu,join_some->gv,map_some->gX,isSome_some->io,isSome_map->iG,bind_eq_some_iff->iY,getD_none->l9
open List.Nodup renaming length_le_of_subset->cu
open PySem.Builtin.SmallTypes renaming nextOf->cx
open Function renaming comp->cM
open Array renaming length_toList->cS,forIn_toList->hW,getElem?_toList->jV,getElem?_mapIdx->jW,append_assoc->k8,toList->lG
open PySem.Around renaming under_plainId->c8
open Classical renaming propDecidable->di
open PySem.W.OpenRow renaming toRowW->dj
open Ne renaming symm->dk
open PySem.Builtin.Builtins renaming bindParams->dm
open PySem.Paired renaming length->dq,mono->iA,snoc->ow
open PySem.W.Looks renaming andThen->dF,now->iJ,ld->mF,tag->oB
open PySem.Builtin.Slice renaming slicePlaces->dG,sliceAdjust->fg,sliceApplied->ik,slicePartIndex->mR,sliceFields->nG
open PySem.W.RowW renaming records->dK
open PySem.Builtin.List renaming listTooLong->dX
open PySem.Builtin.Range renaming rangeSize->d6,small->kP,rangeFitsLong->nh
open PySem.Builtin.Getset_descriptor renaming descrCheckInstance->d8,descrOwnerAndName->eg,descrGetter->fe,descrNameAndClass->jq,descrGetArgs->kq
open PySem.Builtin.Dict_items renaming ownsTuple->eM,ownedTupleFields->fq,ownedTupleIsFree->ft,pairFromOwner->fR,newIterator->mD,dictOf->nI
open PySem.SeqAt.EqAt renaming same->fw,of_refs->ib,none_tuple->jN,tuple_none->jO,int_tuple->jZ,str_tuple->j7,tuple_int->j8,tuple_str->j9,bool_bool->ku,none_int->kH,none_str->kI,int_none->kJ,str_none->kK,int_str->kY,str_int->kZ
open PySem.Builtin.ObjectAttr renaming find->fJ
open PySem.Calls renaming callWith_builtin->fN,evalArgs_plain->gE,Name_function_global->ic,spliced_cons->ie,spliced_nil->lJ
open PySem.Txt renaming slice->gT
open PySem.Heap.SameBut renaming update->gY
open PySem.SeqAt renaming EqAt->iu,RcNeAt->oa,RcAt->oA
open PySem.W.OpenLaw renaming wellSaid->iL
open PySem.Obj renaming mapSeq->jA,data_mapFields->lw
open PySem.Walks renaming list->jE,range->on
open PySem.Builtin.Dict renaming showsAll->jU
open Prod.mk renaming injEq->kX
open PySem.W.KF renaming slot_gs->lx
open Prod renaming ext->lD
open PySem.SeqAt.RcAt renaming tuples->lE
open PyProof.Rows.IsTup renaming new->l8
open PySem.PassesOwn renaming never->mV
open PySem.EqMixed renaming ne_bool_str->nE,ne_str_bool->nF,ne_int_str->nP,ne_str_int->nQ
open PySem.Value renaming isStrOf->nN,isInt->om
open PySem.CmpOf renaming ints_lt->nS
open PySem.Shared renaming TypeIs->nT
open List.Pairwise renaming imp_of_mem->nU,filter->oy
open PySem.StrLaws renaming found_one->nZ
open PySem.IsRange renaming new->oq
open PySem.Heap.IsSliceOf renaming new->oz
abbrev yA:=List (PySem.Addr×PySem.Obj)
abbrev yB:=List (PySem.Str×PySem.Addr)
abbrev yC:=PySem.Str->Option PySem.Value
abbrev yD:=List (Option Nat)
abbrev yE:=Array (Option PySem.Value)
abbrev yF:=List (PySem.Addr×PySem.Addr)
abbrev yG:=List PySem.Value
abbrev yH:=List PySem.Str
abbrev yI:=Option PySem.Addr
abbrev yJ:=Array PySem.Value
abbrev yK:=List PySem.Expr
abbrev yL:=List PySem.Stmt
def Zq0 (_:True:=by first|exact .inl rfl|exact .inr rfl|assumption):=trivial
def Zq1 (_:True:=by decide):=trivial
def Zq2 (_:True:=by first|exact aO1 _ (by decide) (by decide)|rfl):=trivial
def Zq3 (_:True:=by intro _;rfl):=trivial
def Zq4 (_:True:=by rfl):=trivial
def Zq5 (_:True:=by with_unfolding_all rfl):=trivial
def Zq6 (_:True:=by first|exact Or.inl rfl|exact Or.inr (Or.inl rfl)|exact Or.inr (Or.inr rfl)):=trivial
def Zq7 (_:True:=by decide +kernel):=trivial
namespace Internal
noncomputable section
namespace L2
open PySem PySem.Spec PyProof.Rows
def head_of {l:eG}{q:aM}{loose:yH}{H:PySem.W.Hook}{N:Nat}{d:DefRec}{z:List (Str×Expr)}
  (left:nK l.row.prog q loose (λ s=>g7 q [] s&&gy (dK (dj l.row)) s) H.obs H.val N)
  (F:PySem.W.defOf q l.row.name=some (d,z)) (hp:l.row.prog.theDef l.row.name=some (d.params,d.body,d.scope)) (hk:PySem.W.kwWritten? d.params.kwonlyargs d.params.kw_defaults=some z) (G:(!l.row.writes||l.row.records.isEmpty)=true)
  (k1:l.row.wellSaid=true) (ok:(PySem.W.chainsOk q&&PySem.W.opensWell l.row.prog&&(PySem.W.frees l.row.toRowW&&l.row.within.isEmpty))=true) (hb:l.row.prog.bare) (hw:l.row.toRowW.promised)
  (call:nM q loose (PySem.W.XL q []) H.says l.row.toRowW d z λ f vs=>ni f vs):l.row.Holds :=
 PySem.W.holds_open left H.of H.keeps (λ s e=>PySem.W.xl_of s (jY.mp e).1) PySem.W.XL.keeps F hp hk (λ s e=>PySem.W.recFacts_of (jY.mp e).2) G k1 ok hb hw call
noncomputable def bT2 (s : ag) : (Option Str × List (Str × Value)) × Bool := (s.heap.bltView, s.heap.life.registered.isEmpty && !s.heap.life.counting && (s.heap.get? fB).isSome && !decide (s.heap.nsMap bu "__annotations__" = some (.ref fB)))
def bV3 (h:bv cf p w N=some s)(o:(cT cf p w N).map bT2=some (B,true)):s.heap.bltView=B:=by
 rw[<-table_eq_tree]at h o;unfold bv at h;obtain⟨s0,J,h⟩:=iY.mp h;rw[J]at o;obtain⟨G,F⟩:=Prod.mk.inj (aC o);simp only[aj,eU,decide_eq_false_iff_not,List.isEmpty_iff]at F;obtain⟨⟨⟨Z,Y⟩,a3⟩,a4⟩:=F;unfold PySem.W.topFrom at h;split at h
 case h_2=>cases h
 obtain⟨s1,e1,h⟩:=iY.mp h;split at h
 case h_2=>cases h
 cases h;obtain⟨ob,z⟩:=fi.mp a3;have fr:=(PySem.W.topRun_spec _ _ _ _ ⟨Z,Y⟩ e1).2.2.2 fB ob (aJ z) (by decide) (by decide) a4 z;rw[<-G];unfold Heap.bltView Heap.nsPairs;rw[fr,z]
def bb3 {loose:yH}{α:Type}{G}{F:World->α}
  (h0:(bv cf p w N).map (λ s=>(bX q loose (cj p.main.body) z true s).1)=some (bZ q loose).1)
  (hb:(cT cf p w N).map bT2=some (gz,true))
  (Y:(bv cf p w N).map (λ s=>(bX q loose (cj p.main.body) z true s).2.2)=some (bZ q loose).2.2)
  (J:(bv cf p w N).map G=some (F w)):(bv cf p w N).map (λ s=>((bX q loose (cj p.main.body) z true s),G s))=some ((bZ q loose),F w):=by
 obtain⟨s,a,b⟩:=cr.mp h0;have Z:=bV3 a hb;rw[a]at Y J;rw[a];exact congrArg some (lD (lD b (lD Z (aC Y))) (aC J))
theorem left_rowsG {loose:yH}{F:World->α} row 
  (a0:∀ w:World,(bv cf p (w.withFollow row false) N).map (λ s=>(bX q loose (cj p.main.body) z true s).1)=some (bZ q loose).1)
  (ab:∀ w:World,(cT cf p (w.withFollow row false) N).map bT2=some (gz,true))
  (Z:∀ w:World,(bv cf p (w.withFollow row false) N).map (λ s=>(bX q loose (cj p.main.body) z true s).2.2)=some (bZ q loose).2.2)
  (b0:∀ w:World,(bv cf p (w.withFollow row true) N).map (λ s=>(bX q loose (cj p.main.body) z true s).1)=some (bZ q loose).1)
  (Y:∀ w:World,(cT cf p (w.withFollow row true) N).map bT2=some (gz,true))
  (b1:∀ w:World,(bv cf p (w.withFollow row true) N).map (λ s=>(bX q loose (cj p.main.body) z true s).2.2)=some (bZ q loose).2.2)
  (J:∀ w:World,(bv cf p (w.withFollow row false) N).map G=some (F (w.withFollow row false)))
  (b2:∀ w:World,(bv cf p (w.withFollow row true) N).map G=some (F (w.withFollow row true))):nK p q loose z G F N:=λ w=>by
 have e:=PySem.World.withFollow_self w row;cases hb:w.params.followText row<;>rw[hb]at e
 .have:=bb3 (a0 w) (ab w) (Z w) (J w)
  rwa [e]at this
 .have:=bb3 (b0 w) (Y w) (b1 w) (b2 w)
  rwa [e]at this
end L2
end
noncomputable section
namespace My
open PySem L2
noncomputable def nmS:Stmt->Bool
 | .Assign [.Name x _] _ _=>decide (x=("__name__"))
 | _=>false
def vq:aM:={ PySem.Challenge.pw_leasttolls_k57_pairs_refused with main:={ (PySem.Challenge.pw_leasttolls_k57_pairs_refused).main with body:=(PySem.Challenge.pw_leasttolls_k57_pairs_refused).main.body.filter λ s=>!nmS s } }
set_option maxRecDepth 100000 in
set_option maxHeartbeats 0 in
theorem left1:∀ w:World,(bv cf PySem.Challenge.rw_leasttolls_k57_pairs_refused.row.prog (w.withFollow "special-get-raises" false) 9000).map (λ s=>(bX vq ["NoMaking", "NoPaper"] (cj PySem.Challenge.rw_leasttolls_k57_pairs_refused.row.prog.main.body) (λ s=>g7 vq [] s&&gy (dK (dj PySem.Challenge.rw_leasttolls_k57_pairs_refused.row)) s) true s).2.2)=some (bZ vq ["NoMaking", "NoPaper"]).2.2:=λ w=>by kernel_rfl
set_option maxRecDepth 100000 in
set_option maxHeartbeats 0 in
theorem left0:∀ w:World,(bv cf PySem.Challenge.rw_leasttolls_k57_pairs_refused.row.prog (w.withFollow "special-get-raises" false) 9000).map (λ s=>(bX vq ["NoMaking", "NoPaper"] (cj PySem.Challenge.rw_leasttolls_k57_pairs_refused.row.prog.main.body) (λ s=>g7 vq [] s&&gy (dK (dj PySem.Challenge.rw_leasttolls_k57_pairs_refused.row)) s) true s).1)=some (bZ vq ["NoMaking", "NoPaper"]).1:=λ w=>by kernel_rfl
set_option maxRecDepth 100000 in
set_option maxHeartbeats 0 in
theorem leftB:∀ w:World,(cT cf PySem.Challenge.rw_leasttolls_k57_pairs_refused.row.prog (w.withFollow "special-get-raises" false) 9000).map bT2=some (gz,true):=λ w=>by kernel_rfl
set_option maxRecDepth 100000 in
set_option maxHeartbeats 0 in
theorem left4:∀ w:World,(bv cf PySem.Challenge.rw_leasttolls_k57_pairs_refused.row.prog (w.withFollow "special-get-raises" true) 9000).map (λ s=>(bX vq ["NoMaking", "NoPaper"] (cj PySem.Challenge.rw_leasttolls_k57_pairs_refused.row.prog.main.body) (λ s=>g7 vq [] s&&gy (dK (dj PySem.Challenge.rw_leasttolls_k57_pairs_refused.row)) s) true s).2.2)=some (bZ vq ["NoMaking", "NoPaper"]).2.2:=λ w=>by kernel_rfl
set_option maxRecDepth 100000 in
set_option maxHeartbeats 0 in
theorem left3:∀ w:World,(bv cf PySem.Challenge.rw_leasttolls_k57_pairs_refused.row.prog (w.withFollow "special-get-raises" true) 9000).map (λ s=>(bX vq ["NoMaking", "NoPaper"] (cj PySem.Challenge.rw_leasttolls_k57_pairs_refused.row.prog.main.body) (λ s=>g7 vq [] s&&gy (dK (dj PySem.Challenge.rw_leasttolls_k57_pairs_refused.row)) s) true s).1)=some (bZ vq ["NoMaking", "NoPaper"]).1:=λ w=>by kernel_rfl
set_option maxRecDepth 100000 in
set_option maxHeartbeats 0 in
theorem leftC:∀ w:World,(cT cf PySem.Challenge.rw_leasttolls_k57_pairs_refused.row.prog (w.withFollow "special-get-raises" true) 9000).map bT2=some (gz,true):=λ w=>by kernel_rfl
inductive IsL:eG->Prop|mk:IsL PySem.Challenge.rw_leasttolls_k57_pairs_refused
def cj6 (h:IsL l):PySem.Challenge.rw_leasttolls_k57_pairs_refused=l:=by cases h;rfl
noncomputable def lwp:{ l:eG // IsL l }:=by
 refine⟨?p,?h⟩
 case h =>
  have e:PySem.Challenge.rw_leasttolls_k57_pairs_refused=?p:=by
   conv=>lhs;reduce
  exact e▸IsL.mk
def ws1:iL lwp.1=true:=by k_qdec
def ws:iL PySem.Challenge.rw_leasttolls_k57_pairs_refused=true:=by
 rw[cj6 lwp.2];exact ws1
end My
end
section
open PySem PySem.W PyProof.Rows
set_option hygiene false in
local macro_rules | `(tactic| o_head $H) => `(tactic| (refine L2.head_of (q := My.vq) (loose := ["NoMaking", "NoPaper"]) (H := $H) (N := 9000) (L2.left_rowsG "special-get-raises" My.left0 My.leftB My.left1 My.left3 My.leftC My.left4 ?my2 ?my5) (by rfl) (by rfl) (by rfl) rfl (by assumption) (by decide +kernel) ⟨rfl, rfl, rfl, rfl, rfl, by decide +kernel⟩ ?_ ?_; (case my2 => exact myl2); (case my5 => exact myl5)))
set_option maxRecDepth 100000 in
set_option maxHeartbeats 0 in
noncomputable def My.GT0:(L2:Prop) ×' (L5:Prop) ×' { G:Prop // L2->L5->G->PySem.Challenge.rw_leasttolls_k57_pairs_refused.Holds }:=by
 refine⟨?L2,?L5,?G,?h⟩
 case h =>
  intro myl2 myl5 g
  w_on;refine holds_law My.ws λ said=>?_;k_head;(focus w_witness2)
  exact g
set_option maxRecDepth 100000 in
set_option maxHeartbeats 0 in
theorem My.left2:My.GT0.1:=λ w=>by kernel_rfl
set_option maxRecDepth 100000 in
set_option maxHeartbeats 0 in
theorem My.left5:My.GT0.2.1:=λ w=>by kernel_rfl
end
noncomputable section
namespace L2
open PySem PySem.Spec PyProof.Rows
abbrev Key:=Sum Int Str
noncomputable def aK1:Key->Value->Bool
 | .inl k,v=>om k v
 | .inr x,v=>nN x v
noncomputable def cw8 (w:World):Key->Int
 | .inl k=>hashInt k
 | .inr x=>hashStr w x
def zl:∀ {k} {v},aK1 k v=true->(∃ i t,k=Sum.inl i/\v=Value.int i t)\/(∃ x t,k=Sum.inr x/\v=Value.str x t)
 | .inl i,v,h=>by
  obtain⟨t,e⟩:=Value.isInt_shape h;exact .inl ⟨i,t,rfl,e⟩
 | .inr x,v,h=>by
  obtain⟨t,e⟩:=Value.isStrOf_shape h;exact .inr ⟨x,t,rfl,e⟩
def bb7 i t :aK1 (.inl i) (.int i t)=true:=by simp[aK1,om]
def bg3 x t :aK1 (.inr x) (.str x t)=true:=by simp[aK1,nN]
def bU5 a b :decide ((Sum.inl a:Key)=Sum.inl b)=(a==b):=by
 by_cases e:a=b
 .subst e;simp
 .have h:¬(Sum.inl a:Key)=Sum.inl b:=λ q=>e (Sum.inl.inj q);rw[decide_eq_false h];exact(beq_eq_false_iff_ne.mpr e).symm
def ce3 a b :decide ((Sum.inr a:Key)=Sum.inr b)=decide (a=b):=by
 by_cases e:a=b
 .subst e;simp
 .have h:¬(Sum.inr a:Key)=Sum.inr b:=λ q=>e (Sum.inr.inj q);rw[decide_eq_false h,decide_eq_false e]
def bX5 a b :decide ((Sum.inl a:Key)=Sum.inr b)=false:=decide_eq_false (λ q=>nomatch q)
def cb3 a b :decide ((Sum.inr a:Key)=Sum.inl b)=false:=decide_eq_false (λ q=>nomatch q)
def qL prog w :nO prog w Key where
 is:=aK1
 hash:=cw8 w
 inj:=λ v a b ha hb=>by
  rcases zl ha with⟨i,t,rfl,rfl⟩|⟨x,t,rfl,rfl⟩
  .rcases zl hb with⟨j,u,rfl,e⟩|⟨y,u,rfl,e⟩
   .injection e with e1 _;rw[e1]
   .exact nomatch e
  .rcases zl hb with⟨j,u,rfl,e⟩|⟨y,u,rfl,e⟩
   .exact nomatch e
   .injection e with e1 _;rw[e1]
 byValue:=λ k v h=>by
  rcases zl h with⟨i,t,rfl,rfl⟩|⟨x,t,rfl,rfl⟩<;>rfl
 pyHash:=λ hv h=>by
  rcases zl hv with⟨i,t,rfl,rfl⟩|⟨x,t,rfl,rfl⟩
  .exact wpAny_pyHash_int h
  .exact wpAny_pyHash_str h
 eqBool:=λ hu hv h=>by
  rcases zl hu with⟨i,t,rfl,rfl⟩|⟨x,t,rfl,rfl⟩
  .rcases zl hv with⟨j,u,rfl,rfl⟩|⟨y,u,rfl,rfl⟩
   .rw[bU5]at h;exact wpAny_eqBool_int h
   .rw[bX5]at h;exact kY i t y u _ _ _ _ h
  .rcases zl hv with⟨j,u,rfl,rfl⟩|⟨y,u,rfl,rfl⟩
   .rw[cb3]at h;exact kZ x t j u _ _ _ _ h
   .rw[ce3]at h;exact wpAny_eqBool_str h
 «strs»:=λ k x t v h=>by
  rcases zl h with⟨i,u,rfl,e⟩|⟨y,u,rfl,e⟩
  .exact nomatch e
  .injection e with e1 _;subst e1;cases v<;>rfl
def aJ6 prog w i t :(qL prog w).is (.inl i) (.int i t)=true:=bb7 i t
def aJ1 prog w x t :(qL prog w).is (.inr x) (.str x t)=true:=bg3 x t
abbrev FK:=Option Key
def fIs:FK->Value->Bool
 | none,v=>match v with|.none=>true|_=>false
 | some k,v=>aK1 k v
def fH (w:World):FK->Int
 | none=>0xFCA86420
 | some k=>cw8 w k
def zZ (h:fIs none v=true):v=.none:=by
 cases v with
 | none=>rfl
 | _=>exact nomatch h
def bc0 (h:Q 0xFCA86420 { s with toks:=s.toks+1 }):wpAny (model P w) A (PySem.pyHash .none) Q E s:=by
 have hT:s.TypeIs .none "NoneType":=rfl;unfold PySem.pyHash pyHashByItsType;refine ac (wpAny_cRoomFor_byValue rfl ?_);refine ac (eI hT eY.lookup ?_);rw[if_neg (by rw[lW];exact aH)];refine ac (eI hT eY.lookup ?_);refine ac (eQ hT eY (b7 eY hT F.entry_NoneType_hash
   (wpAny_ret_mkInt ?_) (F.args_NoneType_hash_1 _)))
 show wpAny _ _ (if _ then _ else _) Q E _;rw[if_pos (by decide)];exact am h
def qM prog w :nO prog w FK where
 is:=fIs
 hash:=fH w
 inj:=λ v a b ha hb=>by
  cases a with
  | none =>
   cases zZ ha;cases b with
   | none=>rfl
   | some k=>rcases zl hb with⟨_,_,_,e⟩|⟨_,_,_,e⟩<;>exact nomatch e
  | some k =>
   cases b with
   | none=>cases zZ hb;rcases zl ha with⟨_,_,_,e⟩|⟨_,_,_,e⟩<;>exact nomatch e
   | some j=>exact congrArg some ((qL prog w).inj v k j ha hb)
 byValue:=λ k v h=>by
  cases k with
  | none=>cases zZ h;rfl
  | some k=>exact(qL prog w).byValue k v h
 pyHash:=λ {A E s k v Q} hv h=>by
  cases k with
  | none=>cases zZ hv;exact bc0 h
  | some k=>exact(qL prog w).pyHash hv h
 eqBool:=λ {A E s a b u v Q} hu hv h=>by
  cases a with
  | none =>
   cases zZ hu;cases b with
   | none=>cases zZ hv;exact fw _ prog w E Q h
   | some k =>
    rcases zl hv with⟨i,t,rfl,rfl⟩|⟨x,t,rfl,rfl⟩
    .exact kH i t _ _ _ _ h
    .exact kI x t _ _ _ _ h
  | some k =>
   cases b with
   | none =>
    cases zZ hv;rcases zl hu with⟨i,t,rfl,rfl⟩|⟨x,t,rfl,rfl⟩
    .exact kJ i t _ _ _ _ h
    .exact kK x t _ _ _ _ h
   | some j =>
    refine(qL prog w).eqBool hu hv ?_;have e:decide (k=j)=decide (some k=some j):=by simp
    rw[e];exact h
 «strs»:=λ k x t v h=>by
  cases k with
  | none=>exact nomatch zZ h
  | some k=>exact(qL prog w).strs k x t v h
abbrev NI:=Sum FK (List FK)
section
variable (P:aM) (w:World)
def NIs (h:Heap):NI->Value->Prop
 | .inl f,v=>fIs f v=true
 | .inr l,v=>∃ b,v=.ref b/\fC (qM P w) h l b
def bA7 (h:Heap)(ks:List NI)(a:Addr):Prop:=∃ o its n,h.get? a=some o/\o.cls=.type "tuple"/\o.data=.seq its n/\dz (NIs P w h) ks its.toList
def aL5:NI->Int
 | .inl f=>fH w f
 | .inr l=>tupleKeyHash (qM P w) l
noncomputable def aY4:NI->Nat
 | .inl f=>1
 | .inr l=>l.length+1
def jh:List NI->Nat
 | []=>0
 | k::ks=>aY4 k+jh ks
end
section
variable {P:aM} {w:World} {h h':Heap}
theorem NIs.inj (hx:NIs P w h x v)(hy:NIs P w h y v):x=y:=by
 cases x with
 | inl f =>
  cases y with
  | inl g=>exact congrArg Sum.inl ((qM P w).inj v f g hx hy)
  | inr l =>
   obtain⟨b,rfl,_⟩:=hy;exact absurd ((qM P w).byValue f _ hx) (by nofun)
 | inr l =>
  obtain⟨b,rfl,hb⟩:=hx;cases y with
  | inl g=>exact absurd ((qM P w).byValue g _ hy) (by nofun)
  | inr m =>
   obtain⟨c,e,hc⟩:=hy;cases e;exact congrArg Sum.inr (hb.inj hc)
theorem NIs.all_inj:∀ {x y} {vs:yG},dz (NIs P w h) x vs->dz (NIs P w h) y vs->x=y
 | _,_,_,.nil,.nil=>rfl
 | _,_,_,.cons a p,.cons b q=>by rw[a.inj b,NIs.all_inj p q]
def bA7.inj (hx:bA7 P w h x a)(hy:bA7 P w h y a):x=y:=by
 obtain⟨o,i,n,e,_,d,p⟩:=hx;obtain⟨G,J,F,e',_,d',z⟩:=hy;rw[e]at e';cases e';rw[d]at d';cases d';exact NIs.all_inj p z
def NIs.keep (k:∀ b l,fC (qM P w) h l b->fC (qM P w) h' l b)(hx:NIs P w h x v):NIs P w h' x v:=by
 cases x with
 | inl f=>exact hx
 | inr l=>obtain⟨b,e,p⟩:=hx;exact⟨b,e,k _ _ p⟩
def bR1 (hu:A.units+1<cLine)(hk:bA7 P w s.heap k a)
  (z:Q (nj (bT (k.map (aL5 P w)))) { s with toks:=s.toks+(jh k+1) }):wpAny (model P w) A (PySem.pyHash (.ref a)) Q E s:=by
 obtain⟨o,its,n,e,c,d,p⟩:=hk;have hT:s.TypeIs (.ref a) "tuple":=⟨o,e,c⟩
 unfold PySem.pyHash pyHashByItsType;refine ac (wpAny_cRoomFor (by lia) ?_);refine ac (eI hT fK.lookup ?_);rw[if_neg (by rw[lW];nofun)];refine ac (eI hT fK.lookup ?_);refine ac (eQ hT fK (b7 fK hT F.entry_tuple_hash ?_ (F.args_tuple_hash_1 _)));show wpAny _ _ (dA (.ref a) >>= _) _ _ s;refine ac (wpAny_tupleItemsOf e d (ac ?_));rw[<-hW];refine iZ _
  (λ rest (b) s'=>∃ q r,k=q++r/\dz (NIs P w s.heap) r rest/\b.toList=q.map (aL5 P w)/\s'={ s with toks:=s.toks+jh q }) _ ?_ ?_ _ _ ⟨[],k,rfl,p,rfl,rfl⟩
 .rintro x rest b s' ⟨q,r,rfl,pr,hb,rfl⟩
  cases pr with
  | @cons u _ r' _ h1 t =>
   have ds:∀ q:List NI,jh (q++[u])=jh q+aY4 u:=λ q=>by
    induction q with
    | nil=>simp[jh]
    | cons c q ih=>rw[aB,jh,jh,ih];lia
   refine ac ?_;cases u with
   | inl f =>
    refine(qM P w).pyHash h1 ?_
    first
     | exact am ⟨q++[.inl f],r',by simp,t,by simp[];rfl,by rw[ds];simp[eP]⟩
     | exact ac (am (am ⟨q++[.inl f],r',by simp,t,by simp[hb];rfl,by rw[ds];simp[aY4,eP]⟩))
   | inr l =>
    obtain⟨J,rfl,G⟩:=h1;refine wpAny_pyHash_tuple (hu) G ?_
    first
     | exact am ⟨q++[.inr l],r',by simp,t,by simp[];rfl,by rw[ds];simp[eP]⟩
     | exact ac (am (am ⟨q++[.inr l],r',by simp,t,by simp[hb];rfl,by rw[ds];simp[aY4,eP]⟩))
 .rintro b s' ⟨q,r,rfl,pr,hb,rfl⟩
  cases pr;rw[bh]at z;show wpAny _ _ (retInt (bT b.toList)) _ _ _;rw[hb];refine wpAny_ret_mkInt ?_;show wpAny _ _ (if(decide (-(2:Int)^63<=bT (q.map (aL5 P w)))&&decide (bT (q.map (aL5 P w))<2^63))=true then _ else _) Q E _;unfold nj at z;by_cases hr:(decide (-(2:Int)^63<=bT (q.map (aL5 P w)))&&decide (bT (q.map (aL5 P w))<2^63))=true
  .rw[if_pos hr]at z ⊢;exact am (by simpa [eP]using z)
  .rw[if_neg hr]at z ⊢;exact ac (hZ (am (by simpa [eP]using z)))
def aU2 (x:fC (qM P w) h l b):∃ its,h.IsTuple b its:=let⟨o,its,n,e,c,d,_⟩:=x;⟨its,o,e,c,n,d⟩
theorem ItemsAre.cg :∀ {l} {vs:yG},ItemsAre (qM P w) l vs->ItemsAre (qM z w') l vs
 | _,_,.nil=>.nil
 | _,_,.cons h t=>.cons (h) (ItemsAre.cg t)
theorem fC.cg :fC (qM P w) h l b->fC (qM z w') h l b:=λ⟨o,i,n,e,c,d,p⟩=>⟨o,i,n,e,c,d,ItemsAre.cg p⟩
theorem NIs.cg (hx:NIs P w h x v):NIs z w' h x v:=by
 cases x with
 | inl f=>exact hx
 | inr l=>obtain⟨b,e,p⟩:=hx;exact⟨b,e,fC.cg p⟩
def cq1 (hu:A.units<cLine)(hx:NIs P w s.heap x u)(hy:NIs P w s.heap y v)(F:Q (decide (x=y)) s):wpAny (model P w) A (PySem.eqBool u v) Q E s:=by
 cases x with
 | inl f =>
  cases y with
  | inl g =>
   refine(qM P w).eqBool hx hy ?_;have e:decide (f=g)=decide ((Sum.inl f:NI)=Sum.inl g):=by simp
   rw[e];exact F
  | inr l =>
   obtain⟨b,rfl,hb⟩:=hy;obtain⟨its,G⟩:=aU2 hb;cases f with
   | none=>cases zZ hx;exact jN G hu _ _ _ _ F
   | some k =>
    rcases zl hx with⟨i,t,rfl,rfl⟩|⟨z,t,rfl,rfl⟩
    .exact jZ i t G hu _ _ _ _ F
    .exact j7 z t G hu _ _ _ _ F
 | inr l =>
  obtain⟨b,rfl,hb⟩:=hx;cases y with
  | inl f =>
   obtain⟨its,G⟩:=aU2 hb;cases f with
   | none=>cases zZ hy;exact jO G hu _ _ _ _ F
   | some k =>
    rcases zl hy with⟨i,t,rfl,rfl⟩|⟨z,t,rfl,rfl⟩
    .exact j8 i t G hu _ _ _ _ F
    .exact j9 z t G hu _ _ _ _ F
  | inr m =>
   obtain⟨c,rfl,hc⟩:=hy;refine wpAny_eqBool_tuple hu hb hc ?_;have e:decide (l=m)=decide ((Sum.inr l:NI)=Sum.inr m):=by simp
   rw[e];exact F
theorem bk8:∀(x y:List NI),((bn (min x.length y.length)).all (λ j=>decide (x[j]?=y[j]?))&&x.length==y.length)=decide (x=y)
 | [],[]=>rfl
 | [],_::_=>by simp
 | _::_,[]=>by simp
 | a::x,b::y=>by
  have z:=bk8 x y;have hm:min (a::x).length (b::y).length=min x.length y.length+1:=by simp only[aR];lia
  rw[hm,jr,cz,n5];by_cases e:a=b
  .subst e;have:decide (a::x=a::y)=decide (x=y):=by simp
   rw[this,<-z];simp[Function.comp_def]
  .have:decide ((a::x)[0]?=(b::y)[0]?)=false:=by simp[e]
   rw[this];simp[e]
theorem bL1 :∀ {z} {l₂},dz F z l₂->∀ j (h:j<l₂.length),∃ a,z[j]?=some a/\F a l₂[j]
 | _,_,.nil,j,h=>absurd h (jJ _)
 | _,_,.cons r t,0,h=>⟨_,rfl,r⟩
 | _,_,.cons r t,j+1,h=>bL1 t j (Nat.lt_of_succ_lt_succ h)
def cp8 (hu:A.units+1<cLine)(hx:bA7 P w s.heap x a)(hy:bA7 P w s.heap y b)(z:Q (decide (x=y)) s) :
  wpAny (model P w) A (PySem.eqBool (.ref a) (.ref b)) Q E s:=by
 by_cases hab:a=b
 .subst hab;cases hx.inj hy;rw[decide_eq_true rfl]at z;exact fw _ _ _ _ _ z
 .obtain⟨o,i,n,e,c,d,p⟩:=hx;obtain⟨o',i',G,e',Y,d',F⟩:=hy;have l1:x.length=i.size:=dq p;have Z:y.length=i'.size:=dq F;have key:=lE (A:=A) (e:=λ j=>decide (x[j]?=y[j]?)) ⟨o,e,c,n,d⟩ ⟨o',e',Y,G,d'⟩ (by lia) λ j h1 h2 prog w' E' Q' hq=>by
   obtain⟨u,J,q2⟩:=bL1 p j (by rw[cS];exact h1);obtain⟨v,r1,r2⟩:=bL1 F j (by rw[cS];exact h2);refine cq1 (hu) (NIs.cg (by simpa using q2)) (NIs.cg (by simpa using r2)) ?_;rw[J,r1]at hq;have e:decide (u=v)=decide (some u=some v):=by simp
   rw[e];exact hq
  rw[<-l1,<-Z,bk8]at key;exact ib hab key P w E Q z
def aV4 (hx:NIs P w s.heap x v)(z:Q true s):wpAny (model P w) A (lX 7 v) Q E s:=by
 cases x with
 | inl f=>rw[lF _ ((qM P w).byValue f _ hx)];exact am z
 | inr l =>
  obtain⟨b,rfl,o,its,n,e,c,d,p⟩:=hx;have hT:s.TypeIs (.ref b) "tuple":=⟨o,e,c⟩
  unfold lX;refine ac (eI hT mP.lookup ?_);refine ac (i4 hT jP ?_);simp only[if_false];refine ac (cN e d (ac ?_));rw[<-hW];refine iZ _ (λ rest r s'=>r.1=none/\s'=s/\∀ v∈rest,carriedByValue v=true) _ ?_ ?_ _ _ ⟨rfl,rfl,p.byValue⟩
  .rintro v rest r s' ⟨hr,rfl,al⟩
   rw[lF _ (al v ax)];refine ac (am ?_);simp only[fj,if_false];exact am ⟨rfl,rfl,λ u q=>al u (ak _ q)⟩
  .rintro⟨r1,r2⟩ s' ⟨hr,rfl,_⟩
   simp only at hr;subst hr;exact am z
def br8 (hk:bA7 P w s.heap k a)(z:Q true s):wpAny (model P w) A (lX 8 (.ref a)) Q E s:=by
 obtain⟨o,its,n,e,c,d,p⟩:=hk;have hT:s.TypeIs (.ref a) "tuple":=⟨o,e,c⟩
 unfold lX;refine ac (eI hT mP.lookup ?_);refine ac (i4 hT jP ?_);simp only[if_false];refine ac (cN e d (ac ?_));rw[<-hW];refine iZ _ (λ rest r s'=>r.1=none/\s'=s/\∃ ks,dz (NIs P w s.heap) ks rest) _ ?_ ?_ _ _ ⟨rfl,rfl,k,p⟩
 .rintro v rest r s' ⟨hr,rfl,ks,al⟩
  cases al with
  | cons h1 t =>
   refine ac (aV4 h1 ?_);simp only[fj,if_false];exact am ⟨rfl,rfl,_,t⟩
 .rintro⟨r1,r2⟩ s' ⟨hr,rfl,_⟩
  simp only at hr;subst hr;exact am z
end
def an2 P w :HeapKind P w (List NI) where
 is:=bA7 P w
 hash:=λ k=>nj (bT (k.map (aL5 P w)))
 draws:=λ k=>jh k+1
 room:=λ A=>A.units+1<cLine
 inj:=λ hx hy=>hx.inj hy
 keeps:=λ {h h' k a d o es ep} x ho hd hs=>by
  obtain⟨o',i,n,e,c,q,p⟩:=x;have ne:a≠d:=by
   rintro rfl
   rw[e]at ho;cases ho;rw[hd]at q;cases q
  exact⟨o',i,n,(hs.2 a ne).trans e,c,q,iA (λ x v z=>NIs.keep (λ b l t=>t.keeps ho hd hs) z) p⟩
 pyHash:=λ hu hk h=>bR1 hu hk h
 eqBool:=λ hu hx hy h=>cp8 hu hx hy h
 quiet:=λ hk h=>br8 hk h
set_option genCtorIdx true in
set_option genInjectivity true in
inductive V where
 | N|T (b:Bool)|int (i:Int)|str (x:Str)|byt (b:Array UInt8)|flt (b:UInt64)|ref (a:Addr)|ty (n:String)
 deriving DecidableEq
noncomputable def RelV:V->Value->Prop
 | .N,u=>u=Value.none
 | .T b,u=>u=Value.bool b
 | .int i,u=>∃ t,u=Value.int i t
 | .str x,u=>∃ t,u=Value.str x t
 | .byt b,u=>∃ t,u=Value.bytes b t
 | .flt b,u=>∃ t,u=Value.float b t
 | .ref a,u=>u=Value.ref a
 | .ty n,u=>u=Value.type n
abbrev Vals:List V->List Value->Prop:=dz RelV
theorem Vals.length {us:yG}(r:Vals z us):z.length=us.length:=dq r
theorem Vals.get:∀ {z} {us:yG} {i:Nat} {x},Vals z us->z[i]?=some x->∃ u,us[i]?=some u/\RelV x u
 | _,_,_,_,.nil,e=>by simp at e
 | _,_,0,_,.cons r _,e=>by simp at e;subst e;exact⟨_,rfl,r⟩
 | _,_,i+1,x,.cons _ t,e=>by
  obtain⟨u,G,F⟩:=Vals.get t (by simpa using e);exact⟨u,by simpa using G,F⟩
theorem Vals.set (r:RelV x u):∀ {z} {us:yG} i ,Vals z us->Vals (z.set i x) (us.set i u)
 | _,_,_,.nil=>.nil
 | _,_,0,.cons _ t=>.cons r t
 | _,_,i+1,.cons q t=>.cons q (Vals.set r i t)
theorem Vals.append:∀ {z ys} {us ws:yG},Vals z us->Vals ys ws->Vals (z++ys) (us++ws)
 | _,_,_,_,.nil,s=>s
 | _,_,_,_,.cons r t,s=>.cons r (Vals.append t s)
theorem Vals.take:∀ {z} {us:yG} n ,Vals z us->Vals (z.take n) (us.take n)
 | _,_,0,_=>.nil
 | _,_,_+1,.nil=>.nil
 | _,_,n+1,.cons r t=>.cons r (Vals.take n t)
theorem Vals.drop:∀ {z} {us:yG} n ,Vals z us->Vals (z.drop n) (us.drop n)
 | _,_,0,r=>r
 | _,_,_+1,.nil=>.nil
 | _,_,n+1,.cons _ t=>Vals.drop n t
def bn0:Option V->Option Value->Prop
 | some v,some u=>RelV v u
 | none,none=>True
 | _,_=>False
def KV :List (κ×V)->List (κ×Value)->Prop:=dz λ(p) (q)=>p.1=q.1/\RelV p.2 q.2
noncomputable def kV:Key->V
 | .inl i=>.int i
 | .inr x=>.str x
inductive HO where
 | J (xs:List V)
 | tp (xs:List V)
 | dT (kvs:List (List NI×V))
 | own (x:Addr)
 | xd (fs:List (Str×V))
 | rng (lo hi:Int)
 | frz (o:Obj) (u:HO)
 | tbl (ps:yJ)
 | ext (C:Heap->Prop)
noncomputable abbrev HO.ctorIdx (x:HO):Nat:=HO.casesOn x (λ _=>0) (λ _=>1) (λ _=>2) (λ _=>3) (λ _=>4) (λ _ _=>5) (λ _ _=>6) (λ _=>7) (λ _=>8)
abbrev Hp:=Addr->Option HO
def fV:FK->V
 | none=>.N
 | some k=>kV k
def NAt (H:Hp):NI->V->Prop
 | .inl f,v=>v=fV f
 | .inr l,v=>∃ c,v=.ref c/\H c=some (.tp (l.map fV))
def NK (H:Hp)(k:List NI)(b:Addr):Prop:=∃ xs,H b=some (.tp xs)/\dz (NAt H) k xs
def NAt.mono (F:∀ b z,H b=some (.tp z)->H' b=some (.tp z))(h:NAt H k v):NAt H' k v:=by
 cases k with
 | inl f=>exact h
 | inr l=>obtain⟨c,e,q⟩:=h;exact⟨c,e,F _ _ q⟩
theorem NK.mono (G:∀ b F,H b=some (.tp F)->H' b=some (.tp F))(h:NK H k b):NK H' k b:=let⟨F,e,p⟩:=h;⟨F,G _ _ e,iA (λ _ _ z=>z.mono G) p⟩
noncomputable def upd (H:Hp)(a:Addr)(o:HO):Hp:=λ b=>if b=a then some o else H b
def zg :upd H a o a=some o:=by unfold upd;rw[if_pos rfl]
def zc (h:b≠a):upd H a o b=H b:=by unfold upd;rw[if_neg h]
def aN8 {H:Hp}(h:H a=some o)(h':H b=some u)(d:o≠u):a≠b:=by
 intro e;subst e;rw[h]at h';exact d (aC h')
def zf {H:Hp}(h:H a=some o)(h':H b=none):a≠b:=by
 intro e;subst e;rw[h]at h';cases h'
section
variable (P:aM) (w:World)
def ad5 (H:Hp)(h:Heap)(a:Addr):HO->Prop
 | .J xs=>xs.length<=aV/\∃(its:yG) (n:Nat),Vals xs its/\h.get? a=some { cls:=.type "list",data:=.seq its.toArray n }
 | .tp xs=>xs.length<=aV/\∃ its,Vals xs its/\IsTup h a its.toArray
 | .dT kvs=>kvs.length<=aV/\(a==fD)=false/\∃ xs,
   dz (λ(p) (q)=>p.1=q.1/\NK H p.1 q.2.1/\RelV p.2 q.2.2) kvs xs /\
   ∃ o es ep,h.get? a=some o/\o.ExactDict/\o.data=.dict es ep/\es.toList=xs.map (entryOfKey (an2 P w))/\(xs.map (·.1)).Nodup
 | .own _=>∃ o,h.get? a=some o
 | .xd fs=>∃ mA,h.Ns1 a mA/\∀ f,bn0 (fs.lookup f) (mA f)
 | .rng lo hi=>∃ t u v,h.get? a=some { cls:=.type "range",data:=.fields #[.int lo t,.int hi u,.int 1 v] }
 | .frz o u=>h.get? a=some o/\ad5 H h a u
 | .tbl ps=>h.get? a=some { cls:=.none,data:=.fields ps }
 | .ext C=>C h/\(∃ o,h.get? a=some o)/\∀ h1 h2:Heap,C h1->(∀ o,h1.get? a=some o->h2.get? a=some o)->C h2
def HOk (H:Hp)(h:Heap):Prop:=∀ a o,H a=some o->ad5 P w H h a o
end
section
variable {P:aM} {w:World} {H H':Hp} {h h':Heap} {a:Addr} {o:HO}
theorem ad5.lt (x:ad5 P w H h a o):a<h.objs.size:=by
 cases o with
 | J xs=>obtain⟨_,_,_,_,e⟩:=x;exact aJ e
 | tp xs=>obtain⟨_,_,_,p⟩:=x;exact p.lt
 | dT kvs=>obtain⟨_,_,_,_,o,_,_,e,_⟩:=x;exact aJ e
 | own y=>obtain⟨_,e⟩:=x;exact aJ e
 | xd fs=>obtain⟨_,⟨_,_,_,e,_⟩,_⟩:=x;exact aJ e
 | rng lo hi=>obtain⟨_,_,_,e⟩:=x;exact aJ e
 | frz ob u=>obtain⟨e,_⟩:=x;exact aJ e
 | tbl ps=>exact aJ (x)
 | ext C=>obtain⟨_,⟨_,e⟩,_⟩:=x;exact aJ e
theorem dz.mapP :∀ {z} {l₂},dz F z l₂->(∀ a b,F a b->G a b)->dz G z l₂
 | _,_,.nil,_=>.nil
 | _,_,.cons r t,f=>.cons (f _ _ r) (dz.mapP t f)
def ad5.stay (x:ad5 P w H h a o)(k:∀ b u,(b=a\/H b=some (.own a))->h.get? b=some u->h'.get? b=some u)
  (ho:∀ b,H b=some (.own a)->H' b=some (.own a)) (G:∀ b F,H b=some (.tp F)->H' b=some (.tp F)):ad5 P w H' h' a o:=by
 induction o with
 | J F=>obtain⟨z,its,n,r,e⟩:=x;exact⟨z,its,n,r,k _ _ (.inl rfl) e⟩
 | tp F=>obtain⟨z,its,r,ob,e,c⟩:=x;exact⟨z,its,r,ob,k _ _ (.inl rfl) e,c⟩
 | dT kvs =>
  obtain⟨z,y,F,r,ob,es,ep,e,c⟩:=x;exact⟨z,y,F,dz.mapP r λ p q z=>⟨z.1,z.2.1.mono G,z.2.2⟩,ob,es,ep,k _ _ (.inl rfl) e,c⟩
 | own y=>obtain⟨ob,e⟩:=x;exact⟨ob,k _ _ (.inl rfl) e⟩
 | xd fs=>obtain⟨J,⟨od,es,ep,e,c⟩,r⟩:=x;exact⟨J,⟨od,es,ep,k _ _ (.inl rfl) e,c⟩,r⟩
 | rng lo hi=>obtain⟨t,u,v,e⟩:=x;exact⟨t,u,v,k _ _ (.inl rfl) e⟩
 | frz ob u ih=>obtain⟨e,q⟩:=x;exact⟨k _ _ (.inl rfl) e,ih q⟩
 | tbl ps =>
  have e:=x;exact k a _ (.inl rfl) e
 | ext C=>obtain⟨p,⟨o,e⟩,st⟩:=x;exact⟨st _ _ p λ o q=>k _ _ (.inl rfl) q,⟨o,k _ _ (.inl rfl) e⟩,st⟩
theorem HOk.lt (x:HOk P w H h)(e:H a=some o):a<h.objs.size:=(x a o e).lt
def HOk.fresh (x:HOk P w H h)(e:h.objs.size<=a):H a=none:=by
 cases q:H a with
 | none=>rfl
 | some u=>exact absurd (aL (x.lt q) e) (bG _)
def HOk.kept (x:HOk P w H h)(k:∀ b u,h.get? b=some u->h'.get? b=some u):HOk P w H h':=λ a o e =>
 (x a o e).stay (λ b u _ q=>k b u q) (λ _ q=>q) λ _ _ q=>q
def HOk.laid (x:HOk P w H h)(k:∀ b u,h.get? b=some u->h'.get? b=some u)(hp:h.objs.size<=a)(new:ad5 P w (upd H a o) h' a o):HOk P w (upd H a o) h':=λ b u e=>by
 have hn:=x.fresh hp;by_cases hb:b=a
 .subst hb;rw[zg]at e;cases e;exact new
 .rw[zc hb]at e;exact(x b u e).stay (λ c v _ q=>k c v q) (λ c q=>by rw[zc (zf q hn)];exact q) λ c z q=>by rw[zc (zf q hn)];exact q
end
def Rd (H:Hp)(a:Addr)(u:HO):Prop:=H a=some u\/∃ o,H a=some (.frz o u)
def Rd.ok (r:Rd H a u)(x:HOk P w H h):ad5 P w H h a u:=by
 rcases r with r|⟨o,r⟩
 .exact x a u r
 .obtain⟨_,q⟩:=x a _ r;exact q
noncomputable def Mut:Option HO->Prop
 | some (.J _)=>True
 | some (.dT _)=>True
 | some (.ext _)=>True
 | _=>False
section
variable {P:aM} {w:World} {H:Hp} {h h':Heap} {x e:Addr} {o':HO}
def HOk.write (ok:HOk P w H h)(mu:Mut (H x))(he:e=x\/H e=some (.own x))(k:∀ b u,b≠e->h.get? b=some u->h'.get? b=some u)(Y:∃ u,h'.get? e=some u)
  (new:ad5 P w (upd H x o') h' x o'):HOk P w (upd H x o') h':=λ b u q=>by
 have F:∀ c y,H c=some (.own y)->c≠x:=λ c y r z=>by subst z;rw[r]at mu;exact mu
 have G:∀ c J,H c=some (.tp J)->c≠x:=λ c J r z=>by subst z;rw[r]at mu;exact mu
 by_cases hb:b=x
 .subst hb;rw[zg]at q;cases q;exact new
 .rw[zc hb]at q;by_cases hbe:b=e
  .have Z:H b=some (.own x):=by
    rcases he with z|z
    .exact absurd (hbe.trans z) hb
    .rw[hbe];exact z
   rw[q]at Z;cases Z;obtain⟨v,hv⟩:=Y;exact⟨v,by rw[hbe];exact hv⟩
  .refine(ok b u q).stay (λ c v hc r=>k c v ?_ r) (λ c r=>by rw[zc (F c b r)];exact r) λ c J r=>by rw[zc (G c J r)];exact r
   rcases hc with rfl|hc
   .exact hbe
   .rintro rfl
    rcases he with z|z
    .exact F c b hc z
    .rw[hc]at z;cases z;exact hb rfl
end
structure Un (fs ex:List Addr)(H H':Hp)(h h':Heap):Prop where
 keep:∀ b o,h.get? b=some o->H b=none->b ∉ fs->b ∉ ex->h'.get? b=some o
 slot:∀ b o,h.get? b=some o->H b=none->b∈fs->b ∉ ex->∃ sl,h'.get? b=some { o with slots:=sl }
 free:∀ b o,h.get? b=some o->H b=none->b ∉ ex->H' b=none
 there:∀ b o,h.get? b=some o->b ∉ ex->∃ o',h'.get? b=some o'
 tups:∀ b xs,H b=some (.tp xs)->H' b=some (.tp xs)
 frzs:∀ b o u,H b=some (.frz o u)->H' b=some (.frz o u)
 tbls:∀ b ps,H b=some (.tbl ps)->∃ more,H' b=some (.tbl (ps++more))
section
variable {fs fs' ex ex':List Addr} {H H1 H2:Hp} {h h1 h2 h':Heap} {a x e:Addr} {o:HO}
def Un.any (u:Un fs ex H H1 h h1)(q:h.get? b=some ob)(n:H b=none)(hx:b ∉ ex):∃ sl,h1.get? b=some { ob with slots:=sl }:=by
 by_cases hb:b∈fs
 .exact u.slot b ob q n hb hx
 .exact⟨ob.slots,u.keep b ob q n hb hx⟩
def Un.kept (k:∀ b u,h.get? b=some u->h'.get? b=some u):Un fs ex H H h h' :=
 ⟨λ b ob q _ _ _=>k b ob q,λ b ob q _ _ _=>⟨ob.slots,k b ob q⟩,λ _ _ _ n _=>n,λ b ob q _=>⟨ob,k b ob q⟩,λ _ _ q=>q,λ _ _ _ q=>q,λ _ ps q=>⟨#[],by rw[q];simp⟩⟩
def Un.refl:Un fs ex H H h h:=Un.kept λ _ _ q=>q
def Un.laid (k:∀ b u,h.get? b=some u->h'.get? b=some u)(hp:h.objs.size<=a)(hn:H a=none):Un fs ex H (upd H a o) h h' where
 keep:=λ b u q _ _ _=>k b u q
 slot:=λ b u q _ _ _=>⟨u.slots,k b u q⟩
 free:=λ b u q n _=>by rw[zc (aK (aL (aJ q) hp))];exact n
 there:=λ b u q _=>⟨u,k b u q⟩
 tups:=λ b z q=>by rw[zc (zf q hn)];exact q
 frzs:=λ b u z q=>by rw[zc (zf q hn)];exact q
 tbls:=λ b ps q=>⟨#[],by rw[zc (zf q hn),q];simp⟩
def Un.write (mu:Mut (H x))(G:e=x\/H e=some (.own x))(k:∀ b u,b≠e->h.get? b=some u->h'.get? b=some u)(F:∃ u,h'.get? e=some u):Un fs ex H (upd H x o) h h':=by
 have hx:∀ b,H b=none->b≠x:=λ b n z=>by subst z;rw[n]at mu;exact mu
 have hb:∀ b,H b=none->b≠e:=λ b n z=>by
  subst z;rcases G with r|r
  .exact hx b n r
  .rw[n]at r;cases r
 have hm:∀ b u,H b=some u->¬ Mut (some u)->b≠x:=λ b u q nm z=>by subst z;rw[q]at mu;exact nm mu
 refine⟨λ b u q n _ _=>k b u (hb b n) q,λ b u q n _ _=>⟨u.slots,k b u (hb b n) q⟩,λ b u q n _=>by rw[zc (hx b n)];exact n,λ b u q _=>?_,
  λ b J q=>by rw[zc (hm b _ q λ z=>z)];exact q,λ b u J q=>by rw[zc (hm b _ q λ z=>z)];exact q,λ b ps q=>⟨#[],by rw[zc (hm b _ q λ z=>z),q];simp⟩⟩
 by_cases hbe:b=e
 .subst hbe;exact F
 .exact⟨u,k b u hbe q⟩
end
noncomputable def trk (h:Heap)(H:Hp):List Addr:=(bn h.objs.size).filter λ a=>(H a).isSome
def bm8 (h:Heap)(H:Hp):Heap:=PySem.W.hideAll h (trk h H)
def bl3 h H :(bm8 h H).objs.size=h.objs.size:=PySem.W.hideAll_size _ _
def ao1 (e:h.get? b=some o)(n:H b=none):(bm8 h H).get? b=some o :=
 PySem.W.hideAll_get _ e λ hm=>by
  have q:=(eJ.mp hm).2;rw[n]at q;simp at q
def bR7 (e:(bm8 h H).get? b=some o):h.get? b=some o/\H b=none:=by
 have e':=PySem.W.of_hideAll (trk h H) e;refine⟨e',?_⟩;cases q:H b with
 | none=>rfl
 | some x =>
  have hm:b∈trk h H:=eJ.mpr ⟨bR.mpr (aJ e'),by simp[q]⟩;have z:(bm8 h H).get? b=none:=PySem.W.hideAll_none (trk h H) hm;rw[z]at e;cases e
noncomputable def bK0 (g h:Heap)(L:Addr):List (Addr×Obj):=(bn h.objs.size).filterMap λ a=>if a=L\/(g.get? a).isSome=true then none else(h.get? a).map λ o=>(a,o)
def rest (g h:Heap)(L d:Addr):List (Addr×Obj):=(bK0 g h L).filter λ p=>decide (p.1≠d)
structure Mod (K:af)(mg:yC)(base:Heap):Prop where
 kin:K.In base
 glob:base.Ns bu mg
 blt:∃ mb,base.Ns fB mb/\∀ x:Str,x ≠ "__name__"->mb x=bC x
 nolimit:base.NoLimit
structure Cx where
 prog:aM
 w:World
 K:af
 mg:Str->Option Value
 base:Heap
 A:be
 N:List Str
 s₀:ag
 H₀:Hp
 env:Env
 outer:List Env
 stack:List Env
 ex:List Addr
 fn:Str->Bool
 calm:Bool
 pn:List (Addr×Obj)
 xe:Value->ag->Prop
noncomputable def frs (l:List Env):List Addr:=l.filterMap (·.frame)
abbrev Cx.fs (X:Cx):List Addr:=frs X.outer
def Vis (sc:Scope)(x:Str):Prop:=sc.names.lookup x=some .local\/sc.names.lookup x=some .cell\/sc.names.lookup x=some .free
def Loc (sc:Scope)(x:Str):Prop:=sc.names.lookup x=some .local\/sc.names.lookup x=some .cell
def Look (env:Env)(h:Heap)(m:yC)(x:Str)(u:Value):Prop :=
 (env.kindOf x=some .local/\m x=some u)\/((env.kindOf x=some .cell\/env.kindOf x=some .free)/\∃ c,env.cells.lookup x=some c/\h.IsCell c (some u))
structure Cx.Ok (X:Cx):Prop where
 mod:Mod X.K X.mg X.base
 kind:X.env.scope.kind=.function
 glob:X.env.globals=bu
 blt:X.env.builtins=fB
 above:X.s₀.heap.objs.size<=X.env.locals
 inj:∀ x y c,X.env.cells.lookup x=some c->X.env.cells.lookup y=some c->x=y
 has:∀ x,(X.env.kindOf x=some .cell\/X.env.kindOf x=some .free)->∃ c,X.env.cells.lookup x=some c
 cab:∀ x c,X.fn x=true->X.env.cells.lookup x=some c->X.s₀.heap.objs.size<=c
 hd:X.calm=true->X.A.handled=none
 frames:X.A.frames=some X.stack
 stk:X.stack=X.outer\/(X.stack=X.env::X.outer/\X.env.frame=some X.env.locals)
 exf:∀ b∈X.ex,b≠X.env.locals/\∀ x c,X.env.cells.lookup x=some c->c≠b
 bs:∀ b o,X.base.get? b=some o->X.s₀.heap.get? b=some o/\X.H₀ b=none
 bsz:X.base.objs.size<=X.s₀.heap.objs.size
 noex:∀ b o,X.base.get? b=some o->b ∉ X.ex
 exfs:∀ b∈X.ex,b ∉ X.fs
 funs:X.s₀.heap.FunFrames X.base X.outer
 frf:∀ b∈X.fs,X.H₀ b=none
structure Inv (X:Cx)(pins:yA)(W:List (Option V))(H:Hp)(s:ag):Prop where
 ok:X.Ok
 os:s.os=X.s₀.os
 bare:g8 s.gens
 base:Un X.fs X.ex X.H₀ H X.s₀.heap s.heap
 loc:∃ m,s.heap.Ns X.env.locals m/\∀(i:Nat) (x:Str) (v:V),X.N[i]?=some x->W[i]?=some (some v)->Vis X.env.scope x->∃ u,RelV v u/\Look X.env s.heap m x u
 cell:∀ x c,X.env.cells.lookup x=some c->∃ v,s.heap.IsCell c v
 free:H X.env.locals=none
 freeC:∀ x c,X.env.cells.lookup x=some c->H c=none
 pin:∀ p∈X.pn++pins,s.heap.get? p.1=some p.2/\H p.1=none/\p.1≠X.env.locals/\p.1 ∉ X.fs/\∀ v,p.2.data≠.cell v
 hok:HOk X.prog X.w H s.heap
 len:W.length=X.N.length
section
variable {X:Cx} {pins:yA} {W:List (Option V)} {H H':Hp} {s:ag} {h':Heap}
def Cx.Ok.nofr (ok:X.Ok)(e:X.base.get? b=some o):b ∉ X.fs:=λ hb=>by
 have:=(ok.funs.mem hb).1;rw[e]at this;cases this
theorem Inv.bs (I:Inv X pins W H s):∀ b o,X.base.get? b=some o->s.heap.get? b=some o/\H b=none:=λ b o e =>
 ⟨I.base.keep b o (I.ok.bs b o e).1 (I.ok.bs b o e).2 (I.ok.nofr e) (I.ok.noex b o e),I.base.free b o (I.ok.bs b o e).1 (I.ok.bs b o e).2 (I.ok.noex b o e)⟩
def Inv.bk (I:Inv X pins W H s):∀ b o,X.base.get? b=some o->s.heap.get? b=some o:=λ b o e=>(I.bs b o e).1
theorem Inv.mod (I:Inv X pins W H s):Mod X.K X.mg X.base:=I.ok.mod
def Inv.kIn (I:Inv X pins W H s):X.K.In s.heap:=I.ok.mod.kin.keeps I.bk
theorem Inv.nolimit (I:Inv X pins W H s):s.heap.NoLimit:=I.ok.mod.nolimit.keeps I.bk
theorem Inv.lt (I:Inv X pins W H s):X.env.locals<s.heap.objs.size:=let⟨_,hn,_⟩:=I.loc;hn.lt
def Inv.sz (I:Inv X pins W H s):X.s₀.heap.objs.size<=s.heap.objs.size:=ar I.ok.above (g9 I.lt)
def Inv.nofs (I:Inv X pins W H s){a:Addr}(h:s.heap.objs.size<=a):a ∉ X.fs:=λ hb=>by
 obtain⟨_,o,ho,_⟩:=I.ok.funs.mem hb;exact absurd (aL (aJ ho) (ar I.sz h)) (bG _)
def Inv.cne (I:Inv X pins W H s):∀ x c,X.env.cells.lookup x=some c->c≠X.env.locals:=λ x c e z=>by
 obtain⟨v,o,ho,hd⟩:=I.cell x c e;obtain⟨m,⟨J,es,ep,G,F,_⟩,_⟩:=I.loc;rw[z,G]at ho;cases ho;rw[F]at hd;cases hd
theorem Inv.funs (I:Inv X pins W H s):s.heap.FunFrames X.base X.outer:=by
 have all:∀ l ,(∀ b∈frs l,b∈X.fs)->X.s₀.heap.FunFrames X.base l->s.heap.FunFrames X.base l:=by
  intro l
  induction l with
  | nil=>intro _ _;trivial
  | cons env r ih =>
   intro hs hl;obtain⟨hk,⟨L,o,hf,hn,ho,hd⟩,hr⟩:=hl;have hL:=hs L (by unfold frs;rw[bc,hf];exact ax);obtain⟨sl,e⟩:=I.base.slot L o ho (I.ok.frf L hL) hL λ z=>I.ok.exfs L z hL;exact⟨hk,⟨L,_,hf,hn,e,hd⟩,ih (λ b hb=>hs b (by unfold frs;rw[bc,hf];exact ak _ hb)) hr⟩
 exact all X.outer (λ _ hb=>hb) I.ok.funs
theorem Inv.stack (I:Inv X pins W H s):s.heap.FunFrames X.base X.stack:=by
 rcases I.ok.stk with e|⟨e,hf⟩
 .rw[e];exact I.funs
 .rw[e];obtain⟨m,hn,_⟩:=I.loc;refine .cons (by rw[I.ok.kind];decide) hf hn ?_ I.funs;exact Heap.get?_none_of_le (ar I.ok.bsz I.ok.above)
def Inv.stkSub (I:Inv X pins W H s):∀ b∈frs X.stack,b∈X.env.locals::X.fs:=λ b hb=>by
 rcases I.ok.stk with e|⟨e,hf⟩
 .rw[e]at hb;exact ak _ hb
 .rw[e]at hb;unfold frs at hb;rw[bc,hf]at hb;exact hb
def Inv.stkFree (I:Inv X pins W H s):∀ b∈frs X.stack,H b=none:=λ b hb=>by
 rcases az.mp (I.stkSub b hb)with e|hb
 .rw[e];exact I.free
 .obtain⟨_,o,ho,_⟩:=I.ok.funs.mem hb;exact I.base.free b o ho (I.ok.frf b hb) λ z=>I.ok.exfs b z hb
def Inv.step {ch:List Addr}(I:Inv X pins W H s)
  (J:∀ b∈ch,(b∈X.ex\/X.s₀.heap.objs.size<=b)/\b≠X.env.locals/\(∀ x c,X.env.cells.lookup x=some c->c≠b)/\∀ p∈X.pn++pins,p.1≠b)
  (keep:∀ b o,b≠X.env.locals->b ∉ X.fs->b ∉ ch->s.heap.get? b=some o->H b=none->h'.get? b=some o)
  (slot:∀ b o,b≠X.env.locals->b∈X.fs->b ∉ ch->s.heap.get? b=some o->H b=none->∃ sl,h'.get? b=some { o with slots:=sl }) (free:∀ b o,b ∉ ch->s.heap.get? b=some o->H b=none->H' b=none)
  (there:∀ b o,b ∉ ch->s.heap.get? b=some o->∃ o',h'.get? b=some o')
  (tups:∀ b Z,H b=some (.tp Z)->H' b=some (.tp Z)) (frzs:∀ b o u,H b=some (.frz o u)->H' b=some (.frz o u)) (tbls:∀ b ps,H b=some (.tbl ps)->∃ a0,H' b=some (.tbl (ps++a0)))
  (ns:∀ m,s.heap.Ns X.env.locals m->h'.Ns X.env.locals m) (hok:HOk X.prog X.w H' h') (hg:g8 g') :
  Inv X pins W H' { s with heap:=h',gens:=g',drawn:=d',toks:=t' }:=by
 have a1:∀ b o,X.s₀.heap.get? b=some o->b≠X.env.locals:=λ b o e=>aK (aL (aJ e) I.ok.above);have Y:∀ b o,X.s₀.heap.get? b=some o->b ∉ X.ex->b ∉ ch:=λ b o e hx hb=>by
  rcases(J b hb).1 with z|z
  .exact hx z
  .exact absurd (aL (aJ e) z) (bG _)
 have F:∀ x c,X.env.cells.lookup x=some c->∀ v,s.heap.IsCell c v->h'.IsCell c v:=λ x c e v ⟨o,ho,hd⟩=>by
  have G:c ∉ ch:=λ z=>(J c z).2.2.1 x c e rfl;by_cases hc:c∈X.fs
  .obtain⟨sl,q⟩:=slot c o (I.cne x c e) hc G ho (I.freeC x c e);exact⟨_,q,hd⟩
  .exact⟨o,keep c o (I.cne x c e) hc G ho (I.freeC x c e),hd⟩
 refine⟨I.ok,I.os,hg,⟨λ b o e n hb hx=>?_,λ b o e n hb hx=>?_,λ b o e n hx=>?_,λ b o e hx=>?_,λ b Z e=>tups b Z (I.base.tups b Z e),λ b o Z e=>frzs b o Z (I.base.frzs b o Z e),λ b ps e=>?_⟩,?_,λ x c e=>?_,?_,λ x c e=>?_,λ p hp=>?_,hok,I.len⟩
 .exact keep b o (a1 b o e) hb (Y b o e hx) (I.base.keep b o e n hb hx) (I.base.free b o e n hx)
 .obtain⟨sl,e1⟩:=I.base.slot b o e n hb hx;obtain⟨a2,e2⟩:=slot b _ (a1 b o e) hb (Y b o e hx) e1 (I.base.free b o e n hx);exact⟨a2,e2⟩
 .obtain⟨o',e1⟩:=I.base.there b o e hx;exact free b o' (Y b o e hx) e1 (I.base.free b o e n hx)
 .obtain⟨o',e1⟩:=I.base.there b o e hx;exact there b o' (Y b o e hx) e1
 .obtain⟨m1,e1⟩:=I.base.tbls b ps e;obtain⟨m2,e2⟩:=tbls b _ e1;exact⟨m1++m2,by rw[e2,k8]⟩
 .obtain⟨m,hn,hl⟩:=I.loc;refine⟨m,ns m hn,λ i x v e1 e2 e3=>?_⟩;obtain⟨u,r,l⟩:=hl i x v e1 e2 e3;refine⟨u,r,?_⟩;rcases l with l|⟨k,c,e,z⟩
  .exact .inl l
  .exact .inr ⟨k,c,e,F x c e _ z⟩
 .obtain⟨v,z⟩:=I.cell x c e;exact⟨v,F x c e v z⟩
 .obtain⟨m,⟨o,_,_,ho,_⟩,_⟩:=I.loc;exact free _ o (λ z=>(J _ z).2.1 rfl) ho I.free
 .obtain⟨v,o,ho,hd⟩:=I.cell x c e;exact free c o (λ z=>(J c z).2.2.1 x c e rfl) ho (I.freeC x c e)
 .obtain⟨e,n,ne,nf,d⟩:=I.pin p hp;have G:p.1 ∉ ch:=λ z=>(J p.1 z).2.2.2 p hp rfl;exact⟨keep p.1 p.2 ne nf G e n,free p.1 p.2 G e n,ne,nf,d⟩
def Inv.un (I:Inv X pins W H s)(u:Un X.fs [] H H' s.heap h')(hok:HOk X.prog X.w H' h'):Inv X pins W H' { s with heap:=h',toks:=t' }:=by
 obtain⟨m,⟨o,es,ep,ho,r⟩,_⟩:=id I.loc;obtain⟨sl,hL⟩:=u.any ho I.free (by simp);exact I.step (ch:=[]) (λ _ z=>nomatch z) (λ b o _ hb _ e n=>u.keep b o e n hb (by simp)) (λ b o _ hb _ e n=>u.slot b o e n hb (by simp)) (λ b o _ e n=>u.free b o e n (by simp)) (λ b o _ e=>u.there b o e (by simp)) u.tups u.frzs u.tbls (λ m' hm=>by
  obtain⟨Z,J,G,F,Y⟩:=hm;rw[ho]at F;cases F;exact⟨_,J,G,hL,Y⟩) hok I.bare
def Inv.call (I:Inv X pins W H s)(u:Un (frs X.stack) ch H H' s.heap h')(hok:HOk X.prog X.w H' h')(hg:g8 g')
  (G:∀ b∈ch,(b∈X.ex\/X.s₀.heap.objs.size<=b)/\b≠X.env.locals/\(∀ x c,X.env.cells.lookup x=some c->c≠b)/\∀ p∈X.pn++pins,p.1≠b) :
  Inv X pins W H' { s with heap:=h',gens:=g',drawn:=d',toks:=t' }:=by
 obtain⟨m,⟨o,es,ep,ho,r⟩,_⟩:=id I.loc;obtain⟨sl,hL⟩:=u.any ho I.free λ z=>(G _ z).2.1 rfl;exact I.step G (λ b o hL hb hc e n=>u.keep b o e n (λ z=>(az.mp (I.stkSub b z)).elim hL hb) hc) (λ b o _ _ hc e n=>u.any e n hc) (λ b o hc e n=>u.free b o e n hc) (λ b o hc e=>u.there b o e hc) u.tups u.frzs u.tbls (λ m' hm=>by
  obtain⟨o',Y,J,F,Z⟩:=hm;rw[ho]at F;cases F;exact⟨_,Y,J,hL,Z⟩) hok hg
def Inv.turned (I:Inv X pins W H s)(k:∀ b o,b≠it->s.heap.get? b=some o->h'.get? b=some o)(hn:H it=none)(hL:it≠X.env.locals)
  (Y:it∈X.ex\/X.s₀.heap.objs.size<=it) (J:∀ x c,X.env.cells.lookup x=some c->c≠it) (G:∀ p∈X.pn++pins,p.1≠it):Inv X pins W H { s with heap:=h',toks:=t' }:=by
 have F:∀ b u,H b=some u->b≠it:=λ b u e z=>by rw[z,hn]at e;cases e
 refine I.step (ch:=[it]) (λ b hb=>?_) (λ b o _ _ hc e _=>k b o (λ z=>hc (by simp[z])) e) (λ b o _ _ hc e _=>⟨o.slots,k b o (λ z=>hc (by simp[z])) e⟩) (λ _ _ _ _ n=>n)
  (λ b o hc e=>⟨o,k b o (λ z=>hc (by simp[z])) e⟩) (λ _ _ e=>e) (λ _ _ _ e=>e) (λ b ps e=>⟨#[],by rw[e];simp⟩) (λ m hm=>?_) (λ b u e=>?_) I.bare
 .have e:=by simpa using hb
  subst e;exact⟨Y,hL,J,G⟩
 .obtain⟨o,es,ep,ho,r⟩:=hm;exact⟨o,es,ep,k _ o (dk hL) ho,r⟩
 .refine(I.hok b u e).stay (λ c v hc q=>k c v ?_ q) (λ _ q=>q) λ _ _ q=>q;rcases hc with z|z
  .rw[z];exact F b u e
  .exact F c _ z
def Inv.tok (I:Inv X pins W H s) t :Inv X pins W H { s with toks:=t }:=I.un Un.refl I.hok
theorem Inv.kept (I:Inv X pins W H s)(k:∀ b u,s.heap.get? b=some u->h'.get? b=some u):Inv X pins W H { s with heap:=h',toks:=t' }:=I.un (Un.kept k) (I.hok.kept k)
theorem Inv.laid {a:Addr}(I:Inv X pins W H s)(k:∀ b u,s.heap.get? b=some u->h'.get? b=some u)(hp:s.heap.objs.size<=a)(new:ad5 X.prog X.w (upd H a o) h' a o) :
  Inv X pins W (upd H a o) { s with heap:=h',toks:=t' }:=I.un (Un.laid k hp (I.hok.fresh hp)) (I.hok.laid k hp new)
theorem Inv.write (I:Inv X pins W H s)(mu:Mut (H x))(F:e=x\/H e=some (.own x))(k:∀ b u,b≠e->s.heap.get? b=some u->h'.get? b=some u)(z:∃ u,h'.get? e=some u)
  (new:ad5 X.prog X.w (upd H x o) h' x o):Inv X pins W (upd H x o) { s with heap:=h',toks:=t' }:=I.un (Un.write mu F k z) (I.hok.write mu F k z new)
def Inv.pins_of (I:Inv X pins W H s)(h:∀ p∈F,s.heap.get? p.1=some p.2/\H p.1=none/\p.1≠X.env.locals/\p.1 ∉ X.fs/\∀ v,p.2.data≠.cell v):Inv X F W H s :=
 ⟨I.ok,I.os,I.bare,I.base,I.loc,I.cell,I.free,I.freeC,λ p hp=>(aW.mp hp).elim (λ z=>I.pin p (aY _ z)) (h p),I.hok,I.len⟩
def aB7 {N:yH}(hN:N.Nodup){ j:Nat}(a:N[i]?=some x)(b:N[j]?=some x):i=j:=by
 obtain⟨F,e1⟩:=ae.mp a;obtain⟨z,e2⟩:=ae.mp b;exact(List.getElem_inj hN).mp (e1.trans e2.symm)
def aG7 (I:Inv X pins W H s)(hN:X.N.Nodup)(hi:X.N[i]?=some x)(hx:Loc X.env.scope x)(r:RelV v u)
  (h:∀ s',Inv X pins (W.set i (some v)) H s'->(∃ a,cO a s.heap s'.heap/\(a=X.env.locals\/X.env.cells.lookup x=some a))->Q () s') (hf:autoParam (X.fn x=true\/X.env.scope.names.lookup x=some .local) Zq0._auto_1):wpAny M A (nW X.env x u) Q E s:=by
 obtain⟨m,hn,hl⟩:=id I.loc;have Y:(X.env.scope.kind==.class||(X.env.scope.kind==.module&&X.env.locals != X.env.globals))=false:=by rw[I.ok.kind];rfl
 have a1:i < W.length:=by rw[I.len];exact(ae.mp hi).1
 have cne:=I.cne;have F:∀ {a} {h'},(∃ o,s.heap.get? a=some o/\H a=none)->cO a s.heap h'->HOk X.prog X.w H h':=λ {a h'} ha hs b ob e=>by
  obtain⟨_,_,G⟩:=ha;refine(I.hok b ob e).stay (λ c w' hc q=>(hs.2 c ?_).trans q) (λ _ q=>q) λ _ _ q=>q
  rintro rfl
  rcases hc with rfl|hc
  .rw[G]at e;cases e
  .rw[G]at hc;cases hc
 rcases hx with hk|hk
 .refine wpAny_storeName_local hk hn (λ h' a3 hs=>?_) Y;obtain⟨oL,_,_,a4,_⟩:=id hn;refine h _ ⟨I.ok,I.os,I.bare,⟨λ b o e n hb hx=>?_,λ b o e n hb hx=>?_,I.base.free,λ b o e hx=>?_,I.base.tups,I.base.frzs,I.base.tbls⟩,⟨_,a3,λ j y v' e1 e2 e3=>?_⟩,λ y c e=>?_,I.free,I.freeC,λ p hp=>?_,F ⟨oL,a4,I.free⟩ hs,by simpa using I.len⟩ ⟨_,hs,.inl rfl⟩
  .exact(hs.2 b (aK (aL (aJ e) I.ok.above))).trans (I.base.keep b o e n hb hx)
  .obtain⟨sl,e1⟩:=I.base.slot b o e n hb hx;exact⟨sl,(hs.2 b (aK (aL (aJ e) I.ok.above))).trans e1⟩
  .obtain⟨o',e1⟩:=I.base.there b o e hx;exact⟨o',(hs.2 b (aK (aL (aJ e) I.ok.above))).trans e1⟩
  .by_cases hj:j=i
   .subst hj;rw[hi]at e1;cases e1;rw[bj a1]at e2;cases e2;exact⟨u,r,.inl ⟨hk,by simp⟩⟩
   .rw[bH (dk hj)]at e2;obtain⟨u',r',q⟩:=hl j y v' e1 e2 e3;refine⟨u',r',?_⟩;rcases q with⟨k,e⟩|⟨k,c,e,z⟩
    .refine .inl ⟨k,?_⟩;have:y≠x:=λ e=>hj (aB7 hN e1 (e▸hi));simp[this,e]
    .exact .inr ⟨k,c,e,z.sameBut hs (cne y c e)⟩
  .obtain⟨w',z⟩:=I.cell y c e;exact⟨w',z.sameBut hs (cne y c e)⟩
  .obtain⟨e,n,ne,nf,d⟩:=I.pin p hp;exact⟨(hs.2 p.1 ne).trans e,n,ne,nf,d⟩
 .have J:X.fn x=true:=by
   rcases hf with z|z
   .exact z
   .rw[z]at hk;cases hk
  obtain⟨c,hc⟩:=I.ok.has x (.inl hk);obtain⟨w',z⟩:=I.cell x c hc;refine wpAny_storeName_cell I.ok.kind hk hc z (λ h' a2 hs=>?_);obtain⟨oc,Z,a0⟩:=id z;refine h { s with heap:=h' } ⟨I.ok,I.os,I.bare,⟨λ b o e n hb hx=>?_,λ b o e n hb hx=>?_,I.base.free,λ b o e hx=>?_,I.base.tups,I.base.frzs,I.base.tbls⟩,⟨m,hn.sameBut hs (dk (cne x c hc)),λ j y v' e1 e2 e3=>?_⟩,λ y c' e=>?_,I.free,I.freeC,λ p hp=>?_,F ⟨oc,Z,I.freeC x c hc⟩ hs,by simpa using I.len⟩ ⟨c,hs,.inr hc⟩
  .exact(hs.2 b (aK (aL (aJ e) (I.ok.cab x c J hc)))).trans (I.base.keep b o e n hb hx)
  .obtain⟨sl,e1⟩:=I.base.slot b o e n hb hx;exact⟨sl,(hs.2 b (aK (aL (aJ e) (I.ok.cab x c J hc)))).trans e1⟩
  .obtain⟨o',e1⟩:=I.base.there b o e hx;exact⟨o',(hs.2 b (aK (aL (aJ e) (I.ok.cab x c J hc)))).trans e1⟩
  .by_cases hj:j=i
   .subst hj;rw[hi]at e1;cases e1;rw[bj a1]at e2;cases e2;exact⟨u,r,.inr ⟨.inl hk,c,hc,a2⟩⟩
   .rw[bH (dk hj)]at e2;obtain⟨u',r',q⟩:=hl j y v' e1 e2 e3;refine⟨u',r',?_⟩;rcases q with q|⟨k,c',e,z'⟩
    .exact .inl q
    .refine .inr ⟨k,c',e,z'.sameBut hs ?_⟩
     rintro rfl
     exact hj (aB7 hN e1 (I.ok.inj _ _ _ e hc▸hi))
  .by_cases hcc:c'=c
   .subst hcc;exact⟨_,a2⟩
   .obtain⟨w2,z2⟩:=I.cell y c' e;exact⟨w2,z2.sameBut hs hcc⟩
  .obtain⟨e,n,ne,nf,d⟩:=I.pin p hp;refine⟨(hs.2 p.1 ?_).trans e,n,ne,nf,d⟩;intro q;rw[q,Z]at e;have q':=aC e;exact d w' (by rw[<-q'];exact a0)
def ap1 (I:Inv X pins W H s)(hN:X.N.Nodup)(z:X.N[i]?=some x)(hx:Loc X.env.scope x)(r:RelV v u)
  (h:∀ s',Inv X pins (W.set i (some v)) H s'->Q () s') (hf:autoParam (X.fn x=true\/X.env.scope.names.lookup x=some .local) Zq0._auto_1):wpAny M A (nW X.env x u) Q E s :=
 aG7 I hN z hx r (λ s' F _=>h s' F) hf
def Inv.call' (I:Inv X pins W H s)(ho:s'.os=s.os)(u:Un (frs X.stack) ch H H' s.heap s'.heap)(hok:HOk X.prog X.w H' s'.heap)(hg:g8 s'.gens)
  (z:∀ b∈ch,(b∈X.ex\/X.s₀.heap.objs.size<=b)/\b≠X.env.locals/\(∀ x c,X.env.cells.lookup x=some c->c≠b)/\∀ p∈X.pn++pins,p.1≠b):Inv X pins W H' s':=by
 obtain⟨h',g',d',t',F⟩:=s';have e:=ho;subst e;exact I.call u hok hg z
end
abbrev XK:=Value->Option Addr->Hp->Prop
abbrev St:=List (Option V)
abbrev VK:=V->Hp->Prop
abbrev TE:=St->Hp->VK->Prop
abbrev TT:=St->Hp->(Bool->Hp->Prop)->Prop
abbrev TA:=St->Hp->(List V->Hp->Prop)->Prop
structure Ends where
 nx:St->Hp->Prop
 rt:VK
 bk:St->Hp->Prop:=λ _ _=>False
 ct:St->Hp->Prop:=λ _ _=>False
abbrev TS:=Ends->St->Hp->Prop
def EP (X:Cx)(pins:yA)(W:St)(Q:VK)(u:Value)(s':ag):Prop:=∃ v H',Inv X pins W H' s'/\RelV v u/\Q v H'
def TP (X:Cx)(pins:yA)(W:St)(Q:Bool->Hp->Prop)(b:Bool)(s':ag):Prop:=∃ H',Inv X pins W H' s'/\Q b H'
def AP (X:Cx)(pins:yA)(W:St)(Q:List V->Hp->Prop)(us:yG)(s':ag):Prop:=∃ vs H',Inv X pins W H' s'/\Vals vs us/\Q vs H'
def SP (X:Cx)(pins:yA)(D:Ends)(f:Flow)(s':ag):Prop :=
 match f with
 | .next=>∃ W' H',Inv X pins W' H' s'/\D.nx W' H'
 | .brk=>∃ W' H',Inv X pins W' H' s'/\D.bk W' H'
 | .cont=>∃ W' H',Inv X pins W' H' s'/\D.ct W' H'
 | .ret u=>∃ v W' H',Inv X pins W' H' s'/\RelV v u/\D.rt v H'
def PE (X:Cx)(e:Expr)(t:TE):Prop :=
 ∀ pins s (W:St) H Q ,Inv X pins W H s->t W H Q->wpAny (model X.prog X.w) X.A (eval e X.env) (EP X pins W Q) X.xe s
def PT (X:Cx)(e:Expr)(t:TT):Prop :=
 ∀ pins s (W:St) H Q ,Inv X pins W H s->t W H Q->wpAny (model X.prog X.w) X.A (iM e X.env (eval e X.env)) (TP X pins W Q) X.xe s
def PW (X:Cx)(e:Expr)(t:TT):Prop :=
 ∀ whole pins s (W:St) H Q ,Inv X pins W H s->t W H Q->wpAny (model X.prog X.w) X.A (iM e X.env whole) (TP X pins W Q) X.xe s
def PW.pt (h:PW X e t):PT X e t:=h _
def PA (X:Cx)(es:yK)(t:TA):Prop :=
 ∀ pos pins s (W:St) H Q ,Inv X pins W H s->t W H Q->wpAny (model X.prog X.w) X.A (spliced (eZ pos (bB es X.env))) (AP X pins W Q) X.xe s
def PS (X:Cx)(st:Stmt)(t:TS):Prop :=
 ∀ pins s (W:St) H D ,Inv X pins W H s->t D W H->wpAny (model X.prog X.w) X.A (exec st X.env) (SP X pins D) X.xe s
def PSs (X:Cx)(st:yL)(t:TS):Prop :=
 ∀ pins s (W:St) H D ,Inv X pins W H s->t D W H->wpAny (model X.prog X.w) X.A (execs st X.env) (SP X pins D) X.xe s
def thn {M}{A}{E}{s}(h:wpAny M A t Q E s)(F:∀ a s,Q a s->z a s):wpAny M A t z E s:=bw h F λ _ _ x=>x
section
variable {X:Cx}
def bin (ha:PE X a J)(hb:PE X b tb){W:St}{R:V->V->Hp->Prop}(I:Inv X z W H s)(h:J W H λ x G=>tb W G λ y F=>R x y F)
  {f:Value->Value->Sem α}
  (hf:∀ v u s2 x y F,Inv X z W F s2->RelV x v->RelV y u->R x y F->wpAny (model X.prog X.w) X.A (f v u) Q X.xe s2) :
  wpAny (model X.prog X.w) X.A (eval a X.env) (λ v Z=>wpAny (model X.prog X.w) X.A (eval b X.env) (λ u Y=>wpAny (model X.prog X.w) X.A (f v u) Q X.xe Y) X.xe Z) X.xe s:=by
 refine thn (ha z s W H _ I h) λ v s1 ⟨x,G,I1,r1,q1⟩=>?_;refine thn (hb z s1 W G _ I1 q1) λ u s2 ⟨y,F,I2,r2,q2⟩=>?_;exact hf v u s2 x y F I2 r1 r2 q2
def be3 (i:Nat):TE:=λ W H Q=>∃ v,W[i]?=some (some v)/\Q v H
def tC (v:V):TE:=λ _ H Q=>Q v H
def am8 {pos}(hN:X.N[i]?=some x)(hv:Vis X.env.scope x)(hd:autoParam ((x==("__debug__":Str))=false) Zq1._auto_1)(F:autoParam ((x==("__classdict__":Str))=false) Zq1._auto_1):PE X (.Name x pos) (be3 i):=by
 intro z s W H Q I h;obtain⟨v,e,h⟩:=h;obtain⟨m,hn,hl⟩:=I.loc;obtain⟨u,r,l⟩:=hl i x v hN e hv;have fin:EP X z W Q u s:=⟨v,H,I,r,h⟩
 rcases l with⟨hk,hm⟩|⟨hk,c,hc,hcell⟩
 .exact nq (wpAny_loadName_local I.ok.kind hk hn hm fin) hd
 .rcases hk with hk|hk
  .exact nq (wpAny_loadName_cell I.ok.kind hk hc hcell fin) hd
  .exact nq (wpAny_loadName_free I.ok.kind hk hc hcell fin F) hd
def bb9 :PE X (.Constant (.int i) j pos) (tC (.int i)):=λ _ _ _ H _ I h=>wpAny_Constant_int ⟨.int i,H,I.tok _,⟨_,rfl⟩,h⟩
def bK3 :PE X (.Constant (.bool b) j pos) (tC (.T b)):=λ _ _ _ H _ I h=>Constant_bool ⟨.T b,H,I,rfl,h⟩
def cf5 :PE X (.Constant .none j pos) (tC .N):=λ _ _ _ H _ I h=>kQ ⟨.N,H,I,rfl,h⟩
def aD7 :PE X (.Constant (.str x) j pos) (tC (.str x)):=λ _ _ _ H _ I h=>Calls.Constant_str ⟨.str x,H,I.tok _,⟨_,rfl⟩,h⟩
def Gl (X:Cx)(x:Str):Prop:=X.env.kindOf x=some .globalImplicit
def ay8 {W:St}(I:Inv X z W H s)(hg:Gl X x)(hm:X.mg x=some u)(h:Q u s)
  (hd:autoParam ((x==("__debug__":Str))=false) Zq1._auto_1):wpAny (model X.prog X.w) X.A (eval (.Name x pos) X.env) Q E s :=
 ic I.ok.kind hg (Calls.loadGlobal_global (by rw[I.ok.glob];exact I.mod.glob.keeps I.bk) hm h) hd
def at5 {E}{W:St}{pos}(I:Inv X z W H s)(hg:Gl X x)(hm:X.mg x=none)(hv:bC x=some u)(h:Q u s)
  (hn:autoParam (x ≠ "__name__") Zq1._auto_1) (hd:autoParam ((x==("__debug__":Str))=false) Zq1._auto_1):wpAny (model X.prog X.w) X.A (eval (.Name x pos) X.env) Q E s:=by
 obtain⟨J,G,F⟩:=I.mod.blt;exact ic I.ok.kind hg (Calls.loadGlobal_builtin (by rw[I.ok.glob];exact I.mod.glob.keeps I.bk) hm (by rw[I.ok.blt];exact G.keeps I.bk) ((F x hn).trans hv) h) hd
def aB4 (hg:Gl X x)(hm:X.mg x=some u)(r:RelV v u)(hd:autoParam ((x==("__debug__":Str))=false) Zq1._auto_1):PE X (.Name x pos) (tC v) :=
 λ _ _ _ H _ I h=>ay8 I hg hm ⟨v,H,I,r,h⟩ hd
def bh0 {pos}(hg:Gl X x)(hm:X.mg x=none)(hv:bC x=some u)(r:RelV v u)(hn:autoParam (x ≠ "__name__") Zq1._auto_1)(hd:autoParam ((x==("__debug__":Str))=false) Zq1._auto_1):PE X (.Name x pos) (tC v) :=
 λ _ _ _ H _ I h=>at5 I hg hm hv ⟨v,H,I,r,h⟩ hn hd
variable {a b:Expr} {ta tb:TE} {pos:Pos}
def PC (X:Cx)(op:CmpOp)(a b:Expr)(t:TE):Prop :=
 ∀ pins s (W:St) H Q ,Inv X pins W H s->t W H Q ->
  wpAny (model X.prog X.w) X.A (eval a X.env) (λ v s₁=>wpAny (model X.prog X.w) X.A (eval b X.env) (λ u s₂=>wpAny (model X.prog X.w) X.A (db op v u) (EP X pins W Q) X.xe s₂) X.xe s₁) X.xe s
def aO1 b (h:op≠.In)(z:op≠.NotIn):dS op b=false:=by
 have e1:(op==CmpOp.In)=false:=by cases op<;>first|rfl|exact absurd rfl h
 have e2:(op==CmpOp.NotIn)=false:=by cases op<;>first|rfl|exact absurd rfl z
 cases b<;>simp[dS,e1,e2]
def cu5 (ta:TE):TE:=λ W H Q=>ta W H λ x H1=>Q (.T (decide (x=.N))) H1
def cc9 (ta:TE):TE:=λ W H Q=>ta W H λ x H1=>Q (.T (!decide (x=.N))) H1
def RelV.none_iff (r:RelV x v):(v==Value.none)=decide (x=.N):=by
 cases x with
 | N=>cases r;rfl
 | T _=>cases r;rfl
 | int _=>obtain⟨t,rfl⟩:=r;rfl
 | str _=>obtain⟨t,rfl⟩:=r;rfl
 | byt _=>obtain⟨t,rfl⟩:=r;rfl
 | flt _=>obtain⟨t,rfl⟩:=r;rfl
 | ref _=>cases r;rfl
 | ty _=>cases r;rfl
def bD1 (ha:PE X a ta):PC X .Is a (.Constant .none j pos') (cu5 ta):=by
 intro z s W H Q I h;refine thn (ha z s W H _ I h) λ v s1 ⟨x,G,J,r1,F⟩=>?_;exact kQ (is_none_gen ⟨.T _,G,J,by rw[r1.none_iff];rfl,F⟩)
def bi4 (ha:PE X a ta):PC X .IsNot a (.Constant .none j pos') (cc9 ta):=by
 intro z s W H Q I h;refine thn (ha z s W H _ I h) λ v s1 ⟨x,G,J,r1,F⟩=>?_;exact kQ (isnot_none_gen ⟨.T _,G,J,by rw[r1.none_iff];rfl,F⟩)
def tB (t:TE):TT:=λ W H Q=>t W H λ x H1=>∃ c,x=.T c/\Q c H1
def bx9 (h:PC X op a b t)(F:autoParam (dS op b=false) Zq2._auto_1):PE X (.Compare a [op] [b] pos) t:=λ z s W H Q I hw=>wpAny_Compare1 (h z s W H Q I hw) F
def bD0 (h:PC X op a b t)(F:autoParam (dS op b=false) Zq2._auto_1):PT X (.Compare a [op] [b] pos) (tB t):=by
 intro z s W H Q I hw;refine jQ (thn (h z s W H _ I hw) λ v s1 F=>thn F λ u s2 Y=>thn Y λ c s3 ⟨x,J,Z,r1,G⟩=>?_) F;obtain⟨d,rfl,q⟩:=G;cases r1;exact bI ⟨J,Z,q⟩
def bi2 (h:PE X e t)(J:autoParam (∀ z,iM e X.env z=(do let v <- z;standAt e.pos;kF [v] (truthy v))) Zq3._auto_1):PT X e (tB t):=by
 intro F s W H Q I hw;refine isTrue_plain (thn (h F s W H _ I hw) λ v s1 ⟨x,Y,Z,r1,G⟩=>?_) (J _);obtain⟨d,rfl,q⟩:=G;cases r1;exact bI ⟨Y,Z,q⟩
variable {tA tB':TT} {rest:yK}
def cw5 (t u:TT):TT:=λ W H Q=>t W H λ c H1=>if c=true then u W H1 Q else Q false H1
def tOr (t u:TT):TT:=λ W H Q=>t W H λ c H1=>if c=true then Q true H1 else u W H1 Q
def cw1 (t:TT):TT:=λ W H Q=>t W H λ c H1=>Q (!c) H1
def bQ3 (ha:PT X a tA):PW X (.BoolOp .And [a] pos) tA:=by
 intro F z s W H Q I h;refine isTrue_and (thn (ha z s W H Q I h) λ c s1 e=>?_);cases c with
 | true=>exact isTrue_and_nil e
 | false=>exact e
def cd7 (ha:PT X a tA):PW X (.BoolOp .Or [a] pos) tA:=by
 intro F z s W H Q I h;refine isTrue_or (thn (ha z s W H Q I h) λ c s1 e=>?_);cases c with
 | false=>exact isTrue_or_nil e
 | true=>exact e
def bB7 (ha:PT X a tA)(hb:PW X (.BoolOp .And (b::rest) pos) tB'):PW X (.BoolOp .And (a::b::rest) pos) (cw5 tA tB'):=by
 intro Y z s W H Q I h;refine isTrue_and (thn (ha z s W H _ I h) λ c s1 ⟨G,J,F⟩=>?_);cases c with
 | true=>exact hb Y z s1 W G Q J F
 | false=>exact⟨G,J,F⟩
def ce4 (ha:PT X a tA)(hb:PW X (.BoolOp .Or (b::rest) pos) tB'):PW X (.BoolOp .Or (a::b::rest) pos) (tOr tA tB'):=by
 intro Y z s W H Q I h;refine isTrue_or (thn (ha z s W H _ I h) λ c s1 ⟨G,J,F⟩=>?_);cases c with
 | true=>exact⟨G,J,F⟩
 | false=>exact hb Y z s1 W G Q J F
def bB8 (ha:PT X a tA):PT X (.UnaryOp .Not a pos) (cw1 tA):=by
 intro z s W H Q I h;exact isTrue_not (ha z s W H (λ c F=>Q (!c) F) I h)
def ch1 (ta tb:TE):TE:=λ W H Q=>ta W H λ x H1=>∃ c,x=.T c/\if c=true then tb W H1 Q else Q (.T false) H1
def cv1 (ta tb:TE):TE:=λ W H Q=>ta W H λ x H1=>∃ c,x=.T c/\if c=true then Q (.T true) H1 else tb W H1 Q
def bV9 (ta:TE):TE:=λ W H Q=>ta W H λ x H1=>∃ c,x=.T c/\Q (.T (!c)) H1
def bB3 (h:PE X a t):PE X (.BoolOp op [a] pos) t:=λ z s W H Q I hw=>BoolOp_one (h z s W H Q I hw)
def by6 (ha:PE X a ta)(hb:PE X (.BoolOp .And (b::rest) pos) tb):PE X (.BoolOp .And (a::b::rest) pos) (ch1 ta tb):=by
 intro z s W H Q I h;refine BoolOp_and (thn (ha z s W H _ I h) λ v s1 ⟨x,G,J,r1,F⟩=>?_);obtain⟨c,rfl,F⟩:=F;cases r1;refine bI ?_;cases c with
 | true=>exact hb z s1 W G Q J F
 | false=>exact⟨.T false,G,J,rfl,F⟩
def cd8 (ha:PE X a ta)(hb:PE X (.BoolOp .Or (b::rest) pos) tb):PE X (.BoolOp .Or (a::b::rest) pos) (cv1 ta tb):=by
 intro z s W H Q I h;refine BoolOp_or (thn (ha z s W H _ I h) λ v s1 ⟨x,G,J,r1,F⟩=>?_);obtain⟨c,rfl,F⟩:=F;cases r1;refine bI ?_;cases c with
 | false=>exact hb z s1 W G Q J F
 | true=>exact⟨.T true,G,J,rfl,F⟩
def bE3 (ha:PE X a ta):PE X (.UnaryOp .Not a pos) (bV9 ta):=by
 intro z s W H Q I h;refine UnaryOp_ (thn (ha z s W H _ I h) λ v s1 ⟨x,G,J,r1,F⟩=>?_);obtain⟨c,rfl,F⟩:=F;cases r1;exact not_of (bI ⟨.T (!c),G,J,rfl,F⟩)
def tIf (t:TT)(ta tb:TE):TE:=λ W H Q=>t W H λ c H1=>if c=true then ta W H1 Q else tb W H1 Q
def bq8 (hc:PT X c tA)(ha:PE X a ta)(hb:PE X b tb):PE X (.IfExp c a b pos) (tIf tA ta tb):=by
 intro z s W H Q I h;refine wpAny_IfExp (thn (hc z s W H _ I h) λ d s1 ⟨G,J,F⟩=>?_);cases d with
 | true=>exact ha z s1 W G Q J F
 | false=>exact hb z s1 W G Q J F
end
def SqL (K:af)(H:Hp)(a:Addr)(xs:List V):Prop :=
 Rd H a (.J xs) \/
  ∃(o:Obj) (its:yJ) (n:Nat),K.lookup a=some o/\o.cls=.type "list"/\o.dict=none/\o.data=.seq its n/\its.size<=aV/\Vals xs its.toList
def SqT (K:af)(H:Hp)(a:Addr)(xs:List V):Prop :=
 Rd H a (.tp xs) \/
  ∃(o:Obj) (its:yJ) (n:Nat),K.lookup a=some o/\o.cls=.type "tuple"/\o.data=.seq its n/\its.size<=aV/\Vals xs its.toList
noncomputable def cz9:Value->Option V
 | .none=>some .N
 | .bool b=>some (.T b)
 | .int i _=>some (.int i)
 | .str x _=>some (.str x)
 | .bytes b _=>some (.byt b)
 | .float b _=>some (.flt b)
 | .ref a=>some (.ref a)
 | .type n=>some (.ty n)
 | _=>none
def RelV.abs (r:RelV x u):cz9 u=some x:=by
 cases x with
 | N=>cases r;rfl
 | T _=>cases r;rfl
 | int _=>obtain⟨t,rfl⟩:=r;rfl
 | str _=>obtain⟨t,rfl⟩:=r;rfl
 | byt _=>obtain⟨t,rfl⟩:=r;rfl
 | flt _=>obtain⟨t,rfl⟩:=r;rfl
 | ref _=>cases r;rfl
 | ty _=>cases r;rfl
def RelV.inj (r:RelV x u)(q:RelV y u):x=y:=aC (r.abs.symm.trans q.abs)
theorem Vals.inj:∀ {z ys} {us:yG},Vals z us->Vals ys us->z=ys
 | _,_,_,.nil,.nil=>rfl
 | _,_,_,.cons r t,.cons r' t'=>by rw[r.inj r',Vals.inj t t']
section
variable {X:Cx} {pins:yA} {W:St} {H:Hp} {s:ag} {a:Addr} {xs ys:List V}
def SqL.of {K}(h:H a=some (.J xs)):SqL K H a xs:=.inl (.inl h)
def SqT.of {K}(h:H a=some (.tp xs)):SqT K H a xs:=.inl (.inl h)
def Inv.list (I:Inv X pins W H s)(h:SqL X.K H a xs):∃ its,Vals xs its/\PlainL s.heap a its.toArray/\xs.length<=aV:=by
 rcases h with h|⟨o,its,n,hk,hc,hd,hs,hz,r⟩
 .obtain⟨z,its,n,r,e⟩:=h.ok I.hok;exact⟨its,r,⟨_,n,e,rfl,rfl,rfl⟩,z⟩
 .refine⟨its.toList,r,⟨o,n,I.kIn a o hk,hc,hd,by simpa using hs⟩,?_⟩;have e:=r.length;simp only[cS]at e;lia
def Inv.tuple (I:Inv X pins W H s)(h:SqT X.K H a xs):∃ its,Vals xs its/\IsTup s.heap a its.toArray/\xs.length<=aV:=by
 rcases h with h|⟨o,its,n,hk,hc,hs,hz,r⟩
 .obtain⟨z,its,r,p⟩:=h.ok I.hok;exact⟨its,r,p,z⟩
 .refine⟨its.toList,r,⟨o,I.kIn a o hk,hc,n,by simpa using hs⟩,?_⟩;have e:=r.length;simp only[cS]at e;omega
def Inv.list_inj (I:Inv X pins W H s)(h:SqL X.K H a xs)(h':SqL X.K H a ys):xs=ys:=by
 obtain⟨its,r,⟨o,n,e,_,_,d⟩,_⟩:=I.list h;obtain⟨its',z,⟨F,G,e',_,_,d'⟩,_⟩:=I.list h';rw[e]at e';cases e';rw[d]at d';injection d' with d1 _;have:=by simpa using congrArg lG d1
 subst this;exact r.inj z
def Inv.tuple_inj (I:Inv X pins W H s)(h:SqT X.K H a xs)(h':SqT X.K H a ys):xs=ys:=by
 obtain⟨its,r,⟨o,e,_,n,d⟩,_⟩:=I.tuple h;obtain⟨its',z,⟨F,e',_,G,d'⟩,_⟩:=I.tuple h';rw[e]at e';cases e';rw[d]at d';injection d' with d1 _;have:=by simpa using congrArg lG d1
 subst this;exact r.inj z
end
noncomputable abbrev Cx.wish (X:Cx)(E:Value->ag->Prop):Cx:={ X with xe:=E }
noncomputable abbrev Cx.nox (X:Cx):Cx:=X.wish λ _ _=>False
theorem Cx.Ok.wish {X:Cx}(ok:X.Ok)(E:Value->ag->Prop):(X.wish E).Ok :=
 ⟨ok.mod,ok.kind,ok.glob,ok.blt,ok.above,ok.inj,ok.has,ok.cab,ok.hd,ok.frames,ok.stk,ok.exf,ok.bs,ok.bsz,ok.noex,ok.exfs,ok.funs,ok.frf⟩
def Cx.Ok.unwish {X:Cx}(ok:(X.wish E).Ok):X.Ok :=
 ⟨ok.mod,ok.kind,ok.glob,ok.blt,ok.above,ok.inj,ok.has,ok.cab,ok.hd,ok.frames,ok.stk,ok.exf,ok.bs,ok.bsz,ok.noex,ok.exfs,ok.funs,ok.frf⟩
section
variable {X:Cx} {pins:yA} {W:St} {H:Hp} {s:ag} {E:Value->ag->Prop}
theorem Inv.wish (I:Inv X pins W H s) E :Inv (X.wish E) pins W H s:=⟨I.ok.wish E,I.os,I.bare,I.base,I.loc,I.cell,I.free,I.freeC,I.pin,I.hok,I.len⟩
theorem Inv.unwish (I:Inv (X.wish E) pins W H s):Inv X pins W H s:=⟨I.ok.unwish,I.os,I.bare,I.base,I.loc,I.cell,I.free,I.freeC,I.pin,I.hok,I.len⟩
theorem SP.unwish (h:SP (X.wish E) pins D f s'):SP X pins D f s':=by
 cases f with
 | next=>obtain⟨W',H',I,q⟩:=h;exact⟨W',H',I.unwish,q⟩
 | brk=>obtain⟨W',H',I,q⟩:=h;exact⟨W',H',I.unwish,q⟩
 | cont=>obtain⟨W',H',I,q⟩:=h;exact⟨W',H',I.unwish,q⟩
 | ret u=>obtain⟨v,W',H',I,r,q⟩:=h;exact⟨v,W',H',I.unwish,r,q⟩
theorem PT.nox (h:PT X.nox e t):PT X e t:=λ F s W H Q I hw =>
 bw (h F s W H Q (I.wish _) hw) (λ _ _ ⟨H',G,q⟩=>⟨H',G.unwish,q⟩) λ _ _ z=>bD z
theorem PSs.nox {st}(h:PSs X.nox st t):PSs X st t:=λ F s W H D I hw =>
 bw (h F s W H D (I.wish _) hw) (λ _ _ q=>q.unwish) λ _ _ z=>bD z
end
section
variable {X:Cx} {st:Stmt} {rest:yL} {t u:TS} {e:Expr} {te:TE} {pos:Pos}
def cj2:TS:=λ D W H=>D.nx W H
noncomputable def co7 (t u:TS):TS:=λ D W H=>t { D with nx:=u D } W H
def aA7:PSs X [] cj2:=λ _ _ W H _ I h=>eK ⟨W,H,I,h⟩
def zA (J:PS X st t)(F:PSs X rest u):PSs X (st::rest) (co7 t u):=by
 intro z s W H D I h;refine lY (thn (J z s W H { D with nx:=u D } I h) λ f s1 q=>?_);cases f with
 | next =>
  obtain⟨W',H',G,q⟩:=q;exact F z s1 W' H' D G q
 | ret v=>exact q
 | brk=>exact q
 | cont=>exact q
def at8 (F:PS X st t):PSs X [st] t:=by
 intro z s W H D I h;refine lY (thn (F z s W H D I h) λ f s1 q=>?_);cases f with
 | next=>exact eK q
 | ret v=>exact q
 | brk=>exact q
 | cont=>exact q
def Inv.quiet {W:St}(I:Inv X z W H s):interactive X.env=false:=by simp[interactive,I.ok.kind]
def ca1 (te:TE):TS:=λ D W H=>te W H λ _ H1=>D.nx W H1
def aM4 (G:PE X e te)(hs:autoParam (f7 e none pos.line X.env=pure false) Zq4._auto_1):PS X (.Expr e pos) (ca1 te):=by
 intro z s W H D I h;exact wpAny_Expr_any (thn (G z s W H _ I h) λ v s1 ⟨x,J,Y,r1,F⟩=>⟨W,J,Y,F⟩) I.quiet hs
def cx0 (te:TE):TS:=λ D W H=>te W H D.rt
def ar0 (G:PE X e te):PS X (.Return (some e) pos) (cx0 te):=by
 intro z s W H D I h;exact wpAny_Return_some (thn (G z s W H _ I h) λ v s1 ⟨x,J,Y,r1,F⟩=>⟨x,W,J,Y,r1,F⟩)
def cv3 (c:TT)(t u:TS):TS:=λ D W H=>c W H λ b H1=>if b=true then t D W H1 else u D W H1
def bp4 (hc:PT X c tc)(ha:PSs X a t)(hb:PSs X b u):PS X (.If c a b pos) (cv3 tc t u):=by
 intro z s W H D I h;refine wpAny_If (thn (hc z s W H _ I h) λ d s1 ⟨G,J,F⟩=>?_);cases d with
 | true=>exact ha z s1 W G D J F
 | false=>exact hb z s1 W G D J F
def bz0:TS:=λ _ _ _=>False
def bq7:PS X st bz0:=λ _ _ _ _ _ _ h=>h.elim
def qU :PSs X z bz0:=λ _ _ _ _ _ _ h=>h.elim
end
abbrev TG:=V->St->Hp->(St->Hp->Prop)->Prop
abbrev TGs:=List V->St->Hp->(St->Hp->Prop)->Prop
def PG (X:Cx)(target:Expr)(t:TG):Prop :=
 ∀ pins s (W:St) H v u Q ,Inv X pins W H s->RelV v u->t v W H Q ->
  wpAny (model X.prog X.w) X.A (js target X.env u) (λ _ s'=>∃ W' H',Inv X pins W' H' s'/\Q W' H') X.xe s
def PGs (X:Cx)(ts:yK)(t:TGs):Prop :=
 ∀ pins s (W:St) H vs (us:yG) Q ,Inv X pins W H s->Vals vs us->t vs W H Q ->
  wpAny (model X.prog X.w) X.A (assignInOrder ((dB ts X.env).map (·.2)) us) (λ _ s'=>∃ W' H',Inv X pins W' H' s'/\Q W' H') X.xe s
abbrev ck7:=V->V->V->Hp->(Hp->Prop)->Prop
def cq4 (X:Cx)(t:ck7):Prop :=
 ∀ pins s (W:St) H o i v ov iv u Q ,Inv X pins W H s->RelV o ov->RelV i iv->RelV v u->t o i v H Q ->
  wpAny (model X.prog X.w) X.A (setItem ov iv u) (λ _ s'=>∃ H',Inv X pins W H' s'/\Q H') X.xe s
section
variable {X:Cx} {pos:Pos}
def au5 (i:Nat):TG:=λ v W H Q=>Q (W.set i (some v)) H
def az4 (hN:X.N.Nodup)(F:X.N[i]?=some x)(hx:Loc X.env.scope x)(hf:autoParam (X.fn x=true\/X.env.scope.names.lookup x=some .local) Zq0._auto_1):PG X (.Name x pos) (au5 i):=by
 intro z s W H v u Q I r h;exact lH (ap1 I hN F hx r (λ s' G=>⟨_,H,G,h⟩) hf)
def cp1:TGs:=λ vs W H Q=>vs=[]/\Q W H
def bo8 (t:TG)(u:TGs):TGs:=λ vs W H Q=>∃ v r,vs=v::r/\t v W H λ W' H'=>u r W' H' Q
def bi6:PGs X [] cp1:=by
 intro z s W H vs us Q I r h;obtain⟨e,h⟩:=h;subst e;cases r;exact assignInOrder_nil ⟨W,H,I,h⟩
def ay1 (Z:PG X e t)(Y:PGs X es u)
  (hs:autoParam ((dB (e::es) X.env).map (·.2)=js e X.env::(dB es X.env).map (·.2)) Zq4._auto_1):PGs X (e::es) (bo8 t u):=by
 intro z s W H vs us Q I r h;obtain⟨v,vr,e1,h⟩:=h;subst e1;cases r with
 | cons r rr =>
  rw[hs];refine assignInOrder_cons (thn (Z z s W H _ _ _ I r h) λ _ s1 ⟨W1,G,J,F⟩=>?_);exact Y z s1 W1 G _ _ Q J rr F
def cl7 (K:af)(n:Nat)(t:TGs):TG:=λ v W H Q=>∃ a xs,v=.ref a/\SqT K H a xs/\xs.length=n/\t xs W H Q
def bz8 {k}(hc:X.calm=true)(h:PGs X es t)
  (hn:autoParam ((dB es X.env).length=n) Zq4._auto_1) (F:autoParam ((dB es X.env).findIdx? (·.1)=none) Zq4._auto_1):PG X (.Tuple es k pos) (cl7 X.K n t):=by
 intro z s W H v u Q I r hw;obtain⟨a,J,e1,hq,hl,hw⟩:=hw;subst e1;cases r;obtain⟨its,G,Z,hz⟩:=I.tuple hq;refine assign_Tuple_tuple (I.ok.hd hc) Z (by simp[hn,<-hl,G.length]) F λ h' hx=>?_;have Y:=I.kept (t':=s.toks) λ b o e=>hx b o (aK (aJ e)) e;exact h z _ W H J _ Q Y (by simpa using G) hw
def cu6 (to ti:TE)(t:ck7):TG:=λ v W H Q=>to W H λ o H1=>ti W H1 λ i H2=>t o i v H2 λ H3=>Q W H3
def cg9 (ho:PE X o J)(Z:PE X i G)(hs:cq4 X t)
  (ha:autoParam (∀ v,js (.Subscript o i pos) X.env v=(do
   let F <- kF [v] (eval o X.env)
   let iv <- kF [v,F] (eval i X.env)
   standAt pos
   kF [v,F,iv] (setItem F iv v)
   release [v,F,iv] [])) Zq3._auto_1):PG X (.Subscript o i pos) (cu6 J G t):=by
 intro z s W H v u Q I r h;rw[ha];refine ac (cn (thn (ho z s W H _ I h) λ F s1 ⟨x,H1,I1,r1,Y⟩=>?_));refine ac (cn (thn (Z z s1 W H1 _ I1 Y) λ iv s2 ⟨y,H2,I2,r2,q2⟩=>?_));refine ac (kR (ac (cn (thn (hs z s2 W H2 x y v F iv u _ I2 r1 r2 r q2) λ _ s3 ⟨H3,I3,q3⟩=>?_))));exact wpAny_release ⟨W,H3,I3,q3⟩
def bx7 (te:TE)(g:TG):TS:=λ D W H=>te W H λ x H1=>g x W H1 D.nx
def ba6 (G:PE X e te)(hg:PG X tg g)(hs:autoParam (swapsWithSole [tg] e pos.line X.env=pure false) Zq4._auto_1)(hw:autoParam (iO [tg] e X.env=pure none) Zq4._auto_1)
  (Z:autoParam ((dB [tg] X.env).map (·.2)=[js tg X.env]) Zq4._auto_1):PS X (.Assign [tg] e pos) (bx7 te g):=by
 intro z s W H D I h;refine wpAny_Assign_stores (thn (G z s W H _ I h) λ v s1 ⟨x,J,Y,r1,F⟩=>?_) hs hw;rw[Z];exact thn (hg z s1 W J x v _ Y r1 F) λ _ s2 q=>q
def aT9 (hN:X.N.Nodup)(J:X.N[i]?=some x)(hx:Loc X.env.scope x)(he:PE X e te)(hs:autoParam (f7 e (some (.Name x z)) pos.line X.env=pure false) Zq4._auto_1)(hf:autoParam (X.fn x=true\/X.env.scope.names.lookup x=some .local) Zq0._auto_1) :
  PS X (.Assign [.Name x z] e pos) (bx7 te (au5 i)):=by
 intro F s W H D I h;refine wpAny_Assign_Name (thn (he F s W H _ I h) λ v s1 ⟨y,Y,Z,r1,G⟩=>?_) hs;exact ap1 Z hN J hx r1 (λ s2 I2=>⟨_,Y,I2,G⟩) hf
end
section
variable {X:Cx} {pos:Pos}
def bB9 (c:TT)(tb:TS):TS:=λ D W H=>∃ Ww:Nat->St->Hp->Prop,(∃ m,Ww m W H)/\∀ m W H,Ww m W H ->
 c W H λ b H1=>if b=true then ∃ N,(∀ W' H',N W' H'->∃ m',m'<m/\Ww m' W' H')/\tb { D with nx:=N,ct:=N,bk:=D.nx } W H1 else D.nx W H1
def bv2 (hp:nX (model X.prog X.w) X.A X.env X.xe)(hc:PT X c tc)(hb:PSs X body tb):PS X (.While c body [] pos) (bB9 tc tb):=by
 intro z s W H D I h;obtain⟨Ww,⟨m0,w0⟩,turn⟩:=h;refine wpAny_While (codeAny_whileLoop (λ n s'=>∃ W' H',Inv X z W' H' s'/\Ww n W' H') ?_ m0 ⟨W,H,I,w0⟩)
 rintro n s1 ⟨W1,Z,I1,w1⟩
 refine dI hp (thn (hc z s1 W1 Z _ I1 (turn n W1 Z w1)) λ b s2 ⟨H2,I2,q2⟩=>?_);cases b with
 | true =>
  obtain⟨N,hN,q2⟩:=q2;rw[if_pos rfl];refine dI hp (thn (hb z s2 W1 H2 _ I2 q2) λ f s3 q3=>?_);cases f with
  | next =>
   obtain⟨W3,F,J,Y⟩:=q3;obtain⟨m',hm,G⟩:=hN W3 F Y;exact⟨m',hm,W3,F,J,G⟩
  | cont =>
   obtain⟨W3,F,J,Y⟩:=q3;obtain⟨m',hm,G⟩:=hN W3 F Y;exact⟨m',hm,W3,F,J,G⟩
  | brk=>exact q3
  | ret v=>exact q3
 | false =>
  rw[if_neg aH];exact eK ⟨W1,H2,I2,q2⟩
end
structure It where
 go:Nat->Hp->Prop
 yld:Nat->Hp->V->Hp->Prop
 stop:Nat->Hp->Prop
def FpOk (X:Cx)(pins:yA)(H:Hp)(b:Addr):Prop :=
 H b=none/\b≠X.env.locals/\b ∉ X.fs/\(b∈X.ex\/X.s₀.heap.objs.size<=b)/\(∀ x c,X.env.cells.lookup x=some c->c≠b)/\∀ p∈X.pn++pins,p.1≠b
def Inv.fpOk {W:St}{b:Addr}(I:Inv X F W H s)(hb:s.heap.objs.size<=b)(hn:H' b=none):FpOk X F H' b:=by
 refine⟨hn,jt (aL I.lt hb),I.nofs hb,.inr (ar I.sz hb),λ x c e z=>?_,λ p hp z=>?_⟩
 .obtain⟨v,q⟩:=I.cell x c e;exact absurd (aL q.lt (by rw[z];exact hb)) (bG _)
 .exact absurd (aL (aJ (I.pin p hp).1) (by rw[z];exact hb)) (bG _)
structure Turn (P:aM)(w:World)(K:af)(tg:Expr)(J:It)(fp:List Addr)(it:Addr)(tn:Nat->Heap->Prop):Prop where
 mem:it∈fp
 obj:∀ i h,tn i h->∀ b∈fp,∃ o,h.get? b=some o/\∀ v,o.data≠.cell v
 keep:∀ i h h',tn i h->(∀ b∈fp,∀ o,h.get? b=some o->h'.get? b=some o)->tn i h'
 item:∀(X:Cx),X.prog=P->X.w=w->X.K=K->X.calm=true->∀(i:Nat) (pins:yA) (s:ag) (W:St) (H:Hp) (E:Value->ag->Prop),Inv X pins W H s->(∀ b∈fp,FpOk X pins H b)->tn i s.heap->J.go i H ->
  wpAny (model P w) X.A (f8 (.ref it)) (λ r s1=>∃ u,r=some u /\
   wpAny (model P w) X.A (gO tg (.ref it) u) (λ _ s2=>∃ x H',Inv X pins W H' s2/\RelV x u/\J.yld i H x H'/\tn (i+1) s2.heap/\∀ b∈fp,H' b=none) E s1) E s
 done:∀(X:Cx),X.prog=P->X.w=w->X.K=K->X.calm=true->∀(i:Nat) (pins:yA) (s:ag) (W:St) (H:Hp) (E:Value->ag->Prop),Inv X pins W H s->(∀ b∈fp,FpOk X pins H b)->tn i s.heap->J.stop i H ->
  wpAny (model P w) X.A (f8 (.ref it)) (λ r s1=>r=none/\Inv X pins W H s1) E s
 self:∀(A:be) (i:Nat) (s:ag) (Q:Value->ag->Prop) (E:Value->ag->Prop),tn i s.heap->Q (.ref it) s->wpAny (model P w) A (nr (.ref it)) Q E s
abbrev TI:=St->Hp->(It->Hp->Prop)->Prop
def PIE (X:Cx)(pins:yA)(W:St)(tg:Expr)(R:It->Hp->Prop)(itv:Value)(s2:ag):Prop :=
 ∃(it:Addr) (fp:List Addr) (tn:Nat->Heap->Prop) (J:It) (H':Hp),itv=.ref it/\Inv X pins W H' s2/\Turn X.prog X.w X.K tg J fp it tn/\tn 0 s2.heap/\(∀ b∈fp,FpOk X pins H' b)/\R J H'
def PI (X:Cx)(tg iter:Expr)(wi:TI):Prop :=
 ∀ pins s (W:St) H R ,Inv X pins W H s->wi W H R ->
  wpAny (model X.prog X.w) X.A (eval iter X.env) (λ v s1=>wpAny (model X.prog X.w) X.A (nr v) (PIE X pins W tg R) X.xe s1) X.xe s
def bc1 (ho : s.heap.get? it = some o) (hc : o.cls = .type n) (hd : o.data = .fields vs)
    (hn : ["enumerate", "zip", "dict_itemiterator", "dict_reverseitemiterator", "odict_iterator", "itertools.zip_longest", "itertools.pairwise"].contains n = false) (hQ : Q () s) : wpAny M A (gO tg (.ref it) u) Q E s := by
  unfold gO;cases tg <;> first
    | exact am hQ
    | (cases u <;> first
        | exact am hQ
        | (refine ac (wpAny_load ho ?_)
           rw[hc, hd];show wpAny M A (if(["enumerate", "zip", "dict_itemiterator", "dict_reverseitemiterator", "odict_iterator", "itertools.zip_longest", "itertools.pairwise"].contains n && vs[0]? == some (n6 _)) = true then _ else _) Q E s;rw[if_neg (by intro h; rw[hn, Bool.false_and]at h; cases h)];exact am hQ))
noncomputable def Itl (K:af)(a:Addr):It :=
 ⟨λ i H=>∃ xs x,SqL K H a xs/\xs[i]?=some x,λ i H x H'=>H'=H/\∀ xs,SqL K H a xs->xs[i]?=some x,λ i H=>∃ xs,SqL K H a xs/\xs.length<=i⟩
noncomputable def Itt (K:af)(a:Addr):It :=
 ⟨λ i H=>∃ xs x,SqT K H a xs/\xs[i]?=some x,λ i H x H'=>H'=H/\∀ xs,SqT K H a xs->xs[i]?=some x,λ i H=>∃ xs,SqT K H a xs/\xs.length<=i⟩
noncomputable def Itr (lo:Int)(n:Nat):It:=⟨λ i _=>i<n,λ i H x H'=>H'=H/\x=.int (lo+i),λ i _=>n<=i⟩
def bk3 {K} a it :Turn P w K tg (Itl K a) [it] it (λ i h=>h.IsListIter it a i) where
 mem:=by simp
 obj:=λ i h st b hb=>by
  have e:=by simpa using hb
  subst e;obtain⟨o,e,c,d⟩:=st;exact⟨o,e,λ v z=>by rw[d]at z;cases z⟩
 keep:=λ i h h' st k=>st.at λ o e=>k it (by simp) o e
 item:=by
  intro X hP hw Y hc i F s W H E I hf st hg;subst hP hw Y;obtain⟨xs,x,hq,hx⟩:=hg;obtain⟨its,J,p,hz⟩:=I.list hq;obtain⟨u,hu,ru⟩:=J.get hx;obtain⟨f0,f1,f2,f3,Z,f5⟩:=hf it (by simp);refine wpAny_pyNext_list_item st p.isList (by simpa using hu) λ h' G sb=>?_;have I1:=I.turned (t':=s.toks) (λ b o hb e=>(sb.2 b hb).trans e) f0 f1 f3 Z f5;obtain⟨o,e,c,d⟩:=id G;exact⟨u,rfl,bc1 e c d (by decide) ⟨x,H,I1,ru,⟨rfl,λ ys hy=>by rw[I.list_inj hy hq];exact hx⟩,G,λ b hb=>(hf b hb).1⟩⟩
 done:=by
  intro X hP hw Y hc i F s W H E I hf st hg;subst hP hw Y;obtain⟨xs,hq,hx⟩:=hg;obtain⟨its,J,p,hz⟩:=I.list hq;obtain⟨f0,f1,f2,f3,Z,f5⟩:=hf it (by simp);have hl:=J.length;exact wpAny_pyNext_list_end (I.ok.hd hc) st p.isList (by simp;lia) λ h' eb=>⟨rfl,I.turned (λ b o hb e=>eb b o hb e) f0 f1 f3 Z f5⟩
 self:=λ _ _ _ _ _ st h=>wpAny_pyIter_listiter st h
def aW3 {K} a it :Turn P w K tg (Itt K a) [it] it (λ i h=>h.IsTupleIter it a i) where
 mem:=by simp
 obj:=λ i h st b hb=>by
  have e:=by simpa using hb
  subst e;obtain⟨o,e,c,d⟩:=st;exact⟨o,e,λ v z=>by rw[d]at z;cases z⟩
 keep:=λ i h h' st k=>st.at λ o e=>k it (by simp) o e
 item:=by
  intro X hP hw Y hc i F s W H E I hf st hg;subst hP hw Y;obtain⟨xs,x,hq,hx⟩:=hg;obtain⟨its,J,p,hz⟩:=I.tuple hq;obtain⟨u,hu,ru⟩:=J.get hx;obtain⟨f0,f1,f2,f3,Z,f5⟩:=hf it (by simp);refine wpAny_pyNext_tuple_item st (p) (by simpa using hu) λ h' G sb=>?_;have I1:=I.turned (t':=s.toks) (λ b o hb e=>(sb.2 b hb).trans e) f0 f1 f3 Z f5;obtain⟨o,e,c,d⟩:=id G;exact⟨u,rfl,bc1 e c d (by decide) ⟨x,H,I1,ru,⟨rfl,λ ys hy=>by rw[I.tuple_inj hy hq];exact hx⟩,G,λ b hb=>(hf b hb).1⟩⟩
 done:=by
  intro X hP hw Y hc i F s W H E I hf st hg;subst hP hw Y;obtain⟨xs,hq,hx⟩:=hg;obtain⟨its,J,p,hz⟩:=I.tuple hq;obtain⟨f0,f1,f2,f3,Z,f5⟩:=hf it (by simp);have hl:=J.length;exact wpAny_pyNext_tuple_end (I.ok.hd hc) st (p) (by simp;omega) λ h' eb=>⟨rfl,I.turned (λ b o hb e=>eb b o hb e) f0 f1 f3 Z f5⟩
 self:=λ _ _ _ _ _ st h=>wpAny_pyIter_tupleiter st h
def aW8 {K} it J n :Turn P w K tg (Itr J n) [it] it (λ i h=>ka h it (J+(i)*1) ((n) - (i)) 1) where
 mem:=by simp
 obj:=λ i h st b hb=>by
  have e:=by simpa using hb
  subst e;exact⟨_,st,λ v z=>by
   have z':=z;cases z'⟩
 keep:=λ i h h' st k=>k it (by simp) _ st
 item:=by
  intro X hP hw Y hc i F s W H E I hf st hg;subst hP hw Y;obtain⟨f0,f1,f2,f3,Z,f5⟩:=hf it (by simp);have Ww:=on (prog:=X.prog) (w:=X.w) (I.ok.hd hc) it J 1 n;refine Ww.item i s _ _ hg st λ v h' tk hv G kk=>?_;obtain⟨t,rfl⟩:=hv;have I1:Inv X F W H { s with heap:=h',toks:=tk }:=I.turned (λ b o hb e=>kk b o (by simpa using hb) e) f0 f1 f3 Z f5;refine⟨_,rfl,bc1 G rfl rfl (by decide) ⟨.int (J+i),H,I1,⟨t,?_⟩,⟨rfl,rfl⟩,G,λ b hb=>(hf b hb).1⟩⟩;rw[Int.mul_one]
 done:=by
  intro X hP hw Y hc i F s W H E I hf st hg;subst hP hw Y;obtain⟨f0,f1,f2,f3,Z,f5⟩:=hf it (by simp);exact ju (I.ok.hd hc) st (by have:n<=i:=hg;lia) λ h' eb=>⟨rfl,I.turned (λ b o hb e=>eb b o hb e) f0 f1 f3 Z f5⟩
 self:=λ _ _ _ _ _ st h=>jv st h
section
variable {X:Cx} {tg:Expr}
def bR4 (K:af)(tl:TE):TI:=λ W H R=>tl W H λ x H1=>∃ a,x=.ref a/\(∃ xs,SqL K H1 a xs)/\R (Itl K a) H1
def cu4 (K:af)(tl:TE):TI:=λ W H R=>tl W H λ x H1=>∃ a,x=.ref a/\(∃ xs,SqT K H1 a xs)/\R (Itt K a) H1
def bL9 (hl:PE X l G):PI X tg l (bR4 X.K G):=by
 intro z s W H R I h;refine thn (hl z s W H _ I h) λ v s1 ⟨x,Y,F,r1,J⟩=>?_;obtain⟨a,e,⟨xs,hq⟩,q⟩:=J;subst e;cases r1;obtain⟨its,Z,p,hz⟩:=F.list hq;refine dg p.isList ?_;refine⟨s1.heap.objs.size,[s1.heap.objs.size],_,_,Y,rfl,F.kept λ b o e=>ao _ e,bk3 a _,⟨_,aI _ rfl,rfl,rfl⟩,λ b hb=>?_,q⟩;have e:=by simpa using hb
 subst e;exact F.fpOk (au _) (F.hok.fresh (au _))
def cc4 (hl:PE X l G):PI X tg l (cu4 X.K G):=by
 intro z s W H R I h;refine thn (hl z s W H _ I h) λ v s1 ⟨x,Y,F,r1,J⟩=>?_;obtain⟨a,e,⟨xs,hq⟩,q⟩:=J;subst e;cases r1;obtain⟨its,Z,p,hz⟩:=F.tuple hq;refine k9 (p) ?_;refine⟨s1.heap.objs.size,[s1.heap.objs.size],_,_,Y,rfl,F.kept λ b o e=>ao _ e,aW3 a _,⟨_,aI _ rfl,rfl,rfl⟩,λ b hb=>?_,q⟩;have e:=by simpa using hb
 subst e;exact F.fpOk (au _) (F.hok.fresh (au _))
def bo4 {W:St}(I:Inv X G W H s)(h1:-(2^62)<=z)(h2:z<2^62)(Z:-(2^62)<=F)(Y:F<2^62)
  (q:R (Itr z (F - z).toNat) H):wpAny (model X.prog X.w) X.A (nr (.ref s.heap.objs.size)) (PIE X G W tg R) E { s with heap:=s.heap.push { cls:=.type "range",data:=.fields #[.int z t,.int F u,.int 1 v] },toks:=tk }:=by
 refine la (oq ..) (small_one h1 h2 Z Y) ?_;have J:Inv X G W H { s with heap:=s.heap.push { cls:=.type "range",data:=.fields #[.int z t,.int F u,.int 1 v] },toks:=tk }:=I.kept λ b o e=>ao _ e;refine⟨(s.heap.push { cls:=.type "range",data:=.fields #[.int z t,.int F u,.int 1 v] }).objs.size,[(s.heap.push { cls:=.type "range",data:=.fields #[.int z t,.int F u,.int 1 v] }).objs.size],_,_,H,rfl,
  J.kept λ b o e=>ao _ e,aW8 _ z (F - z).toNat,?_,λ b hb=>?_,q⟩
 .have e1:z+((0:Nat):Int)*1=z:=by simp
  have e2:(((F - z).toNat:Nat):Int) - ((0:Nat):Int)=d6 z F 1:=by rw[rangeSize_one];split<;>lia
  show ka _ _ (z+((0:Nat):Int)*1) ((((F - z).toNat:Nat):Int) - ((0:Nat):Int)) 1;rw[e1,e2];exact aI _ rfl
 .have e:b=(s.heap.push { cls:=.type "range",data:=.fields #[.int z t,.int F u,.int 1 v] }).objs.size:=by simpa using hb
  subst e;exact J.fpOk (au _) (J.hok.fresh (au _))
def cg2 (ta:TA):TI:=λ W H R=>ta W H λ vs H1=>∃ j,vs=[.int j]/\-(2^62)<=j/\j<2^62/\R (Itr 0 j.toNat) H1
def bh1 (hg:Gl X "range")(hm:X.mg "range"=none)(ha:PA X [a] G)(hs:autoParam (bB [a] X.env=[(false,eval a X.env)]) Zq4._auto_1):PI X tg (.Call (.Name "range" p) [a] [] pos) (cg2 G):=by
 intro z s W H R I h;refine Call_ (at5 I hg hm boot_range (eV (thn (ha pos z s W H _ I h) λ us s1 ⟨vs,Y,J,r1,F⟩=>?_) hs rfl));obtain⟨j,e,F,q2,q⟩:=F;subst e;cases r1 with
 | cons r rr =>
  cases rr;obtain⟨t,rfl⟩:=r;exact call_range_1 (bo4 J (by lia) (by lia) F q2 (by simpa using q))
def cv8 (wi:TI)(g:TG)(tb:TS):TS:=λ D W H=>wi W H λ J H1=>∃ Ww:Nat->Nat->St->Hp->Prop,(∃ m,Ww 0 m W H1)/\∀ i m W H,Ww i m W H ->
 (J.stop i H/\D.nx W H)\/(J.go i H/\∃ N,(∀ W' H',N W' H'->∃ m',m'<m/\Ww (i+1) m' W' H')/\∀ x H',J.yld i H x H'->g x W H' λ W2 H2=>tb { D with nx:=N,ct:=N,bk:=D.nx } W2 H2)
noncomputable def aF3 (fp:List Addr)(h:Heap):List (Addr×Obj):=fp.filterMap λ b=>(h.get? b).map λ o=>(b,o)
def je (hb:b∈z)(e:h.get? b=some o):(b,o)∈aF3 z h:=dC.mpr ⟨b,hb,by rw[e];rfl⟩
def bi0 (hp:p∈aF3 z h):p.1∈z/\h.get? p.1=some p.2:=by
 obtain⟨b,hb,e⟩:=dC.mp hp;cases q:h.get? b with
 | none=>rw[q]at e;cases e
 | some o =>
  rw[q]at e;have e':=aC e;subst e';exact⟨hb,q⟩
def Inv.pinned {W:St}(I:Inv X F W H s)(hf:∀ b∈G,FpOk X F H b)(ho:∀ b∈G,∃ o,s.heap.get? b=some o/\∀ v,o.data≠.cell v):Inv X (F++aF3 G s.heap) W H s :=
 I.pins_of λ p hp=>(aW.mp hp).elim (λ z=>I.pin p (aG _ z)) λ z=>by
  obtain⟨hb,e⟩:=bi0 z;obtain⟨J,Y,Z,_⟩:=hf p.1 hb;obtain⟨o,e',d⟩:=ho p.1 hb;rw[e]at e';cases e';exact⟨e,J,Y,Z,d⟩
def Inv.unpinned {W:St}(I:Inv X (z++F) W H s):Inv X z W H s:=I.pins_of λ p hp=>I.pin p (aG _ (aY _ hp))
def ch5 (hp:nX (model X.prog X.w) X.A X.env X.xe)(hc:X.calm=true)(hi:PI X tg iter wi)(hg:PG X tg g)(hb:PSs X body tb)
  (hs:autoParam (∀ x,eW iter X.env x=pure x) Zq3._auto_1):PS X (.For tg iter body [] pos) (cv8 wi g tb):=by
 intro z s W H D I h;refine wpAny_For (thn (hi z s W H _ I h) λ v s1 h1=>thn h1 λ a6 s2 h2=>?_) hs;obtain⟨it,fp,tn,J,H2,e,I2,T,a4,f2,Ww,⟨m0,w0⟩,turn⟩:=h2;subst e;have F:∀ {H'},(∀ b∈fp,H' b=none)->∀ b∈fp,FpOk X z H' b:=λ hn b hb=>⟨hn b hb,(f2 b hb).2⟩
 refine codeAny_forLoop_any (λ n s'=>∃ i W' H',Inv X z W' H' s'/\tn i s'.heap/\(∀ b∈fp,H' b=none)/\Ww i n W' H') ?_ m0 ⟨0,W,H2,I2,a4,λ b hb=>(f2 b hb).1,w0⟩
 rintro n s3 ⟨i,W3,H3,I3,a2,a1,w3⟩
 rcases turn i n W3 H3 w3 with⟨stop,qn⟩|⟨go,N,hN,step⟩
 .refine dI hp (thn (T.done X rfl rfl rfl hc i z s3 W3 H3 X.xe I3 (F a1) a2 stop) λ r s4 ⟨hr,I4⟩=>?_);subst hr;exact eK ⟨W3,H3,I4,qn⟩
 .refine dI hp (thn (T.item X rfl rfl rfl hc i z s3 W3 H3 X.xe I3 (F a1) a2 go) λ r s4 ⟨u,hr,h4⟩=>?_);subst hr;refine dI hp (thn h4 λ _ s5 ⟨x,H5,I5,r5,y5,a0,a5⟩=>?_);have a3:=I5.pinned (F a5) (T.obj _ _ a0);refine dI hp (thn (hg _ s5 W3 H5 x u _ a3 r5 (step x H5 y5)) λ _ s6 ⟨W6,H6,I6,q6⟩=>?_);refine dI hp (thn (hb _ s6 W6 H6 _ I6 q6) λ f s7 Z=>?_);have again:∀ {W7} {G},Inv X (z++aF3 fp s5.heap) W7 G s7->N W7 G->∃ m,m<n/\∃ i W' H',Inv X z W' H' s7/\tn i s7.heap/\(∀ b∈fp,H' b=none)/\Ww i m W' H':=λ {W7 G} Y n7=>by
   obtain⟨m',hm,w7⟩:=hN W7 G n7;refine⟨m',hm,i+1,W7,G,Y.unpinned,T.keep _ _ _ a0 λ b hb o e=>(Y.pin (b,o) (aG _ (aG _ (je hb e)))).1,λ b hb=>?_,w7⟩;obtain⟨o,e,d⟩:=T.obj _ _ a0 b hb;exact(Y.pin (b,o) (aG _ (aG _ (je hb e)))).2.1
  cases f with
  | next=>obtain⟨W7,G,Y,n7⟩:=Z;exact again Y n7
  | cont=>obtain⟨W7,G,Y,n7⟩:=Z;exact again Y n7
  | brk=>obtain⟨W7,G,Y,Z⟩:=Z;exact⟨W7,G,Y.unpinned,Z⟩
  | ret v=>obtain⟨x7,W7,G,Y,r7,Z⟩:=Z;exact⟨x7,W7,G,Y.unpinned,r7,Z⟩
end
abbrev R2:=V->V->Hp->VK->Prop
def OpR (X:Cx)(f:Value->Value->Sem Value)(r:R2):Prop :=
 ∀ pins s (W:St) H x y v u Q ,Inv X pins W H s->RelV x v->RelV y u->r x y H Q ->
  wpAny (model X.prog X.w) X.A (f v u) (EP X pins W Q) X.xe s
def UnR (X:Cx)(f:Value->Sem Value)(r:V->Hp->VK->Prop):Prop :=
 ∀ pins s (W:St) H x v Q ,Inv X pins W H s->RelV x v->r x H Q ->
  wpAny (model X.prog X.w) X.A (f v) (EP X pins W Q) X.xe s
def ad8 (X:Cx)(f:Value)(r:List V->Hp->VK->Prop):Prop :=
 ∀ pins s (W:St) H xs (us:yG) Q ,Inv X pins W H s->Vals xs us->r xs H Q ->
  wpAny (model X.prog X.w) X.A (call f us) (EP X pins W Q) X.xe s
def tOp (r:R2)(ta tb:TE):TE:=λ W H Q=>ta W H λ x H1=>tb W H1 λ y H2=>r x y H2 Q
def tUn (r:V->Hp->VK->Prop)(ta:TE):TE:=λ W H Q=>ta W H λ x H1=>r x H1 Q
def rI (Cc:Int->Int->Prop)(g:Int->Int->V):R2:=λ x y H Q=>∃ i j,x=.int i/\y=.int j/\Cc i j/\Q (g i j) H
def rI0 (g:Int->Int->V):R2:=λ x y H Q=>∃ i j,x=.int i/\y=.int j/\Q (g i j) H
def rU (g:Int->V):V->Hp->VK->Prop:=λ x H Q=>∃ i,x=.int i/\Q (g i) H
section
variable {X:Cx} {a b c:Expr} {ta tb tc:TE} {pos:Pos}
def ct5 (ha:PE X a ta)(hb:PE X b tb){W:St}{R:V->V->Hp->Prop}(I:Inv X z W H s)
  (h:ta W H λ x G=>tb W G λ y F=>R x y F) {f:Value->Value->Sem Value}
  (hf:∀ v u s2 x y F,Inv X z W F s2->RelV x v->RelV y u->R x y F->wpAny (model X.prog X.w) X.A (f v u) Q X.xe s2) :
  wpAny (model X.prog X.w) X.A (eval a X.env) (λ v Y=>wpAny (model X.prog X.w) X.A (eval b X.env) (λ u J=>wpAny (model X.prog X.w) X.A (f v u) Q X.xe J) X.xe Y) X.xe s:=by
 refine thn (ha z s W H _ I h) λ v s1 ⟨x,G,I1,r1,Z⟩=>?_;refine thn (hb z s1 W G _ I1 Z) λ u s2 ⟨y,F,I2,r2,q2⟩=>?_;exact hf v u s2 x y F I2 r1 r2 q2
def bR8 (ho:OpR X (c5 op) r)(ha:PE X a ta)(hb:PE X b tb):PE X (.BinOp a op b pos) (tOp r ta tb):=by
 intro z s W H Q I h;exact wpAny_BinOp (ct5 ha hb I h λ v u s2 x y F J G Y q=>ho z s2 W F x y v u Q J G Y q)
def bY6 (ho:UnR X (unaryOp op) r)(ha:PE X a ta):PE X (.UnaryOp op a pos) (tUn r ta):=by
 intro z s W H Q I h;exact UnaryOp_ (thn (ha z s W H _ I h) λ v s1 ⟨x,G,J,r1,F⟩=>ho z s1 W G x v Q J r1 F)
def opI {g:Int->Int->Int}
  (rule:∀(i j:Int) (t u:Tok) (s:ag) (Q:Value->ag->Prop) (E:Value->ag->Prop),Cc i j->Q (.int (g i j) s.toks) { s with toks:=s.toks+1 }->wpAny (model X.prog X.w) X.A (f (.int i t) (.int j u)) Q E s) :
  OpR X f (rI Cc λ i j=>.int (g i j)):=by
 intro z s W H x y v u Q I F G h;obtain⟨i,j,rfl,rfl,hc,q⟩:=h;obtain⟨t,rfl⟩:=F;obtain⟨t',rfl⟩:=G;exact rule i j t t' s _ _ hc ⟨.int (g i j),H,I.tok _,⟨_,rfl⟩,q⟩
def cv5 {g:Int->Int->Int}
  (rule:∀(i j:Int) (t u:Tok) (s:ag) (Q:Value->ag->Prop) (E:Value->ag->Prop),Q (.int (g i j) s.toks) { s with toks:=s.toks+1 }->wpAny (model X.prog X.w) X.A (f (.int i t) (.int j u)) Q E s) :
  OpR X f (rI0 λ i j=>.int (g i j)):=by
 intro z s W H x y v u Q I F G h;obtain⟨i,j,rfl,rfl,q⟩:=h;obtain⟨t,rfl⟩:=F;obtain⟨t',rfl⟩:=G;exact rule i j t t' s _ _ ⟨.int (g i j),H,I.tok _,⟨_,rfl⟩,q⟩
def cp7 {g:Int->Int->Bool}
  (rule:∀(i j:Int) (t u:Tok) (s:ag) (Q:Value->ag->Prop) (E:Value->ag->Prop),Q (.bool (g i j)) s->wpAny (model X.prog X.w) X.A (f (.int i t) (.int j u)) Q E s) :
  OpR X f (rI0 λ i j=>.T (g i j)):=by
 intro z s W H x y v u Q I F G h;obtain⟨i,j,rfl,rfl,q⟩:=h;obtain⟨t,rfl⟩:=F;obtain⟨t',rfl⟩:=G;exact rule i j t t' s _ _ ⟨.T (g i j),H,I,rfl,q⟩
def cv9 (i j:Int):Prop:=0<=j/\j<=1000000/\i.natAbs<2^64
def cl5 (i j:Int):Prop:=(-(2^64)<i/\i<2^64)\/(-(2^64)<j/\j<2^64)
def cl5.ok (h:cl5 i j):IntMulOk i j:=by
 rcases h with⟨F,z⟩|⟨F,z⟩
 .exact .of_left (intBits_le_64 F z)
 .exact .of_right (intBits_le_64 F z)
def ce0:OpR X (c5 .Add) (rI0 λ i j=>.int (i+j)):=cv5 λ _ _ _ _ _ _ _ q=>add_int q
def cg6:OpR X (c5 .Sub) (rI0 λ i j=>.int (i - j)):=cv5 λ _ _ _ _ _ _ _ q=>sub_int q
def bU6:OpR X (c5 .Mod) (rI (λ _ j=>0<j) λ i j=>.int (i % j)):=opI λ i j _ _ _ _ _ hc q=>by
 have z:=hc;exact mod_int' (by lia) (by rw[Int.fmod_eq_emod_of_nonneg i (by lia)];exact q)
def bZ5:OpR X (c5 .Pow) (rI cv9 λ i j=>.int (i^j.toNat)):=opI λ _ _ _ _ _ _ _ hc q=>pow_int_small hc.1 hc.2.1 hc.2.2 q
def ce8:OpR X (c5 .LShift) (rI cv9 λ i j=>.int (i*2^j.toNat)):=opI λ _ _ _ _ _ _ _ hc q=>lshift_int_small hc.1 hc.2.1 hc.2.2 q
def unI {g:Int->Int}
  (rule:∀(i:Int) (t:Tok) (s:ag) (Q:Value->ag->Prop) (E:Value->ag->Prop),Q (.int (g i) s.toks) { s with toks:=s.toks+1 }->wpAny (model X.prog X.w) X.A (f (.int i t)) Q E s) :
  UnR X f (rU λ i=>.int (g i)):=by
 intro z s W H x v Q I F h;obtain⟨i,rfl,q⟩:=h;obtain⟨t,rfl⟩:=F;exact rule i t s _ _ ⟨.int (g i),H,I.tok _,⟨_,rfl⟩,q⟩
def bA4:UnR X (unaryOp .USub) (rU λ i=>.int (-i)):=unI λ _ _ _ _ _ q=>neg_int q
end
noncomputable def cz5:V->V->Bool
 | .N,.N=>true|.N,.int _=>true|.int _,.N=>true|.N,.T _=>true|.T _,.N=>true|.N,.str _=>true|.str _,.N=>true
 | .int _,.int _=>true|.T _,.T _=>true|.str _,.str _=>true|.byt _,.byt _=>true
 | .int _,.str _=>true|.str _,.int _=>true|.T _,.str _=>true|.str _,.T _=>true
 | _,_=>false
def rNe:R2:=λ x y H Q=>cz5 x y=true/\Q (.T (!decide (x=y))) H
def bj4 :decide (V.int i=V.int j)=(i==j):=by
 rw[cD];simp
def bY1 :decide (V.T i=V.T j)=(i==j):=by
 rw[cD];simp
def bJ4 :decide (V.str i=V.str j)=(i==j):=by
 rw[cD];simp
def bI8 :decide (V.byt i=V.byt j)=(i.toList==j.toList):=by
 rw[cD];cases i;cases j;simp
section
variable {X:Cx} {a b c:Expr} {ta tb tc:TE} {pos:Pos}
def qh {W:St}(I:Inv X z W H s)(q:Q (.T k) H)(e:k=F):EP X z W Q (.bool F) s:=by
 subst e;exact⟨.T k,H,I,rfl,q⟩
def cn7:OpR X (db .NotEq) rNe:=by
 intro G s W H x y v u Q I F z h;obtain⟨hs,q⟩:=h;cases x with
 | N =>
  cases F;cases y with
  | N=>cases z;exact PySem.EqNone.ne_none_none (qh I q (by simp))
  | T j=>cases z;exact PySem.EqNone.ne_none_bool (qh I q (by simp))
  | int j=>obtain⟨t',rfl⟩:=z;exact PySem.EqNone.ne_none_int (qh I q (by simp))
  | str j=>obtain⟨t',rfl⟩:=z;exact PySem.EqNone.ne_none_str (qh I q (by simp))
  | _=>exact absurd (hs) aH
 | T i =>
  cases F;cases y with
  | N=>cases z;exact PySem.EqNone.ne_bool_none (qh I q (by simp))
  | T j=>cases z;exact ne_bool (qh I q (congrArg not bY1))
  | str j=>obtain⟨t',rfl⟩:=z;exact nE (qh I q (by simp))
  | _=>exact absurd (hs) aH
 | int i =>
  obtain⟨t,rfl⟩:=F;cases y with
  | N=>cases z;exact PySem.EqNone.ne_int_none (qh I q (by simp))
  | int j=>obtain⟨t',rfl⟩:=z;exact ne_int (qh I q (congrArg not bj4))
  | str j=>obtain⟨t',rfl⟩:=z;exact nP (qh I q (by simp))
  | _=>exact absurd (hs) aH
 | str i =>
  obtain⟨t,rfl⟩:=F;cases y with
  | N=>cases z;exact PySem.EqNone.ne_str_none (qh I q (by simp))
  | T j=>cases z;exact nF (qh I q (by simp))
  | int j=>obtain⟨t',rfl⟩:=z;exact nQ (qh I q (by simp))
  | str j=>obtain⟨t',rfl⟩:=z;exact ne_str (qh I q (congrArg not bJ4))
  | _=>exact absurd (hs) aH
 | byt i =>
  obtain⟨t,rfl⟩:=F;cases y with
  | byt j=>obtain⟨t',rfl⟩:=z;exact PySem.W.ne_bytes (qh I q (congrArg not bI8))
  | _=>exact absurd (hs) aH
 | _=>cases y<;>exact absurd (hs) aH
def cq0:OpR X (db .Lt) (rI0 λ i j=>.T (decide (i<j))):=cp7 λ _ _ _ _ _ _ _ q=>lt_int q
def cu2:OpR X (db .LtE) (rI0 λ i j=>.T (decide (i<=j))):=cp7 λ _ _ _ _ _ _ _ q=>le_int q
def cr6:OpR X (db .Gt) (rI0 λ i j=>.T (decide (j<i))):=cp7 λ _ _ _ _ _ _ _ q=>gt_int q
def bS6 (ho:OpR X (db op) r)(ha:PE X a ta)(hb:PE X b tb)(hm:dS op b=false):PE X (.Compare a [op] [b] pos) (tOp r ta tb):=by
 intro z s W H Q I h;exact wpAny_Compare1 (ct5 ha hb I h λ v u s2 x y F J G Y q=>ho z s2 W F x y v u Q J G Y q) hm
def bN7 (t:TE):TT:=λ W H Q=>t W H λ x H'=>∃ k,x=.T k/\Q k H'
def be8 (ho:OpR X (db op) r)(ha:PE X a ta)(hb:PE X b tb)(hm:dS op b=false):PT X (.Compare a [op] [b] pos) (bN7 (tOp r ta tb)):=by
 intro F s W H Q I h;refine jQ (thn (ha F s W H _ I h) λ v s1 ⟨x,J,Y,r1,G⟩=>thn (hb F s1 W J _ Y G) λ u s2 ⟨y,H2,I2,r2,q2⟩ =>
  thn (ho F s2 W H2 x y v u _ I2 r1 r2 q2) λ c s3 ⟨z,H3,Z,r3,k,e,q3⟩=>?_) hm
 subst e;cases r3;exact bI ⟨H3,Z,q3⟩
def bf7 (r r':R2)(ta tb tc:TE):TE:=λ W H Q=>ta W H λ x H1=>tb W H1 λ y H2=>r x y H2 λ z H3=>∃ k,z=.T k /\
 (if k=true then tc W H3 λ w' H4=>r' y w' H4 Q else Q (.T false) H3)
def bo2 (ho:OpR X (db op) r)(J:OpR X (db G) Y)(ha:PE X a ta)(hb:PE X b tb)(hc:PE X c tc)
  (hm:autoParam (nY [op,G] [b,c]=false) Zq5._auto_1):PE X (.Compare a [op,G] [b,c] pos) (bf7 r Y ta tb tc):=by
 intro F s W H Q I h;refine Compare_chain (thn (ha F s W H _ I h) λ v s1 ⟨x,H1,I1,r1,q1⟩=>chain_link (thn (hb F s1 W H1 _ I1 q1) λ u s2 ⟨y,H2,I2,r2,q2⟩ =>
  thn (ho F s2 W H2 x y v u _ I2 r1 r2 q2) λ d s3 ⟨z,H3,Z,r3,k,e,q3⟩=>?_)) hm
 subst e;cases r3;refine bI ?_;cases k with
 | false=>exact ite_ff ⟨.T false,H3,Z,rfl,q3⟩
 | true=>exact ite_tt (chain_last (thn (hc F s3 W H3 _ Z q3) λ w' s4 ⟨z',H4,I4,r4,q4⟩=>J F s4 W H4 y z' u w' Q I4 r2 r4 q4))
def bq4 (ho:OpR X (db op) r)(J:OpR X (db G) Y)(ha:PE X a ta)(hb:PE X b tb)(hc:PE X c tc)
  (hm:autoParam (nY [op,G] [b,c]=false) Zq5._auto_1):PT X (.Compare a [op,G] [b,c] pos) (bN7 (bf7 r Y ta tb tc)):=by
 intro F s W H Q I h;refine isTrue_chain (thn (ha F s W H _ I h) λ v s1 ⟨x,H1,I1,r1,q1⟩=>test_link (thn (hb F s1 W H1 _ I1 q1) λ u s2 ⟨y,H2,I2,r2,q2⟩ =>
  thn (ho F s2 W H2 x y v u _ I2 r1 r2 q2) λ d s3 ⟨z,H3,Z,r3,k,e,q3⟩=>?_)) hm
 subst e;cases r3;refine bI ?_;cases k with
 | false =>
  obtain⟨k',e',q'⟩:=q3;cases e';exact ite_ff ⟨H3,Z,q'⟩
 | true =>
  refine ite_tt (test_last (thn (hc F s3 W H3 _ Z q3) λ w' s4 ⟨z',H4,I4,r4,q4⟩=>thn (J F s4 W H4 y z' u w' _ I4 r2 r4 q4) λ d' s5 ⟨z2,H5,I5,r5,k2,e2,q5⟩=>?_));subst e2;cases r5;exact bI ⟨H5,I5,q5⟩
def at7:(aV)<2^63:=by rw[dL];decide
def aV5:OpR X (c5 .Add) (λ x y H Q=>∃ i j,x=.str i/\y=.str j/\i.length+j.length<=aV/\Q (.str (i++j)) H):=by
 intro z s W H x y v u Q I F G h;obtain⟨i,j,rfl,rfl,hz,q⟩:=h;obtain⟨t,rfl⟩:=F;obtain⟨t',rfl⟩:=G;exact add_str (λ t' tk=>⟨.str (i++j),H,I.tok _,⟨_,rfl⟩,q⟩) hz
def qR {us:yG}(r:Vals [x] us):∃ u,us=[u]/\RelV x u:=by
 cases r with
 | cons r1 r2=>cases r2;exact⟨_,rfl,r1⟩
def br4 {us:yG}(r:Vals [x,y] us):∃ u w',us=[u,w']/\RelV x u/\RelV y w':=by
 cases r with
 | cons r1 r2 =>
  cases r2 with
  | cons r3 r4=>cases r4;exact⟨_,_,rfl,r1,r3⟩
def bs4:ad8 X (.builtin "abs") (λ z H Q=>∃ i,z=[.int i]/\Q (.int (if i<0 then -i else i)) H):=by
 intro F s W H z us Q I r h;obtain⟨i,rfl,q⟩:=h;obtain⟨u,rfl,t,rfl⟩:=qR r;exact call_abs_int λ u tk=>⟨.int (if i<0 then -i else i),H,I.tok _,⟨_,rfl⟩,q⟩
def ba9 (hc:X.calm=true):ad8 X (.builtin "min") (λ z H Q=>∃ i j,z=[.int i,.int j]/\Q (.int (if j<i then j else i)) H):=by
 intro F s W H z us Q I r h;obtain⟨i,j,rfl,q⟩:=h;obtain⟨u,w',rfl,⟨t,rfl⟩,⟨t',rfl⟩⟩:=br4 r;refine min_two_ints (I.ok.hd hc) λ h' tk k=>⟨_,H,I.kept k,?_,q⟩
 by_cases hj:j<i
 .rw[if_pos hj,if_pos hj];exact⟨_,rfl⟩
 .rw[if_neg hj,if_neg hj];exact⟨_,rfl⟩
def bg1:ad8 X (.type "int") (λ z H Q=>(∃ i,z=[.int i]/\Q (.int i) H)\/∃ k,z=[.T k]/\Q (.int (if k then 1 else 0)) H):=by
 intro F s W H z us Q I r h;rcases h with⟨i,rfl,q⟩|⟨k,rfl,q⟩
 .obtain⟨u,rfl,t,rfl⟩:=qR r;exact call_int_int ⟨.int i,H,I,⟨_,rfl⟩,q⟩
 .obtain⟨u,rfl,r1⟩:=qR r;cases r1;exact call_int_bool ⟨.int (if k then 1 else 0),H,I.tok _,⟨_,rfl⟩,q⟩
end
structure ObjM (h:Heap)(x dx Cc:Addr)(mA:yC):Prop where
 obj:h.get? x=some (mQ Cc dx)
 ns:h.Ns1 dx mA
 ne:dx≠x
def be6 {h:Heap}{G:yC}(n:h.Ns1 J G):∃ od,h.get? J=some od/\∀ name,kc name od=some (G name):=by
 obtain⟨o,es,ep,ho,hd,hk,_,hm⟩:=n;refine⟨o,ho,λ name=>?_⟩;have e:=hm name;unfold nsFind findBy at e;rw[<-Array.find?_toList]at e;unfold kc;rw[hd];dsimp only;split
 .rename_i y q;rw[q]at e;exact congrArg some e
 .rename_i q;rw[q]at e;have a:es.toList.any (·.refKey)=false:=by
   rw[List.any_eq_false];intro y hy;obtain⟨z,t,F⟩:=hk y (Array.mem_toList_iff.mp hy);simp[DictEntry.refKey,F]
  have Y:¬ es.toList.any (·.refKey)=true:=by rw[a];exact aH
  rw[if_neg Y];exact congrArg some e
def ObjM.look (I:ObjM h x z Cc F):∃ od,PySem.W.InstAt h x (mQ Cc z) Cc (some od)/\∀ name,kc name od=some (F name) :=
 let⟨od,ho,hl⟩:=be6 I.ns
 ⟨od,⟨I.obj,rfl,rfl,ho⟩,hl⟩
section
variable {prog:aM} {w:World} {A:be} {E:Value->ag->Prop} {s:ag} {K:af} {x dx Cc f:Addr} {mA:yC} {name:Str} {v:Value}
end
def bn0.some_of (r:bn0 (some v) o):∃ u,o=some u/\RelV v u:=by
 cases o with
 | none=>exact(r).elim
 | some u=>exact⟨u,rfl,r⟩
section
variable {P:aM} {w:World} {H H':Hp} {h h':Heap} {a Cc dx:Addr} {fs fs':List (Str×V)}
end
structure Cls (K:af)(Cc:Addr):Prop where
 pg:lZ K Cc Str.empty=true
 hd:PySem.W.hasDictIn K Cc=true
 po:PySem.W.plainOver K Cc=true
 sa:cC K (.ref Cc) "__setattr__"=some (some (.builtin "object.__setattr__"))
def Cls.get {K}(c:Cls K Cc) f :lZ K Cc f=true:=c.pg
section
variable {X:Cx} {pins:yA} {W:St} {H:Hp} {s:ag} {a Cc dx:Addr} {fs:List (Str×V)} {f:Str} {v:V} {A:be} {E:Value->ag->Prop}
end
section
variable {X:Cx} {o e value:Expr} {f:Str} {pos pos' tpos:Pos} {ta tv:TE}
end
section
variable {X:Cx} {pins:yA} {W:St} {H:Hp} {s:ag} {A:be} {E:Value->ag->Prop} {Q:Value->ag->Prop} {c:Value} {b:Bool}
inductive TyOf (K:af)(H:Hp):V->Value->Prop where
 | N:TyOf K H .N (.type "NoneType")
 | T (x:Bool):TyOf K H (.T x) (.type "bool")
 | int (i:Int):TyOf K H (.int i) (.type "int")
 | str (x:Str):TyOf K H (.str x) (.type "str")
 | flt (x:UInt64):TyOf K H (.flt x) (.type "float")
 | J {a:Addr} {xs:List V} (e:H a=some (.J xs)):TyOf K H (.ref a) (.type "list")
 | frz {a:Addr} {o:Obj} {xs:List V} (e:H a=some (.frz o (.J xs))):TyOf K H (.ref a) (.type "list")
 | tp {a:Addr} {xs:List V} (e:H a=some (.tp xs)):TyOf K H (.ref a) (.type "tuple")
 | dT {a:Addr} {kvs:List (List NI×V)} (e:H a=some (.dT kvs)):TyOf K H (.ref a) (.type "dict")
def qV (I:Inv X pins W H s)(F:RelV x u)(Z:TyOf X.K H x t)(e:bo X.K t c=some b)(h:∀ tk,Q (.bool b) { s with toks:=tk }) :
  wpAny (model X.prog X.w) A (call (.builtin "isinstance") [u,c]) Q E s:=by
 cases Z with
 | N=>cases(show u=Value.none from F);exact bV PySem.W.kitx_none I.kIn True.intro e (λ z=>nomatch z) h
 | T y=>cases(show u=Value.bool y from F);exact bV PySem.W.kitx_bool I.kIn True.intro e (λ z=>nomatch z) h
 | int i=>obtain⟨t,q⟩:=(show ∃ t,u=Value.int i t from F);cases q;exact bV PySem.W.kitx_int I.kIn True.intro e (λ z=>nomatch z) h
 | str y=>obtain⟨t,q⟩:=(show ∃ t,u=Value.str y t from F);cases q;exact bV PySem.W.kitx_str I.kIn True.intro e (λ z=>nomatch z) h
 | flt y=>obtain⟨t,q⟩:=(show ∃ t,u=Value.float y t from F);cases q;exact bV PySem.W.kitx_float I.kIn True.intro e (λ z=>nomatch z) h
 | @J a J ea =>
  cases(show u=Value.ref a from F);obtain⟨_,_,n,_,G⟩:=(show ad5 X.prog X.w H s.heap a (.J J)from I.hok a _ ea)
  exact bV lI I.kIn ⟨_,G,rfl⟩ e (λ z=>nomatch z) h
 | @frz a ob J ea =>
  cases(show u=Value.ref a from F);obtain⟨_,_,_,n,_,G⟩:=(show ad5 X.prog X.w H s.heap a (.frz ob (.J J))from I.hok a _ ea)
  exact bV lI I.kIn ⟨_,G,rfl⟩ e (λ z=>nomatch z) h
 | @tp a J ea =>
  cases(show u=Value.ref a from F);obtain⟨_,_,_,p⟩:=(show ad5 X.prog X.w H s.heap a (.tp J)from I.hok a _ ea)
  obtain⟨o,G,Y,_⟩:=p;exact bV lf I.kIn ⟨o,G,Y⟩ e (λ z=>nomatch z) h
 | @dT a kvs ea =>
  cases(show u=Value.ref a from F);obtain⟨_,_,J,_,o,es,ep,G,Y,_⟩:=(show ad5 X.prog X.w H s.heap a (.dT kvs)from I.hok a _ ea)
  exact bV PySem.W.kitx_dict I.kIn ⟨o,G,Y.1⟩ e (λ z=>nomatch z) h
end
structure Room (k:Nat)(A:be):Prop where
 hd:A.handled=none
 dp:A.depth+3*k+5<recursionLimit
 un:A.units+16*k+200<cLine
def Room.mono (r:Room k A)(h:j<=k):Room j A:=⟨r.hd,by have:=r.dp;lia,by have:=r.un;lia⟩
theorem Room.deeper (r:Room (k+1) A) env :Room k (A.deeper env) :=
 ⟨r.hd,by have:=r.dp;show A.depth+1+3*k+5<_;lia,by have:=r.un;show A.units+3+16*k+200<_;lia⟩
theorem Room.in1 (r:Room (k+1) A):Room k A.in1 :=
 ⟨r.hd,by have:=r.dp;show A.depth+3*k+5<_;lia,by have:=r.un;show A.units+1+16*k+200<_;lia⟩
theorem Room.depth (r:Room k A):A.depth<recursionLimit:=by have:=r.dp;lia
theorem Room.units (r:Room k A):A.units+64<cLine:=by have:=r.un;lia
def Room.units0 (r:Room k A):A.units<cLine:=by have:=r.un;lia
def aW4:TA:=λ _ H Q=>Q [] H
def aj4 (ta:TE)(tr:TA):TA:=λ W H Q=>ta W H λ x H1=>tr W H1 λ xs H2=>Q (x::xs) H2
section
variable {X:Cx} {e:Expr} {es:yK} {te:TE} {t:TA} {pos:Pos}
def ad2:PA X [] aW4:=λ _ _ _ _ H Q I h=>lJ ⟨[],H,I,.nil,h⟩
def zp (ha:PE X e te)(hr:PA X es t)(hs:autoParam (bB (e::es) X.env=(false,eval e X.env)::bB es X.env) Zq4._auto_1):PA X (e::es) (aj4 te t):=by
 intro pos z s W H Q I h;rw[hs];refine ie (thn (ha z s W H _ I h) λ u s1 ⟨x,Y,I1,r1,F⟩=>?_);exact thn (hr pos z s1 W Y _ I1 F) λ us s2 ⟨J,G,Z,r2,q2⟩=>⟨x::J,G,Z,.cons r1 r2,q2⟩
def ct8 (t:TA):TE:=λ W H Q=>t W H λ xs H1=>xs.length<=aV/\∀ p,H1 p=none->Q (.ref p) (upd H1 p (.tp xs))
def cz8 (t:TA):TE:=λ W H Q=>t W H λ xs H1=>xs.length<=aV/\∀ p,H1 p=none->Q (.ref p) (upd H1 p (.J xs))
def bD8 (h:PA X es t):PE X (.Tuple es x1 pos) (ct8 t):=by
 intro F s W H Q I hq;refine wpAny_Tuple_spliced (thn (h pos F s W H _ I hq) λ us s1 ⟨Y,G,J,r,z,q⟩=>⟨by rw[<-r.length];exact z,?_⟩);have hf:=J.hok.fresh (au _);refine⟨.ref s1.heap.objs.size,upd G s1.heap.objs.size (.tp Y),J.laid (λ b u e=>ao _ e) (au _) ?_,rfl,q _ hf⟩;exact⟨z,us,r,⟨_,aI _ rfl,rfl,_,rfl⟩⟩
def ax3 (h:PA X es t):PE X (.List es pos) (cz8 t):=by
 intro F s W H Q I hq;refine wpAny_List_spliced (thn (h pos F s W H _ I hq) λ us s1 ⟨Y,G,J,r,z,q⟩=>⟨by rw[<-r.length];exact z,?_⟩);have hf:=J.hok.fresh (au _);refine⟨.ref s1.heap.objs.size,upd G s1.heap.objs.size (.J Y),J.laid (λ b u e=>ao _ e) (au _) ?_,rfl,q _ hf⟩;exact⟨z,us,0,r,aI _ rfl⟩
end
abbrev Sp:=List V->Hp->VK->XK->Prop
abbrev CXT:=List Env->Hp->ag->XK->Value->ag->Prop
structure Env0 (P:aM)(w:World)(K:af)(mg:yC)(base:Heap)(A:be)(outer:List Env)(s:ag)(H:Hp):Prop where
 frames:A.frames=some outer
 mod:Mod K mg base
 bs:∀ b o,base.get? b=some o->s.heap.get? b=some o/\H b=none
 bsz:base.objs.size<=s.heap.objs.size
 funs:s.heap.FunFrames base outer
 frf:∀ b∈frs outer,H b=none
 hok:HOk P w H s.heap
 bare:g8 s.gens
def CE (outer:List Env)(P:aM)(w:World)(H:Hp)(s:ag)(Q:VK)(u:Value)(s':ag):Prop :=
 ∃ v H',s'.os=s.os/\g8 s'.gens/\Un (frs outer) [] H H' s.heap s'.heap/\HOk P w H' s'.heap/\RelV v u/\Q v H'
def CR (CX:CXT)(outer:List Env)(P:aM)(w:World)(H:Hp)(s:ag)(Q:VK)(E:XK)(r:l7)(s':ag):Prop :=
 match r with
 | .ok (.ret u)=>CE outer P w H s Q u s'
 | .ok _=>False
 | .error e=>CX outer H s E e s'
structure FnOk (P:aM)(w:World)(K:af)(mg:yC)(base:Heap)(CX:CXT)(k:Nat)(f:Addr)(fd:cw)(ps:yH)(sp:Sp):Prop where
 len:∀ vs H Q E,sp vs H Q E->vs.length=ps.length
 run:∀(A:be) (outer:List Env) (s:ag) (H:Hp) (args:Args) (us:yG) (vs:List V) (Q:VK) (E:XK),Room k A->Env0 P w K mg base A outer s H->mY s fd args (ps.zip us)->Vals vs us->sp vs H Q E ->
  gA (model P w) A (.call (.ref f) args) (CR CX outer P w H s Q E) s
def FnOk.imp {K}(F:FnOk P w K Y base J k f Z ps sp)
  (h:∀ vs H Q E,G vs H Q E->sp vs H Q E):FnOk P w K Y base J k f Z ps G :=
 ⟨λ vs H Q E q=>F.len vs H Q E (h _ _ _ _ q),λ A z s H args us vs Q E hr he hb hv hs=>F.run A z s H args us vs Q E hr he hb hv (h _ _ _ _ hs)⟩
section
variable {X:Cx} {pins:yA} {W:St} {H:Hp} {s s':ag}
def Inv.env0 (I:Inv X pins W H s):Env0 X.prog X.w X.K X.mg X.base X.A X.stack s H :=
 ⟨I.ok.frames,I.ok.mod,I.bs,ar I.ok.bsz I.sz,I.stack,I.stkFree,I.hok,I.bare⟩
def Inv.after (I:Inv X pins W H s)(h:CE X.stack X.prog X.w H s Q u s'):EP X pins W Q u s':=by
 obtain⟨v,H',os,bare,un,hok,r,q⟩:=h;obtain⟨hh,g,d,t,F⟩:=s';obtain rfl:F=s.os:=os;exact⟨v,H',I.call un hok bare (λ b z=>absurd z (by simp)),r,q⟩
end
def aW9 (sp:Sp)(dvs:List V)(E:XK)(t:TA):TE:=λ W H Q=>t W H λ vs H1=>sp (vs++dvs) H1 Q E
def Binds (K:af)(fd:cw)(ps:yH)(ds:yG):Prop :=
 ∀ s us ,K.In s.heap->(us++ds).length=ps.length->mY s fd ⟨us,[]⟩ (ps.zip (us++ds))
def Binds.all {K}(h:∀ us:List Value,us.length=ps.length->bindArgs z ⟨us,[]⟩=pure (ps.zip us)):Binds K z ps []:=λ s us _ hl=>by
 rw[bh]at hl ⊢;exact .of_eq (h us hl)
def aj1 (CX:CXT)(X:Cx)(E:XK):Prop:=∀ pins (W:St) H s e s' ,Inv X pins W H s->CX X.stack H s E e s'->X.xe e s'
section
variable {X:Cx} {CX:CXT} {k:Nat} {f Cc:Addr} {fd:cw} {ps:yH} {sp:Sp} {dvs:List V} {ds:yG} {E:XK} {x m:Str} {p pos apos:Pos} {e o:Expr} {es:yK} {ta:TE} {t:TA}
def bz3 {W:St}{us:yG}(F:FnOk X.prog X.w X.K X.mg X.base CX k f fd ps sp)(hr:Room k X.A)(hb:Binds X.K fd ps ds)(hd:Vals dvs ds)(hx:aj1 CX X E)
  (I:Inv X z W H s) (r:Vals vs us) (h:sp (vs++dvs) H Q E):wpAny (model X.prog X.w) X.A (call (.ref f) us) (EP X z W Q) X.xe s:=by
 have r2:Vals (vs++dvs) (us++ds):=r.append hd;have hl:(us++ds).length=ps.length:=by rw[<-r2.length];exact F.len _ _ _ _ h
 refine lh (jw (F.run X.A X.stack s H ⟨us,[]⟩ (us++ds) (vs++dvs) Q E hr I.env0 (hb s us I.kIn hl) r2 h) λ r s' hq=>?_);cases r with
 | error e=>exact hx z W H s e s' I hq
 | ok fl =>
  cases fl with
  | ret u=>exact I.after hq
  | next=>exact bD hq
  | brk=>exact bD hq
  | cont=>exact bD hq
def bg5 (F:FnOk X.prog X.w X.K X.mg X.base CX k f fd ps sp)(hr:Room k X.A)(hg:Gl X x)(hm:X.mg x=some (.ref f))(hk:c6 X.K (.ref f)=true)(hb:Binds X.K fd ps ds)(hd:Vals dvs ds)(hx:aj1 CX X E)
  (ha:PA X (e::es) t) (J:autoParam ((x==("__debug__":Str))=false) Zq1._auto_1) (Z:autoParam (bB (e::es) X.env=(false,eval e X.env)::bB es X.env) Zq4._auto_1) (G:autoParam ((eZ pos (bB es X.env)).any (·.1)=false) Zq4._auto_1) :
  PE X (.Call (.Name x p) (e::es) [] pos) (aW9 sp dvs E t):=by
 intro z s W H Q I h;refine cW (ay8 I hg hm ?_ J);refine li I.ok.mod.kin hk (thn (ha pos z s W H _ I h) λ us s1 ⟨vs,H1,Y,r,q⟩=>⟨Y.kIn,?_⟩) Z G;exact bz3 F hr hb hd hx Y r q
def bp8 (F:FnOk X.prog X.w X.K X.mg X.base CX k f fd ps sp)(hr:Room k X.A)(hg:Gl X x)(hm:X.mg x=some (.ref f))(hk:c6 X.K (.ref f)=true)(hb:Binds X.K fd ps ds)(hd:Vals dvs ds)(hx:aj1 CX X E)
  (z:autoParam ((x==("__debug__":Str))=false) Zq1._auto_1):PE X (.Call (.Name x p) [] [] pos) (aW9 sp dvs E aW4):=by
 intro G s W H Q I h;refine cW (ay8 I hg hm ?_ z);exact PySem.W.callWith_K0 I.kIn hk (bz3 F hr hb hd hx I .nil h)
structure Mk (K:af)(Cc f:Addr):Prop where
 makes:PySem.W.makesIn K Cc=true
 init:cC K (.ref Cc) "__init__"=some (some (.ref f))
 fn:PySem.W.isFn K (.ref f)=true
 kp:c6 K (.ref Cc)=true
end
section
variable {X:Cx} {CX:CXT} {k:Nat} {f Cc:Addr} {fd:cw} {ps ks:yH} {sp:Sp} {E:XK} {x m:Str} {p pos apos kpos:Pos} {e o:Expr} {es:yK} {kws:List gB} {te ta:TE} {t tk:TA} {nm:Option Str}
variable {g:List Value->List Value->List Value} {gV:List V->List V->List V}
end
structure FnScope (N P:yH)(sc:Scope):Prop where
 kind:sc.kind=.function
 co:sc.isCoroutine=false
 gen:sc.isGenerator=false
 nd:N.Nodup
 pre:N.take P.length=P
 par:∀ x∈P,sc.names.lookup x=some .local\/sc.names.lookup x=some .cell
 nofree:∀ y∈sc.names,y.2≠.free
def Zsc {N P:yH}{sc:Scope}(a:autoParam (sc.kind=.function) Zq4._auto_1)(b:autoParam (sc.isCoroutine=false) Zq4._auto_1)(c:autoParam (sc.isGenerator=false) Zq4._auto_1)(d:autoParam (N.Nodup) Zq7._auto_1)(e:autoParam (N.take P.length=P) Zq4._auto_1)(f:autoParam (∀ x∈P,sc.names.lookup x=some .local\/sc.names.lookup x=some .cell) Zq7._auto_1)(g:autoParam (∀ y∈sc.names,y.2≠.free) Zq7._auto_1):FnScope N P sc:=⟨a,b,c,d,e,f,g⟩
theorem aF2 {f9}:∀ {binds} {m:yC},(∀ v,(x,v) ∉ binds)->bindL f9 binds m x=m x
 | [],_,_=>rfl
 | (n,v)::r,m,h=>by
  unfold bindL;rw[aF2 λ w hw=>h w (ak _ hw)];split
  .have:x≠n:=by rintro rfl;exact h v ax
   simp[this]
  .rfl
theorem aF7 {f9}:∀ {binds} {m:yC},(∀ v,(x,v) ∉ binds)->bindC f9 binds m x=m x
 | [],_,_=>rfl
 | (n,v)::r,m,h=>by
  unfold bindC;rw[aF7 λ w hw=>h w (ak _ hw)];split
  .rfl
  .have:x≠n:=by rintro rfl;exact h v ax
   simp[this]
theorem aD1 {f9}:∀ {P:yH} {vs:yG} {i:Nat} {m:yC},P.Nodup->P[i]?=some x->vs[i]?=some v->f9 x=some .local ->
  bindL f9 (P.zip vs) m x=some v
 | [],_,_,_,_,h,_,_=>by simp at h
 | _::_,[],_,_,_,_,h,_=>by simp at h
 | p::P,w::vs,0,m,nd,h1,h2,hk=>by
  simp at h1 h2;subst h1;subst h2;show bindL f9 ((p,w)::P.zip vs) m p=_;unfold bindL;rw[aF2 λ v hv=>(gP.mp nd).1 (gQ hv).1,if_pos hk];simp
 | p::P,w::vs,i+1,m,nd,h1,h2,hk=>by
  unfold bindL;exact aD1 (gP.mp nd).2 (by simpa using h1) (by simpa using h2) hk
theorem aF8 {f9}:∀ {P:yH} {vs:yG} {i:Nat} {m:yC},P.Nodup->P[i]?=some x->vs[i]?=some v->f9 x≠some .local ->
  bindC f9 (P.zip vs) m x=some v
 | [],_,_,_,_,h,_,_=>by simp at h
 | _::_,[],_,_,_,_,h,_=>by simp at h
 | p::P,w::vs,0,m,nd,h1,h2,hk=>by
  simp at h1 h2;subst h1;subst h2;show bindC f9 ((p,w)::P.zip vs) m p=_;unfold bindC;rw[aF7 λ v hv=>(gP.mp nd).1 (gQ hv).1,if_neg hk];simp
 | p::P,w::vs,i+1,m,nd,h1,h2,hk=>by
  unfold bindC;exact aF8 (gP.mp nd).2 (by simpa using h1) (by simpa using h2) hk
noncomputable def ag9 (N:yH)(vs:List V):St:=vs.map some++ah (N.length - vs.length) none
noncomputable def ao0 (CX:CXT)(P:aM)(w:World)(K:af)(mg:yC)(base:Heap)(N:yH)(qual:Str)(scope:Scope)(f:Addr)(cd:Value)(A:be)(outer:List Env)(s:ag)(H:Hp)(E:XK):Cx where
 prog:=P
 w:=w
 K:=K
 mg:=mg
 base:=base
 A:=A.deeper (gR qual scope s.heap.objs.size f cd)
 N:=N
 s₀:=s
 H₀:=H
 env:=gR qual scope s.heap.objs.size f cd
 outer:=outer
 stack:=gR qual scope s.heap.objs.size f cd::outer
 ex:=[]
 calm:=true
 fn:=λ _=>true
 pn:=[]
 xe:=λ e s'=>wpAny (model P w) (A.deeper (gR qual scope s.heap.objs.size f cd)) (leaving (gR qual scope s.heap.objs.size f cd) e) (λ _ s''=>CX outer H s E e s'') (λ e' s''=>CX outer H s E e' s'') s'
def ap2 {sc:Scope}(h:sc.names.lookup x=some .cell):∃ c,(bO n sc.names []).lookup x=some c:=by
 have q:=fL sc.names n [] (.inl h);exact fi.mp q
def aD6 {K:af}{us:yG}{vs:List V}
  (S:FnScope N ps scope) (hd:A.handled=none) (J:Env0 P w K mg base A F s H) (hl:vs.length=ps.length) (r:Vals vs us)
  (x:InCallC s s.heap.objs.size (bindL (gR qual scope s.heap.objs.size f cd).kindOf (ps.zip us) λ _=>none) (bO (s.heap.objs.size+1) scope.names []) (bindC (gR qual scope s.heap.objs.size f cd).kindOf (ps.zip us) λ _=>none) s1) :
  Inv (ao0 CX P w K mg base N qual scope f cd A F s H E) [] (ag9 N vs) H s1:=by
 have a0:ps.length<=N.length:=by have:=congrArg mK S.pre;rw[bP]at this;lia
 obtain⟨h1,tk,rfl,hk⟩:=x.done;have Y:∀ b:Addr,b ∉ (ao0 CX P w K mg base N qual scope f cd A F s H E).ex:=λ b z=>absurd (show b∈([]:List Addr)from z) (by simp);refine⟨⟨J.mod,S.kind,rfl,rfl,au _,λ y z c h1 G=>?_,λ y hy=>?_,λ y c _ h=>?_,λ _=>hd,Around.frames_deeper J.frames,.inr ⟨rfl,rfl⟩,λ b z=>absurd z (Y b),J.bs,J.bsz,λ b _ _=>Y b,λ b z=>absurd z (Y b),J.funs,J.frf⟩,
  rfl,J.bare,Un.kept hk,⟨_,x.toInCall.ns,λ i y v h1 G h3=>?_⟩,λ y c h=>⟨_,x.cell y c h⟩,J.hok.fresh (au _),λ y c h=>?_,λ p hp=>absurd (show p∈([]:yA)from hp) (by simp),J.hok.kept hk,?_⟩
 .exact name_of_addr x.apart (bF h1) (bF G)
 .have hy:scope.names.lookup y=some .cell\/scope.names.lookup y=some .free:=hy;rcases hy with hy|hy
  .exact ap2 hy
  .exact absurd rfl (S.nofree _ (bF hy))
 .exact g9 (x.above y c (bF h))
 .have hi:i<vs.length:=by
   unfold ag9 at G;by_cases hi:i<vs.length
   .exact hi
   .rw[aN (by simpa using hi)]at G;rw[i6]at G;split at G<;>cases G
  have ha:vs[i]?=some v:=by
   unfold ag9 at G;rw[aS (by simpa using hi),aQ]at G;cases e:vs[i]? with
   | none=>rw[e]at G;cases G
   | some a=>rw[e]at G;cases G;rfl
  obtain⟨u,hu,rv⟩:=r.get ha;have hp:ps[i]?=some y:=by
   rw[<-S.pre,List.getElem?_take_of_lt (by lia)];exact h1
  have Z:ps.Nodup:=by rw[<-S.pre];exact S.nd.sublist (List.take_sublist _ _)
  refine⟨u,rv,?_⟩;rcases S.par y (aE hp)with k|k
  .exact .inl ⟨k,aD1 Z hp hu k⟩
  .obtain⟨c,e⟩:=ap2 (n:=s.heap.objs.size+1) k;refine .inr ⟨.inl k,c,e,?_⟩;have q:=x.cell y c e;rw[aF8 Z hp hu (by show scope.names.lookup y≠_;rw[k];decide)]at q;exact q
 .exact J.hok.fresh (g9 (x.above y c (bF h)))
 .unfold ag9;show _=N.length;rw[aA,aq,List.length_replicate];lia
def ch4 {K:af}{body:yL}{dV kV a0 pm F ct oc:Value}{an od:yI}
  {a1:yE} (lk:K.lookup f=some ⟨oc,od,.func (et name qual params body scope dV kV a0 pm an F ct),a1⟩) (a3:ig K F qual=true) (S:FnScope N ps scope)
  (len:∀ vs H Q E,sp vs H Q E->vs.length=ps.length)
  (Y:∀(A:be) (z:List Env) (s:ag) (H:Hp) (vs:List V) (Q:VK) (E:XK),Room k (A.deeper (gR qual scope s.heap.objs.size f F))->sp vs H Q E ->
   ∃ t,PSs (ao0 CX P w K mg base N qual scope f F A z s H E) body t/\t { nx:=λ _ H'=>Q .N H',rt:=Q } (ag9 N vs) H) :
  FnOk P w K mg base CX (k+1) f (et name qual params body scope dV kV a0 pm an F ct) ps sp:=by
 refine⟨len,λ A z s H args us vs Q E hr e0 hb r Z=>?_⟩;have hl:=len _ _ _ _ Z;have KX:K.In s.heap:=e0.mod.kin.keeps λ b o e=>(e0.bs b o e).1;have a2:s.heap.NoLimit:=e0.mod.nolimit.keeps λ b o e=>(e0.bs b o e).1;have G:∀ y∈ps.zip us,scope.names.lookup y.1=some .local\/(scope.names.lookup y.1=some .cell/\((bO (s.heap.objs.size+1) scope.names []).lookup y.1).isSome=true):=λ⟨n,v⟩ hy=>by
  rcases S.par n (gQ hy).1 with q|q
  .exact .inl q
  .exact .inr ⟨q,fL _ _ _ (.inl q)⟩
 refine jR hr.depth (KX _ _ lk) rfl S.co S.gen rfl (lj KX a3) (hb _ _ _ _ ?_);refine ii S.kind G λ env he s1 x=>?_;subst he;refine⟨a2.keeps x.toInCall.keep,codeAny_func ?_⟩;obtain⟨t,ht,hq⟩:=Y A z s H vs Q E (hr.deeper _) Z;have I:Inv (ao0 CX P w K mg base N qual scope f F A z s H E) [] (ag9 N vs) H s1:=aD6 S hr.hd e0 hl r x;refine bw (ht [] s1 (ag9 N vs) H _ I hq) (λ fl s' hs=>?_) λ e s' hs=>hs;have fin:∀ {W':St} {H':Hp} {v:V} {u:Value},Inv (ao0 CX P w K mg base N qual scope f F A z s H E) [] W' H' s'->RelV v u->Q v H'->CE z P w H s Q u s' :=
  λ {W' H' v u} J rv q=>⟨v,H',J.os,J.bare,J.base,J.hok,rv,q⟩
 cases fl with
 | ret u =>
  obtain⟨v,W',H',J,rv,q⟩:=hs;exact fin J rv q
 | next =>
  obtain⟨W',H',J,q⟩:=hs;exact fin (v:=V.N) (u:=Value.none) J rfl q
 | brk =>
  obtain⟨_,_,_,q⟩:=hs;exact bD q
 | cont =>
  obtain⟨_,_,_,q⟩:=hs;exact bD q
section
variable {X:Cx} {x:Str} {p pos:Pos} {e:Expr} {es:yK} {t:TA} {id T:String} {r:List V->Hp->VK->Prop}
def tCB (r:List V->Hp->VK->Prop)(t:TA):TE:=λ W H Q=>t W H λ vs H1=>r vs H1 Q
def ak6 (hc:ad8 X (.builtin id) r)(hg:Gl X x)(hm:X.mg x=none)(hv:bC x=some (.builtin id))(ha:PA X (e::es) t)(hn:autoParam (x ≠ "__name__") Zq1._auto_1)(G:autoParam ((x==("__debug__":Str))=false) Zq1._auto_1)
  (Y:autoParam (bB (e::es) X.env=(false,eval e X.env)::bB es X.env) Zq4._auto_1) (F:autoParam ((eZ pos (bB es X.env)).any (·.1)=false) Zq4._auto_1):PE X (.Call (.Name x p) (e::es) [] pos) (tCB r t):=by
 intro z s W H Q I h;refine cW (at5 I hg hm hv ?_ hn G);exact PyProof.Rows.callWith_builtin1 (thn (ha pos z s W H _ I h) λ us s1 ⟨vs,Z,I1,r1,J⟩=>hc z s1 W Z vs us Q I1 r1 J) Y F
def at2 (hc:ad8 X (.type T) r)(hg:Gl X x)(hm:X.mg x=none)(hv:bC x=some (.type T))(ha:PA X (e::es) t)(hn:autoParam (x ≠ "__name__") Zq1._auto_1)(G:autoParam ((x==("__debug__":Str))=false) Zq1._auto_1)
  (Y:autoParam (bB (e::es) X.env=(false,eval e X.env)::bB es X.env) Zq4._auto_1) (F:autoParam ((eZ pos (bB es X.env)).any (·.1)=false) Zq4._auto_1):PE X (.Call (.Name x p) (e::es) [] pos) (tCB r t):=by
 intro z s W H Q I h;refine cW (at5 I hg hm hv ?_ hn G);exact eV (thn (ha pos z s W H _ I h) λ us s1 ⟨vs,Z,I1,r1,J⟩=>hc z s1 W Z vs us Q I1 r1 J) Y F
end
end L2
end
noncomputable section
namespace HT
open PySem PyProof.Rows
section
open PySem.SeqAt
open PySem.AutoSeq1 (wpAny_loadPart')
open PySem.MeetsSeq PySem.MeetsSeq2 PySem.MeetsSeq3
end
section
variable {prog:aM} {w:World} {A:be} {E:Value->ag->Prop} {s:ag}
def cat_tup {vs ws:yG}(ht:IsTup s.heap t vs.toArray)(hb:IsTup s.heap b ws.toArray)(hv:vs≠[])
  (h1:ws=[]->Q (.ref t) s) (h2:ws≠[]->Q (.ref s.heap.objs.size) { s with heap:=s.heap.push { cls:=.type "tuple",data:=.seq (vs++ws).toArray } })
  (hsz:vs.length+ws.length<=aV):wpAny (model prog w) A (c5 .Add (.ref t) (.ref b)) Q E s:=by
 obtain⟨⟨cls,dd,data,sl⟩,ho,hc,n,hd⟩:=id ht;obtain⟨⟨a0,G,Z,F⟩,z,Y,n2,J⟩:=id hb;simp only at hc hd Y J;subst hc hd Y J;have e:vs.toArray++ws.toArray=(vs++ws).toArray:=by simp
 by_cases hw:ws=[]
 .exact lK ⟨_,ho,rfl⟩ ⟨_,z,rfl⟩ i7 kS fM fG (fm _ _)
   (tuple_addW1 t b vs.toArray ws.toArray n n2 dd G sl F (by simpa using hv) (by simp[hw])) ⟨ho,z,h1 hw⟩
 .refine lK ⟨_,ho,rfl⟩ ⟨_,z,rfl⟩ i7 kS fM fG (fm _ _)
   (tuple_addW2 t b vs.toArray ws.toArray n n2 dd G sl F (by simpa using hv) (by simpa using hw) (by rw[aw,aw];exact hsz)) ⟨ho,z,?_⟩
  rw[e];exact h2 hw
noncomputable def sIx (n d:Nat):Option Int->Nat
 | none=>d
 | some v=>if v<0 then(v+(n)).toNat else min v.toNat n
def sIx_le n d (hd:d<=n) o :sIx n d o<=n:=by
 cases o with
 | none=>exact hd
 | some v =>
  show(if v<0 then(v+(n)).toNat else min v.toNat n)<=n;by_cases hv:v<0
  .rw[if_pos hv];lia
  .rw[if_neg hv];exact Nat.min_le_right _ _
def clip_eq v (n d:Nat):(if v<0 then max (v+(n:Int)) 0 else min v (n))=((sIx n d (some v))):=by
 show(if v<0 then max (v+(n)) 0 else min v (n))=(((if v<0 then(v+(n)).toNat else min v.toNat n)));by_cases hv:v<0
 .simp only[if_pos hv];lia
 .simp only[if_neg hv];lia
def adjust_gen F z (n:Nat):fg F z 1 (n)=(((sIx n 0 F):Int),((sIx n n z):Int)):=by
 have G:=by omega
 unfold fg;simp only[if_false];refine lD ?_ ?_
 .cases F with
  | none=>rfl
  | some v=>exact clip_eq v n 0
 .cases z with
  | none=>rfl
  | some v=>exact clip_eq v n n
def places_gen (i j:Nat):dG (i) (j) 1=j - i:=by
 unfold dG;have z:=by omega
 simp only[n8];split<;>lia
def slicePart_ (p:iP v o)(h:Q o s):wpAny (model prog w) A (mR v) Q E s:=by
 cases p with
 | none=>exact slicePart_none h
 | int i t=>exact slicePart_int h
def sliceApplied_gen {Q:Int×Int×Nat->ag->Prop}(hs:s.heap.IsSliceOf sl vl vu .none)(Z:iP vl z)(pu:iP vu G)
  (h:Q (((sIx n 0 z:Nat):Int),1,sIx n n G - sIx n 0 z) s):wpAny (model prog w) A (ik (.ref sl) (pure (n))) Q E s:=by
 obtain⟨os,J,Y,F⟩:=id hs;unfold ik nG;refine ac (ac (du J F rfl (ac (du J F rfl (ac (du J F rfl (am ?_)))))));refine ac (slicePart_none ?_);rw[if_neg (by decide)];refine ac (slicePart_ Z (ac (slicePart_ pu (ac (am ?_)))));show wpAny _ _ (match fg z G 1 (n)with|(z,G)=>pure (z,(1:Int),dG z G 1)) _ _ s;rw[adjust_gen z G n];show wpAny _ _ (pure (((sIx n 0 z):Int),(1),dG ((sIx n 0 z)) ((sIx n n G)) 1)) _ _ s;rw[places_gen];exact am h
def pick_gen (z:yJ)(i k:Nat):((bn k).filterMap λ(m:Nat)=>z[((i)+(m:Int)*1).toNat]?).toArray=((z.toList.drop i).take k).toArray:=by
 have e:(λ(m:Nat)=>z[((i)+(m:Int)*1).toNat]?)=λ m=>z[i+m]?:=by
  funext m
  have:((i)+(m:Int)*1).toNat=i+m:=by lia
  rw[this]
 rw[e];have:=pick_run z i k;rw[bK]at this;have e2:((λ x=>z[x]?) ∘ λ x=>i+x)=λ m=>z[i+m]?:=rfl;rw[e2]at this;rw[this]
def getItem_tuple_cut {z:yJ}(Y:IsTup s.heap t z)(hs:s.heap.IsSliceOf sl vl vu .none)(pl:iP vl G)(pu:iP vu J)
  (hw:¬(sIx z.size 0 G=0/\sIx z.size z.size J=z.size))
  (h:Q (.ref s.heap.objs.size) { s with heap:=s.heap.push { cls:=.type "tuple",data:=.seq ((z.toList.drop (sIx z.size 0 G)).take (sIx z.size z.size J - sIx z.size 0 G)).toArray } })
  (hsz:z.size<=aV):wpAny (model prog w) A (jx (.ref t) (.ref sl)) Q E s:=by
 have F:sizeOk (.seq ((z.toList.drop (sIx z.size 0 G)).take (sIx z.size z.size J - sIx z.size 0 G)).toArray):=by
  show((z.toList.drop (sIx z.size 0 G)).take (sIx z.size z.size J - sIx z.size 0 G)).toArray.size<=aV;rw[aw,bP,gc,cS];omega
 have hj:sIx z.size z.size J<=z.size:=sIx_le _ _ (au _) J;obtain⟨os,Z,a0,a3⟩:=id hs;have a2:s.TypeIs (.ref sl) "slice":=⟨os,Z,a0⟩
 unfold jx
 try with_reducible refine cn ?_
 first|refine ac (am ?_)|skip
 refine ac (lL Y.typeIs (by decide) ?_);refine ac (cI (name:=aZ "__getitem__") Y.typeIs bL
  (b7 bL Y.typeIs kL ?_ (ln _ _)))
 show wpAny _ _ (dA (.ref t) >>= _) _ _ s;refine ac (kT Y ?_);refine ac (jy a2 ?_);rw[if_pos (by decide)];refine ac (sliceApplied_gen hs pl pu ?_);have a1:¬((((sIx z.size 0 G:Nat):Int)==0&&(1:Int)==1&&(sIx z.size z.size J - sIx z.size 0 G)==z.size)=true):=by
  intro q;rw[aj,aj]at q;have q1:((sIx z.size 0 G:Nat):Int)=0:=eq_of_beq q.1.1;have q2:sIx z.size z.size J - sIx z.size 0 G=z.size:=eq_of_beq q.2;exact hw ⟨by lia,by omega⟩
 show wpAny _ _ (if(((sIx z.size 0 G:Nat):Int)==0&&(1:Int)==1&&(sIx z.size z.size J - sIx z.size 0 G)==z.size)=true then _ else _) _ _ s;rw[if_neg a1,pick_gen]
 first
  | exact ac (m:=dU _) (bp (am ⟨_,rfl,am h⟩) F)
  | exact ac (m:=dU _) (bp (ac (am (am ⟨_,rfl,am h⟩))) F)
  | exact ac (ac (m:=dU _) (bp (am (am ⟨_,rfl,am h⟩)) F))
  | exact ac (ac (m:=dU _) (bp (am ⟨_,rfl,am h⟩) F))
end
end HT
noncomputable section
namespace L2
open PySem PySem.Spec PyProof.Rows
abbrev TO:=St->Hp->(Option Int->Hp->Prop)->Prop
def PO (X:Cx)(e:Option Expr)(t:TO):Prop :=
 ∀ pins s (W:St) H Q ,Inv X pins W H s->t W H Q ->
  wpAny (model X.prog X.w) X.A (evalPart e X.env) (λ u s'=>∃ o H',Inv X pins W H' s'/\iP u o/\Q o H') X.xe s
noncomputable def aK2:TO:=λ _ H Q=>Q none H
noncomputable def bm2 (t:TE):TO:=λ W H Q=>t W H λ x H1=>∃ i,x=.int i/\Q (some i) H1
section
variable {X:Cx} {e:Expr} {te:TE} {lo hi:Option Expr} {tl th:TO} {pos p2:Pos}
def bE9:PO X none aK2:=by
 intro z s W H Q I h;rw[evalPart_none];exact am ⟨none,H,I,.none,h⟩
def bN9 (h:PE X e te):PO X (some e) (bm2 te):=by
 intro z s W H Q I hw;rw[evalPart_some];refine thn (h z s W H _ I hw) λ u s1 ⟨x,G,J,r1,F⟩=>?_;obtain⟨i,rfl,q⟩:=F;obtain⟨t,rfl⟩:=r1;exact⟨some i,G,J,.int i t,q⟩
def SlR (X:Cx)(r:V->Option Int->Option Int->Hp->VK->Prop):Prop :=
 ∀ pins s (W:St) H x v vl vu lo hi sl Q ,Inv X pins W H s->RelV x v->s.heap.IsSliceOf sl vl vu .none->iP vl lo->iP vu hi->r x lo hi H Q ->
  ∃ T id,typeLookup (.type T) "__getitem__"=pure (some (.builtin id))/\s.TypeIs v T/\wpAny (model X.prog X.w) X.A (jx v (.ref sl)) (EP X pins W Q) X.xe s
def tSl (r:V->Option Int->Option Int->Hp->VK->Prop)(te:TE)(tl th:TO):TE:=λ W H Q=>te W H λ x H1=>tl W H1 λ l H2=>th W H2 λ u H3=>r x l u H3 Q
def bw5 (hr:SlR X r)(he:PE X e te)(hl:PO X lo tl)(hu:PO X hi th):PE X (.Subscript e (.Slice lo hi none p2) pos) (tSl r te tl th):=by
 intro z s W H Q I h;refine Subscript_ (thn (he z s W H _ I h) λ v s1 ⟨x,Y,Z,r1,J⟩=>?_);refine wpAny_Slice (thn (hl z s1 W Y _ Z J) λ vl s2 ⟨l,H2,I2,G,q2⟩=>thn (hu z s2 W H2 _ I2 q2) λ vu s3 ⟨u,F,I3,pu,q3⟩=>?_);rw[evalPart_none];refine am ?_;have I4:Inv X z W F { s3 with heap:=s3.heap.push { cls:=.type "slice",data:=.fields #[vl,vu,.none] } }:=I3.kept λ b ob q=>ao _ q;obtain⟨T,id,hT,ht,hg⟩:=hr z { s3 with heap:=s3.heap.push { cls:=.type "slice",data:=.fields #[vl,vu,.none] } } W F x v vl vu l u s3.heap.objs.size Q I4 r1 (oz ..) G pu q3;exact tail_any ht hT hg (by with_unfolding_all rfl)
noncomputable def aW6 (xs:List V)(lo hi:Option Int):List V:=(xs.drop (HT.sIx xs.length 0 lo)).take (HT.sIx xs.length xs.length hi - HT.sIx xs.length 0 lo)
def aq1 z F G :(aW6 z F G).length<=z.length:=by
 unfold aW6;rw[bP,gc];lia
def cx6 (K:af):V->Option Int->Option Int->Hp->VK->Prop:=λ x lo hi H Q=>∃ a xs,x=.ref a/\SqT K H a xs /\
 ¬(HT.sIx xs.length 0 lo=0/\HT.sIx xs.length xs.length hi=xs.length)/\∀ p,H p=none->Q (.ref p) (upd H p (.tp (aW6 xs lo hi)))
def bY4:SlR X (cx6 X.K):=by
 intro Y s W H x v vl vu G J sl Q I rx hs pl pu h;obtain⟨a,F,rfl,hx,hw,q⟩:=h;cases rx;obtain⟨its,r,Z,hz⟩:=I.tuple hx;have z:its.toArray.size=F.length:=by rw[aw];exact r.length.symm
 refine⟨"tuple",_,bL.lookup,Z.typeIs,?_⟩;refine HT.getItem_tuple_cut Z hs pl pu (by rw[z];exact hw) ?_ (by rw[z];exact hz);rw[z];refine⟨.ref s.heap.objs.size,_,I.laid (λ b ob q=>ao _ q) (au _) ?_,rfl,q _ (I.hok.fresh (au _))⟩;exact⟨ar (aq1 F G J) hz,_,(r.drop (HT.sIx F.length 0 G)).take (HT.sIx F.length F.length J - HT.sIx F.length 0 G),l8 _ _⟩
def cq8 (K:af):R2:=λ x y H Q=>∃ a b xs ys,x=.ref a/\y=.ref b/\SqT K H a xs/\SqT K H b ys/\xs≠[]/\xs.length+ys.length<=aV /\
 (ys=[]->Q (.ref a) H)/\(ys≠[]->∀ p,H p=none->Q (.ref p) (upd H p (.tp (xs++ys))))
def Vals.nil_iff {us:yG}(r:Vals z us):us=[]↔z=[]:=by
 cases r with
 | nil=>simp
 | cons _ _=>simp
def bI3:OpR X (c5 .Add) (cq8 X.K):=by
 intro F s W H x y v u Q I rx ry h;obtain⟨a,b,J,ys,rfl,rfl,ha,hb,hx,hz,Z,q2⟩:=h;cases rx;cases ry;obtain⟨its,r1,p1,_⟩:=I.tuple ha;obtain⟨G,r2,Y,_⟩:=I.tuple hb;refine HT.cat_tup p1 Y (λ z=>hx (r1.nil_iff.mp z)) (λ z=>⟨.ref a,H,I,rfl,Z (r2.nil_iff.mp z)⟩) (λ z=>?_) (by rw[<-r1.length,<-r2.length];exact hz);refine⟨.ref s.heap.objs.size,_,I.laid (λ b ob q=>ao _ q) (au _) ?_,rfl,q2 (λ w=>z (r2.nil_iff.mpr w)) _ (I.hok.fresh (au _))⟩;exact⟨by rw[aA];exact hz,_,r1.append r2,l8 _ _⟩
end
noncomputable def ixN (n:Nat)(i:Int):Option Nat:=if 0<=i then(if i<n then some i.toNat else none)else if -(n)<=i then some (i+n).toNat else none
def atI {α:Type}(xs:List α)(i:Int):Option α:=(ixN xs.length i).bind λ j=>xs[j]?
def bf2 (h:ixN n i=some j):seqIndex? i n=some j/\j<n/\-(n)<=i/\i<n:=by
 unfold ixN at h;by_cases h0:0<=i
 .rw[if_pos h0]at h;by_cases h1:i<n
  .rw[if_pos h1]at h;have e:=aC h;exact⟨by rw[mM h0 h1,e],by lia,by lia,h1⟩
  .rw[if_neg h1]at h;cases h
 .rw[if_neg h0]at h;by_cases h1:-(n)<=i
  .rw[if_pos h1]at h;have e:=aC h;exact⟨by rw[lM (by lia) h1,e],by lia,h1,by lia⟩
  .rw[if_neg h1]at h;cases h
def aL6 (h:atI z i=some v):∃ j,seqIndex? i z.length=some j/\z[j]?=some v/\j<z.length/\-(z.length)<=i/\i<z.length:=by
 unfold atI at h;cases e:ixN z.length i with
 | none=>rw[e]at h;cases h
 | some j =>
  rw[e]at h;obtain⟨Y,J,G,F⟩:=bf2 e;exact⟨j,Y,h,J,G,F⟩
def bm6 (b:Expr):Prop:=∀ o i,subscripted b false o i=operate [o,i] (jx o i)
def IxR (X:Cx)(r:R2):Prop :=
 ∀ value slice pins s (W:St) H x y v u Q ,Inv X pins W H s->RelV x v->RelV y u->r x y H Q ->
  subscripted slice false v u=operate [v,u] (jx v u)->wpAny (model X.prog X.w) X.A (subscriptTail value slice v u) (EP X pins W Q) X.xe s
def MtR (X:Cx)(id:String)(r:V->List V->Hp->VK->Prop):Prop :=
 ∀ pins s (W:St) H x xs v (us:yG) Q ,Inv X pins W H s->RelV x v->Vals xs us->r x xs H Q ->
  wpAny (model X.prog X.w) X.A (call (.builtin id) (v::us)) (EP X pins W Q) X.xe s
section
variable {X:Cx} {a b:Expr} {ta tb:TE} {pos:Pos}
def cc5 (hr:IxR X r)(ha:PE X a ta)(hb:PE X b tb)(hs:bm6 b):PE X (.Subscript a b pos) (tOp r ta tb):=by
 intro z s W H Q I h;exact Subscript_ (ct5 ha hb I h λ v u s2 x y F J G Y q=>hr a b z s2 W F x y v u Q J G Y q (hs _ _))
def cx5 (K:af):R2:=λ x y H Q=>∃ p xs i v,x=.ref p/\y=.int i/\SqL K H p xs/\atI xs i=some v/\Q v H
def cu7 (K:af):R2:=λ x y H Q=>∃ p xs i v,x=.ref p/\y=.int i/\SqT K H p xs/\atI xs i=some v/\Q v H
def cA0:R2:=λ x y H Q=>∃ z i c,x=.str z/\y=.int i/\z.length<=aV/\atI z.cps.toList i=some c/\Q (.str ⟨#[c]⟩) H
def aZ3:IxR X (cx5 X.K):=by
 intro Y Z F s W H x y v u Q I rx ry h hs;obtain⟨p,xs,i,z,rfl,rfl,hq,he,q⟩:=h;cases rx;obtain⟨t,rfl⟩:=ry;obtain⟨its,r,J,hz⟩:=I.list hq;obtain⟨j,G,h2,h3,h4,h5⟩:=aL6 he;obtain⟨w,ew,a0⟩:=r.get h2;have hl:=r.length;have hn:=at7;have fin:EP X F W Q w s:=⟨z,H,I,a0,q⟩
 by_cases h0:0<=i
 .have hj:=by
   rw[mM h0 h5]at G;exact aC G
  exact item_listR J.isList h0 (by lia) (by rw[hj];simpa using ew) fin hs
 .have hj:(i+(its.toArray.size)).toNat=j:=by
   rw[lM (by lia) h4]at G;rw[aw,<-hl];exact aC G
  exact jz J.isList.typeIs lN.lookup
   (wpAny_getItem_list_neg J.isList (by omega) (by rw[aw]<;>lia) (by lia) (by rw[hj];simpa using ew) ⟨rfl,fin⟩) hs
def ix_tup:IxR X (cu7 X.K):=by
 intro G J F s W H x y v u Q I rx ry h hs;obtain⟨p,xs,i,z,rfl,rfl,hq,he,q⟩:=h;cases rx;obtain⟨t,rfl⟩:=ry;obtain⟨its,r,Z,hz⟩:=I.tuple hq;obtain⟨j,h1,h2,h3,h4,h5⟩:=aL6 he;obtain⟨w,ew,Y⟩:=r.get h2;have hl:=r.length;have hn:=at7;have fin:EP X F W Q w s:=⟨z,H,I,Y,q⟩
 exact jz Z.typeIs bL.lookup
  (getItem_tuple Z (by lia) (by lia) (by rw[aw,<-hl];exact h1) (by simpa using ew) ⟨rfl,fin⟩) hs
def ix_str:IxR X cA0:=by
 intro F G J s W H x y v u Q I rx ry h hs;obtain⟨z,i,c,rfl,rfl,hz,he,q⟩:=h;obtain⟨t,rfl⟩:=rx;obtain⟨t',rfl⟩:=ry;obtain⟨j,Y,h2,h3,Z,h5⟩:=aL6 he;have hl:z.cps.toList.length=z.length:=by simp[Str.length]
 rw[hl]at Y Z h5;have hn:=at7;exact tail_any (nu s z t) slot_str_getitem.lookup (getItem_str (by
  have e1:decide (i < -(2^63))=false:=decide_eq_false (by lia);have e2:decide (i ≥ 2^63)=false:=decide_eq_false (by lia);rw[e1,e2,Bool.or_false]) (by rw[Y];simpa using h2) ⟨.str ⟨#[c]⟩,H,I.tok _,⟨_,rfl⟩,q⟩) hs
def aV7 (its:yG) n j  u :jA (·.setIfInBounds j u) { cls:=.type "list",data:=.seq its.toArray n }={ cls:=.type "list",data:=.seq (its.set j u).toArray n }:=by
 simp[jA]
def Inv.lst {W:St}(I:Inv X F W H s)(h:H p=some (.J G)) :
  ∃(its:yG) (n:Nat),Vals G its/\s.heap.get? p=some { cls:=.type "list",data:=.seq its.toArray n }/\G.length<=aV:=by
 obtain⟨z,its,n,r,e⟩:=I.hok p _ h;exact⟨its,n,r,e,z⟩
def Inv.lstUpd {W:St}{its its':yG}(I:Inv X z W H s)(h:H p=some (.J G))
  (ho:s.heap.get? p=some { cls:=.type "list",data:=.seq its.toArray n }) (hf:f { cls:=.type "list",data:=.seq its.toArray n }={ cls:=.type "list",data:=.seq its'.toArray F }) (r:Vals ys its') (hz:ys.length<=aV)  t  :
  Inv X z W (upd H p (.J ys)) { s with heap:=s.heap.update p f,toks:=t }:=by
 have e:(s.heap.update p f).get? p=some { cls:=.type "list",data:=.seq its'.toArray F }:=by
  rw[cU f ho (by rw[hf]<;>rfl),hf]
 refine I.write (by rw[h];trivial) (.inl rfl) (λ b u hb q=>(bq _ _ (dk hb)).trans q) ⟨_,e⟩ ?_;exact⟨hz,its',F,r,e⟩
def cs7:V->V->V->Hp->(Hp->Prop)->Prop:=λ o i v H Q=>∃ p xs k j,o=.ref p/\i=.int k/\H p=some (.J xs)/\ixN xs.length k=some j/\Q (upd H p (.J (xs.set j v)))
def bw3:cq4 X cs7:=by
 intro z s W H o i v ov iv u Q I ro ri Z h;obtain⟨p,xs,k,j,rfl,rfl,hp,hj,q⟩:=h;cases ro;obtain⟨t,rfl⟩:=ri;obtain⟨its,n,r,ho,hz⟩:=I.lst hp;obtain⟨F,h2,Y,G⟩:=bf2 hj;have hl:=r.length;have hn:=at7;have J :=
  I.lstUpd hp ho (aV7 its n j u) (r.set Z j) (by rw[bf];exact hz) s.toks
 by_cases h0:0<=k
 .have hk:=by
   rw[mM h0 G]at F;exact aC F
  exact PySem.W.ki_setAt ho h0 (by lia) (by rw[aw,<-hl];exact G) (by rw[hk];exact⟨_,J,q⟩)
 .have hk:(k+(its.toArray.size)).toNat=j:=by
   rw[lM (by lia) Y]at F;rw[aw,<-hl];exact aC F
  exact PySem.W.ki_setBack ho (by omega) (by rw[aw,<-hl];exact Y) (by lia) (by rw[hk];exact⟨_,J,q⟩)
def aE5 F z n :(fI F z none n).1=((HT.sIx n 0 F))/\(fI F z none n).2.1=((HT.sIx n n z))/\(fI F z none n).2.2=1:=by
 refine⟨?_,?_,rfl⟩
 .cases F with
  | none=>simp[fI,HT.sIx]
  | some i =>
   simp only[fI,HT.sIx,l9,if_true];by_cases h:i<0
   .simp only[h,if_true]<;>lia
   .simp only[h,if_false]<;>lia
 .cases z with
  | none=>simp[fI,HT.sIx]
  | some i =>
   simp only[fI,HT.sIx,l9,if_true];by_cases h:i<0
   .simp only[h,if_true]<;>omega
   .simp only[h,if_false]<;>omega
def aB1 (its:yG) z F :slicePick its.toArray z F none=((its.drop (HT.sIx its.length 0 z)).take (HT.sIx its.length its.length F - HT.sIx its.length 0 z)).toArray:=by
 obtain⟨Y,J,G⟩:=aE5 z F its.toArray.size;unfold slicePick;rw[Y,J,G];simp only[sliceRange_one,pick_run]<;>rfl
def cw4 (K:af):V->Option Int->Option Int->Hp->VK->Prop:=λ x lo hi H Q=>∃ a xs,x=.ref a/\SqL K H a xs/\∀ p,H p=none->Q (.ref p) (upd H p (.J (aW6 xs lo hi)))
def bO0:SlR X (cw4 X.K):=by
 intro Y s W H x v vl vu G J sl Q I rx hs pl pu h;obtain⟨a,z,rfl,hx,q⟩:=h;cases rx;obtain⟨its,r,Z,hz⟩:=I.list hx;have F:=r.length;refine⟨"list",_,lN.lookup,Z.isList.typeIs,?_⟩;refine wpAny_getItem_list_slice Z.isList hs pl pu .none (by simp) ?_ (by rw[aw]<;>lia);rw[aB1,<-F];refine⟨.ref s.heap.objs.size,_,I.laid (λ b ob q=>ao _ q) (au _) ?_,rfl,q _ (I.hok.fresh (au _))⟩;exact⟨ar (aq1 z G J) hz,_,0,(r.drop (HT.sIx z.length 0 G)).take (HT.sIx z.length z.length J - HT.sIx z.length 0 G),aI _ rfl⟩
def aE2:ad8 X (.builtin "len") (λ J H Q=>∃ p ys,J=[.ref p]/\(SqL X.K H p ys\/SqT X.K H p ys)/\Q (.int ys.length) H):=by
 intro Y s W H J us Q I r h;obtain⟨p,ys,rfl,hq,q⟩:=h;obtain⟨u,rfl,Z⟩:=qR r;cases Z;have hn:=at7;rcases hq with hq|hq
 .obtain⟨its,F,G,hz⟩:=I.list hq;have z:=F.length;exact Calls.call_len_list G.isList (by simp only[aw]<;>lia) ⟨.int ys.length,H,I.tok _,⟨s.toks+1,by rw[aw,z]⟩,q⟩
 .obtain⟨its,F,G,hz⟩:=I.tuple hq;have z:=F.length;exact len_tuple G (by simp only[aw]<;>omega) ⟨.int ys.length,H,I.tok _,⟨s.toks+1,by rw[aw,z]⟩,q⟩
def aE0:ad8 X (.builtin "len") (λ F H Q=>∃ z,F=[.str z]/\z.length<=aV/\Q (.int z.length) H):=by
 intro G s W H F us Q I r h;obtain⟨z,rfl,hz,q⟩:=h;obtain⟨u,rfl,t,rfl⟩:=qR r;have hn:=at7;exact len_str (by lia) ⟨.int z.length,H,I.tok _,⟨_,rfl⟩,q⟩
def ad8.or (h:ad8 X f r)(h':ad8 X f J):ad8 X f (λ F H Q=>r F H Q\/J F H Q):=by
 intro z s W H F us Q I G q;rcases q with q|q
 .exact h z s W H F us Q I G q
 .exact h' z s W H F us Q I G q
def aH0:ad8 X (.type "list") (λ Z H Q=>∃ p ys,Z=[.ref p]/\(SqL X.K H p ys\/SqT X.K H p ys)/\∀ l,H l=none->Q (.ref l) (upd H l (.J ys))):=by
 intro J s W H Z us Q I r h;obtain⟨p,ys,rfl,hq,q⟩:=h;obtain⟨u,rfl,rx⟩:=qR r;cases rx;have fin:∀ its ,Vals ys its->ys.length<=aV->∀ h' z ,(∀ b o',s.heap.get? b=some o'->h'.get? b=some o') ->
   h'.get? s.heap.objs.size=some { cls:=.type "list",dict:=none,data:=.seq its.toArray z,slots:=#[] }->EP X J W Q (.ref s.heap.objs.size) { s with heap:=h' }:=λ its F hz h' z kp e =>
  ⟨.ref s.heap.objs.size,_,I.laid kp (au _) (show ad5 X.prog X.w _ h' _ (.J ys)from⟨hz,its,z,F,e⟩),rfl,q _ (I.hok.fresh (au _))⟩
 rcases hq with hq|hq
 .obtain⟨its,F,Y,hz⟩:=I.list hq;have G:=F.length;obtain⟨o,ho,hc,n,hd⟩:=Y.isList;exact call_list_seq p (.inl rfl) ho hc hd (λ h' z kp e=>fin its F hz h' z kp e) (by simp only[aw]<;>omega)
 .obtain⟨its,F,Y,hz⟩:=I.tuple hq;have G:=F.length;obtain⟨o,ho,hc,n,hd⟩:=Y;exact call_list_seq p (.inr rfl) ho hc hd (λ h' z kp e=>fin its F hz h' z kp e) (by simp only[aw]<;>omega)
def aA5:ad8 X (.type "tuple") (λ J H Q=>∃ p ys,J=[.ref p]/\((SqL X.K H p ys/\∀ l,H l=none->Q (.ref l) (upd H l (.tp ys)))\/(SqT X.K H p ys/\Q (.ref p) H))):=by
 intro z s W H J us Q I r h;obtain⟨p,ys,rfl,h⟩:=h;obtain⟨u,rfl,rx⟩:=qR r;cases rx;rcases h with⟨hq,q⟩|⟨hq,q⟩
 .obtain⟨its,G,F,hz⟩:=I.list hq;have Y:=G.length;refine call_tuple_list F.isList (λ h' kp=>?_) (by simp only[aw]<;>omega);have Z:=I.kept (t':=s.toks) kp;have I2 :=
   Z.laid (t':=s.toks) (λ b o e=>ao _ e) (au _) (show ad5 X.prog X.w _ _ _ (.tp ys)from⟨hz,its,G,l8 _ _⟩)
  exact⟨.ref h'.objs.size,_,I2,rfl,q _ (Z.hok.fresh (au _))⟩
 .obtain⟨its,G,F,hz⟩:=I.tuple hq;exact call_tuple_same F ⟨.ref p,H,I,rfl,q⟩
def tyV (K:af)(T:String)(x:V)(H:Hp):Prop:=match x with
 | .str _=>T = "str"
 | .int _=>T = "int"
 | .ref p=>(T = "list"/\∃ xs,SqL K H p xs)\/(T = "tuple"/\∃ o,K.lookup p=some o/\o.cls=.type "tuple"/\o.dict=none) \/
   (T = "dict"/\∃ kvs,H p=some (.dT kvs))
 | _=>False
def bE0 {W:St}(I:Inv X F W H s)(r:RelV x v)(G:tyV X.K T x H) :
  s.TypeIs v T/\∀ a,v=.ref a->∃ ob,s.heap.get? a=some ob/\ob.dict=none:=by
 cases x with
 | str z =>
  obtain⟨t,rfl⟩:=r;cases(G);exact⟨nu s z t,λ _ e=>nomatch e⟩
 | int i =>
  obtain⟨t,rfl⟩:=r;cases(G);exact⟨jB s i t,λ _ e=>nomatch e⟩
 | ref p =>
  cases r;rcases G with⟨rfl,Y,hq⟩|⟨rfl,o,hk,hc,hd⟩|⟨rfl,kvs,hk⟩
  .obtain⟨its,_,J,_⟩:=I.list hq;refine⟨J.isList.typeIs,λ a e=>?_⟩;cases e;obtain⟨o,n,e,c,hd,_⟩:=J;exact⟨o,e,hd⟩
  .refine⟨⟨o,I.kIn p o hk,hc⟩,λ a e=>?_⟩;cases e;exact⟨o,I.kIn _ o hk,hd⟩
  .obtain⟨_,_,_,_,o,_,_,e,ex,_⟩:=I.hok p _ hk;refine⟨⟨o,e,ex.1⟩,λ a e2=>?_⟩;cases e2;exact⟨o,e,ex.2.1⟩
 | _=>exact bD G
def cq2 (K:af)(T:String)(r:V->List V->Hp->VK->Prop)(to:TE):TE:=λ W H Q=>to W H λ x H1=>tyV K T x H1/\r x [] H1 Q
def tBM (K:af)(T:String)(r:V->List V->Hp->VK->Prop)(to:TE)(t:TA):TE:=λ W H Q=>to W H λ x H1=>tyV K T x H1/\t W H1 λ xs H2=>r x xs H2 Q
variable {o e:Expr} {es:yK} {to:TE} {t:TA} {name:Str} {apos cpos:Pos} {T id:String} {r:V->List V->Hp->VK->Prop}
def bA6 (pa:nv T)(slot:Slot T name id)(J:lp (.builtin id)=pure (.type "method_descriptor"))(hm:MtR X id r)(ho:PE X o to)
  (G:autoParam (dW o name X.env (eval o X.env)=eval o X.env) Zq4._auto_1) (F:autoParam ((apos.endLine==cpos.line)=true) Zq4._auto_1):PE X (.Call (.Attribute o name apos) [] [] cpos) (cq2 X.K T r to):=by
 intro z s W H Q I h;refine wpAny_Call_method0_late G F (thn (ho z s W H _ I h) λ v s1 ⟨x,H1,Y,r1,ty,Z⟩=>?_);obtain⟨h1,h2⟩:=bE0 Y r1 ty;exact⟨T,id,pa,slot,J,h1,h2,fN rfl (PySem.evalArgs_none (hm z s1 W H1 x [] v [] Q Y r1 .nil Z))⟩
def bu4 (pa:nv T)(slot:Slot T name id)(Z:lp (.builtin id)=pure (.type "method_descriptor"))(hm:MtR X id r)(ho:PE X o to)(ha:PA X (e::es) t)
  (G:autoParam (dW o name X.env (eval o X.env)=eval o X.env) Zq4._auto_1)
  (Y:autoParam (((eZ cpos (bB (e::es) X.env)).all (λ x=>!x.1)&&(lO cpos (iB [] X.env)).all (λ x=>x.1.isSome)
   && decide ((e::es).length+([]:List gB).length+(if([]:List gB).isEmpty then 0 else 1)<30))=true) Zq4._auto_1)
  (J:autoParam ((apos.endLine==cpos.line)=true) Zq4._auto_1) (hs:autoParam (bB (e::es) X.env=(false,eval e X.env)::bB es X.env) Zq4._auto_1) (F:autoParam ((eZ cpos (bB es X.env)).any (·.1)=false) Zq4._auto_1) :
  PE X (.Call (.Attribute o name apos) (e::es) [] cpos) (tBM X.K T r to t):=by
 intro z s W H Q I h;refine wpAny_Call_method_late G Y J rfl (thn (ho z s W H _ I h) λ v s1 ⟨x,H1,I1,r1,ty,q1⟩=>?_);obtain⟨h1,h2⟩:=bE0 I1 r1 ty;refine⟨T,id,pa,slot,Z,h1,h2,?_⟩;have hA:=ha cpos z s1 W H1 _ I1 q1;rw[hs]at hA ⊢;refine fN (by show(false||(eZ cpos (bB es X.env)).any (·.1))=false;rw[F]<;>rfl) (gE ?_);exact thn hA λ us s2 ⟨vs,H2,I2,r2,q2⟩=>hm z s2 W H2 x vs v us Q I2 r1 r2 q2
end
def MtM (X:Cx)(id:String)(r:V->List V->Hp->VK->Prop):Prop :=
 ∀ pins s (W:St) H x xs v (us:yG) Q ,Inv X pins W H s->RelV x v->Vals xs us->r x xs H Q ->
  wpAny (model X.prog X.w) X.A (call (.builtin id) (v::us)) (EP X pins W Q) X.xe s
def Vals.one:∀ {x} {us:yG},Vals [x] us->∃ u,us=[u]/\RelV x u
 | _,_,.cons r .nil=>⟨_,rfl,r⟩
def Vals.zero:∀ {us:yG},Vals [] us->us=[]
 | _,.nil=>rfl
theorem Vals.rep {us:yG}(h:Vals z us):∀ k:Nat,Vals (ah k z).flatten (ah k us).flatten
 | 0=>.nil
 | k+1=>by
  rw[b8,b8,dM,dM];exact Vals.append h (Vals.rep h k)
theorem aH5 (its:yG):∀ k (z:yG),
  nw (λ x1 F=>x1++F) z.toArray (ah k its.toArray)=(z++(ah k its).flatten).toArray
 | 0,z=>by simp
 | k+1,z=>by
  have e:z.toArray++its.toArray=(z++its).toArray:=by simp
  have e2:(z++its)++(ah k its).flatten=z++(ah (k+1) its).flatten:=by
   rw[b8,dM,dh]
  rw[<-e2,<-aH5 its k (z++its),<-e,b8,cE]
section
variable {X:Cx} {pins:yA} {W:St} {H:Hp} {s:ag} {l b:Addr} {xs ys zs:List V}
def Inv.lset {its its':yG}(I:Inv X pins W H s)(z:H l=some (.J xs))
  (e:s.heap.get? l=some { cls:=.type "list",data:=.seq its.toArray n }) (hf:f its.toArray=its'.toArray) (hv:Vals ys its') (hz:ys.length<=aV) :
  Inv X pins W (upd H l (.J ys)) { s with heap:=s.heap.update l (jA f),toks:=t' }:=by
 have q:=PySem.IsL.update e f;rw[hf]at q;refine I.write (by rw[z];exact trivial) (.inl rfl) (λ F u hb hu=>(bq s.heap (jA f) (dk hb)).trans hu) ⟨_,q⟩ ?_;exact⟨hz,its',_,hv,q⟩
def Inv.lnew {its:yG}(I:Inv X pins W H s)(hv:Vals ys its)(hz:ys.length<=aV) :
  Inv X pins W (upd H s.heap.objs.size (.J ys)) { s with heap:=s.heap.push { cls:=.type "list",data:=.seq its.toArray },toks:=t' } :=
 I.laid (λ _ _ q=>ao _ q) (au _) ⟨hz,its,0,hv,aI _ rfl⟩
theorem Inv.fresh (I:Inv X pins W H s):H s.heap.objs.size=none:=I.hok.fresh (au _)
def Inv.lstM (I:Inv X pins W H s)(F:H l=some (.J xs)):xs.length<=aV/\∃(its:yG) (n:Nat),Vals xs its/\xs.length=its.length/\s.heap.get? l=some { cls:=.type "list",data:=.seq its.toArray n }:=by
 obtain⟨z,its,n,r,e⟩:=I.hok l _ F;exact⟨z,its,n,r,r.length,e⟩
def aO3 (h:n<=aV):dX n=false:=by
 unfold dX;exact decide_eq_false (by lia)
end
section
variable {X:Cx}
def bH4:V->List V->Hp->VK->Prop:=λ x vs H Q=>∃ l xs y,x=.ref l/\vs=[y]/\H l=some (.J xs)/\xs.length<aV/\Q .N (upd H l (.J (xs++[y])))
def aq3:MtM X "list.append" bH4:=by
 intro J s W H x vs v us Q I Z Y h;obtain⟨l,xs,y,rfl,rfl,G,hz,q⟩:=h;cases Z;obtain⟨u,rfl,ru⟩:=Y.one;obtain⟨z,its,n,r,hl,e⟩:=I.lstM G;refine gd fO ⟨_,e,rfl⟩ F.entry_list_append (F.args_list_append_2 _ _) (PySem.list_append l its.toArray n u (by rw[aw];lia)) ⟨e,?_⟩;refine⟨.N,_,I.lset G e (by simp) (r.append (.cons ru .nil)) ?_,rfl,q⟩;rw[aA,eR];lia
def bI1:V->List V->Hp->VK->Prop:=λ x vs H Q=>∃ l b xs zs,x=.ref l/\vs=[.ref b]/\H l=some (.J xs)/\H b=some (.J zs)/\xs.length+zs.length<=aV/\Q .N (upd H l (.J (xs++zs)))
def bc9:MtM X "list.extend" bI1:=by
 intro Z s W H x vs v us Q I rx rv h;obtain⟨l,b,xs,zs,rfl,rfl,Y,hB,hz,q⟩:=h;cases rx;obtain⟨u,rfl,ru⟩:=rv.one;cases ru;obtain⟨z,its,n,r,hl,e⟩:=I.lstM Y;obtain⟨z2,G,n2,r2,a0,e2⟩:=I.lstM hB;have hsz:its.toArray.size+G.toArray.size<=aV:=by rw[aw,aw];lia
 have J:¬(!its.toArray.isEmpty&&dX (its.toArray.size+G.toArray.size))=true:=by
  rw[aO3 hsz,Bool.and_false];exact aH
 refine gd jS ⟨_,e,rfl⟩ F.entry_list_extend (F.args_list_extend_2 _ _)
  (AutoSeq1.list_extend_list_list_0 l its.toArray n b G.toArray n2 J (by rw[aw];lia) (by lia)) ⟨e,e2,?_⟩
 refine⟨.N,_,I.lset Y e (by simp) (r.append r2) ?_,rfl,q⟩;rw[aA];omega
def cy7:R2:=λ x y H Q=>∃ l b xs zs,x=.ref l/\y=.ref b/\H l=some (.J xs)/\H b=some (.J zs)/\xs.length+zs.length<=aV/\∀ p,H p=none->Q (.ref p) (upd H p (.J (xs++zs)))
def bC5:OpR X (c5 .Add) cy7:=by
 intro G s W H x y v u Q I Z ry h;obtain⟨l,b,xs,zs,rfl,rfl,J,hB,hz,q⟩:=h;cases Z;cases ry;obtain⟨z,its,n,r,hl,e⟩:=I.lstM J;obtain⟨z2,F,n2,r2,Y,e2⟩:=I.lstM hB;refine PySem.P.add_list e e2 ?_ (by rw[aw,aw];omega);have ea:its.toArray++F.toArray=(its++F).toArray:=by simp
 rw[ea];exact⟨.ref _,_,I.lnew (r.append r2) (by rw[aA];omega),rfl,q _ I.fresh⟩
def cz6:R2:=λ x y H Q=>∃ l k xs,x=.ref l/\y=.int k/\H l=some (.J xs)/\-(2^63)<=k/\k<2^63/\xs.length*k.toNat<=aV /\
 ∀ p,H p=none->Q (.ref p) (upd H p (.J (ah k.toNat xs).flatten))
def bR0 {α:Type}(z:List α) k :(ah k z).flatten.length=k*z.length:=by
 induction k with
 | zero=>simp
 | succ k ih=>rw[b8,dM,aA,ih,dN,jC]
def ca6:OpR X (c5 .Mult) cz6:=by
 intro a1 s W H x y v u Q I rx ry h;obtain⟨l,k,xs,rfl,rfl,hH,h1,h2,hz,q⟩:=h;cases rx;obtain⟨t,rfl⟩:=ry;obtain⟨z,its,n,r,hl,e⟩:=I.lstM hH;have J:its.toArray.size*k.toNat<=aV:=by rw[aw,<-hl];exact hz
 have Z:¬ its.toArray.size*k.toNat > (2^63 - 1) / 8:=by
  have:(aV)<=(2^63 - 1) / 8:=by decide
  lia
 have a0:¬(!Builtin.List.listFitsIndex k)=true:=by
  rw[fitsIndex_both h1 h2];exact aH
 have G:¬ dX (its.toArray.size*k.toNat)=true:=by
  rw[aO3 J];exact aH
 have Y:nw (λ x1 x2=>x1++x2) #[] (ah (if its.toArray.isEmpty=true then 0 else k.toNat) its.toArray)=(ah k.toNat its).flatten.toArray:=by
  have f0:=λ m=>by
   have:=aH5 its m [];rw[aF]at this;exact this
  rw[f0];cases its with
  | nil=>simp
  | cons a r'=>rw[if_neg (by simp)]
 refine iz (by decide) ⟨_,e,rfl⟩ (λ s'=>jB s' k t) noFill_list_mul lq fF repeat_list kM.lookup
  (gd fF (jB s k t) kN (ke _ _) (int___rmul___int_list k t l its.toArray n)
   ⟨e,rfl,⟨_,e,rfl⟩,gd F.slot_list_mul ⟨_,e,rfl⟩ F.entry_list_mul (F.args_list_mul_2 _ _) (AutoListH.list___mul___list_int_3 l its.toArray n k t a0 Z G) ⟨e,?_⟩⟩)
 rw[Y];exact⟨.ref _,_,I.lnew (r.rep k.toNat) (by rw[bR0,n9];exact hz),rfl,q _ I.fresh⟩
end
section
variable {prog:aM} {w:World} {A:be} {E:Value->ag->Prop} {s:ag}
end
section
variable {X:Cx}
end
end L2
end
noncomputable section
namespace Att
open PySem PySem.W PySem.Calls PyProof.Rows
def ints_of_wellAll :∀ ns (vs:yG),WellAll P h vs (ns.map WData.int)->mZ vs ns:=by
 intro ns
 induction ns with
 | nil =>
  intro vs w;rw[aP]at w;cases w;exact .nil
 | cons n ns ih =>
  intro vs w;rw[av]at w;cases w with
  | cons a b =>
   cases a;exact .cons _ _ (ih _ b)
def script_of {l:OpenLaw}(hn:l.most=some n){F:yG}
  (z:l.row.toRowW.claim.pre args=true) (Z:WellAll P h F args) :
  ∃ a vs ns,F=[Value.ref a]/\args=[WData.list (ns.map WData.int)]/\h.get? a=some { cls:=.type "list",data:=.seq vs.toArray }/\mZ vs ns/\ns.length<=n:=by
 have a0:=(pre_splitW z).1;have hc:l.pre.holds [] { args:=args }=true:=(pre_splitW z).2;obtain⟨d,r,rfl,h1,h2⟩:=hasAllW_cons a0;obtain rfl:=hasAllW_nil h2;obtain⟨xs,rfl,h3⟩:=hasW_list h1;obtain⟨ns,rfl⟩:=items_int h3;have G:ns.length<=n:=by
  unfold OpenLaw.pre at hc;have J:=by
   have J:=(holds_andW hc).1;rw[hn]at J;exact J
  have Y:=condW_of J (w_not (w_lt w_lit (w_len_list (w_arg rfl))));rw[aq]at Y;refine mf λ q=>?_;have q':=by omega
  first
   | (rw[decide_eq_true q']at Y;exact absurd Y (by decide))
   | (simp at Y;omega)
 cases Z with
 | cons w1 w2 =>
  cases w2;cases w1 with
  | list ho hall=>exact⟨_,_,ns,rfl,rfl,ho,ints_of_wellAll ns _ hall,G⟩
def post_true (l:OpenLaw) args :l.row.toRowW.claim.post args (.bool true) args=true :=
 postW_of 
  (show WShape.has [] (.bool true) .bool=true by first|rfl|decide|simp[WShape.armsAll])
  (w_eq_bool (w_res rfl) w_lit) rfl
def attach_call {l:OpenLaw}{loose:yH}
  (hn:l.most=some n) (a2:d.params.defaults=[])
  (call:∀(w:World) (s₀ z:ag) (mg mb:yC) (fa:Addr) (o:Obj) (pm cd F:Value) (a:Addr) (vs:yG) (ns:List Int),
   Ground q loose [] XP w s₀ mg mb z.heap->YP w z.heap ->
   z.heap.get? fa=some o->o.data=.func (docDef d.name d.params d.body d.scope pm cd F)->z.heap.CodeRec cd d.name->mg d.name=some (.ref fa) ->
   z.heap.get? a=some { cls:=.type "list",data:=.seq vs.toArray }->mZ vs ns->ns.length<=n->z.gens=#[] ->
   gA (model l.prog w) kG (.call (.ref fa) ⟨[.ref a],[]⟩) (λ r s'=>r=.ok (.ret (.bool true))/\OldK z.heap s'.heap/\s'.os=z.os/\g8 s'.gens) z) :
  WalkO q loose XP YP l.row.toRowW d [] (λ f vs=>ni f vs):=by
 intro w s₀ z mg mb G Y fa o pm cd F dV kV ho hd a5 hD a4 hg args a7 as Z a6 a9 a3 a8;obtain rfl:dV=.none:=Dflts.none hD a2;obtain rfl:kV=.none:=Dflts.noKw hD;obtain⟨a,vs,ns,rfl,rfl,a0,J,a1⟩:=script_of hn Z a3;refine enter_call (jw (call w s₀ z mg mb fa o pm cd F a vs ns G Y ho (fd_plain hd) a5 a4 a0 J a1 hg) λ r s' hq=>?_);obtain⟨rfl,h2,h3,h4⟩:=hq;exact⟨.inl ⟨.bool true,.bool true,[],rfl,λ _=>rfl,.bool true,post_true l _,λ _=>⟨List.Pairwise.nil,λ _ hm=>(nomatch hm)⟩⟩,h2,h3,h4⟩
section
variable {prog:aM} {w:World} {A:be} {E:Value->ag->Prop} {s:ag} {K:Frag}
end
end Att
noncomputable section
namespace L2
open PySem PySem.Spec PyProof.Rows
theorem aG2:∀ {vs:yG} {ns},mZ vs ns->Vals (ns.map V.int) vs
 | _,_,.nil=>.nil
 | _,_,.cons n t h=>.cons ⟨t,rfl⟩ (aG2 h)
noncomputable def defArgs (s:Stmt):gb:=match s with
 | .FunctionDef _ a _ _ _ _ _ _ _ _=>a
 | _=>{ posonlyargs:=[],args:=[],vararg:=none,kwonlyargs:=[],kw_defaults:=[],kwarg:=none,defaults:=[] }
noncomputable def zB (s:Stmt):List Stmt:=match s with
 | .FunctionDef _ _ b _ _ _ _ _ _ _=>b
 | _=>[]
noncomputable def defScope (s:Stmt):Scope:=match s with
 | .FunctionDef _ _ _ _ _ _ sc _ _ _=>sc
 | _=>{ kind:=.function,names:=[],isGenerator:=false,isCoroutine:=false }
noncomputable abbrev CX0:CXT:=λ _ _ _ _ _ _=>False
abbrev E0:XK:=λ _ _ _=>False
def cd5 :aj1 CX0 X E0:=λ _ _ _ _ _ _ _ h=>h.elim
structure Fun (K:af)(x qual:Str)(st:Stmt)(f:Addr)(fd:cw):Prop where
 ex:∃(oc:Value) (od:yI) (kV doc pm:Value) (an:yI) (cdv ct:Value) (osl:yE),
  fd=et x qual (defArgs st) (zB st) (defScope st) .none kV doc pm an cdv ct/\K.lookup f=some ⟨oc,od,.func fd,osl⟩/\ig K cdv qual=true
 kp:c6 K (.ref f)=true
section
variable {P:aM} {w:World} {K:af} {mg:yC} {base:Heap}
def Fun.ok {st}(F:Fun K x qual st f fd)(S:FnScope N ps (defScope st))(len:∀ vs H Q E,sp vs H Q E->vs.length=ps.length)
  (J:∀(G:Value) (A:be) (z:List Env) (s:ag) (H:Hp) (vs:List V) (Q:VK) (E:XK),Room k (A.deeper (gR qual (defScope st) s.heap.objs.size f G))->sp vs H Q E ->
   ∃ t,PSs (ao0 CX0 P w K mg base N qual (defScope st) f G A z s H E).nox (zB st) t/\t { nx:=λ _ H'=>Q .N H',rt:=Q } (ag9 N vs) H):FnOk P w K mg base CX0 (k+1) f fd ps sp:=by
 obtain⟨oc,od,kV,a1,pm,an,G,ct,a0,rfl,lk,Z⟩:=F.ex;refine ch4 lk Z S len λ A z s H vs Q E hr Y=>?_;obtain⟨t,h,q⟩:=J G A z s H vs Q E hr Y;exact⟨t,h.nox,q⟩
def Fun.binds {st}(F:Fun K x qual st f Z)
  (h:∀(kV G Y:Value) (J:yI) (z ct:Value) (us:yG),us.length=ps.length->bindArgs (et x qual (defArgs st) (zB st) (defScope st) .none kV G Y J z ct) ⟨us,[]⟩=pure (ps.zip us)):Binds K Z ps []:=by
 obtain⟨oc,od,kV,G,Y,J,z,ct,a0,rfl,lk,a1⟩:=F.ex;exact .all (h kV G Y J z ct)
def bA2 {st}{od J:yI}{G:yE}{kV }(l:K.lookup f=some ⟨oc,od,.func (et x qual (defArgs st) (zB st) (defScope st) .none kV F Y J z ct),G⟩)
  (c:ig K z qual=true) (k:c6 K (.ref f)=true):Fun K x qual st f (et x qual (defArgs st) (zB st) (defScope st) .none kV F Y J z ct):=⟨⟨oc,od,kV,F,Y,J,z,ct,G,rfl,l,c⟩,k⟩
end
def at1 (h:n<=1000):n<aV:=lr h (by decide)
section
variable {X:Cx}
def pv  i {pos}(hN:autoParam (X.N[i]?=some x) Zq4._auto_1)(hv:autoParam (Vis X.env.scope x) Zq6._auto_1)(hd:autoParam ((x==("__debug__":Str))=false) Zq1._auto_1)
  (z:autoParam ((x==("__classdict__":Str))=false) Zq1._auto_1):PE X (.Name x pos) (be3 i):=am8 hN hv hd z
end
def cx7 { B:Prop}(h:B):if false=true then A else B:=by
 rw[if_neg aH];exact h
def iteT { B:Prop}(h:A):if true=true then A else B:=by
 rw[if_pos rfl];exact h
def af0 (H H':Hp):Prop:=∀ b o,H b=some o->H' b=some o
def af0.refl H :af0 H H:=λ _ _ h=>h
def af0.trans (a:af0 H F)(b:af0 F z):af0 H z:=λ c o h=>b c o (a c o h)
def bl9 {ifs:yK}(I:Nat->ag->Prop)
  (turn:∀ n s,I n s->wpAny (model prog w) A (f8 it) (λ r J=>match r with
   | none=>R (.ok .next) J
   | some v=>wpAny (model prog w) A (gO z it v) (λ _ G=>wpAny (model prog w) A (js z env v) (λ _ s₂ =>
     wpAny (model prog w) A (forIn ifs true λ c r=>if r=true then do let ok <- iM c env (eval c env);pure (ForInStep.yield ok)else pure (ForInStep.yield r)) (λ ok Z =>
      if ok=true then wpAny (model prog w) A (eval elt env) (λ x s₄ =>
       wpAny (model prog w) A (call (.builtin "list.append") [F,x]) (λ _ s₅=>∃ m,m<n/\I m s₅) (hJ (model prog w) A env λ e s'=>R (.error e) s') s₄) (hJ (model prog w) A env λ e s'=>R (.error e) s') Z
      else ∃ m,m<n/\I m Z) (hJ (model prog w) A env λ e s'=>R (.error e) s') s₂) (hJ (model prog w) A env λ e s'=>R (.error e) s') G) (hJ (model prog w) A env λ e s'=>R (.error e) s') J) (hJ (model prog w) A env λ e s'=>R (.error e) s') s)
   n (h:I n s) :
  gA (model prog w) A (.compLoop (.ListComp elt [⟨z,iter,ifs,0⟩] scope pos) 0 it F env) R s:=by
 refine codeAny_loop rfl I (λ n s hI=>?_) n h;refine wpAny_noted ?_;rw[compTurn_list];refine ac (kR (ac (bw (turn n s hI) (λ r J h₁=>?_) λ _ _ h'=>h')));cases r with
 | none=>exact am h₁
 | some v =>
  refine ac (bw h₁ (λ _ G Y=>?_) λ _ _ h'=>h');refine ac (bw Y (λ _ s₂ h₂=>ac (bw h₂ (λ ok Z h₃=>?_) λ _ _ h'=>h')) λ _ _ h'=>h');cases ok with
  | false=>exact am ⟨rfl,h₃⟩
  | true =>
   exact ac (ac (bw h₃ (λ x s₄ h₄=>ac (bw h₄ (λ _ s₅ h₅=>am (am ⟨rfl,h₅⟩)) λ _ _ h'=>h')) λ _ _ h'=>h'))
noncomputable def au8 (cells:yB):List (Str×c7)->List (Str×Addr)->List (Str×Addr)
 | [],acc=>acc
 | (n,k)::r,acc=>au8 cells r (if k==.free then(match cells.lookup n with|some c=>(n,c)::acc|none=>acc)else acc)
theorem ak2 :∀ names z ,(∀ y∈names,y.2=.free->∃ c,env.cells.lookup y.1=some c) ->
  (forIn names z λ(x) (G:yB)=>(if x.2==.free then do let c <- cellOf env x.1;pure (ForInStep.yield ((x.1,c)::G))else pure (ForInStep.yield G):Sem (ForInStep (List (Str×Addr)))))=pure (au8 env.cells names z)
 | [],z,_=>by rw[kg];rfl
 | (n,k)::r,z,h=>by
  have F:=λ a=>ak2 r a λ y hy=>h y (ak _ hy);rw[mU];unfold au8;cases e:(k==NameKind.free)with
  | false =>
   simp only[if_false];exact F z
  | true =>
   have hk:=by simpa using e
   obtain⟨c,hc⟩:=h (n,k) ax hk;have e1:cellOf env n=pure c:=by unfold cellOf;rw[hc]
   simp only[e1,hc];exact F _
def aj6 (h:∀ y∈scope.names,y.2=.free->∃ c,env.cells.lookup y.1=some c):closureFor scope env=pure (au8 env.cells scope.names []):=by
 have:=ak2 scope.names [] h;show(forIn scope.names [] (λ(x) (z)=>(if x.2==.free then do let c <- cellOf env x.1;pure (ForInStep.yield ((x.1,c)::z))else pure (ForInStep.yield z):Sem (ForInStep (List (Str×Addr))))) >>= λ z=>pure z)=_;rw[this];rfl
theorem clOf_mem :∀ {names} {F:yB},(n,c)∈au8 cells names F->cells.lookup n=some c\/(n,c)∈F
 | [],_,h=>.inr h
 | (m,k)::r,F,h=>by
  unfold au8 at h;rcases clOf_mem h with z|z
  .exact .inl z
  .cases e:(k==NameKind.free)with
   | false=>simp only[e,if_false]at z;exact .inr z
   | true =>
    simp only[e]at z;cases q:cells.lookup m with
    | none=>rw[q]at z;exact .inr z
    | some d =>
     rw[q]at z;rcases az.mp z with y|y
     .cases y;exact .inl q
     .exact .inr y
theorem aO4 (hc:cells.lookup n=some c):∀ {names} {z:yB},((n,NameKind.free)∈names\/(n,c)∈z)->(n,c)∈au8 cells names z
 | [],_,h=>by rcases h with h|h;(exact absurd h (by simp));exact h
 | (m,k)::r,z,h=>by
  unfold au8;refine aO4 hc ?_;rcases h with h|h
  .rcases az.mp h with e|h
   .cases e
    right
    simp[hc]
   .exact .inl h
  .right
   cases e:(k==NameKind.free)with
   | false=>simpa using h
   | true =>
    simp only[];cases q:cells.lookup m with
    | none=>exact h
    | some d=>exact ak _ h
theorem aj3 {α:Type}{c}:∀ {l:List (Str×α)},(n,c)∈l->(∀ d,(n,d)∈l->d=c)->l.lookup n=some c
 | (m,d)::r,h,u=>by
  rw[bz];cases e:n==m with
  | true =>
   have e':=beq_iff_eq.mp e;subst e';rw[u d ax]
  | false =>
   rcases az.mp h with z|z
   .cases z;simp at e
   .exact aj3 z λ d' h'=>u d' (ak _ h')
def aI6 (hc:cells.lookup n=some c)(h:(n,NameKind.free)∈names):(au8 cells names []).lookup n=some c:=by
 refine aj3 (aO4 hc (.inl h)) λ d hd=>?_;rcases clOf_mem hd with z|z
 .rw[hc]at z;exact(aC z).symm
 .exact absurd z (by simp)
theorem zP:∀ names n (z:yB),bO n names z=bO n names []++z
 | [],_,z=>by simp[bO]
 | (x,k)::r,n,z=>by
  unfold bO;split
  .rw[zP r (n+1) ((x,n)::z),zP r (n+1) [(x,n)]];simp
  .exact zP r n z
theorem zX:∀ {names} {n} {F:yB} {x} {c},(x,c)∈bO n names F->(x,NameKind.cell)∈names\/(x,c)∈F
 | [],_,_,_,_,h=>.inr h
 | (y,k)::r,n,F,x,c,h=>by
  unfold bO at h;split at h
  .rename_i hk;rcases zX h with z|z
   .exact .inl (ak _ z)
   .rcases az.mp z with e|z
    .cases e;have:=by simpa using hk
     subst this;exact .inl ax
    .exact .inr z
  .rcases zX h with z|z
   .exact .inl (ak _ z)
   .exact .inr z
theorem jd {α:Type} x :∀(l r:List (Str×α)),(l++r).lookup x=(l.lookup x).or (r.lookup x)
 | [],r=>by simp
 | (y,v)::l,r=>by
  rw[aB,bz,bz];cases x==y with
  | true=>rfl
  | false=>exact jd x l r
noncomputable def zU (N':yH)(src:yD)(scope:Scope)(XN:yH)(xs:Scope):Bool :=
 (scope.kind==.function) &&
 (scope.names.all λ y=>!(y.2==.free)||(xs.names.lookup y.1==some .cell||xs.names.lookup y.1==some .free)) &&
 (scope.names.all λ y=>!(y.2==.local)||scope.names.lookup y.1==some .local) &&
 (scope.names.all λ y=>!(y.2==.cell)||(scope.names.all λ z=>!(z.1==y.1)||z.2==.cell)) &&
 (src.length==N'.length) &&
 ((N'.zip src).all λ y=>match y.2 with|none=>true|some j=>XN[j]?==some y.1&&scope.names.lookup y.1==some .free)
structure CompCk (N':yH)(src:yD)(scope:Scope)(XN:yH)(xs:Scope):Prop where
 kind:scope.kind=.function
 fr:∀ y∈scope.names,y.2=.free->xs.names.lookup y.1=some .cell\/xs.names.lookup y.1=some .free
 loc:∀ y∈scope.names,y.2=.local->scope.names.lookup y.1=some .local
 cel:∀ y∈scope.names,y.2=.cell->∀ z∈scope.names,z.1=y.1->z.2=.cell
 len:src.length=N'.length
 sr:∀(i j:Nat) (x:Str),src[i]?=some (some j)->N'[i]?=some x->XN[j]?=some x/\scope.names.lookup x=some .free
def bB4 (h:zU F src scope G J=true):CompCk F src scope G J:=by
 unfold zU at h;simp only[aj]at h;obtain⟨⟨⟨⟨⟨h1,h2⟩,h3⟩,h4⟩,h5⟩,Y⟩:=h;refine⟨by simpa using h1,λ y hy e=>?_,λ y hy e=>?_,λ y hy e z hz Z=>?_,by simpa using h5,λ i j x e1 e2=>?_⟩
 .have:=aU.mp h2 y hy;simpa [e]using this
 .have:=aU.mp h3 y hy;simpa [e]using this
 .have:=aU.mp h4 y hy;simp only[e,nR]at this;have:=aU.mp this z hz;simpa [Z]using this
 .have hm:(x,some j)∈F.zip src:=by
   refine aE (i:=i) ?_;rw[List.getElem?_zip_eq_some];exact⟨e2,e1⟩
  have:=aU.mp Y _ hm;simpa using this
noncomputable abbrev zM (X:Cx)(N':yH)(scope:Scope)(Cc:Addr)(cells:yB)(s:ag)(H:Hp)(ex:List Addr):Cx where
 prog:=X.prog
 w:=X.w
 K:=X.K
 mg:=X.mg
 base:=X.base
 A:=X.A
 N:=N'
 s₀:=s
 H₀:=H
 env:={ scope:=eX scope X.env,locals:=Cc,globals:=X.env.globals,cells:=cells,qual:=X.env.qual,func:=none,code:=X.env.code,frame:=X.env.frame,builtins:=X.env.builtins }
 outer:=X.stack
 stack:=X.stack
 ex:=ex
 fn:=λ x=>scope.names.lookup x==some .cell
 calm:=X.calm
 pn:=[]
 xe:=λ _ _=>False
def PIf (X:Cx)(ifs:yK)(t:TT):Prop :=
 ∀ pins s (W:St) H Q ,Inv X pins W H s->t W H Q ->
  wpAny (model X.prog X.w) X.A (forIn ifs true λ c r=>if r=true then do let ok <- iM c X.env (eval c X.env);pure (ForInStep.yield ok)else pure (ForInStep.yield r)) (TP X pins W Q) X.xe s
def ck5:TT:=λ _ H Q=>Q true H
def bb5 :PIf X [] ck5:=λ _ _ _ H _ I h=>wpAny_tests_nil ⟨H,I,h⟩
def bN3 (h:PT X c t):PIf X [c] t:=λ z s W H Q I hw=>wpAny_tests_one (h z s W H Q I hw)
noncomputable def aH2 (src:yD)(W:St):St:=src.map λ o=>match o with|none=>none|some j=>(W[j]?).join
def tComp (src:yD)(wi:TI)(g:TG)(tc:TT)(te:TE):TE:=λ W H Q=>wi W H λ J H1=>∀ D,H1 D=none ->
 ∃ Ww:Nat->Nat->St->Hp->Prop,(∃ m,Ww 0 m (aH2 src W) (upd H1 D (.J [])))/\∀ i m W' H',Ww i m W' H' ->
  (J.stop i H'/\Q (.ref D) H')\/(J.go i H'/\∃ N:St->Hp->Prop,(∀ W2 H2,N W2 H2->∃ m',m'<m/\Ww (i+1) m' W2 H2) /\
   ∀ x H2,J.yld i H' x H2->g x W' H2 λ W3 H3=>tc W3 H3 λ b H4=>if b=true then te W3 H4 λ v H5=>∃ ys,H5 D=some (.J ys)/\ys.length<aV/\N W3 (upd H5 D (.J (ys++[v])))else N W3 H4)
theorem zY {env:Env}:∀ {names:List (Str×c7)} {x:Str} {k:c7},names.lookup x=some k ->
  (names.map λ(n,k)=>if(k==NameKind.free&&env.scope.kind==.function&&env.kindOf n==some .cell)then(n,NameKind.cell)else(n,k)).lookup x =
   some (if(k==NameKind.free&&env.scope.kind==.function&&env.kindOf x==some .cell)then NameKind.cell else k)
 | [],_,_,h=>by simp at h
 | (n,k)::r,x,k',h=>by
  have z:=@zY env r x k';show ot x ((if(k==NameKind.free&&env.scope.kind==.function&&env.kindOf n==some .cell)=true then(n,NameKind.cell)else(n,k))::_)=_;cases hx:x==n with
  | true =>
   have e:=beq_iff_eq.mp hx;subst e;simp only[bz,hx]at h;cases h;by_cases hc:(k==NameKind.free&&env.scope.kind==.function&&env.kindOf x==some .cell)=true
   .rw[if_pos hc,if_pos hc];simp only[bz,hx]
   .rw[if_neg hc,if_neg hc];simp only[bz,hx]
  | false =>
   simp only[bz,hx]at h;by_cases hc:(k==NameKind.free&&env.scope.kind==.function&&env.kindOf n==some .cell)=true
   .rw[if_pos hc];simp only[bz,hx];exact z h
   .rw[if_neg hc];simp only[bz,hx];exact z h
theorem qq {env:Env}:∀ {names:List (Str×c7)} {x},names.lookup x=none ->
  (names.map λ(n,k)=>if(k==NameKind.free&&env.scope.kind==.function&&env.kindOf n==some .cell)then(n,NameKind.cell)else(n,k)).lookup x=none
 | [],_,_=>rfl
 | (n,k)::r,x,h=>by
  have z:=@qq env r x;show ot x ((if(k==NameKind.free&&env.scope.kind==.function&&env.kindOf n==some .cell)=true then(n,NameKind.cell)else(n,k))::_)=_;cases hx:x==n with
  | true=>simp only[bz,hx]at h;cases h
  | false =>
   simp only[bz,hx]at h;by_cases hc:(k==NameKind.free&&env.scope.kind==.function&&env.kindOf n==some .cell)=true
   .rw[if_pos hc];simp only[bz,hx];exact z h
   .rw[if_neg hc];simp only[bz,hx];exact z h
def aw1 {W:St}{fp:List Addr}
  (G:CompCk N' src scope X.N X.env.scope) (I:Inv X a5 W H s) (hf:∀ b∈fp,FpOk X a5 H b) (a7:∀ b∈fp,b<s.heap.objs.size)
  (e4:∃ tk,s4={ s with heap:=gf (s.heap.push { cls:=.type "dict",data:=.dict #[] }) scope.names,toks:=tk }) :
  Inv (zM X N' scope s.heap.objs.size (bO (s.heap.objs.size+1) scope.names (au8 X.env.cells scope.names [])) s H fp) [] (aH2 src W) H s4:=by
 obtain⟨tk,rfl⟩:=e4;have hk:∀ b o,s.heap.get? b=some o->(gf (s.heap.push { cls:=.type "dict",data:=.dict #[] }) scope.names).get? b=some o:=λ b o e=>gS _ _ b o (ao _ e);have ok:=cellsFrom_ok scope.names (s.heap.push { cls:=.type "dict",data:=.dict #[] }) (s.heap.objs.size+1) [] ⟨λ _ _ hm=>(nomatch hm),List.Pairwise.nil⟩ (by rw[dD];exact au _);rw[dD]at ok;have a0:=zP scope.names (s.heap.objs.size+1) (au8 X.env.cells scope.names []);have lk:∀ x c,(bO (s.heap.objs.size+1) scope.names (au8 X.env.cells scope.names [])).lookup x=some c ->
   ((x,c)∈bO (s.heap.objs.size+1) scope.names []/\(x,NameKind.cell)∈scope.names)\/(X.env.cells.lookup x=some c/\(bO (s.heap.objs.size+1) scope.names []).lookup x=none):=λ x c e=>by
  rw[a0,jd]at e;cases q:(bO (s.heap.objs.size+1) scope.names []).lookup x with
  | some d =>
   rw[q]at e;have e':d=c:=aC e;subst e';have hm:=bF q;refine .inl ⟨hm,?_⟩;rcases zX hm with z|z
   .exact z
   .exact absurd z (by simp)
  | none =>
   rw[q]at e;have e':(au8 X.env.cells scope.names []).lookup x=some c:=e;rcases clOf_mem (bF e')with z|z
   .exact .inr ⟨z,rfl⟩
   .exact absurd z (by simp)
 have up:∀ x c,(x,c)∈bO (s.heap.objs.size+1) scope.names []->s.heap.objs.size+1<=c:=λ x c h=>(ok.empty x c h).2;have old:∀ x c,X.env.cells.lookup x=some c->c<s.heap.objs.size:=λ x c h=>by
  obtain⟨v,q⟩:=I.cell x c h;exact q.lt
 have a4:∀ b,b<s.heap.objs.size->b≠s.heap.objs.size:=λ b h=>aK h;have a9:∀ b∈fp,H b=none/\b≠X.env.locals/\b ∉ X.fs:=λ b hb=>⟨(hf b hb).1,(hf b hb).2.1,(hf b hb).2.2.1⟩
 have b1:(gf (s.heap.push { cls:=.type "dict",data:=.dict #[] }) scope.names).Ns s.heap.objs.size (λ _=>none):=(Heap.Ns.new s.heap (.type "dict")).keeps (gS _ _);have Z:∀ x k,scope.names.lookup x=some k->(eX scope X.env).names.lookup x=some (if(k==NameKind.free&&X.env.scope.kind==.function&&X.env.kindOf x==some .cell)then NameKind.cell else k):=λ x k e=>zY (env:=X.env) e;have a3:∀ x,scope.names.lookup x=none->(eX scope X.env).names.lookup x=none:=λ x e=>qq (env:=X.env) e;have b0:∀ x c,(x,NameKind.free)∈scope.names->X.env.cells.lookup x=some c->(bO (s.heap.objs.size+1) scope.names (au8 X.env.cells scope.names [])).lookup x=some c:=λ x c hx hc=>by
  rw[a0,jd];cases q:(bO (s.heap.objs.size+1) scope.names []).lookup x with
  | some d =>
   rcases zX (bF q)with z|z
   .have:=G.cel _ z rfl _ hx rfl;cases this
   .exact absurd z (by simp)
  | none=>exact aI6 hc hx
 have a6:∀ x,(x,NameKind.free)∈scope.names->∃ c,X.env.cells.lookup x=some c:=λ x hx=>I.ok.has x (G.fr _ hx rfl);refine⟨⟨I.ok.mod,G.kind,I.ok.glob,I.ok.blt,au _,λ x y c e1 e2=>?_,λ x hx=>?_,λ x c hx e=>?_,I.ok.hd,I.ok.frames,.inl rfl,λ b hb=>⟨a4 b (a7 b hb),λ x c e z=>?_⟩,I.bs,ar I.ok.bsz I.sz,λ b o e hb=>?_,λ b hb z=>?_,I.stack,I.stkFree⟩,
  rfl,I.bare,Un.kept hk,⟨_,b1,λ i x v e1 e2 e3=>?_⟩,λ x c e=>?_,I.hok.fresh (au _),λ x c e=>?_,λ p hp=>absurd (show p∈([]:yA)from hp) (by simp),I.hok.kept hk,by unfold aH2;rw[aq];exact G.len⟩
 .rcases lk x c e1 with⟨a1,_⟩|⟨a1,_⟩<;>rcases lk y c e2 with⟨a2,_⟩|⟨a2,_⟩
  .exact name_of_addr ok.apart a1 a2
  .exact absurd (aL (old _ _ a2) (iC (up _ _ a1))) (bG _)
  .exact absurd (aL (old _ _ a1) (iC (up _ _ a2))) (bG _)
  .exact I.ok.inj x y c a1 a2
 .cases q:scope.names.lookup x with
  | none =>
   have J:(eX scope X.env).names.lookup x=some .cell\/(eX scope X.env).names.lookup x=some .free:=hx;rw[a3 x q]at J;rcases J with z|z<;>cases z
  | some k =>
   have J:(eX scope X.env).names.lookup x=some .cell\/(eX scope X.env).names.lookup x=some .free:=hx;rw[Z x k q]at J;cases k with
   | free =>
    obtain⟨c,hc⟩:=a6 x (bF q);exact⟨c,b0 x c (bF q) hc⟩
   | cell =>
    obtain⟨c,hc⟩:=ap2 (n:=s.heap.objs.size+1) q;exact⟨c,by show(bO _ _ _).lookup x=_;rw[a0,jd,hc];rfl⟩
   | _=>rcases J with z|z<;>cases z
 .have J:(scope.names.lookup x==some .cell)=true:=hx;have q:scope.names.lookup x=some .cell:=by simpa using J
  rcases lk x c e with⟨a,_⟩|⟨a,b⟩
  .have:=up _ _ a;show s.heap.objs.size<=c;lia
  .obtain⟨d,hd⟩:=ap2 (n:=s.heap.objs.size+1) q;rw[hd]at b;cases b
 .subst z;rcases lk x c e with⟨a,_⟩|⟨a,_⟩
  .exact absurd (aL (a7 c hb) (iC (up _ _ a))) (bG _)
  .exact(hf c hb).2.2.2.2.1 x c a rfl
 .rcases(hf b hb).2.2.2.1 with z|z
  .exact I.ok.noex b o e z
  .exact absurd (aL (aJ e) (ar I.ok.bsz z)) (bG _)
 .rcases az.mp (I.stkSub b z)with y|y
  .exact(a9 b hb).2.1 y
  .exact(a9 b hb).2.2 y
 .have F:(aH2 src W)[i]?=some (some v):=e2;unfold aH2 at F;rw[aQ]at F;cases q:src[i]? with
  | none=>rw[q]at F;cases F
  | some o =>
   rw[q]at F;cases o with
   | none=>cases F
   | some j =>
    have Y:(W[j]?).join=some v:=aC F;have ej:W[j]?=some (some v):=by
     cases q2:W[j]? with
     | none=>rw[q2]at Y;cases Y
     | some o2=>rw[q2]at Y;exact congrArg some Y
    obtain⟨h1,h2⟩:=G.sr i j x q e1;have hm:=bF h2;obtain⟨mX,b3,b2⟩:=I.loc;have a8:Vis X.env.scope x:=by
     rcases G.fr _ hm rfl with z|z
     .exact .inr (.inl z)
     .exact .inr (.inr z)
    obtain⟨u,ru,look⟩:=b2 j x v h1 ej a8;refine⟨u,ru,.inr ?_⟩;have hcell:∃ c,X.env.cells.lookup x=some c/\s.heap.IsCell c (some u):=by
     rcases look with⟨z,_⟩|⟨_,c,z1,z2⟩
     .have z':X.env.scope.names.lookup x=some .local:=z;rcases G.fr _ hm rfl with y|y<;>(rw[z']at y;cases y)
     .exact⟨c,z1,z2⟩
    obtain⟨c,c1,c2⟩:=hcell;refine⟨?_,c,b0 x c hm c1,c2.keeps hk⟩;show(eX scope X.env).names.lookup x=some .cell\/(eX scope X.env).names.lookup x=some .free;rw[Z x _ h2];by_cases hc:(NameKind.free==NameKind.free&&X.env.scope.kind==.function&&X.env.kindOf x==some .cell)=true
    .rw[if_pos hc];exact .inl rfl
    .rw[if_neg hc];exact .inr rfl
 .rcases lk x c e with⟨a,_⟩|⟨a,_⟩
  .exact⟨_,(ok.empty x c a).1⟩
  .obtain⟨v,q⟩:=I.cell x c a;exact⟨v,q.keeps hk⟩
 .rcases lk x c e with⟨a,_⟩|⟨a,_⟩
  .exact I.hok.fresh (by have:=up _ _ a;lia)
  .exact I.freeC x c a
def aR2 {W W':St}
  (I:Inv X F W H s) (hf:∀ b∈Z,FpOk X F H b) (J:Inv (zM X N' scope s.heap.objs.size cells s H Z) [] W' Y s5) (hs:cO s.heap.objs.size s5.heap h') :
  Inv X F W Y { s5 with heap:=h' }:=by
 have G:∀ b o,s.heap.get? b=some o->b≠s.heap.objs.size:=λ b o e=>aK (aJ e);have u:=J.base;refine I.call' J.os ⟨λ b o e n hb hx=>?_,λ b o e n hb hx=>?_,λ b o e n hx=>u.free b o e n hx,λ b o e hx=>?_,u.tups,u.frzs,u.tbls⟩ (λ b o e=>?_) J.bare λ b hb=>⟨(hf b hb).2.2.2.1,(hf b hb).2.1,(hf b hb).2.2.2.2.1,(hf b hb).2.2.2.2.2⟩
 .exact(hs.2 b (G b o e)).trans (u.keep b o e n hb hx)
 .obtain⟨sl,q⟩:=u.slot b o e n hb hx;exact⟨sl,(hs.2 b (G b o e)).trans q⟩
 .obtain⟨o',q⟩:=u.there b o e hx;exact⟨o',(hs.2 b (G b o e)).trans q⟩
 .have fr:=J.free;refine(J.hok b o e).stay (λ c w' hc q=>(hs.2 c ?_).trans q) (λ _ q=>q) λ _ _ q=>q
  rintro rfl
  rcases hc with z|hc
  .rw[<-z,fr]at e;cases e
  .rw[fr]at hc;cases hc
def ak1 {F:yB}
  (h:Q { scope:=scope,locals:=s.heap.objs.size,globals:=globals,cells:=bO (s.heap.objs.size+1) scope.names F,qual:=qual,func:=none,code:=z.code,frame:=z.frame,builtins:=z.builtins }
   { s with heap:=gf (s.heap.push { cls:=.type "dict",data:=.dict #[] }) scope.names }) :
  wpAny M A (newFunctionEnv scope globals F [] qual none .none (some z)) Q E s:=by
 simp only[newFunctionEnv,io];refine ac (wpAny_alloc ?_);refine ac (wpAny_layCells _ (λ name kind cells=>by cases hkc:kind==NameKind.cell<;>simp[]) _ _ _ _ ?_);rw[dD ..];refine ac ?_;rw[kg];exact am (am h)
def aH6 {Ww:Nat->Nat->St->Hp->Prop}
  {QD:Hp->Prop} {W0:St} (hx:X'.xe=λ _ _=>False) (G:X'.calm=true) (I4:Inv X' [] W0 H0 s4) (T:Turn X'.prog X'.w X'.K tg J fp it tn) (a6:tn 0 s4.heap)
  (F:∀ H':Hp,(∀ b∈fp,H' b=none)->∀ b∈fp,FpOk X' [] H' b) (a5:∀ b∈fp,H0 b=none) (w0:Ww 0 m0 W0 H0)
  (turn:∀ i m W' H',Ww i m W' H'->(J.stop i H'/\QD H')\/(J.go i H'/\∃ N:St->Hp->Prop,(∀ W2 H2,N W2 H2->∃ m',m'<m/\Ww (i+1) m' W2 H2) /\
   ∀ x H2,J.yld i H' x H2->g x W' H2 λ W3 Y=>tc W3 Y λ b H4=>if b=true then te W3 H4 λ v H5=>∃ ys,H5 D=some (.J ys)/\ys.length<aV/\N W3 (upd H5 D (.J (ys++[v])))else N W3 H4))
  (hg:PG X' tg g) (hif:PIf X' ifs tc) (he:PE X' elt te) (a2:∀ W' H' s',Inv X' [] W' H' s'->QD H'->R (.ok .next) s') :
  gA (model X'.prog X'.w) X'.A (.compLoop (.ListComp elt [⟨tg,iter,ifs,0⟩] scope pos) 0 (.ref it) (.ref D) X'.env) R s4:=by
 have nox:∀ {α:Type} {t:Sem α} {Q Q':α->ag->Prop} {E:Value->ag->Prop} {s:ag},wpAny (model X'.prog X'.w) X'.A t Q X'.xe s->(∀ a s,Q a s->Q' a s)->wpAny (model X'.prog X'.w) X'.A t Q' E s :=
  λ h hQ=>bw h hQ λ _ _ z=>by rw[hx]at z;exact z.elim
 refine bl9 (λ n s'=>∃ i W' H',Inv X' [] W' H' s'/\tn i s'.heap/\(∀ b∈fp,H' b=none)/\Ww i n W' H') ?_ m0 ⟨0,W0,H0,I4,a6,a5,w0⟩
 rintro n s3 ⟨i,W3,Y,I3,a0,a1,w3⟩
 rcases turn i n W3 Y w3 with⟨stop,qn⟩|⟨go,N,hN,step⟩
 .refine nox (T.done X' rfl rfl rfl G i [] s3 W3 Y X'.xe I3 (F Y a1) a0 stop) λ r s4 ⟨hr,I4⟩=>?_;subst hr;exact a2 W3 Y s4 I4 qn
 .refine nox (T.item X' rfl rfl rfl G i [] s3 W3 Y X'.xe I3 (F Y a1) a0 go) λ r s4 ⟨u,hr,h4⟩=>?_;subst hr;refine nox h4 λ _ s5 ⟨x,H5,I5,r5,y5,Z,a4⟩=>?_;have a3:=I5.pinned (F H5 a4) (T.obj _ _ Z);refine nox (hg _ s5 W3 H5 x u _ a3 r5 (step x H5 y5)) λ _ s6 ⟨W6,H6,I6,q6⟩=>?_;have again:∀ {W7:St} {H7:Hp} {s7:ag},Inv X' ([]++aF3 fp s5.heap) W7 H7 s7->N W7 H7->∃ m,m<n/\∃ i W' H',Inv X' [] W' H' s7/\tn i s7.heap/\(∀ b∈fp,H' b=none)/\Ww i m W' H':=λ {W7 H7 s7} I7 n7=>by
   obtain⟨m',hm,w7⟩:=hN W7 H7 n7;refine⟨m',hm,i+1,W7,H7,I7.unpinned,T.keep _ _ _ Z λ b hb o e=>(I7.pin (b,o) (aG _ (aG _ (je hb e)))).1,λ b hb=>?_,w7⟩;obtain⟨o,e,d⟩:=T.obj _ _ Z b hb;exact(I7.pin (b,o) (aG _ (aG _ (je hb e)))).2.1
  refine nox (hif _ s6 W6 H6 _ I6 q6) λ b s7 ⟨H7,I7,q7⟩=>?_;cases b with
  | false =>
   rw[if_neg aH]at q7 ⊢;exact again I7 q7
  | true =>
   rw[if_pos rfl]at q7 ⊢;refine nox (he _ s7 W6 H7 _ I7 q7) λ v s8 ⟨y,H8,I8,r8,ys,hy,hz,q8⟩=>?_;refine nox (aq3 _ s8 W6 H8 (.ref D) [y] (.ref D) [v] (λ _ H9=>N W6 H9) I8 rfl (.cons r8 .nil) ⟨D,ys,y,rfl,rfl,hy,hz,q8⟩) λ v9 s9 ⟨_,H9,I9,_,q9⟩=>?_;exact again I9 q9
def aK4 Z src 
  (a5:zU Z src scope X.N X.env.scope=true) (hi:PI X tg iter wi) (Y:X.calm=true)
  (a8:∀(Cc:Addr) (cells:yB) (s:ag) (H:Hp) (ex:List Addr),PG (zM X Z scope Cc cells s H ex) tg g/\PIf (zM X Z scope Cc cells s H ex) ifs tc/\PE (zM X Z scope Cc cells s H ex) elt te)
  (hs:autoParam (∀ x,eW iter X.env x=pure x) Zq3._auto_1):PE X (.ListComp elt [⟨tg,iter,ifs,0⟩] scope pos) (tComp src wi g tc te):=by
 intro z s W H Q I h;have ck:=bB4 a5;rw[eval_ListComp];have hcl:=aj6 λ y hy e=>I.ok.has y.1 (ck.fr y hy e);refine iQ rfl hs hcl ck.kind ck.loc (thn (hi z s W H _ I h) λ v s1 h1=>thn h1 λ b0 s2 h2=>?_);obtain⟨it,F,tn,J,H2,e,I2,T,a2,f2,Ww⟩:=h2;subst e;have hD:=I2.fresh;obtain⟨Ww,⟨m0,w0⟩,turn⟩:=Ww _ hD;have I3:=I2.lnew (t':=s2.toks) .nil (b9 _);have a3:∀ b∈F,b<s2.heap.objs.size:=λ b hb=>by obtain⟨o,q,_⟩:=T.obj _ _ a2 b hb;exact aJ q
 have f3:∀ b∈F,FpOk X z (upd H2 s2.heap.objs.size (.J [])) b:=λ b hb=>⟨by rw[zc (aK (a3 b hb))];exact(f2 b hb).1,(f2 b hb).2⟩
 refine bp (ak1 ?_);generalize G:({ s2 with heap:=s2.heap.push { cls:=.type "list",data:=.seq ([]).toArray },toks:=s2.toks })=s3 at I3;have a9:=G;have a4:∀ b∈F,b<s3.heap.objs.size:=λ b hb=>by
  rw[<-G];rw[dD];exact iD (a3 b hb)
 have I4:=aw1 (s4:={ s3 with heap:=gf (s3.heap.push { cls:=.type "dict",data:=.dict #[] }) scope.names }) ck I3 f3 a4 ⟨_,rfl⟩;have a1:tn 0 (gf (s3.heap.push { cls:=.type "dict",data:=.dict #[] }) scope.names):=T.keep _ _ _ a2 λ b hb o e=>gS _ _ b o (ao _ (by rw[<-G];exact ao _ e));obtain⟨hg,hif,he⟩:=a8 s3.heap.objs.size (bO (s3.heap.objs.size+1) scope.names (au8 X.env.cells scope.names [])) s3 (upd H2 s2.heap.objs.size (.J [])) F;have a0:∀ H':Hp,(∀ b∈F,H' b=none)->∀ b∈F,FpOk (zM X Z scope s3.heap.objs.size (bO (s3.heap.objs.size+1) scope.names (au8 X.env.cells scope.names [])) s3 (upd H2 s2.heap.objs.size (.J [])) F) [] H' b:=λ H' hn b hb =>
  ⟨hn b hb,(I4.ok.exf b hb).1,I4.ok.exfs b hb,.inl hb,λ x c e=>(I4.ok.exf b hb).2 x c e,λ p hp=>absurd (hp) (by simp)⟩
 have T':=T;have a6:=λ b hb=>(f3 b hb).1;have L:=aH6 (X':=zM X Z scope s3.heap.objs.size (bO (s3.heap.objs.size+1) scope.names (au8 X.env.cells scope.names [])) s3 (upd H2 s2.heap.objs.size (.J [])) F) (R:=compPost (model X.prog X.w) X.A X.xe none (EP X z W Q) (Value.ref s2.heap.objs.size) s3.heap.objs.size) (iter:=iter) (scope:=scope) (pos:=pos) rfl Y I4 T' a1 a0 a6 w0 turn hg hif he
  (λ W' H' s' J' q=>by
   obtain⟨mm,hn,_⟩:=J'.loc;exact⟨mm,hn,λ h' a7=>⟨.ref s2.heap.objs.size,H',aR2 I3 f3 J' a7,rfl,q⟩⟩)
 exact jD L (T.self _ _ _ _ _ a1 L)
section
variable {X:Cx}
def co4:bC "abs"=some (.builtin "abs"):=by decide +kernel
def cu3:bC "len"=some (.builtin "len"):=by decide +kernel
def bM9:bC "min"=some (.builtin "min"):=by decide +kernel
def co3:bC "max"=some (.builtin "max"):=by decide +kernel
def cs4:bC "all"=some (.builtin "all"):=by decide +kernel
def qP:bC "isinstance"=some (.builtin "isinstance"):=by decide +kernel
def cf6:bC "int"=some (.type "int"):=by decide +kernel
def bX7:bC "bool"=some (.type "bool"):=by decide +kernel
def bY8:bC "str"=some (.type "str"):=by decide +kernel
def bm3:bC "tuple"=some (.type "tuple"):=by decide +kernel
def by2:bC "list"=some (.type "list"):=by decide +kernel
def cr1 (i j:Int):Prop:=0<j/\j<2^4096
def aX5 {y:Int}(h0:0<y)(h:y<2^4096):y.natAbs.log2<9000:=by
 have hn:=by
  have:(y.natAbs)=y:=by lia
  have z:(y.natAbs)<((2^4096):Int):=by rw[this];simpa using h
  exact lP.mp z
 have:=(Nat.log2_lt (by lia)).mpr hn;lia
def bp5:OpR X (c5 .FloorDiv) (rI cr1 λ i j=>.int (i / j)):=opI λ i j _ _ _ _ _ hc q=>by
 refine floordiv_int (by have:=hc.1;omega) ?_ (.inl (PyProof.noPylong_of_log2 (aX5 hc.1 hc.2)));rw[Int.fdiv_eq_ediv_of_nonneg i (by have:=hc.1;lia)];exact q
def aP5 {K}(z:X.K=K):IxR X (cx5 K):=by subst z;exact aZ3
def bQ7 {K}(z:X.K=K):IxR X (cu7 K):=by subst z;exact ix_tup
def as4 {K}(z:X.K=K):ad8 X (.builtin "len") (λ F H Q=>∃ p ys,F=[.ref p]/\(SqL K H p ys\/SqT K H p ys)/\Q (.int ys.length) H):=by subst z;exact aE2
def aN7 {K}(z:X.K=K):ad8 X (.type "tuple") (λ F H Q=>∃ p ys,F=[.ref p]/\((SqL K H p ys/\∀ l,H l=none->Q (.ref l) (upd H l (.tp ys)))\/(SqT K H p ys/\Q (.ref p) H))):=by subst z;exact aA5
def aY8 {K}(z:X.K=K):ad8 X (.type "list") (λ F H Q=>∃ p ys,F=[.ref p]/\(SqL K H p ys\/SqT K H p ys)/\∀ l,H l=none->Q (.ref l) (upd H l (.J ys))):=by subst z;exact aH0
def bn9 {K}(F:X.K=K)(hl:PE X l z):PI X tg l (bR4 K z):=by subst F;exact bL9 hl
def bK8 {K}(F:X.K=K)(hl:PE X l z):PI X tg l (cu4 K z):=by subst F;exact cc4 hl
def bI0 {K}{pos}{k}(F:X.K=K)(hc:X.calm=true)(h:PGs X es t)
  (hn:autoParam ((dB es X.env).length=n) Zq4._auto_1) (z:autoParam ((dB es X.env).findIdx? (·.1)=none) Zq4._auto_1):PG X (.Tuple es k pos) (cl7 K n t):=by subst F;exact bz8 hc h hn z
end
structure DefAt (K:af)(mg:yC)(x:Str)(st:Stmt)(ps:yH)(f:Addr)(fd:cw):Prop where
 fn:Fun K x x st f fd
 mg:mg x=some (.ref f)
 bi:Binds K fd ps []
@[irreducible] noncomputable def cA1 (p:Prop):Prop:=p
def af0.new (h:af0 H z)(hp:z p=none):af0 H (L2.upd z p o):=λ x o e=>by
 have e1:=h x o e;rw[zc (zf e1 hp)];exact e1
section
variable {prog:aM} {w:World} {A:be} {R:l7->ag->Prop} {I:Addr} {fp wr:List Addr} {n:Nat} {P:Nat->Value->Prop} {St:Nat->Heap->Prop} {kw:List (Str×Value)}
def aZ7 (Ww:Walks prog w A.in1 I fp wr n P St) bt (a7:CmpOf prog w A.in1 .Lt P bt) S (a9:S ∉ fp) :
  ∀ k j s vb c ,n - (j+1)=k->j+1<=n->St (j+1) s.heap->P (cF bt j) vb ->
  s.heap.get? S=some { cls:=.type "list",dict:=none,data:=.seq #[vb,vb] c,slots:=#[] } ->
  (∀ v h' tk,P (cF bt (n - 1)) v->(∀ b o,b ∉ wr->b≠S->s.heap.get? b=some o->h'.get? b=some o)->R (.ok (.ret v)) { s with heap:=h',toks:=tk }) ->
  gA (model prog w) A (.builtin "min.loop" ⟨[.ref I,.none,.ref S],kw⟩) R s:=by
 have a6:=λ h=>a9 (Ww.sub _ h);have Z:(toString "min"++toString ".loop":String) = "min.loop":=by decide
 intro k
 induction k with
 | zero =>
  intro j s vb c hk hj a3 a1 hS hR;have a8:j+1=n:=by lia
  refine dJ i8 ?_;rw[c8 dv _];refine ac (cN hS rfl ?_);refine ac (cP (Ww.done s _ _ (a8▸a3) λ h' tk G=>?_));have a0:=G S _ a6 hS;refine ac ?_;refine eL a0 rfl (ac (em (am ?_)));refine hR vb _ tk (by rw[<-a8];exact a1) λ b o z F e=>(bq _ _ (dk F)).trans (G b o z e)
 | succ k ih =>
  intro j s vb c hk hj a3 a1 hS hR;have hlt:j+1<n:=by omega
  refine dJ i8 ?_;rw[c8 dv _];show wpAny _ A.in1 (gh (.ref S) >>= _) _ _ s;refine ac (cN hS rfl ?_);show wpAny _ A.in1 (tryCatch (f8 (.ref I)) _ >>= _) _ _ s;refine ac (cP (Ww.item (j+1) s _ _ hlt a3 λ v h' tk hP a2 G=>?_));have a0:=G S _ a6 hS;show wpAny _ A.in1 (tryCatch (kF [v,v] (richCompare .Lt v vb >>= _)) _ >>= _) _ _ _;refine ac (cP (cn (ac (a7 (j+1) (cF bt j) v vb _ _ _ hP a1 ?_))));refine ac (cn (bI ?_));refine ac (em (am ?_));cases hb:bt (j+1) (cF bt j)with
  | true =>
   simp only[if_true];refine ac ?_;refine eL a0 rfl (ac (em ?_));rw[Z];refine am ⟨dY dv _,ih (j+1) _ v _ (by omega) hlt (Ww.frame _ _ _ a2 λ b b0 o e=>?_) (by simp only[cF,hb,if_true];exact hP) (cU _ a0 rfl)
    λ v' a5 Y a4 J=>?_⟩
   .exact(bq _ _ (λ h:S=b=>a9 (by rw[h];exact b0))).trans e
   .exact hR v' a5 Y a4 λ b o z F e=>J b o z F ((bq _ _ (dk F)).trans (G b o z e))
  | false =>
   simp only[bE,if_false];refine ac (em ?_);rw[Z];refine am ⟨dY dv _,ih (j+1) _ vb c (by omega) hlt a2 (by simp only[cF,hb,bE,if_false];exact a1) a0 λ v' a5 Y a4 J=>?_⟩;exact hR v' a5 Y a4 λ b o z F e=>J b o z F (G b o z e)
def aW7 (Ww:Walks prog w A.in1 I fp wr n P St) bt (a0:CmpOf prog w A.in1 .Lt P bt) S (J:S ∉ fp)(Y:St 0 s.heap)
  (hS:s.heap.get? S=some { cls:=.type "list",dict:=none,data:=.seq #[] c,slots:=#[] })
  (h0:n=0->∀ h' tk,(∀ b o,b ∉ wr->b≠S->s.heap.get? b=some o->h'.get? b=some o)->R (.ok (.ret d)) { s with heap:=h',toks:=tk })
  (hR:0<n->∀ v h' tk,P (cF bt (n - 1)) v->(∀ b o,b ∉ wr->b≠S->s.heap.get? b=some o->h'.get? b=some o)->R (.ok (.ret v)) { s with heap:=h',toks:=tk }) :
  gA (model prog w) A (.builtin "min.loop" ⟨[.ref I,.none,.ref S],[(aZ "default",d)]⟩) R s:=by
 have a6:=λ h=>J (Ww.sub _ h);have G:(toString "min"++toString ".loop":String) = "min.loop":=by decide
 refine dJ i8 ?_;rw[c8 dv _];refine ac (cN hS rfl ?_);show wpAny _ A.in1 (tryCatch (f8 (.ref I)) _ >>= _) _ _ s;rcases lu n with hn|hn
 .refine ac (cP (Ww.done s _ _ (hn▸Y) λ h' tk F=>?_));show wpAny _ A.in1 (rule _ >>= _) _ _ _;refine ac (hZ (am ?_));exact h0 hn h' tk λ b o z _ e=>F b o z e
 .refine ac (cP (Ww.item 0 s _ _ hn Y λ v h' tk hP a3 F=>?_));have a4:=F S _ a6 hS;show wpAny _ A.in1 (mr S (λ _=>#[v,v]) >>= _) _ _ _;refine ac ?_;refine eL a4 rfl ?_;rw[G];refine am ⟨dY dv _,aZ7 Ww bt a0 S J _ 0 _ v _ rfl hn (Ww.frame _ _ _ a3 λ b a5 o e=>?_) hP (cU _ a4 rfl) λ v' a8 a2 a7 a1=>?_⟩
  .exact(bq _ _ (λ h:S=b=>J (by rw[h];exact a5))).trans e
  .exact hR hn v' a8 a2 a7 λ b o z Z e=>a1 b o z Z ((bq _ _ (dk Z)).trans (F b o z e))
end
def aZ6  a d :argsOk "min" ⟨[a],[(aZ "default",d)]⟩:=by unfold argsOk;kernel_rfl
theorem ji (val : Nat -> Int) : ∀ k j, j <= k -> val (cF (λ i j => decide (val i < val j)) k) <= val j
  | 0, j, h => by have : j = 0 := by lia
                  subst this; exact dP _
  | k + 1, j, h => by
    have ih := ji val k;unfold cF;by_cases hb : val (k + 1) < val (cF (λ i j => decide (val i < val j)) k)
    . rw[if_pos (by simpa using hb)]
      by_cases hj : j = k + 1
      . subst hj; exact dP _
      . have := ih j (by lia); lia
    . rw[if_neg (by simpa using hb)]
      by_cases hj : j = k + 1
      . subst hj; omega
      . exact ih j (by omega)
def bH7 (K:af):V->V->Hp->VK->Prop:=λ x d H Q=>∃ a ns,x=.ref a/\SqL K H a (ns.map V.int)/\(ns=[]->Q d H)/\∀ m∈ns,(∀ y∈ns,m<=y)->Q (.int m) H
def al1 {ns:List Int}{its:yG}(r:Vals (ns.map V.int) its){i:Nat}(h:its[i]?=some v):∃ z t,ns[i]?=some z/\v=Value.int z t:=by
 have hl:=r.length;rw[aq]at hl;have F:=(ae.mp h).1;obtain⟨u,e1,q⟩:=r.get (i:=i) (by rw[aQ,ai (by omega)];rfl);rw[h]at e1;cases e1;obtain⟨t,rfl⟩:=q;exact⟨_,t,ai (by omega),rfl⟩
def bt8 {W:St}(hc:X.calm=true)(I:Inv X G W H s)(rx:RelV x u)(rd:RelV d w')(h:bH7 X.K x d H Q) :
  wpAny (model X.prog X.w) X.A (call (.builtin "min") [u] [(aZ "default",w')]) (EP X G W Q) X.xe s:=by
 obtain⟨a,ns,rfl,hS,q0,qm⟩:=h;cases rx;obtain⟨its,rv,pl,hz⟩:=I.list hS;have hl:=rv.length;rw[aq]at hl;have Z:(toString "min"++toString ".loop":String) = "min.loop":=by decide
 refine kmb_tree F.kind_min F.plain_min F.entry_min (aZ6 _ _) ?_;refine ac (iE (rfl) ?_);refine ac (am ?_);refine ac (dg pl.isList ?_);have a1:a<s.heap.objs.size:=by obtain⟨o,_,e,_⟩:=pl;exact aJ e
 have Ww:=jE (prog:=X.prog) (w:=X.w) (A:=X.A.in1) (I.ok.hd hc) s.heap.objs.size a (aK a1) its.toArray;refine ac (bp ?_);generalize Y:s.heap.push _=h2;have J:h2.objs.size=s.heap.objs.size+1:=by rw[<-Y,dD]
 have a0:∀ b o,s.heap.get? b=some o->h2.get? b=some o:=λ b o e=>by rw[<-Y];exact ao _ e
 have a3:h2.objs.size ∉ [s.heap.objs.size,a]:=by
  rw[J];intro z;rcases az.mp z with z|z
  .exact absurd z (mw _)
  .have z':=by simpa using z
   exact absurd (aL a1 (by rw[<-z'];exact dQ _)) (bG _)
 have a4:(h2.push { cls:=.type "list",data:=.seq ([]:yG).toArray }).IsListIter s.heap.objs.size a 0/\(h2.push { cls:=.type "list",data:=.seq ([]:yG).toArray }).IsList a its.toArray:=by
  refine⟨⟨_,ao _ (by rw[<-Y];exact aI _ rfl),rfl,rfl⟩,?_⟩;obtain⟨o,e,r⟩:=pl.isList;exact⟨o,ao _ (a0 _ _ e),r⟩
 let val:=λ i=>ns.getD i 0
 have a2:∀ i v,its.toArray[i]?=some v->∃ t,v=Value.int (val i) t:=λ i v e=>by
  obtain⟨z,t,e1,e2⟩:=al1 rv (by rw[cb]at e;exact e);refine⟨t,?_⟩;rw[e2];show Value.int z t=Value.int (ns.getD i 0) t;rw[aO,e1];rfl
 rw[Z];have nx:∀(h':Heap) (tk:Nat),(∀ b o,b ∉ [s.heap.objs.size]->b≠h2.objs.size->(h2.push { cls:=.type "list",data:=.seq ([]:yG).toArray }).get? b=some o->h'.get? b=some o)->Inv X G W H { s with heap:=h',toks:=tk }:=λ h' tk k=>I.kept λ b o e=>by
  refine k b o ?_ ?_ (ao _ (a0 b o e))
  .intro z;have z':b=s.heap.objs.size:=by simpa using z
   exact absurd (aJ e) (by rw[z'];exact bG _)
  .intro z;exact absurd (aJ e) (by rw[z,J];exact lv.mpr (dQ _))
 refine am ⟨dY dv _,aW7 (d:=w') Ww _ (nS val a2) h2.objs.size a3 a4 (aI _ rfl) (λ hn h' tk k=>?_) λ hn v h' tk hP k=>?_⟩
 .have e:ns=[]:=by
   have:its.toArray.size=0:=hn;have:its.length=0:=by simpa using this
   exact bM.mp (by lia)
  exact⟨d,H,nx h' tk k,rd,q0 e⟩
 .obtain⟨z,t,e1,e2⟩:=al1 rv (i:=cF (λ i j=>decide (val i<val j)) (its.toArray.size - 1)) (v:=v) (by rw[cb]at hP;exact hP);subst e2;have hv:val (cF (λ i j=>decide (val i<val j)) (its.toArray.size - 1))=z:=by
   show ns.getD _ 0=z;rw[aO,e1];rfl
  refine⟨.int z,H,nx h' tk k,⟨t,rfl⟩,qm z (aE e1) λ y hy=>?_⟩;obtain⟨j,hj,e3⟩:=ci.mp hy;have:=ji val (its.toArray.size - 1) j (by simp only[aw];lia);rw[hv]at this;have e4:val j=y:=by
   show ns.getD j 0=y;rw[aO,ai hj];exact e3
  lia
def cs1 (K:af)(ta td:TE):TE:=λ W H Q=>ta W H λ x H1=>td W H1 λ d H2=>bH7 K x d H2 Q
def bJ9 {K}(hK:X.K=K)(hc:X.calm=true)(hg:Gl X "min")(hm:X.mg "min"=none)(ha:PE X e F)(hd:PE X Z Y)
  (hs:autoParam (bB [e] X.env=[(false,eval e X.env)]) Zq4._auto_1) :
  PE X (.Call (.Name "min" p) [e] [⟨some "default",Z,kp⟩] pos) (cs1 K F Y):=by
 subst hK;intro z s W H Q I h;refine cW (at5 I hg hm bM9 ?_);have h':aj4 F aW4 W H (λ vs J=>match vs with|[x]=>Y W J λ d H2=>bH7 X.K x d H2 Q|_=>False):=h;refine callWith_kw (thn ((zp ha ad2 hs) pos z s W H _ I h') λ us s1 ⟨vs,J,I1,r1,G⟩=>?_) (by rw[hs];rfl) (by rw[hs];rfl)
 match vs,G,r1 with
 | [x],G,r1 =>
  obtain⟨u,rfl,ru⟩:=qR r1;refine kws_cons (thn (hd z s1 W J _ I1 G) λ v s2 ⟨d,H2,I2,rd,q2⟩=>kws_nil ?_);exact bt8 hc I2 ru rd q2
inductive D where
 | N|T (b:Bool)|int (i:Int)|str (x:Str)|tp (l:List D)|J (l:List D)
noncomputable abbrev D.ctorIdx (x:D):Nat:=D.casesOn x 0 (λ _=>1) (λ _=>2) (λ _=>3) (λ _=>4) (λ _=>5)
mutual
noncomputable def D.deep:D->Nat
 | .tp l=>D.deepL l+1
 | .J l=>D.deepL l+1
 | _=>0
noncomputable def D.deepL:List D->Nat
 | []=>0
 | d::l=>max (D.deep d) (D.deepL l)
end
section
variable {X:Cx}
end
section
variable {X:Cx}
def cg3 (K:af):R2:=λ x y H Q=>∃ a b xs ys,x=.ref a/\y=.ref b/\SqT K H a xs/\SqT K H b ys/\xs.length+ys.length<=aV/\∀ p H',af0 H H'->SqT K H' p (xs++ys)->(H' p=some (.tp (xs++ys))\/(p=a/\ys=[])\/(p=b/\xs=[]))->Q (.ref p) H'
def bL7 {ws:yG}(ht:IsTup s.heap t ([]:yG).toArray)(hb:IsTup s.heap b ws.toArray)(h1:Q (.ref b) s) :
  wpAny (model prog w) A (c5 .Add (.ref t) (.ref b)) Q E s:=by
 obtain⟨⟨cls,dd,data,sl⟩,ho,hc,n,hd⟩:=id ht;obtain⟨⟨a0,Z,J,Y⟩,G,F,n2,z⟩:=id hb;simp only at hc hd F z;subst hc hd F z;exact lK ⟨_,ho,rfl⟩ ⟨_,G,rfl⟩ i7 kS fM fG (fm _ _)
   (tuple_addW0 t b _ ws.toArray n n2 dd Z sl Y rfl) ⟨ho,G,h1⟩
def bg4 {K}(hK:X.K=K):OpR X (c5 .Add) (cg3 K):=by
 subst hK;intro F s W H x y v u Q I J Y h;obtain⟨a,b,G,ys,e1,e2,ha,hb,hz,q⟩:=h;by_cases hx:G=[]
 .subst e1;subst e2;subst hx;cases J;cases Y;obtain⟨its,r1,p1,_⟩:=I.tuple ha;obtain⟨Z,r2,p2,_⟩:=I.tuple hb;obtain rfl:its=[]:=r1.nil_iff.mpr rfl;exact bL7 p1 p2 ⟨.ref b,H,I,rfl,q b H (af0.refl H) hb (.inr (.inr ⟨rfl,rfl⟩))⟩
 .refine bI3 F s W H x y v u Q I J Y ⟨a,b,G,ys,e1,e2,ha,hb,hx,hz,λ z=>?_,λ z p hp=>?_⟩
  .subst z;exact q a H (af0.refl H) (by rw[bh];exact ha) (.inr (.inl ⟨rfl,rfl⟩))
  .exact q p _ ((af0.refl H).new hp) (SqT.of zg) (.inl zg)
def cy5 (K:af):V->Option Int->Option Int->Hp->VK->Prop:=λ x lo hi H Q=>∃ a xs,x=.ref a/\SqT K H a xs/\∀ p H',af0 H H'->SqT K H' p (aW6 xs lo hi)->(H' p=some (.tp (aW6 xs lo hi))\/(p=a/\aW6 xs lo hi=xs))->Q (.ref p) H'
def aB9 {z:yJ}(G:IsTup s.heap t z)(hs:s.heap.IsSliceOf sl vl vu .none)(pl:iP vl F)(pu:iP vu Y)
  (hw:HT.sIx z.size 0 F=0/\HT.sIx z.size z.size Y=z.size) (h:Q (.ref t) s):wpAny (model prog w) A (jx (.ref t) (.ref sl)) Q E s:=by
 obtain⟨os,Z,a1,a2⟩:=id hs;have a0:s.TypeIs (.ref sl) "slice":=⟨os,Z,a1⟩
 unfold jx
 try with_reducible refine cn ?_
 first|refine ac (am ?_)|skip
 refine ac (lL G.typeIs (by decide) ?_);refine ac (cI G.typeIs bL
  (b7 bL G.typeIs kL ?_ (ln _ _)))
 show wpAny _ _ (dA (.ref t) >>= _) _ _ s;refine ac (kT G ?_);refine ac (jy a0 ?_);rw[if_pos (by decide)];refine ac (HT.sliceApplied_gen hs pl pu ?_);have J:((((HT.sIx z.size 0 F):Int)==0&&(1:Int)==1&&(HT.sIx z.size z.size Y - HT.sIx z.size 0 F)==z.size)=true):=by
  rw[hw.1,hw.2];simp
 show wpAny _ _ (if(((HT.sIx z.size 0 F):Int)==0&&(1)==1&&(HT.sIx z.size z.size Y - HT.sIx z.size 0 F)==z.size)=true then _ else _) _ _ s;rw[if_pos J];refine ac (ac (jy G.typeIs (am ?_)));rw[if_pos (by decide)];exact ac (hZ (am ⟨_,rfl,am h⟩))
def aw2 (h:HT.sIx z.length 0 F=0/\HT.sIx z.length z.length G=z.length):aW6 z F G=z:=by
 unfold aW6;rw[h.1,h.2];simp
def bL6 {K}(hK:X.K=K):SlR X (cy5 K):=by
 subst hK;intro G s W H x v vl vu J Z sl Q I rx hs Y pu h;obtain⟨a,z,e1,hx,q⟩:=h;by_cases hw:HT.sIx z.length 0 J=0/\HT.sIx z.length z.length Z=z.length
 .subst e1;cases rx;obtain⟨its,r,ht,hz⟩:=I.tuple hx;have F:its.toArray.size=z.length:=by rw[aw];exact r.length.symm
  refine⟨"tuple",_,bL.lookup,ht.typeIs,?_⟩;exact aB9 ht hs Y pu (by rw[F];exact hw) ⟨.ref a,H,I,rfl,q a H (af0.refl H) (by rw[aw2 hw];exact hx) (.inr ⟨rfl,aw2 hw⟩)⟩
 .exact bY4 G s W H x v vl vu J Z sl Q I rx hs Y pu ⟨a,z,e1,hx,hw,λ p hp=>q p _ ((af0.refl H).new hp) (SqT.of zg) (.inl zg)⟩
def bw9 {K}(z:X.K=K):SlR X (cw4 K):=by subst z;exact bO0
end
noncomputable def Its (x:Str):It:=⟨λ i _=>i<x.cps.size,λ i H v H'=>H'=H/\∃ c,x.cps[i]?=some c/\v=.str ⟨#[c]⟩,λ i _=>x.cps.size<=i⟩
def aP9 {K} it (hn:["enumerate", "zip", "dict_itemiterator", "dict_reverseitemiterator", "odict_iterator", "itertools.zip_longest", "itertools.pairwise"].contains J=false)
  (Ww:∀ A:be,A.handled=none->Walks P w A it [it] [it] x.cps.size (SignAt x) (λ i h=>h.IsStrIter it J x t i))
  (Y:∀(A:be) (s:ag) (i:Nat) (Q:Option Value->ag->Prop) (E:Value->ag->Prop),A.handled=none->s.heap.IsStrIter it J x t i->x.cps[i]?=none->(∀ h',kh it s.heap h'->Q none { s with heap:=h' })->wpAny (model P w) A (f8 (.ref it)) Q E s)
  (G:∀(A:be) (i:Nat) (s:ag) (Q:Value->ag->Prop) (E:Value->ag->Prop),s.heap.IsStrIter it J x t i->Q (.ref it) s->wpAny (model P w) A (nr (.ref it)) Q E s):Turn P w K tg (Its x) [it] it (λ i h=>h.IsStrIter it J x t i) where
 mem:=by simp
 obj:=λ i h st b hb=>by
  have e:=by simpa using hb
  subst e;obtain⟨o,ho,hc,hd⟩:=st;exact⟨o,ho,λ v z=>by rw[hd]at z;cases z⟩
 keep:=λ i h h' st k=>by
  obtain⟨o,ho,r⟩:=st;exact⟨o,k it (by simp) _ ho,r⟩
 item:=by
  intro X hP hw hK hc i F s W H E I hf st hg;subst hP hw hK;obtain⟨f0,f1,f2,f3,f4,f5⟩:=hf it (by simp);refine(Ww X.A (I.ok.hd hc)).item i s _ _ hg st λ v h' tk hv Z kk=>?_;obtain⟨c,u,a0,rfl⟩:=hv;have I1:Inv X F W H { s with heap:=h',toks:=tk }:=I.turned (λ b o hb e=>kk b o (by simpa using hb) e) f0 f1 f3 f4 f5;obtain⟨o,ho,hcl,hd⟩:=id Z;exact⟨_,rfl,bc1 ho hcl hd hn ⟨.str ⟨#[c]⟩,H,I1,⟨u,rfl⟩,⟨rfl,c,a0,rfl⟩,Z,λ b hb=>(hf b hb).1⟩⟩
 done:=by
  intro X hP hw hK hc i F s W H E I hf st hg;subst hP hw hK;obtain⟨f0,f1,f2,f3,f4,f5⟩:=hf it (by simp);have a1:x.cps.size<=i:=hg;exact Y X.A s i _ E (I.ok.hd hc) st (by simp;omega) λ h' eb=>⟨rfl,I.turned (λ b o hb e=>eb b o hb e) f0 f1 f3 f4 f5⟩
 self:=λ A i s Q E st h=>G A i s Q E st h
def cw7 (tl:TE):TI:=λ W H R=>tl W H λ v H1=>∃ x,v=.str x/\R (Its x) H1
def bW3 (hl:PE X l Y):PI X tg l (cw7 Y):=by
 intro z s W H R I h;refine thn (hl z s W H _ I h) λ v s1 ⟨v0,H1,G,r1,q1⟩=>?_;obtain⟨x,e,q⟩:=q1;subst e;obtain⟨t,rfl⟩:=r1;have fin:∀ J o ,o={ cls:=.type J,data:=.fields #[.str x t,.int 0 0] }->Turn X.prog X.w X.K tg (Its x) [s1.heap.objs.size] s1.heap.objs.size (λ i h=>h.IsStrIter s1.heap.objs.size J x t i)->PIE X z W tg R (.ref s1.heap.objs.size) { s1 with heap:=s1.heap.push o }:=λ J o Z T=>by
  subst Z;refine⟨s1.heap.objs.size,[s1.heap.objs.size],_,_,H1,rfl,G.kept λ b o e=>ao _ e,T,⟨_,aI _ rfl,rfl,rfl⟩,λ b hb=>?_,q⟩;have e:=by simpa using hb
  subst e;exact G.fpOk (au _) (G.hok.fresh (au _))
 cases ha:x.cps.all (·<128)
 .exact wpAny_pyIter_wide ha (fin "str_iterator" _ rfl (aP9 _ (by decide) (λ A hA=>Walks.strWide hA _ x t) (λ A s i Q E hA st hx F=>wpAny_pyNext_wide_end hA st hx F) λ A i s Q E st h=>wpAny_pyIter_striter_wide st h))
 .exact wpAny_pyIter_ascii ha (fin "str_ascii_iterator" _ rfl (aP9 _ (by decide) (λ A hA=>Walks.strAscii hA _ x t) (λ A s i Q E hA st hx F=>wpAny_pyNext_ascii_end hA st hx F) λ A i s Q E st h=>wpAny_pyIter_striter_ascii st h))
section
variable {X:Cx} {K:af} {T id:String} {name:Str} {o e:Expr} {es:yK} {to:TE} {t:TA} {r:V->List V->Hp->VK->Prop} {apos cpos:Pos}
def bD4 (Z:X.K=K)(pa:nv T)(slot:Slot T name id)(Y:lp (.builtin id)=pure (.type "method_descriptor"))(hm:MtR X id r)(ho:PE X o to)(ha:PA X (e::es) t)
  (G:autoParam (dW o name X.env (eval o X.env)=eval o X.env) Zq4._auto_1)
  (J:autoParam (((eZ cpos (bB (e::es) X.env)).all (λ x=>!x.1)&&(lO cpos (iB [] X.env)).all (λ x=>x.1.isSome)
   && decide ((e::es).length+([]:List gB).length+(if([]:List gB).isEmpty then 0 else 1)<30))=true) Zq4._auto_1)
  (F:autoParam ((apos.endLine==cpos.line)=true) Zq4._auto_1) (hs:autoParam (bB (e::es) X.env=(false,eval e X.env)::bB es X.env) Zq4._auto_1) (z:autoParam ((eZ cpos (bB es X.env)).any (·.1)=false) Zq4._auto_1) :
  PE X (.Call (.Attribute o name apos) (e::es) [] cpos) (tBM K T r to t):=by
 subst Z;exact bu4 pa slot Y hm ho ha G J F hs z
end
structure Mach where
 letters:Int
 rooms:Int
 begins:List Int
 ends:List Int
 doors:List (Int×Str×Int×Int)
noncomputable def cq7 (q:Int×Str×Int×Int):D:=.tp [.int q.1,.str q.2.1,.int q.2.2.1,.int q.2.2.2]
def Mach.D (M:Mach):D:=.tp [.int M.letters,.int M.rooms,.tp (M.begins.map .int),.tp (M.ends.map .int),.tp (M.doors.map cq7)]
noncomputable def ltr (i:Nat):Str:=⟨#[97+i]⟩
structure DoorOk (letters rooms:Int)(q:Int×Str×Int×Int):Prop where
 s0:0<=q.1
 s1:q.1<rooms
 l:∃ i:Nat,(i:Int)<letters/\q.2.1=ltr i
 g0:0<=q.2.2.1
 g1:q.2.2.1<rooms
 t0:0<=q.2.2.2
 t1:q.2.2.2<=3
structure RoomsOk (rooms:Int)(l:List Int):Prop where
 mem:∀ r∈l,0<=r/\r<rooms
 up:l.Pairwise (· < ·)
structure Mach.Ok (most:Nat)(M:Mach):Prop where
 l0:1<=M.letters
 l1:M.letters<=3
 r0:1<=M.rooms
 r1:M.rooms<=5
 b:RoomsOk M.rooms M.begins
 e:RoomsOk M.rooms M.ends
 d:∀ q∈M.doors,DoorOk M.letters M.rooms q
 m:M.doors.length<=most
mutual
noncomputable def D.tups:D->Bool
 | .J _=>false
 | .tp l=>D.tupsL l
 | _=>true
noncomputable def D.tupsL:List D->Bool
 | []=>true
 | d::l=>D.tups d&&D.tupsL l
end
end L2
end
noncomputable section
namespace L2
end L2
end
noncomputable section
namespace L2
open PySem PySem.Spec PyProof.Rows
noncomputable def addO:Option Int->Option Int->Option Int
 | some a,some b=>some (a+b)
 | _,_=>none
noncomputable def cutO (k:Int):Option Int->Option Int
 | none=>none
 | some p=>some (if p<=k then p else k+1)
noncomputable def minO:List Int->Option Int
 | []=>none
 | a::l=>some (match minO l with|none=>a|some b=>if b<a then b else a)
def aW5 {pos Y py} N' src 
  (hN:X.N.Nodup) (a9:X.N[i]?=some y) (a3:X.env.scope.names.lookup y=some .local)
  (a7:zU N' src scope X.N X.env.scope=true) (hi:PI X tg iter wi) (Z:X.calm=true)
  (b2:∀(Cc:Addr) (cells:yB) (s:ag) (H:Hp) (ex:List Addr),PG (zM X N' scope Cc cells s H ex) tg g/\PIf (zM X N' scope Cc cells s H ex) ifs tc/\PE (zM X N' scope Cc cells s H ex) elt te)
  (hs:autoParam (∀ x,eW iter X.env x=pure x) Zq3._auto_1)
  (b0:autoParam (f7 (.ListComp elt [⟨tg,iter,ifs,0⟩] scope pos) (some (.Name y py)) Y.line X.env=pure true) Zq4._auto_1) :
  PS X (.Assign [.Name y py] (.ListComp elt [⟨tg,iter,ifs,0⟩] scope pos) Y) (bx7 (tComp src wi g tc te) (au5 i)):=by
 intro F s W H D0 I h;have ck:=bB4 a7;rw[exec_Assign_Name_used _ _ _ _ b0];refine ac (kR (ac ?_));have hcl:=aj6 λ y hy e=>I.ok.has y.1 (ck.fr y hy e);refine ac (bw (iQ rfl hs hcl ck.kind ck.loc (thn (hi F s W H _ I h) λ v s1 h1=>thn h1 λ b4 s2 h2=>?_)) (λ _ s' hq=>am (am hq)) λ _ _ e=>e);obtain⟨it,G,tn,J,H2,e,I2,T,a2,f2,Ww⟩:=h2;subst e;have hD:=I2.fresh;obtain⟨Ww,⟨m0,w0⟩,turn⟩:=Ww _ hD;have I3:=I2.lnew (t':=s2.toks) .nil (b9 _);have a5:∀ b∈G,b<s2.heap.objs.size:=λ b hb=>by obtain⟨o,q,_⟩:=T.obj _ _ a2 b hb;exact aJ q
 have f3:∀ b∈G,FpOk X F (upd H2 s2.heap.objs.size (.J [])) b:=λ b hb=>⟨by rw[zc (aK (a5 b hb))];exact(f2 b hb).1,(f2 b hb).2⟩
 refine bp (ak1 ?_);generalize a0:({ s2 with heap:=s2.heap.push { cls:=.type "list",data:=.seq ([]:yG).toArray },toks:=s2.toks }:ag)=s3 at I3;have b3:({ s2 with heap:=s2.heap.push { cls:=.type "list",data:=.seq ([]:yG).toArray } }:ag)=s3:=a0;have a6:∀ b∈G,b<s3.heap.objs.size:=λ b hb=>by
  rw[<-a0];show b<(s2.heap.push _).objs.size;rw[dD];exact iD (a5 b hb)
 have I4:=aw1 (s4:={ s3 with heap:=gf (s3.heap.push { cls:=.type "dict",data:=.dict #[] }) scope.names }) ck I3 f3 a6 ⟨_,rfl⟩;have a4:tn 0 (gf (s3.heap.push { cls:=.type "dict",data:=.dict #[] }) scope.names):=T.keep _ _ _ a2 λ b hb o e=>gS _ _ b o (ao _ (by rw[<-a0];exact ao _ e));obtain⟨hg,hif,he⟩:=b2 s3.heap.objs.size (bO (s3.heap.objs.size+1) scope.names (au8 X.env.cells scope.names [])) s3 (upd H2 s2.heap.objs.size (.J [])) G;have a1:∀ H':Hp,(∀ b∈G,H' b=none)->∀ b∈G,FpOk (zM X N' scope s3.heap.objs.size (bO (s3.heap.objs.size+1) scope.names (au8 X.env.cells scope.names [])) s3 (upd H2 s2.heap.objs.size (.J [])) G) [] H' b:=λ H' hn b hb =>
  ⟨hn b hb,(I4.ok.exf b hb).1,I4.ok.exfs b hb,.inl hb,λ x c e=>(I4.ok.exf b hb).2 x c e,λ p hp=>absurd (show p∈([]:yA)from hp) (by simp)⟩
 have T':Turn X.prog X.w X.K tg J G it tn:=T;have b1:∀ b∈G,upd H2 s2.heap.objs.size (.J []) b=none:=λ b hb=>(f3 b hb).1;have L:=aH6 (X':=zM X N' scope s3.heap.objs.size (bO (s3.heap.objs.size+1) scope.names (au8 X.env.cells scope.names [])) s3 (upd H2 s2.heap.objs.size (.J [])) G) (R:=compPost (model X.prog X.w) X.A X.xe (some (js (.Name y py) X.env)) (λ _ s'=>SP X F D0 .next s') (Value.ref s2.heap.objs.size) s3.heap.objs.size) (iter:=iter) (scope:=scope) (pos:=pos) (QD:=λ H'=>D0.nx (W.set i (some (.ref s2.heap.objs.size))) H') rfl Z I4 T' a4 a1 b1 w0 turn hg hif he
  (λ W' H' s' J' q=>by
   have J2:=aR2 I3 f3 J' (Heap.SameBut.refl _ _);obtain⟨mm,hn,_⟩:=J'.loc;have nL:s3.heap.objs.size≠X.env.locals:=jt I3.lt;have nC:∀ x c,X.env.cells.lookup x=some c->c≠s3.heap.objs.size:=λ x c e=>by
    obtain⟨v,z⟩:=I3.cell x c e;exact aK z.lt
   show wpAny _ X.A (js (.Name y py) X.env (.ref s2.heap.objs.size)) _ _ _;refine lH (aG7 (v:=.ref s2.heap.objs.size) J2 hN a9 (.inl a3) rfl (λ s5 I5 sb=>?_) (.inr a3));obtain⟨aa,sb,ha⟩:=sb;have na:s3.heap.objs.size≠aa:=by
    rcases ha with z|z
    .rw[z];exact nL
    .exact λ e=>nC _ _ z e.symm
   refine⟨mm,hn.sameBut sb na,λ h' a8=>⟨_,H',I5.turned (t':=s5.toks) (λ b o hb e=>(a8.2 b hb).trans e) J'.free nL (.inr I3.sz) nC λ p hp z=>?_,q⟩⟩;exact absurd (aJ (I3.pin p hp).1) (by rw[z];exact bG _))
 exact jD L (T.self _ _ _ _ _ a4 L)
def cy2:V->Option Int->Option Int->Hp->VK->Prop:=λ x lo hi H Q=>∃ z,x=.str z/\z.length<=aV/\Q (.str (gT z lo hi)) H
def aF6 (p:iP v o):∃ q,v=partValue q/\q.map (·.1)=o:=by
 cases p with
 | none=>exact⟨none,rfl,rfl⟩
 | int i t=>exact⟨some (i,t),rfl,rfl⟩
def cj9 :SlR X cy2:=by
 intro a0 s W H x v vl vu J Y sl Q I rx hs pl pu h;obtain⟨z,rfl,hz,q⟩:=h;obtain⟨t,rfl⟩:=rx;obtain⟨l,rfl,el⟩:=aF6 pl;obtain⟨u,rfl,eu⟩:=aF6 pu;refine⟨"str",_,F.slot_str_getitem.lookup,nu s z t,?_⟩;refine wpAny_getItem_str_slice (st:=none) hs rfl ?_;unfold sliceMade;have e:slicePicked z l u none=bQ J Y 1 z.length:=by
  unfold slicePicked;rw[el,eu];rfl
 rw[e];unfold gT at q;split
 .rename_i hc;have G:((1:Int)==1&&(bQ J Y 1 z.length).length==z.length)=true:=hc;rw[if_pos G]at q;exact⟨.str z,H,I,⟨t,rfl⟩,q⟩
 .rename_i hc;have G:¬((1:Int)==1&&(bQ J Y 1 z.length).length==z.length)=true:=hc;rw[if_neg G]at q;have Z:=by
   show(kj (λ x=>z.cps[x]?) (bQ J Y 1 z.length)).toArray.size<=aV;rw[aw];exact ar (List.length_filterMap_le _ _) (ar (sliceIndices_le J Y z.length) hz)
  exact⟨Z,.str _,H,I.tok _,⟨_,rfl⟩,q⟩
section
variable {M:Model} {A:be} {E:Value->ag->Prop} {s₀ s:ag} {m cm:yC} {env:Env} {cs:yB}
end
noncomputable def aV8 (c:Addr)(qual:Str):HO:=.ext λ h=>h.CodeRec (.ref c) qual
noncomputable def bT1 (f:Addr)(fd:cw):HO:=.ext λ h=>h.get? f=some { cls:=.type "function",data:=.func fd }
def bp9 (x:HOk P w H h)(e:H f=some (bT1 f z)):h.get? f=some { cls:=.type "function",data:=.func z }:=(x f _ e).1
noncomputable def isC (cells:yB)(b:Addr):Bool:=cells.any λ p=>cells.lookup p.1==some b
def bP0 :isC cells b=true↔∃ x,cells.lookup x=some b:=by
 unfold isC;rw[d7];constructor
 .rintro⟨p,_,e⟩;exact⟨p.1,by simpa using e⟩
 .rintro⟨x,e⟩;exact⟨(x,b),bF e,by simpa using e⟩
def ay4 (cells:yB)(H:Hp):Hp:=λ b=>if isC cells b=true then none else H b
def Put (cells:yB)(H H':Hp):Hp:=λ b=>if isC cells b=true then H b else H' b
def ay4.cell (h:isC cells b=true):ay4 cells H b=none:=if_pos h
def ay4.ne (h:isC cells b≠true):ay4 cells H b=H b:=if_neg h
def ay4.some (h:ay4 cells H b=some o):isC cells b≠true/\H b=some o:=by
 unfold ay4 at h;split at h
 .cases h
 .rename_i z;exact⟨z,h⟩
def ay4.none (h:H b=none):ay4 cells H b=none:=by
 unfold ay4;split
 .rfl
 .exact h
def Put.cell (h:isC cells b=true):Put cells H H' b=H b:=if_pos h
def Put.ne (h:isC cells b≠true):Put cells H H' b=H' b:=if_neg h
def Cells (clos:yB)(H:Hp):Prop:=∀ x c,clos.lookup x=some c->∃ o v,H c=some (.frz o (.own c))/\o.data=.cell v
def Cells.at (z:Cells F H)(h:isC F b=true):∃ o v,H b=some (.frz o (.own b))/\o.data=.cell v:=by
 obtain⟨x,e⟩:=bP0.mp h;exact z x b e
def Cap (clos:yB)(H:Hp)(fr:yH)(cap:List V):Prop:=∀(i:Nat) x v ,fr[i]?=some x->cap[i]?=some v->∃ c o u,clos.lookup x=some c/\H c=some (.frz o (.own c))/\o.data=.cell (some u)/\RelV v u
def HOk.drop (x:HOk P w H h)(z:Cells F H):HOk P w (ay4 F H) h:=λ b o e=>by
 obtain⟨_,e'⟩:=ay4.some e;have J:∀ c u,H c=some u->(∀ o v,u≠.frz o v)->isC F c≠true:=λ c u q d y=>by
  obtain⟨o,v,G,_⟩:=z.at y;rw[q]at G;cases G;exact d _ _ rfl
 exact(x b o e').stay (λ _ _ _ q=>q) (λ c q=>by rw[ay4.ne (J c _ q λ _ _=>by nofun)];exact q) λ c Y q=>by rw[ay4.ne (J c _ q λ _ _=>by nofun)];exact q
def bd7 (H:Hp)(f:Addr)(qual:Str)(params:gb)(body:Expr)(scope:Scope)(fr:yH)(cap:List V)(clos:yB):Prop :=
 ∃ pm c' ctv,H f=some (bT1 f (ny "<lambda>" qual params body scope clos pm (.ref c') ctv))/\H c'=some (aV8 c' qual)/\Cells clos H /\
  (∀ x y c,clos.lookup x=some c->clos.lookup y=some c->x=y)/\(∀ x,scope.names.lookup x=some .free->∃ c,clos.lookup x=some c)/\Cap clos H fr cap
def BM (mg:yC)(base:Heap):Prop:=∃ bm ob,mg "__builtins__"=some (.ref bm)/\bm≠fB/\base.get? bm=some ob/\ob.cls=.type "module"/\ob.dict=some fB/\ob.data=.plain
structure Caught (cl:yB)(N:yH)(kd:Str->Option c7)(W:St)(H1 H2:Hp):Prop where
 ne:∀ b,isC cl b≠true->H2 b=H1 b
 free:∀ b,isC cl b=true->H1 b=none
 cells:Cells cl H2
 cap:∀(i:Nat) (x:Str) (v:V) (c:Addr),N[i]?=some x->W[i]?=some (some v)->(kd x=some .cell\/kd x=some .free)->cl.lookup x=some c->∃ o u,H2 c=some (.frz o (.own c))/\o.data=.cell (some u)/\RelV v u
 inj:∀ x y c,cl.lookup x=some c->cl.lookup y=some c->x=y
def cl3 (K:af)(H:Hp)(f:Addr):Prop:=(∃ fd,H f=some (bT1 f fd))\/∃ oc od fd sl,K.lookup f=some ⟨oc,od,.func fd,sl⟩
def cl3.at {W:St}(h:cl3 X.K H f)(I:Inv X z W H s):PySem.W.FnAt f s.heap:=by
 rcases h with⟨F,h⟩|⟨oc,od,F,sl,h⟩
 .exact⟨_,_,_,_,bp9 I.hok h⟩
 .exact⟨_,_,_,_,I.kIn _ _ h⟩
noncomputable def aE4 (K:af)(names:yH):List (Str×Addr×Addr):=names.filterMap λ x=>(bN K x).map λ p=>(x,p)
def aw6 {K}:y∈aE4 K names↔y.1∈names/\bN K y.1=some y.2:=by
 unfold aE4;rw[dC];constructor
 .rintro⟨x,hx,e⟩
  obtain⟨p,hp,rfl⟩:=cr.mp e;exact⟨hx,hp⟩
 .rintro⟨hx,e⟩
  exact⟨y.1,hx,by rw[e];rfl⟩
def bO2 (K:af)(names:yH)(base:Heap):Prop:=∀ x∈names,∀ c P,bN K x=some (c,P)->cQ base c P
def bS4 (K:af)(names:yH)(H:Hp):Prop:=∀ x∈names,∀ c P,bN K x=some (c,P)->H P=some (.tbl #[])
noncomputable def cg0 (K:af)(names:yH)(ts:List Addr):Bool:=names.all λ x=>match bN K x with
 | some (c,P)=>my K c P&&ts.contains P
 | none=>true
def aR8 {K}(h:(bN K x).isSome=true):bN K x=some (((bN K x).getD (0,0)).1,((bN K x).getD (0,0)).2):=by
 obtain⟨p,e⟩:=fi.mp h;rw[e];rfl
def ci1 (H:Hp)(P:Addr)(q:Str):Prop:=∃ ps:Array Value,H P=some (.tbl ps)/\TriplesOk ps.toList/\∀ pos cv,codeAmong pos ps.toList=some cv->∃ c',cv=.ref c'/\H c'=some (aV8 c' q)
def TabsH (T:List (Addr×Str))(H:Hp):Prop:=∀ y∈T,ci1 H y.1 y.2
def cf0 (H H':Hp):Prop:=∀ b o,(∀ ps,o≠.tbl ps)->H b=some o->H' b=some o
def cf0.of (a:af0 H z):cf0 H z:=λ c o _ h=>a c o h
def TabsH.keep (h:TabsH T H)(k:∀ b o,(∀ G,o≠.J G)->H b=some o->H' b=some o):TabsH T H':=λ y hy=>by
 obtain⟨ps,e,t,c⟩:=h y hy;refine⟨ps,k _ _ (λ _=>by nofun) e,t,λ pos F q=>?_⟩;obtain⟨z,e1,e2⟩:=c pos F q;exact⟨z,e1,k _ _ (λ _=>by unfold aV8;nofun) e2⟩
def TabsH.same (h:TabsH T H)(s:af0 H H'):TabsH T H':=h.keep λ b o _ e=>s b o e
theorem TabsH.new (h:TabsH T H)(n:H a=none):TabsH T (upd H a o):=h.same ((af0.refl H).new n)
def TabsH.put (h:TabsH T H)(n:H a=some (.J F)):TabsH T (upd H a o):=h.keep λ b u d e=>by
 rw[zc λ z=>by subst z;rw[n]at e;cases e;exact d _ rfl];exact e
def TabsH.init (h:∀ p∈T.map (·.1),H p=some (.tbl #[])):TabsH T H:=λ y hy =>
 ⟨#[],h _ (aX hy),trivial,λ pos z e=>by simp[codeAmong]at e⟩
def Caught.same {cells}(J:Caught cells N kd W G F):af0 G F:=λ b o e=>by
 rw[J.ne b λ z=>by rw[J.free b z]at e;cases e];exact e
def bk5 {K}(hc:X.calm=true)(hK:X.K=K):ad8 X (.builtin "min") (λ xs H Q=>∃ a ns,xs=[.ref a]/\SqL K H a (ns.map V.int)/\ns≠[]/\∀ m∈ns,(∀ y∈ns,m<=y)->Q (.int m) H):=by
 subst hK;intro a2 s W H xs us Q I r h;obtain⟨a,ns,rfl,hS,a0,q⟩:=h;obtain⟨u,rfl,ru⟩:=qR r;cases ru;obtain⟨its,J,Y,hz⟩:=I.list hS;have hl:=J.length;rw[aq]at hl;have a1:=kO.mpr a0;refine call_min_walk (dg Y.isList ?_);have F:a<s.heap.objs.size:=by obtain⟨o,_,e,_⟩:=Y;exact aJ e
 have Ww:=jE (prog:=X.prog) (w:=X.w) (A:=X.A.in1) (I.ok.hd hc) s.heap.objs.size a (aK F) its.toArray
 let val:=λ i=>ns.getD i 0
 have G:∀ i v,its.toArray[i]?=some v->∃ t,v=Value.int (val i) t:=λ i v e=>by
  obtain⟨z,t,e1,e2⟩:=al1 J (by rw[cb]at e;exact e);refine⟨t,?_⟩;rw[e2];show Value.int z t=Value.int (ns.getD i 0) t;rw[aO,e1];rfl
 refine⟨_,_,_,_,_,_,_,rfl,Ww,⟨⟨_,aI _ rfl,rfl,rfl⟩,?_⟩,λ b hb=>?_,by rw[aw];lia,nS val G,λ v h' tk hP k=>?_⟩
 .obtain⟨o,e,r⟩:=Y.isList;exact⟨o,ao _ e,r⟩
 .skip
  rw[dD];rcases az.mp hb with z|z
  .rw[z];exact gi _
  .have Z:=by simpa using z
   rw[Z];exact iD F
 .obtain⟨z,t,e1,e2⟩:=al1 J (by rw[cb]at hP;exact hP);subst e2;have hv:val (cF (λ i j=>decide (val i<val j)) (its.toArray.size - 1))=z:=by
   show ns.getD _ 0=z;rw[aO,e1];rfl
  refine⟨.int z,H,I.kept λ b o q=>k b o ?_ (ao _ q),⟨t,rfl⟩,q z (aE e1) λ y hy=>?_⟩
  .intro z;have Z:=by simpa using z
   exact absurd (aJ q) (by rw[Z];exact bG _)
  .obtain⟨j,hj,e3⟩:=ci.mp hy;have:=ji val (its.toArray.size - 1) j (by simp only[aw];lia);rw[hv]at this;have e4:val j=y:=by
    show ns.getD j 0=y;rw[aO,ai hj];exact e3
   lia
noncomputable def mx (a b:Int):Int:=if b > a then b else a
section
variable {X:Cx}
end
def mx3 (a b c:Int):Int:=mx (mx a b) c
noncomputable def rnd (x:Int):Int:=if x=0\/x=3 then x else 2
def sharp (n:Nat)(s:Nat->Nat->Int)(i j:Nat):Int:=(minO ((bn n).map λ k=>mx3 (s i k) (rnd (s k k)) (s k j))).getD 3
section
variable {n:Nat} {s:Nat->Nat->Int}
end
def aF0 (H:Hp)(f:Addr)(name qual:Str)(params:gb)(body:yL)(scope:Scope)(fr:yH)(cap:List V)(clos:yB):Prop :=
 ∃ doc pm c' ctv,H f=some (bT1 f (ou name qual params body scope clos .none .none doc pm none (.ref c') ctv))/\H c'=some (aV8 c' qual)/\Cells clos H /\
  (∀ x y c,clos.lookup x=some c->clos.lookup y=some c->x=y)/\(∀ x,scope.names.lookup x=some .free->∃ c,clos.lookup x=some c)/\Cap clos H fr cap
def aF0.fn {K}(h:aF0 H f name qual params body scope fr cap z):cl3 K H f:=by
 obtain⟨G,Z,Y,F,J,_⟩:=h;exact .inl ⟨_,J⟩
end L2
end
noncomputable section
namespace L2
open PySem PySem.Spec PyProof.Rows Builtin
section
variable {P:aM} {w:World} {A:be} {E:Value->ag->Prop} {s:ag}
def aK9 {l:yJ}(G:s.heap.IsTupleIter it t i)(J:s.heap.IsTuple t l)(hv:l[i]?=some v)
  (k:∀ h',h'.IsTupleIter it t (i+1)->cO it s.heap h'->Q v { s with heap:=h' }):wpAny (model P w) A (cx (.ref it)) Q E s:=by
 obtain⟨o,e1,e2,F⟩:=id G;obtain⟨p,p1,_,n,Y⟩:=J;unfold cx;refine ac (cI G.typeIs dE (b7 dE G.typeIs hV ?_ (gW _)));show wpAny _ _ (field (.ref it) 0 >>= _) _ _ _;refine ac (du e1 F rfl ?_);rw[if_neg (λ z=>nomatch z)];refine ac (du e1 F rfl ?_);refine ac (cN p1 Y ?_);simp only[ce,hv];refine ac (kl e1 F (by simp) (am ⟨v,rfl,am (k _ ⟨_,cU _ e1 (Obj.isFreed_of_fields (lw F _)),(Obj.cls_mapFields ..).trans e2,by rw[lw F];simp[n6]⟩ (gY ..))⟩))
def aV6 {l:yJ}(hh:A.handled=none)(F:s.heap.IsTupleIter it t i)(J:s.heap.IsTuple t l)(hv:l[i]?=none)
  (k:∀ h' e,kh it s.heap h'->(∃ o,h'.get? e=some o/\o.cls=.type "StopIteration")->E (.ref e) { s with heap:=h' }):wpAny (model P w) A (cx (.ref it)) Q E s:=by
 obtain⟨o,e1,e2,G⟩:=id F;obtain⟨p,p1,_,n,Y⟩:=J;unfold cx;refine ac (cI F.typeIs dE (b7 dE F.typeIs hV ?_ (gW _)));show wpAny _ _ (field (.ref it) 0 >>= _) _ _ _;refine ac (du e1 G rfl ?_);rw[if_neg (λ z=>nomatch z)];refine ac (du e1 G rfl ?_);refine ac (cN p1 Y ?_);simp only[ce,hv];refine ac (hZ (ac (kl e1 G (by simp) ?_)));refine ac ?_;simp only[newExc];refine ac (bp ?_ (by size_fits));refine ac (iE (by first|rfl|(simp only[];rfl)) (bp ?_ (by size_fits)));simp only[];refine ac (wpAny_handled ?_)
 first|rw[hh]|rw[hh]
 exact ac (am (wpAny_throw (k _ _ (((gY ..).extBut.push _).push _) ⟨_,aI _ rfl,rfl⟩)))
end
structure Dw (P:aM)(w:World)(K:af)(J:It)(it:Addr)(tn:Nat->Heap->Prop):Prop where
 obj:∀ i h,tn i h->∃ o,h.get? it=some o/\∀ v,o.data≠.cell v
 keep:∀ i h h',tn i h->(∀ o,h.get? it=some o->h'.get? it=some o)->tn i h'
 item:∀(X:Cx),X.prog=P->X.w=w->X.K=K->∀(A:be) (i:Nat) (pins:yA) (s:ag) (W:St) (H:Hp) (Q:Value->ag->Prop) (E:Value->ag->Prop),Inv X pins W H s->tn i s.heap->J.go i H ->
  (∀ x u h' tk,RelV x u->J.yld i H x H->tn (i+1) h'->cO it s.heap h'->Q u { s with heap:=h',toks:=tk })->wpAny (model P w) A (cx (.ref it)) Q E s
 done:∀(X:Cx),X.prog=P->X.w=w->X.K=K->∀(A:be) (i:Nat) (pins:yA) (s:ag) (W:St) (H:Hp) (Q:Value->ag->Prop) (E:Value->ag->Prop),A.handled=none->Inv X pins W H s->tn i s.heap->J.stop i H ->
  (∀ h' e,kh it s.heap h'->(∃ o,h'.get? e=some o/\o.cls=.type "StopIteration")->E (.ref e) { s with heap:=h' })->wpAny (model P w) A (cx (.ref it)) Q E s
def bH5 {K} a it :Dw P w K (Itl K a) it (λ i h=>h.IsListIter it a i) where
 obj:=λ i h st=>by
  obtain⟨o,e,c,d⟩:=st;exact⟨o,e,λ v z=>by rw[d]at z;cases z⟩
 keep:=λ i h h' st k=>st.at k
 item:=by
  intro X Z hw Y A i F s W H Q E I st hg k;subst Z hw Y;obtain⟨xs,x,hq,hx⟩:=hg;obtain⟨its,G,p,hz⟩:=I.list hq;obtain⟨u,hu,ru⟩:=G.get hx;exact wpAny_nextOf_list_item st p.isList (by simpa using hu) λ h' J sb=>k x u h' s.toks ru ⟨rfl,λ ys hy=>by rw[I.list_inj hy hq];exact hx⟩ J sb
 done:=by
  intro X Z hw Y A i F s W H Q E hA I st hg k;subst Z hw Y;obtain⟨xs,hq,hx⟩:=hg;obtain⟨its,G,p,hz⟩:=I.list hq;have hl:=G.length;exact wpAny_nextOf_list_end hA st p.isList (by simp;omega) k
def ce9 {K} a it :Dw P w K (Itt K a) it (λ i h=>h.IsTupleIter it a i) where
 obj:=λ i h st=>by
  obtain⟨o,e,c,d⟩:=st;exact⟨o,e,λ v z=>by rw[d]at z;cases z⟩
 keep:=λ i h h' st k=>st.at k
 item:=by
  intro X Z hw Y A i F s W H Q E I st hg k;subst Z hw Y;obtain⟨xs,x,hq,hx⟩:=hg;obtain⟨its,G,p,hz⟩:=I.tuple hq;obtain⟨u,hu,ru⟩:=G.get hx;exact aK9 st (p) (by simpa using hu) λ h' J sb=>k x u h' s.toks ru ⟨rfl,λ ys hy=>by rw[I.tuple_inj hy hq];exact hx⟩ J sb
 done:=by
  intro X Z hw Y A i F s W H Q E hA I st hg k;subst Z hw Y;obtain⟨xs,hq,hx⟩:=hg;obtain⟨its,G,p,hz⟩:=I.tuple hq;have hl:=G.length;exact aV6 hA st (p) (by simp;omega) k
def bZ3 {K} x t it :Dw P w K (Its x) it (λ i h=>h.IsStrIter it (km x) x t i) where
 obj:=λ i h st=>by
  obtain⟨o,e,c,d⟩:=st;exact⟨o,e,λ v z=>by rw[d]at z;cases z⟩
 keep:=λ i h h' st k=>by
  obtain⟨o,ho,r⟩:=st;exact⟨o,k _ ho,r⟩
 item:=by
  intro X Z hw Y A i J s W H Q E I st hg k;subst Z hw Y;have G:i<x.cps.size:=hg;have hc:x.cps[i]?=some x.cps[i]:=by simp[]
  unfold km at st k;cases ha:x.cps.all (·<128)
  .rw[ha]at st k;exact wpAny_nextOf_wide_item st hc λ h' F sb=>k (.str ⟨#[x.cps[i]]⟩) _ h' (s.toks+1) ⟨_,rfl⟩ ⟨rfl,_,hc,rfl⟩ F sb
  .rw[ha]at st k;exact wpAny_nextOf_ascii_item st hc λ h' F sb=>k (.str ⟨#[x.cps[i]]⟩) _ h' (s.toks+1) ⟨_,rfl⟩ ⟨rfl,_,hc,rfl⟩ F sb
 done:=by
  intro X Z hw Y A i J s W H Q E hA I st hg k;subst Z hw Y;have G:x.cps.size<=i:=hg;have hc:x.cps[i]?=none:=by simp[G]
  unfold km at st;cases ha:x.cps.all (·<128)
  .rw[ha]at st;exact wpAny_nextOf_wide_end hA st hc k
  .rw[ha]at st;exact wpAny_nextOf_ascii_end hA st hc k
def Inv.turnedL {W:St}{J:List Addr}(I:Inv X F W H s)(f:∀ b∈J,FpOk X F H b)(k:∀ b o,b ∉ J->s.heap.get? b=some o->h'.get? b=some o):Inv X F W H { s with heap:=h',toks:=t' }:=by
 have G:∀ b u,H b=some u->b ∉ J:=λ b u e z=>by rw[(f b z).1]at e;cases e
 refine I.step (λ b hb=>?_) (λ b o _ _ hc e _=>k b o hc e) (λ b o _ _ hc e _=>⟨o.slots,k b o hc e⟩) (λ _ _ _ _ n=>n)
  (λ b o hc e=>⟨o,k b o hc e⟩) (λ _ _ e=>e) (λ _ _ _ e=>e) (λ b ps e=>⟨#[],by rw[e];simp⟩) (λ m hm=>?_) (λ b u e=>?_) I.bare
 .obtain⟨f0,f1,f2,Y,Z,f5⟩:=f b hb;exact⟨Y,f1,Z,f5⟩
 .obtain⟨o,es,ep,ho,r⟩:=hm;exact⟨o,es,ep,k _ o (λ z=>(f _ z).2.1 rfl) ho,r⟩
 .refine(I.hok b u e).stay (λ c v hc q=>k c v ?_ q) (λ _ q=>q) λ _ _ q=>q;rcases hc with z|z
  .rw[z];exact G b u e
  .exact G c _ z
section
variable {X:Cx} {pins:yA} {W:St} {H:Hp} {s:ag} {A:be} {E:Value->ag->Prop} {J1 J2:It} {t1 t2:Nat->Heap->Prop} {z ti to i1 i2:Addr} {n:Nat} {a b:Value}
end
def Mkr (v:Value)(o:Obj)(h:Heap):Prop:=∀ P w A E s Q ,(∀ b u,h.get? b=some u->s.heap.get? b=some u) ->
 Q (.ref s.heap.objs.size) { s with heap:=s.heap.push o }->wpAny (model P w) A (nr v) Q E s
def Sr (K:af)(H:Hp)(x:V)(J:It):Prop:=(∃ a,x=.ref a/\(∃ xs,SqL K H a xs)/\J=Itl K a)\/(∃ a,x=.ref a/\(∃ xs,SqT K H a xs)/\J=Itt K a)\/∃ y,x=.str y/\J=Its y
def Sr.mk {W:St}(I:Inv X z W H s)(h:Sr X.K H x J)(r:RelV x u) :
  ∃(o:Obj) (F:Addr->Nat->Heap->Prop),o.isFreed=false/\Mkr u o s.heap/\(∀ it,Dw X.prog X.w X.K J it (F it))/\∀ it h',h'.get? it=some o->F it 0 h':=by
 rcases h with⟨a,e,⟨Y,hq⟩,e'⟩|⟨a,e,⟨Y,hq⟩,e'⟩|⟨y,e,e'⟩
 .subst e e';cases r;obtain⟨its,G,p,hz⟩:=I.list hq;exact⟨_,λ it i h=>h.IsListIter it a i,rfl,λ P w A E s' Q hk q=>dg (p.isList.at λ o e=>hk _ _ e) q,λ it=>bH5 a it,λ it h' e=>⟨_,e,rfl,rfl⟩⟩
 .subst e e';cases r;obtain⟨its,G,p,hz⟩:=I.tuple hq;exact⟨_,λ it i h=>h.IsTupleIter it a i,rfl,λ P w A E s' Q hk q=>k9 (Heap.IsTuple.at (p) λ o e=>hk _ _ e) q,λ it=>ce9 a it,λ it h' e=>⟨_,e,rfl,rfl⟩⟩
 .subst e e';obtain⟨t,rfl⟩:=r;exact⟨_,λ it i h=>h.IsStrIter it (km y) y t i,rfl,λ P w A E s' Q hk q=>wpAny_pyIter_strU q,λ it=>bZ3 y t it,λ it h' e=>⟨_,e,rfl,rfl⟩⟩
end L2
end
noncomputable section
namespace L2
open PySem PySem.Spec PyProof.Rows Builtin
open AutoSeq1 (wpAny_loadPart')
section
variable {X:Cx} {pins:yA} {W:St} {H:Hp} {s:ag} {A:be} {E:Value->ag->Prop} {J1:It} {t1:Nat->Heap->Prop} {z it:Addr} {n:Nat} {old:Value}
end
end L2
end
noncomputable section
namespace L2
open PySem PySem.Spec PyProof.Rows Builtin
open AutoSeq1 (wpAny_loadPart')
def aK5:fillsNumberSlot (.type "tuple") "mul"=pure false :=
 PySem.fillsNumberSlot_seq fP.lookup (by decide +kernel) i9.lookup (by decide +kernel)
def aY0:seqRepeat? (.type "tuple")=pure (some (.builtin "tuple.__mul__")):=by
 unfold seqRepeat?;rw[mz (name := "__mul__") fP.lookup (by decide +kernel),mz (name := "__rmul__") i9.lookup (by decide +kernel)];rfl
def aC4 a t l (o:Obj)(z:yJ) n (F:yI)(sl:yE) :
  Meets (ng.«int.__rmul__» ⟨[.int a t,.ref l],[]⟩) (λ _ R s=>s.heap.get? l=some { cls:=.type "tuple",dict:=F,data:=.seq z n,slots:=sl }/\R (.ok (.ret Value.notImplemented)) s) :=
 .of_wp λ prog w A R s h=>by obtain⟨hp,g,d,tk,os⟩:=s;obtain⟨hl,h⟩:=h;wp_walk;exact⟨_,rfl,h⟩
noncomputable def au3 {α:Type}:Nat->List α->List α
 | 0,_=>[]
 | n+1,a=>a++au3 n a
theorem aQ9 l :∀ n (z:Array α),(ah n l.toArray).foldl (·++·) z=z++(au3 n l).toArray
 | 0,z=>by simp[au3]
 | n+1,z=>by rw[b8,cE,aQ9 l n];simp[au3]
theorem aH7 {α:Type} a :∀ n (z:Array α),((ah n a).foldl (·++·) z).size=z.size+a.size*n
 | 0,z=>by simp
 | n+1,z=>by rw[b8,cE,aH7 a n,Array.size_append,Nat.mul_succ];lia
def TmA (items:yJ)(k:Int)(l:Addr)(R:Value->ag->Prop)(s:ag):Prop :=
 ((items.isEmpty||k==1)=true->R (.ref l) s)/\((items.isEmpty||k==1)=false->R (.ref s.heap.objs.size) { s with heap:=s.heap.push { cls:=.type "tuple",data:=.seq ((ah k.toNat items).foldl (·++·) #[]) } })
def be4 {z:yJ}(h0:0<=k)(h1:k<=1000000)(hz:z.size*k.toNat<=1000000)(hl:IsTup s.heap l z)
  (h:TmA z k l Q s):wpAny (model P w) A (call (.builtin "tuple.__mul__") [.ref l,.int k t]) Q E s:=by
 refine b7 fP hl.typeIs PySem.F.entry_tuple_mul ?_ (PySem.F.args_tuple_mul_2 _ _);obtain⟨G,q2⟩:=h;refine ac (am ?_);rw[if_neg (by rw[decide_eq_false (by lia),decide_eq_false (by lia)];decide)];refine ac (kT hl ?_);have Y:=by
  have:((z.size*k.toNat:Nat):Int)<=1000000:=by lia
  rw[fx,gZ h0]at this;exact this
 cases hb:(z.isEmpty||k==1)with
 | true =>
  rw[if_pos rfl];unfold nz;refine ac (ac (jy hl.typeIs (am ?_)));rw[if_pos (by decide)];exact ac (hZ (am ⟨_,rfl,G hb⟩))
 | false =>
  rw[if_neg aH];have J:=by
   rw[gG]at hb;exact hb.1
  have q:=q2 hb;by_cases hk:k<=0
  .rw[if_pos (by rw[decide_eq_true hk];rfl)];have:k.toNat=0:=by lia
   rw[this]at q;exact ac (bp (am ⟨_,rfl,q⟩) (by size_fits))
  .rw[if_neg (by rw[decide_eq_false hk,J];decide)];rw[if_neg (by lia)];rw[if_neg (by unfold iq;rw[decide_eq_false (by unfold aV;lia)];decide)];refine ac (bp (am ⟨_,rfl,q⟩) ?_);show Array.size _<=aV;rw[aH7];show 0+_<=_;rw[cG];have Z:z.size*k.toNat<=aV:=ar hz (by decide);exact Z
theorem aO9 :∀ n,au3 n ([]:List α)=[]
 | 0=>rfl
 | n+1=>by simp[au3,aO9 n]
def br5 (l:List α):au3 1 l=l:=by simp[au3]
theorem aT4 (l:List α):∀ n,(au3 n l).length=l.length*n
 | 0=>by simp[au3]
 | n+1=>by simp[au3,aT4 l n,mO];lia
theorem Vals.repT {us:yG}(r:Vals z us):∀ n,Vals (au3 n z) (au3 n us)
 | 0=>.nil
 | n+1=>r.append (Vals.repT r n)
def cm3 (K:af):R2:=λ x y H Q=>∃ a xs n,x=.ref a/\y=.int n/\SqT K H a xs/\(0<=n/\n<=1000000/\xs.length*n.toNat<=1000000)/\∀ p H',af0 H H'->SqT K H' p (au3 n.toNat xs)->(H' p=some (.tp (au3 n.toNat xs))\/(p=a/\au3 n.toNat xs=xs))->Q (.ref p) H'
def bS1 {K}(Y:X.K=K):OpR X (c5 .Mult) (cm3 K):=by
 subst Y;intro G s W H x y v u Q I rx ry h;obtain⟨a,F,n,rfl,rfl,ha,⟨h0,h1,hz⟩,q⟩:=h;cases rx;obtain⟨t,rfl⟩:=ry;obtain⟨its,r1,p1,J⟩:=I.tuple ha;have z:=r1.length;obtain⟨⟨cls,dd,data,sl⟩,ho,hc,n1,hd⟩:=id p1;simp only at hc hd;subst hc hd;refine iz (by decide) p1.typeIs (λ s'=>jB s' n t) aK5 lq fF aY0 kM.lookup
  (gd fF (jB s n t) kN (ke _ _) (aC4 n t a default its.toArray n1 dd sl) ⟨ho,⟨rfl,p1.typeIs,be4 h0 h1 (by rw[aw,<-z];exact hz) p1 ⟨λ hb=>?_,λ hb=>?_⟩⟩⟩)
 .have ex:au3 n.toNat F=F:=by
   rw[cH]at hb;rcases hb with hb|hb
   .have Z:=by simpa using hb
    have hx:=r1.nil_iff.mp Z;rw[hx,aO9]
   .have:=by simpa using hb
    subst this;exact br5 _
  exact⟨.ref a,H,I,rfl,q a H (af0.refl H) (by rw[ex];exact ha) (.inr ⟨rfl,ex⟩)⟩
 .have hp:=I.hok.fresh (au s.heap.objs.size);refine⟨.ref s.heap.objs.size,_,I.laid (λ b ob q=>ao _ q) (au _) ?_,rfl,q _ _ ((af0.refl H).new hp) (SqT.of zg) (.inl zg)⟩;refine⟨by rw[aT4];exact ar hz (by decide),au3 n.toNat its,r1.repT _,?_⟩;rw[show(au3 n.toNat its).toArray=(ah n.toNat its.toArray).foldl (·++·) #[]by rw[aQ9];simp];exact⟨_,aI _ rfl,rfl,_,rfl⟩
end L2
end
noncomputable section
namespace L2
open PySem PySem.Spec PyProof.Rows
def aw3 (hr:Room k A):A.units+2<cLine:=lr (Nat.add_le_add_left (by decide) _) hr.units
section
variable {κ:Type} [DecidableEq κ]
noncomputable def aQ5 (kvs:List (κ×V))(k:κ):Option V:=(kvs.find? λ kv=>decide (kv.1=k)).map (·.2)
noncomputable def aZ0 (kvs:List (κ×V))(k:κ)(v:V):List (κ×V) :=
 if(kvs.any λ kv=>decide (kv.1=k))=true then kvs.map (λ kv=>if kv.1=k then(kv.1,v)else kv)else kvs++[(k,v)]
def ao6 {k:κ}(e:p.1=k):aQ5 (p::r) k=some p.2:=by simp[aQ5,e]
def ao9 {k:κ}(e:¬ p.1=k):aQ5 (p::r) k=aQ5 r k:=by simp[aQ5,e]
theorem ay5 k :∀ z:List (κ×V),(z.any λ kv=>decide (kv.1=k))=(aQ5 z k).isSome
 | []=>rfl
 | p::r=>by
  rw[iR];by_cases e:p.1=k
  .simp only[ao6 e,decide_eq_true e,Bool.true_or,io]
  .rw[ao9 e,decide_eq_false e,nR];exact ay5 k r
def aJ7 z (k:κ) v :(aZ0 z k v).length<=z.length+1:=by
 unfold aZ0;split
 .rw[aq];lia
 .rw[aA,aR,fy];lia
def bn0.isSome_eq (r:bn0 o u):o.isSome=u.isSome:=by
 cases o with
 | none=>cases u with
  | none=>rfl
  | some _=>exact(r).elim
 | some _=>cases u with
  | none=>exact(r).elim
  | some _=>rfl
theorem bn0.getD (r:bn0 o u)(z:RelV d d'):RelV (o.getD d) (u.getD d'):=by
 cases o with
 | none=>cases u with
  | none=>exact z
  | some _=>exact(r).elim
 | some _=>cases u with
  | none=>exact(r).elim
  | some _=>exact r
def KV.val (r:KV F vs)(k:κ):bn0 (aQ5 F k) (lQ vs k):=by
 unfold KV at r
 induction r with
 | nil=>exact True.intro
 | @cons p q ps qs h t ih =>
  obtain⟨G,J⟩:=h;by_cases e:p.1=k
  .have e':=G.symm.trans e;have b:lQ (q::qs) k=some q.2:=by simp[lQ,e']
   rw[ao6 e,b];exact J
  .have e':¬ q.1=k:=λ z=>e (G.trans z);have b:lQ (q::qs) k=lQ qs k:=by simp[lQ,e']
   rw[ao9 e,b];exact ih
theorem KV.any (r:KV z vs)(k:κ):(z.any λ kv=>decide (kv.1=k))=vs.any λ kv=>decide (kv.1=k):=by
 unfold KV at r
 induction r with
 | nil=>rfl
 | cons h t ih=>rw[iR,iR,ih,h.1]
def KV.repl (r:KV F vs)(k:κ)(Y:RelV y u) :
  KV (F.map λ kv=>if kv.1=k then(kv.1,y)else kv) (vs.map λ kv=>if kv.1=k then(kv.1,u)else kv):=by
 unfold KV at r ⊢
 induction r with
 | nil=>exact .nil
 | @cons p q ps qs h t ih =>
  rw[av,av];refine .cons ?_ ih;obtain⟨G,J⟩:=h;by_cases e:p.1=k
  .rw[if_pos e,if_pos (G.symm.trans e)];exact⟨G,Y⟩
  .rw[if_neg e,if_neg (λ z=>e (G.trans z))];exact⟨G,J⟩
def KV.put (r:KV z vs)(k:κ)(F:RelV y u):KV (aZ0 z k y) (stored vs k u):=by
 unfold aZ0 stored;rw[r.any k];by_cases e:(vs.any λ kv=>decide (kv.1=k))=true
 .rw[if_pos e,if_pos e];exact r.repl k F
 .rw[if_neg e,if_neg e];exact ow r ⟨rfl,F⟩
theorem KV.length {vs:List (κ×Value)}(r:KV z vs):z.length=vs.length:=dq r
end
def cm5 (r:RelV (kV k) u):(qL P w).is k u=true:=by
 cases k with
 | inl i=>obtain⟨t,e⟩:=(r);subst e;exact aJ6 P w i t
 | inr x=>obtain⟨t,e⟩:=(r);subst e;exact aJ1 P w x t
def bX3 {P:aM}{w:World}(h:RelV (fV f) u):fIs f u=true:=by
 cases f with
 | none=>cases(h);rfl
 | some k=>exact cm5 (P:=P) (w:=w) h
theorem aD5 :∀ {ks} {us:yG},Vals (ks.map fV) us->ItemsAre (qM P w) ks us
 | [],_,r=>by rw[aP]at r;cases r;exact .nil
 | k::ks,_,r=>by
  rw[av]at r;cases r with
  | cons h t=>exact .cons (bX3 (P:=P) (w:=w) h) (aD5 t)
theorem cg8 (ok:HOk P w H h):∀ {ks} {F} {us:yG},dz (NAt H) ks F->Vals F us->dz (NIs P w h) ks us
 | _,_,_,.nil,r=>by cases r;exact .nil
 | _,_,_,.cons (a:=k) q t,r=>by
  cases r with
  | cons z t1 =>
   refine .cons ?_ (cg8 ok t t1);cases k with
   | inl f=>cases q;exact bX3 (P:=P) (w:=w) z
   | inr l =>
    obtain⟨c,rfl,e⟩:=q;cases z;obtain⟨_,its,r,o,z,J,n,G⟩:=(ok c _ e)
    exact⟨c,rfl,o,its.toArray,n,z,J,G,by simpa using aD5 r⟩
abbrev KT (H:Hp):List (List NI×V)->List (List NI×Addr×Value)->Prop:=dz λ p q=>p.1=q.1/\NK H p.1 q.2.1/\RelV p.2 q.2.2
def KT.val (r:KT H F G) k :bn0 (aQ5 F k) ((atKey G k).map (·.2)):=by
 induction r with
 | nil=>exact True.intro
 | @cons p q ps qs h t ih =>
  obtain⟨J,_,Y⟩:=h;by_cases e:p.1=k
  .have e':=J.symm.trans e;have b:atKey (q::qs) k=some q.2:=by simp[atKey,e']
   rw[ao6 e,b];exact Y
  .have e':¬ q.1=k:=λ z=>e (J.trans z);have b:atKey (q::qs) k=atKey qs k:=by simp[atKey,e']
   rw[ao9 e,b];exact ih
def KT.repl (r:KT H F J) k (ry:RelV y u) :
  KT H (F.map λ kv=>if kv.1=k then(kv.1,y)else kv) (J.map (putAt k u)):=by
 induction r with
 | nil=>exact .nil
 | @cons p q ps qs h t ih =>
  rw[av,av];refine .cons ?_ ih;obtain⟨G,Y,Z⟩:=h;unfold putAt;by_cases e:p.1=k
  .rw[if_pos e,if_pos (G.symm.trans e)];exact⟨G,Y,ry⟩
  .rw[if_neg e,if_neg (λ z=>e (G.trans z))];exact⟨G,Y,Z⟩
def KT.put (r:KT H z F) k (hb:NK H k b)(G:RelV y u) :
  KT H (aZ0 z k y) (storedH F k b u):=by
 have e:(z.any λ kv=>decide (kv.1=k))=(atKey F k).isSome:=by
  rw[ay5,(r.val k).isSome_eq,iG]
 unfold aZ0 storedH;rw[e];by_cases q:(atKey F k).isSome=true
 .rw[if_pos q,if_pos q];exact r.repl k G
 .rw[if_neg q,if_neg q];exact ow r ⟨rfl,hb,G⟩
def KT.keeps (r:KT H F G)(J:∀ b ys,H b=some (.tp ys)->H' b=some (.tp ys)):KT H' F G :=
 dz.mapP r λ _ _ z=>⟨z.1,z.2.1.mono J,z.2.2⟩
section
variable {P:aM} {w:World} {H:Hp} {h:Heap} {a:Addr}
def cm8 (ok:HOk P w H h)(e:Rd H a u):ad5 P w H h a u:=e.ok ok
def au1 (ok:HOk P w H h)(e:NK H ks a):(an2 P w).is h ks a:=by
 obtain⟨z,e,p⟩:=e;obtain⟨_,its,r,o,J,G,n,F⟩:=(ok a _ e)
 exact⟨o,its.toArray,n,J,G,F,by simpa using cg8 ok p r⟩
def aI9 (ok:HOk P w H h)(e:Rd H a (.dT F)):F.length<=aV/\(a==fD)=false /\
  ∃ G,KT H F G/\h.DictOfH (an2 P w) a G:=by
 obtain⟨z,y,G,r,o,es,ep,h1,Z,Y,J,h5⟩:=(cm8 ok e)
 refine⟨z,y,G,r,o,es,ep,h1,Z,Y,J,λ x hx=>?_,h5⟩;have all:∀ {l} {m},KT H l m->∀ x∈m,(an2 P w).is h x.1 x.2.1:=by
  intro l m q
  induction q with
  | nil=>intro x hx;exact nomatch hx
  | @cons p q ps qs hq t ih =>
   intro x hx;rcases az.mp hx with e|hx
   .subst e;exact au1 ok (by rw[<-hq.1];exact hq.2.1)
   .exact ih x hx
 exact all r x hx
def bM3 (ok:HOk P w H h)(e:H a=some (.dT z)):z.length<=aV/\(a==fD)=false /\
  ∃ F,KT H z F/\h.DictOfH (an2 P w) a F:=aI9 ok (.inl e)
end
def aY1 (H:Hp)(a:Addr)(y:V)(r:Option V):Prop :=
 False\/∃ kvs k b,Rd H a (.dT kvs)/\y=.ref b/\NK H k b/\r=aQ5 kvs k
def ck3 (H:Hp)(a:Addr)(y v:V)(H':Hp):Prop :=
 False \/
 ∃ kvs k b,H a=some (.dT kvs)/\y=.ref b/\NK H k b/\kvs.length<aV/\H'=upd H a (.dT (aZ0 kvs k v))
def aY1.t (e:H a=some (.dT z))(F:NK H k b):aY1 H a (.ref b) (aQ5 z k):=.inr ⟨z,k,b,.inl e,rfl,F,rfl⟩
def ck3.t (e:H a=some (.dT z))(F:NK H k b)(hl:z.length<aV) :
  ck3 H a (.ref b) v (upd H a (.dT (aZ0 z k v))):=.inr ⟨z,k,b,e,rfl,F,hl,rfl⟩
section
variable {X:Cx} {pins:yA} {W:St} {H:Hp} {s:ag} {a:Addr} {y v:V} {u r:Value} {o:Option V} {A:be} {E:Value->ag->Prop}
def Inv.big (I:Inv X pins W H s):fD<s.heap.objs.size:=by
 have h:=(I.mod.glob.keeps I.bk).lt;exact Nat.lt_trans (by decide) h
def aZ5 (hu:A.units+2<cLine)(I:Inv X pins W H s)(g:aY1 H a y (some v))(ry:RelV y u)(h:∀ w' s',Inv X pins W H s'->RelV v w'->Q w' s') :
  wpAny (model X.prog X.w) A (jx (.ref a) u) Q E s:=by
 rcases g with g|⟨a0,k,b,e,Z,eb,l⟩
 .exact g.elim
 .subst Z;cases(ry);obtain⟨z,hd,Y,F,dd⟩:=aI9 I.hok e;obtain⟨w',hw,J⟩:=bn0.some_of (by rw[l];exact F.val k);obtain⟨p,hp,G⟩:=cr.mp hw;refine wpAny_getItem_heap (hu) (au1 I.hok eb) dd hp ?_;rw[G];exact h w' _ (I.tok _) J
def cy9 (hu:A.units+2<cLine)(I:Inv X pins W H s)(g:aY1 H a y o)(Z:RelV y u)(h:∀ s',Inv X pins W H s'->Q (.bool o.isSome) s') :
  wpAny (model X.prog X.w) A (db .In u (.ref a)) Q E s:=by
 rcases g with g|⟨J,k,b,e,G,Y,l⟩
 .exact g.elim
 .subst G;cases(Z);obtain⟨z,hd,xs,F,dd⟩:=aI9 I.hok e;refine wpAny_in_heap (hu) (au1 I.hok Y) hd dd ?_;have q:=(F.val k).isSome_eq;rw[iG]at q;rw[<-q,<-l];exact h _ (I.tok _)
def bQ8 (hu:A.units+2<cLine)(I:Inv X pins W H s)(g:aY1 H a y o)(Z:RelV y u)(h:∀ s',Inv X pins W H s'->Q (.bool (!o.isSome)) s') :
  wpAny (model X.prog X.w) A (db .NotIn u (.ref a)) Q E s:=by
 rcases g with g|⟨J,k,b,e,G,Y,l⟩
 .exact g.elim
 .subst G;cases(Z);obtain⟨z,hd,xs,F,dd⟩:=aI9 I.hok e;refine wpAny_notIn_heap (hu) (au1 I.hok Y) hd dd ?_;have q:=(F.val k).isSome_eq;rw[iG]at q;rw[<-q,<-l];exact h _ (I.tok _)
def ba4 (I:Inv X pins W H s)(mu:Mut (H a))(hs:cO a s.heap h')(F:∃ q,h'.get? a=some q)(new:ad5 X.prog X.w (upd H a ob) h' a ob) :
  Inv X pins W (upd H a ob) { s with heap:=h',toks:=t' } :=
 I.write mu (.inl rfl) (λ b q hb z=>(hs.2 b hb).trans z) F new
def bf9 (hu:A.units+2<cLine)(I:Inv X pins W H s)(g:ck3 H a y v H')(ry:RelV y u)(rv:RelV v r)(h:∀ s',Inv X pins W H' s'->Q () s') :
  wpAny (model X.prog X.w) A (setItem (.ref a) u r) Q E s:=by
 rcases g with g|⟨G,k,b,e,ey,Z,l,eH⟩
 .exact g.elim
 .subst ey eH;cases(ry);obtain⟨z,hd,xs,F,dd⟩:=bM3 I.hok e;have hz:xs.length<=aV:=by rw[<-dq F];exact z
  have hl:(aZ0 G k v).length<=aV:=by have:=aJ7 G k v;lia
  refine wpAny_setItem_heap (hu) (au1 I.hok Z) dd λ h' J hs=>h _ ?_;obtain⟨q,es,ep,hq,h2,h3,h4,_,h5⟩:=J;refine ba4 I (by rw[e];exact True.intro) hs ⟨q,hq⟩ ⟨hl,hd,_,(F.put k Z rv).keeps λ c ys Y=>?_,q,es,ep,hq,h2,h3,h4,h5⟩;rw[zc (aN8 Y e (λ z=>nomatch z))];exact Y
end
section
variable {X:Cx} {pins:yA} {W:St} {H:Hp} {s:ag} {a:Addr} {kvs:List (Key×V)} {k:Key} {u:Value} {A:be} {E:Value->ag->Prop}
end
def aJ8 {W:St}(I:Inv X z W H s)(g:aY1 H a y o):s.TypeIs (.ref a) "dict":=by
 rcases g with g|⟨F,k,b,e,_,_,_⟩
 .exact g.elim
 .obtain⟨_,_,G,_,dd⟩:=aI9 I.hok e;exact dd.typeIs
section
variable {X:Cx} {o i e value:Expr} {pos pos' tpos:Pos} {td ty tv:TE}
end
def aP1 (h:Heap)(hb:fD<h.objs.size):ad5 P w H (h.push { cls:=.type "dict",data:=.dict #[] }) h.objs.size (.dT []) :=
 ⟨b9 _,beq_eq_false_iff_ne.mpr (dk (aK hb)),[],.nil,_,#[],0,aI _ rfl,⟨rfl,rfl,rfl⟩,rfl,rfl,List.nodup_nil⟩
def bE1:TE:=λ _ H Q=>∀ p,H p=none->Q (.ref p) (upd H p (.dT []))
section
variable {X:Cx} {pos:Pos}
def bp3:PE X (.Dict [] [] pos) bE1:=λ z s W H Q I h =>
 wpAny_Dict_empty ⟨.ref s.heap.objs.size,_,I.laid (λ _ _ q=>ao _ q) (au _) (aP1 s.heap I.big),rfl,h _ (I.hok.fresh (au _))⟩
end
noncomputable def bC8:List (TE×TE)->St->Hp->(List (V×V)->Hp->Prop)->Prop
 | [],_,H,Q=>Q [] H
 | (tk,tv)::r,W,H,Q=>tk W H λ x H1=>tv W H1 λ y H2=>bC8 r W H2 λ ps H3=>Q ((x,y)::ps) H3
abbrev VV:List (V×V)->List (Value×Value)->Prop:=dz λ p q=>RelV p.1 q.1/\RelV p.2 q.2
def PPs (X:Cx)(pos:Pos)(keys:List (Option Expr))(values:yK)(trs:List (TE×TE)):Prop :=
 ∀ pins s (W:St) H Q ,Inv X pins W H s->bC8 trs W H Q ->
  wpAny (model X.prog X.w) X.A (evalPairs (pairTrees keys values X.env pos)) (λ vs s'=>∃ ps H',Inv X pins W H' s'/\VV ps vs/\Q ps H') X.xe s
def bP8 :PPs X pos [] [] []:=λ z s W H Q I h=>pairTrees_nil_walk ⟨[],H,I,.nil,h⟩
def bx1 (hk:PE X k tk)(hv:PE X v J)(hr:PPs X pos ks vs F) :
  PPs X pos (some k::ks) (v::vs) ((tk,J)::F):=λ z s W H Q I h =>
 pairTrees_cons_walk (thn (hk z s W H _ I h) λ u s1 ⟨x,Z,I1,rx,Y⟩=>thn (hv z s1 W Z _ I1 Y) λ w2 s2 ⟨y,H2,I2,ry,q2⟩ =>
  thn (hr z s2 W H2 _ I2 q2) λ ws s3 ⟨ps,H3,I3,G,q3⟩=>⟨(x,y)::ps,H3,I3,.cons ⟨rx,ry⟩ G,q3⟩)
structure M1 (X:Cx)(o:Expr)(m:Str)(apos:Pos)(e:Expr)(cpos:Pos):Prop where
 base:dW o m X.env (eval o X.env)=eval o X.env
 few:((eZ cpos (bB [e] X.env)).all (λ x=>!x.1)&&(lO cpos (iB [] X.env)).all (λ x=>x.1.isSome)
  && decide (([e]:yK).length+([]:List gB).length+(if([]:List gB).isEmpty then 0 else 1)<30))=true
 line:(apos.endLine==cpos.line)=true
 trees:eZ cpos (bB [e] X.env)=[(false,eval e X.env)]
structure M2 (X:Cx)(o:Expr)(m:Str)(apos:Pos)(e f:Expr)(cpos:Pos):Prop where
 base:dW o m X.env (eval o X.env)=eval o X.env
 few:((eZ cpos (bB [e,f] X.env)).all (λ x=>!x.1)&&(lO cpos (iB [] X.env)).all (λ x=>x.1.isSome)
  && decide (([e,f]:yK).length+([]:List gB).length+(if([]:List gB).isEmpty then 0 else 1)<30))=true
 line:(apos.endLine==cpos.line)=true
 trees:eZ cpos (bB [e,f] X.env)=[(false,eval e X.env),(false,eval f X.env)]
def IsD (H:Hp)(a:Addr):Prop:=False\/∃ kvs,Rd H a (.dT kvs)
def cb2 {W:St}(I:Inv X z W H s)(d:IsD H a) :
  s.TypeIs (.ref a) "dict"/\(∀ b,Value.ref a=.ref b->∃ ob,s.heap.get? b=some ob/\ob.dict=none)/\(a==fD)=false:=by
 rcases d with g|⟨G,e⟩
 .exact g.elim
 .obtain⟨_,hd,Y,_,dd⟩:=aI9 I.hok e;refine⟨dd.typeIs,λ b q=>?_,hd⟩;cases q;obtain⟨ob,_,_,J,F,_⟩:=dd;exact⟨ob,J,F.2.1⟩
section
variable {X:Cx} {pins:yA} {W:St} {H:Hp} {s:ag} {a:Addr} {y d:V} {u r:Value} {o:Option V} {A:be} {E:Value->ag->Prop}
def bV6 (hu:A.units+2<cLine)(I:Inv X pins W H s)(g:aY1 H a y o)(ry:RelV y u)(Z:RelV d r)(h:∀ w' s',Inv X pins W H s'->RelV (o.getD d) w'->Q w' s') :
  wpAny (model X.prog X.w) A (call (.builtin "dict.get") [.ref a,u,r]) Q E s:=by
 rcases g with g|⟨a0,k,b,e,Y,eb,l⟩
 .exact g.elim
 .subst Y;cases(ry);obtain⟨z,hd,J,G,dd⟩:=aI9 I.hok e;refine call_meetsIn jT dd.typeIs PySem.F.entry_dict_get (PySem.F.args_dict_get_3 _ _ _) (meetsH_dict_get_default (an2 X.prog X.w) a b hd r) ⟨ hu,k,J,au1 I.hok eb,dd,h _ _ (I.tok _) ?_⟩;rw[l];exact(G.val k).getD Z
end
def bT8 (td ty tx:TE):TE:=λ W H Q=>td W H λ x H1=>∃ a,x=.ref a/\IsD H1 a/\ty W H1 λ y H2=>tx W H2 λ z H3=>∃ o,aY1 H3 a y o/\Q (o.getD z) H3
section
variable {X:Cx} {o e f:Expr} {apos cpos:Pos} {td ty tx:TE}
def bw7 (hu:X.A.units+2<cLine)(ho:PE X o td)(he:PE X e ty)(hf:PE X f tx)(m:M2 X o "get" apos e f cpos):PE X (.Call (.Attribute o "get" apos) [e,f] [] cpos) (bT8 td ty tx):=by
 intro G s W H Q I h;refine wpAny_Call_method m.base m.few m.line jl jT PySem.F.type_dict_get (thn (ho G s W H _ I h) λ u s1 ⟨x,H1,Y,rx,a,ex,d,q1⟩=>?_);subst ex;obtain rfl:u=Value.ref a:=rx;obtain⟨t1,Z,_⟩:=cb2 Y d;refine⟨t1,Z,?_⟩;rw[m.trees];refine fN rfl (gE (ie (thn (he G s1 W H1 _ Y q1) λ iv s2 ⟨y,H2,I2,ry,q2⟩ =>
  ie (thn (hf G s2 W H2 _ I2 q2) λ fv s3 ⟨z,H3,I3,rz,ov,g,q3⟩=>lJ ?_))))
 exact bV6 hu I3 g ry rz λ w' s4 I4 J=>⟨_,H3,I4,J,q3⟩
end
def DAt (h:Heap)(d:Addr)(es:Array jm)(ep:Nat):Prop:=∃ o,h.get? d=some o/\o.ExactDict/\o.data=.dict es ep
section
variable {P:aM} {w:World} {A:be} {E:Value->ag->Prop} {s:ag}
def aC3  d (hd:(d==fD)=false):MeetsIn P w (ng.«dict.items» ⟨[.ref d],[]⟩) (λ _ R s=>s.TypeIs (.ref d) "dict" /\
  R (.ok (.ret (.ref s.heap.objs.size))) { s with heap:=s.heap.push { cls:=.type "dict_items",data:=.fields #[.ref d] } }) :=
 .of_wp λ A R s h=>by
  unfold ng.«dict.items» Builtin.Dict.noArgs;refine ac (ac (wpAny_notOrdered_dict h.1 ?_));refine am ?_;unfold jU;rw[if_neg (by rw[hd];exact aH)];exact ac (am (ac (bp (am ⟨_,rfl,h.2⟩))))
def aI8 (hv:s.heap.IsItemsView v d)(hm:DAt s.heap d es ep)
  (J:Q (.ref s.heap.objs.size) { s with heap:=s.heap.push { cls:=.type "dict_itemiterator",data:=.fields #[.none,.bool false,.ref d,.int 0 0,.int es.size 0,.int ep 0,.none,.none] } }) :
  wpAny (model P w) A (nr (.ref v)) Q E s:=by
 obtain⟨Z,Y,a2,a3⟩:=id hv;obtain⟨o,b1,b2,G⟩:=hm;refine lR hv.typeIs jF (b7 jF hv.typeIs F.entry_dict_items_iter ?_ (F.args_dict_items_iter_1 _));unfold ng.«dict_items.__iter__» nI;refine ac (am (ac (ac (du Y a3 rfl (am (ac ?_))))));unfold mD;refine ac (iH b1 G (ac (jK b1 G ?_)));have z:eM "dict_itemiterator"=true:=by decide
 simp only[z,if_true];refine bp (am ⟨_,rfl, "dict_itemiterator",_,⟨_,aI _ rfl,rfl⟩,bS.lookup,?_⟩)
  (by simp only[sizeOk,fq,aw,aA,aR,fy,dL];lia)
 simpa [n6,fq]using J
def aK6 (z:e7 s.heap it d i es.size ep ok Y)
  (hm:DAt s.heap d es ep) (hx:es[i]?=some x)
  (hQ:∀ h',kU h' it d (i+1) es.size ep x.key x.val s.heap.objs.size->h'.get? s.heap.objs.size=some { cls:=.type "tuple",data:=.seq #[x.key,x.val] } ->
   (∀ b o,b≠it->s.heap.get? b=some o->h'.get? b=some o)->Q (some (.ref s.heap.objs.size)) { s with heap:=h' }) :
  wpAny (model P w) A (f8 (.ref it)) Q E s:=by
 obtain⟨hp,g,G,tk,os⟩:=s;obtain⟨od,b1,b2,b3⟩:=hm;have hT:nT ⟨hp,g,G,tk,os⟩ (.ref it) "dict_itemiterator":=⟨_,z,rfl⟩
 unfold f8;refine ac (iU (cI hT bS
  (b7 bS hT gj ?_ (fY _))))
 refine ac (am (ac (ac ?_)))
 first|refine ac (cX hT (am ?_))|refine ac (dH hT (am ?_))
 refine ac (wpAny_fieldsOf z rfl ?_);have J:eM "dict_itemiterator"=true:=by decide
 simp only[if_true];show wpAny _ _ (if(Value.ref d==Value.none)=true then _ else _) _ _ _;rw[if_neg (show ¬((Value.ref d==Value.none)=true)from aH)];refine ac (am (ac (iH b1 b3 ?_)));rw[if_neg (by simp)];refine ac (am (ac (jK b1 b3 ?_)));rw[if_neg (by simp)];refine am ?_;simp only[ce,hx];refine ac ?_
 first|refine ac (cX hT (am ?_))|refine ac (dH hT (am ?_))
 refine ac (fQ hT ?_);show wpAny _ _ (setField (.ref it) 3 (n6 ((i:Int)+1)) >>= _) _ _ ⟨hp,g,G,tk,os⟩;refine ac (eE z (by simp) λ F e1 s1=>?_)
 replace s1:=s1
 replace e1:e7 F it d (i+1) es.size ep ok Y:=by
  have e:((i+1:Nat):Int)=(i:Int)+1:=by lia
  unfold e7;rw[e];simpa [n6]using e1
 have T1:nT ⟨F,g,G,tk,os⟩ (.ref it) "dict_itemiterator":=⟨_,e1,rfl⟩
 refine ac (cn (ac (fQ T1 (ac (fQ T1 ?_)))));unfold fR;refine ac (wpAny_newTuple ?_);have e2:e7 (F.push { cls:=.type "tuple",data:=.seq #[x.key,x.val] }) it d (i+1) es.size ep ok Y:=ao _ e1;generalize q2:F.push { cls:=.type "tuple",data:=.seq #[x.key,x.val] }=h2 at e2;have z1:=s1.1;have a0:it<hp.objs.size:=aJ z;have t2:h2.get? hp.objs.size=some { cls:=.type "tuple",data:=.seq #[x.key,x.val] }:=by rw[<-q2,<-z1];exact aI _ rfl
 have k2:∀ b o,b≠it->hp.get? b=some o->h2.get? b=some o:=λ b o hb e=>by rw[<-q2];exact ao _ (s1.extBut b o hb e)
 show wpAny _ _ (ft (.ref it) >>= _) _ _ ⟨h2,g,G,tk,os⟩;rw[z1];clear q2 e1 s1 T1 z1 F;unfold ft;refine ac (ac (du e2 rfl (x:=.none) rfl (am ?_)));simp only[if_true];refine ac (du e2 rfl (x:=ok) rfl (ac (du e2 rfl (x:=Y) rfl ?_)));refine ac (eE e2 (by simp) λ h3 e3 s3=>?_)
 replace s3:cO it h2 h3:=s3
 replace e3:e7 h3 it d (i+1) es.size ep x.key Y:=e3
 refine ac (eE e3 (by simp) λ h4 e4 s4=>?_)
 replace s4:cO it h3 h4:=s4
 replace e4:e7 h4 it d (i+1) es.size ep x.key x.val:=e4
 refine ac (eE e4 (by simp) λ h5 e5 s5=>?_)
 replace s5:cO it h4 h5:=s5
 replace e5:kU h5 it d (i+1) es.size ep x.key x.val hp.objs.size:=e5
 refine ac (eE e5 (by simp) λ Z e6 s6=>?_)
 replace s6:cO it h5 Z:=s6
 replace e6:kU Z it d (i+1) es.size ep x.key x.val hp.objs.size:=e6
 have up:∀ b o,b≠it->h2.get? b=some o->Z.get? b=some o:=λ b o hb e=>s6.extBut b o hb (s5.extBut b o hb (s4.extBut b o hb (s3.extBut b o hb e)));exact ac (em (am (am ⟨_,rfl,am (hQ Z e6 (up _ _ (jt a0) t2) λ b o hb e=>up b o hb (k2 b o hb e))⟩)))
def aK0 (hh:A.handled=none)(z:e7 s.heap it d i es.size ep ok J)
  (hm:DAt s.heap d es ep) (hx:es.size<=i) (Y:∀ h',kh it s.heap h'->Q none { s with heap:=h' }):wpAny (model P w) A (f8 (.ref it)) Q E s:=by
 obtain⟨od,b1,b2,G⟩:=hm;have hT:s.TypeIs (.ref it) "dict_itemiterator":=⟨_,z,rfl⟩
 unfold f8;refine ac (iU (cI hT bS
  (b7 bS hT gj ?_ (fY _))))
 refine ac (am (ac (ac ?_)))
 first|refine ac (cX hT (am ?_))|refine ac (dH hT (am ?_))
 refine ac (wpAny_fieldsOf z rfl ?_);have F:eM "dict_itemiterator"=true:=by decide
 simp only[if_true];show wpAny _ _ (if(Value.ref d==Value.none)=true then _ else _) _ _ s;rw[if_neg (show ¬((Value.ref d==Value.none)=true)from aH)];refine ac (am (ac (iH b1 G ?_)));rw[if_neg (by simp)];refine ac (am (ac (jK b1 G ?_)));rw[if_neg (by simp)];refine am ?_;simp only[ce,Array.getElem?_eq_none hx];refine ac ?_
 first|refine ac (cX hT (am ?_))|refine ac (dH hT (am ?_))
 show wpAny _ _ (setField (.ref it) 2 .none >>= _) _ _ s;refine ac (kl z rfl (by simp) ?_);refine ac ?_;simp only[newExc];refine ac (bp (ac (iE (by first|rfl|(simp only[];rfl)) ?_)) (by size_fits));refine bp ?_ (by size_fits);simp only[];refine ac (wpAny_handled ?_);rw[hh];refine ac (am (wpAny_throw ?_));refine ac (i4 ⟨_,aI _ rfl,rfl⟩ isSubtype_stop ?_);exact am (Y _ (((gY ..).extBut.push _).push _))
end
def ar5:entryFor table "dict_itemiterator.__iter__"=some ng.«dict_keyiterator.__iter__»:=entryFor_alias (id' := "dict_keyiterator.__iter__") (by kernel_rfl) (by decide +kernel) (by decide +kernel) (by kernel_rfl)
structure DFz (H:Hp)(a:Addr)(o:Obj)(kvs:List (List NI×V)):Prop where
 at_:H a=some (.frz o (.dT kvs))
def Jt (a:Addr)(o:Obj)(kvs:List (List NI×V)):It:=⟨λ i H=>DFz H a o kvs/\i<kvs.length,
 λ i H x H'=>∃ p b k v,kvs[i]?=some (k,v)/\NK H k b/\H p=none/\x=.ref p/\H'=upd H p (.tp [.ref b,v]),λ i H=>DFz H a o kvs/\kvs.length<=i⟩
def bz1 (ok:HOk P w H h)(z:DFz H a o F):(a==fD)=false/\∃ es ep,DAt h a es ep/\o.data=.dict es ep/\es.size=F.length /\
  ∀(i:Nat) k v ,F[i]?=some (k,v)->∃ x b u,es[i]?=some x/\x.key=.ref b/\x.val=u/\RelV v u/\NK H k b:=by
 obtain⟨e,zz,y,J,r,o',es,ep,h1,h2,h3,Y,h5⟩:=(ok a _ z.at_)
 rw[e]at h1;cases h1;refine⟨y,es,ep,⟨o,e,h2,h3⟩,h3,?_,λ i k v Z=>?_⟩
 .have:=congrArg mK Y;rw[aq,cS]at this;rw[this];exact(dq r).symm
 .have hl:=dq r;have hlt:i<J.length:=by rw[<-hl];exact(ae.mp Z).1
  have key:∀ {G} {l₂} {i:Nat} {p} {q},dz (λ(p:List NI×V) (q:List NI×Addr×Value)=>p.1=q.1/\NK H p.1 q.2.1/\RelV p.2 q.2.2) G l₂->G[i]?=some p->l₂[i]?=some q->p.1=q.1/\NK H p.1 q.2.1/\RelV p.2 q.2.2:=by
   intro G l₂ i p q r
   induction r generalizing i with
   | nil=>intro e;simp at e
   | cons h t ih =>
    intro e1 e2;cases i with
    | zero=>simp at e1 e2;subst e1 e2;exact h
    | succ i=>exact ih (by simpa using e1) (by simpa using e2)
  obtain⟨q1,q2,q3⟩:=key r Z (ai hlt);have ex:es[i]?=some (entryOfKey (an2 P w) J[i]):=by
   rw[<-jV,Y,aQ,ai hlt];rfl
  exact⟨_,J[i].2.1,_,ex,rfl,rfl,q3,q2⟩
def aX8 {K}{elts:yK} a it o G ep a1 (ho:o.data=.dict a1 ep) :
  Turn P w K (.Tuple elts ek epos) (Jt a o G) [it] it (λ i h=>∃ ok Y,e7 h it a i G.length ep ok Y) where
 mem:=by simp
 obj:=λ i h st b hb=>by
  have e:=by simpa using hb
  subst e;obtain⟨ok,Y,e⟩:=st;exact⟨_,e,λ v z=>by cases z⟩
 keep:=λ i h h' st k=>by
  obtain⟨ok,Y,e⟩:=st;exact⟨ok,Y,k it (by simp) _ e⟩
 item:=by
  intro X hP hw hK hc i J s W H E I hf st hg;subst hP hw hK;obtain⟨ok,Y,hz⟩:=st;obtain⟨fz,hlt⟩:=hg;obtain⟨_,es,a5,da,od,hs,at_⟩:=bz1 I.hok fz;rw[ho]at od;cases od;obtain⟨x,b,u,ex,a4,ev,rv,hb⟩:=at_ i _ _ (ai hlt);subst ev;have a3:e7 s.heap it a i a1.size ep ok Y:=by rw[hs];exact hz
  refine aK6 a3 da ex λ h' z' T' kk=>⟨_,rfl,wpAny_letOwnedTupleGo_items z' λ a0 a6 Z=>?_⟩
  replace Z:=Z
  rw[a4]at T';have lt:=jt (aJ hz);have I1:Inv X J W (upd H s.heap.objs.size (.tp [.ref b,G[i].2])) { s with heap:=s.heap.push { cls:=.type "tuple",data:=.seq #[.ref b,x.val] },toks:=s.toks } :=
   I.laid (λ b u e=>ao _ e) (au _) ⟨by simp[aV],[.ref b,x.val],.cons rfl (.cons rv .nil),_,aI _ rfl,rfl,_,rfl⟩
  have a2:∀ c∈[it],FpOk X J (upd H s.heap.objs.size (.tp [.ref b,G[i].2])) c:=λ c hc=>by
   have q:=hf c hc;have e:=by simpa using hc
   subst e;exact⟨by rw[zc lt.symm];exact q.1,q.2⟩
  have I2:Inv X J W (upd H s.heap.objs.size (.tp [.ref b,G[i].2])) { s with heap:=a0,toks:=s.toks }:=by
   refine I1.turnedL a2 λ c o hb e=>?_;have hb:c≠it:=λ z=>hb (by simp[z]);refine Z.extBut _ _ hb ?_;by_cases hcT:c=s.heap.objs.size
   .subst hcT;have:=aI s.heap (o:={ cls:=.type "tuple",data:=.seq #[.ref b,x.val] }) rfl;rw[e]at this;cases this;exact T'
   .exact kk c o hb (by
     have e':=e;rw[Heap.get?_push_ne _ _ _ hcT]at e';exact e')
  exact⟨.ref s.heap.objs.size,_,I2,rfl,⟨_,b,G[i].1,G[i].2,ai hlt,hb,I.hok.fresh (au _),rfl,rfl⟩,⟨_,_,by rw[<-hs];exact a6⟩,λ c hc=>(a2 c hc).1⟩
 done:=by
  intro X hP hw hK hc i J s W H E I hf st hg;subst hP hw hK;obtain⟨ok,Y,hz⟩:=st;obtain⟨fz,a7⟩:=hg;obtain⟨_,es,a5,da,od,hs,_⟩:=bz1 I.hok fz;rw[ho]at od;cases od;exact aK0 (I.ok.hd hc) (by rw[hs];exact hz) da (by lia) λ h' eb=>⟨rfl,I.turnedL hf λ b o hb e=>eb b o (λ z=>hb (by simp[z])) e⟩
 self:=λ A i s Q E st h=>by
  obtain⟨ok,Y,hz⟩:=st;have hT:s.TypeIs (.ref it) "dict_itemiterator":=⟨_,hz,rfl⟩
  refine lR hT gH (b7 gH hT ar5 ?_ (F.args_dict_itemiterator_iter_1 _));exact am ⟨_,rfl, "dict_itemiterator",_,hT,bS.lookup,h⟩
section
variable {X:Cx} {pins:yA} {W:St} {H:Hp} {s:ag}
def HOk.tw (ok:HOk P w H h)(hu:H a=some u)(Z:∀ y,u≠.own y)(Y:∀ F,u≠.tp F)(new:ad5 P w H h a v):HOk P w (upd H a v) h:=λ b q e=>by
 have G:∀ c y,H c=some (.own y)->upd H a v c=some (.own y):=λ c y r=>by rw[zc λ z=>by subst z;rw[hu]at r;cases r;exact Z _ rfl];exact r
 have J:∀ c F,H c=some (.tp F)->upd H a v c=some (.tp F):=λ c F r=>by rw[zc λ z=>by subst z;rw[hu]at r;cases r;exact Y _ rfl];exact r
 by_cases hb:b=a
 .subst hb;rw[zg]at e;cases e;exact new.stay (λ _ _ _ r=>r) (λ c r=>G c _ r) J
 .rw[zc hb]at e;exact(ok b q e).stay (λ _ _ _ r=>r) (λ c r=>G c _ r) J
def Inv.freeze (I:Inv X pins W H s)(e:H a=some (.dT z))(ho:s.heap.get? a=some o):Inv X pins W (upd H a (.frz o (.dT z))) s :=
 I.un (Un.write (by rw[e];trivial) (.inl rfl) (λ _ _ _ q=>q) ⟨o,ho⟩) (I.hok.tw e (by nofun) (by nofun) ⟨ho,I.hok a _ e⟩)
def Inv.thaw (I:Inv X pins W H s)(e:H a=some (.frz o (.dT F)))(h0:∀ o u,X.H₀ a≠some (.frz o u)):Inv X pins W (upd H a (.dT F)) s:=by
 have G:∀ b,H b=none->upd H a (.dT F) b=none:=λ b n=>by rw[zc λ z=>by subst z;rw[e]at n;cases n];exact n
 have B:=I.base;refine⟨I.ok,I.os,I.bare,⟨B.keep,B.slot,λ b o q n hx=>G b (B.free b o q n hx),B.there,λ b J q=>?_,λ b ob u q=>?_,λ b ps q=>?_⟩,I.loc,I.cell,G _ I.free,λ x c q=>G _ (I.freeC x c q),λ p hp=>?_,I.hok.tw e (by nofun) (by nofun) ?_,I.len⟩
 .have r:=B.tups b J q;rw[zc λ z=>by subst z;rw[e]at r;cases r];exact r
 .rw[zc λ z=>by subst z;exact h0 _ _ q];exact B.frzs b ob u q
 .obtain⟨m,r⟩:=B.tbls b ps q;exact⟨m,by rw[zc λ z=>by subst z;rw[e]at r;cases r];exact r⟩
 .obtain⟨p1,Y,p3⟩:=I.pin p hp;exact⟨p1,G _ Y,p3⟩
 .exact(I.hok a _ e).2
noncomputable def vwO (p a:Addr):HO:=.ext λ h=>h.IsItemsView p a
def bz4:V->List V->Hp->VK->Prop:=λ x xs H Q=>∃ a kvs,x=.ref a/\xs=[]/\H a=some (.dT kvs)/\∀ p,H p=none->Q (.ref p) (upd H p (vwO p a))
def bx3:MtR X "dict.items" bz4:=by
 intro G s W H x xs v us Q I Z J h;obtain⟨a,Y,rfl,rfl,e,q⟩:=h;cases Z;cases J;obtain⟨_,hd,ys,_,dd⟩:=bM3 I.hok e;refine call_meetsIn jn dd.typeIs PySem.F.entry_dict_items (PySem.F.args_dict_items_1 _) (aC3 a hd) ⟨dd.typeIs,.ref s.heap.objs.size,_,I.laid (λ b u r=>ao _ r) (au _) ?_,rfl,q _ (I.hok.fresh (au _))⟩;have z:(s.heap.push { cls:=.type "dict_items",data:=.fields #[.ref a] }).IsItemsView s.heap.objs.size a:=⟨_,aI _ rfl,rfl,rfl⟩
 refine⟨z,⟨_,aI _ rfl⟩,λ h1 h2 ⟨o,y1,y2⟩ k=>⟨o,k _ y1,y2⟩⟩
def aZ8 (K:af)(to:TE):TI:=λ W H R=>cq2 K "dict" bz4 to W H λ x H'=>∃ p a kvs H1,x=.ref p/\H'=upd H1 p (vwO p a)/\H1 a=some (.dT kvs)/\H1 p=none/\∀ o,R (Jt a o kvs) (upd H' a (.frz o (.dT kvs)))
def br2 {elts:yK}(ho:PE X ob to)(hb:dW ob "items" X.env (eval ob X.env)=eval ob X.env)(hl:(ap.endLine==cp.line)=true) :
  PI X (.Tuple elts ek epos) (.Call (.Attribute ob "items" ap) [] [] cp) (aZ8 X.K to):=by
 intro J s W H R I h;have pe:=bA6 jl jn PySem.F.type_dict_items bx3 ho hb hl;refine thn (pe J s W H _ I h) λ v s1 ⟨x,H',Y,r1,p,a,z,H1,ex,eH,e1,ep,q⟩=>?_;subst ex;cases r1;have hv:=(show ad5 X.prog X.w H' s1.heap p (vwO p a)from Y.hok p _ (by rw[eH,zg])).1;have ha:H' a=some (.dT z):=by rw[eH,zc (zf e1 ep)];exact e1
 obtain⟨zz,y,xs,r,o,es,G,Z,h2,h3,h4,h5⟩:=(Y.hok a _ ha)
 have hsz:es.size=z.length:=by
  have:=congrArg mK h4;rw[aq,cS]at this;rw[this];exact(dq r).symm
 refine aI8 hv ⟨o,Z,h2,h3⟩ ?_;have I2:=(Y.freeze ha Z).kept (t':=s1.toks) (h':=s1.heap.push { cls:=.type "dict_itemiterator",data:=.fields #[.none,.bool false,.ref a,.int 0 0,.int es.size 0,.int G 0,.none,.none] }) λ b u r=>ao _ r;refine⟨s1.heap.objs.size,[s1.heap.objs.size],_,_,_,rfl,I2,aX8 a s1.heap.objs.size o z G es h3,⟨_,_,by rw[<-hsz];exact aI _ rfl⟩,λ b hb=>?_,q o⟩;have e:=by simpa using hb
 subst e;exact(Y.freeze ha Z).fpOk (au _) ((Y.freeze ha Z).hok.fresh (au _))
end
def cw0 (H:Hp)(kvs:List (List NI×V))(ys:List V)(D:Addr):Prop:=∀ j k v ,j<ys.length->kvs[j]?=some (k,v)->∃ t,t≠D/\ys[j]?=some (.ref t)/\∃ xs,H t=some (.tp (xs++[v]))/\dz (NAt H) k xs
def teI (K:af):TE:=tOp (cg3 K) (be3 0) (ct8 (aj4 (be3 1) aW4))
def gI (K:af):TG:=cl7 K 2 (bo8 (au5 0) (bo8 (au5 1) cp1))
def cc3 {K}(e:Z a=some (.dT F))(ne:∀ kv∈F,kv.1≠[]/\kv.1.length<=1000)(hz:F.length<=1000000)
  (hQ:∀ D ys Y o,af0 Z (upd Y a (.dT F))->Z D=none->D≠a->Y D=some (.J ys)->Y a=some (.frz o (.dT F))->ys.length=F.length->cw0 Y F ys D->Q (.ref D) Y) :
  tComp [none,none] (aZ8 K (tC (.ref a))) (gI K) ck5 (teI K) W Z Q:=by
 refine⟨.inr (.inr ⟨rfl,F,e⟩),a,F,rfl,rfl,e,λ p hp=>⟨p,a,F,Z,rfl,rfl,e,hp,λ o D hD=>?_⟩⟩;generalize a8:upd (upd Z p (vwO p a)) a (.frz o (.dT F))=Y at hD;have ea:Y a=some (.frz o (.dT F)):=by rw[<-a8,zg]
 have aD:=zf ea hD;have a4:∀ b q,Z b=some q->b≠a->Y b=some q:=λ b q r z=>by rw[<-a8,zc z,zc (zf r hp)];exact r
 refine⟨λ i m W' H'=>m=F.length - i/\i<=F.length/\W'.length=2/\(∀ b q,b≠D->Y b=some q->H' b=some q)/\∃ ys,H' D=some (.J ys)/\ys.length=i/\cw0 H' F ys D,⟨F.length,by simp,b9 _,rfl,λ b q z r=>by rw[zc z];exact r,[],zg,rfl,λ j k v hj=>absurd hj (jJ _)⟩,?_⟩
 rintro i m W' H' ⟨rfl,b4,b1,kp,ys,hy,G,a6⟩
 have a1:=kp a _ aD ea;rcases jG i F.length with hlt|hge
 .refine .inr ⟨⟨⟨a1⟩,hlt⟩,_,λ W2 H3 n=>⟨F.length - (i+1),by lia,n⟩,?_⟩
  rintro x H3 ⟨p',b,k,v,hk,hb,b0,rfl,rfl⟩
  have k3:af0 H' (upd H' p' (.tp [.ref b,v])):=(af0.refl H').new b0;refine⟨p',[.ref b,v],rfl,SqT.of zg,rfl,.ref b,[v],rfl,v,[],rfl,rfl,?_⟩;have h0:0 < W'.length:=by lia
  have h1:1 < W'.length:=by lia
  refine⟨.ref b,by rw[bH (by decide),bj h0],v,by rw[bj (by rw[bf];exact h1)],by show 1<=aV;rw[dL];lia,λ p2 b3=>?_⟩;have k4:=k3.new (o:=.tp [v]) b3;have b2:=(ne _ (aE hk)).1;have b5:k.length<=1000:=(ne _ (aE hk)).2;obtain⟨xs,hb,a2⟩:=hb;have a7:=dq a2;have a9:=k4 _ _ hb;refine⟨b,p2,xs,[v],rfl,rfl,SqT.of a9,SqT.of zg,?_,λ t H7 sm ht hn=>?_⟩
  .rw[<-a7,dL];show k.length+1<=_;lia
  .have J:af0 H' H7:=λ c q r=>sm _ _ (k4 _ _ r);have a5:H7 t=some (.tp (xs++[v])):=by
    rcases hn with hn|⟨_,hn⟩|⟨_,hn⟩
    .exact hn
    .cases hn
    .exact absurd (bM.mp (a7.trans (by rw[hn];rfl))) b2
   have a3:=aN8 a5 (J _ _ hy) (by nofun);refine⟨ys,J _ _ hy,by rw[dL];lia,rfl,hlt,by rw[bf,bf];exact b1,λ c q z r=>by rw[zc z];exact J _ _ (kp c q z r),ys++[.ref t],zg,by rw[aA,G];rfl,λ j k' v' hj a0=>?_⟩;rw[aA,G]at hj;by_cases hji:j<i
   .obtain⟨t',z1,z2,z3⟩:=a6 j k' v' (by rw[G];exact hji) a0;exact⟨t',z1,by rw[aS (by rw[G];exact hji)];exact z2,let⟨xs,y1,y2⟩:=z3;⟨xs,by rw[zc z1];exact J _ _ y1,iA (λ _ _ q=>q.mono λ c ys r=>by rw[zc (aN8 (J _ _ r) (J _ _ hy) (by nofun))];exact J _ _ r) y2⟩⟩
   .have:j=i:=by simp at hj;lia
    subst this;rw[hk]at a0;cases a0;exact⟨t,a3,by rw[aN (by rw[G];exact au _),G,eF];rfl,xs,by rw[zc a3];exact a5,iA (λ _ _ q=>q.mono λ c ys r=>by rw[zc (aN8 (J _ _ r) (J _ _ hy) (by nofun))];exact J _ _ r) a2⟩
 .have:i=F.length:=by lia
  subst this;refine .inl ⟨⟨⟨a1⟩,au _⟩,hQ D ys H' o (λ b q r=>?_) ?_ aD.symm hy a1 G a6⟩
  .by_cases z:b=a
   .subst z;rw[e]at r;cases r;exact zg
   .have r2:=a4 b q r z;rw[zc z];exact kp b q (zf r2 hD) r2
  .cases q:Z D with
   | none=>rfl
   | some w=>have:=a4 D w q aD.symm;rw[hD]at this;cases this
def bV2 (a1:x≠y)(Z:zU [x,y] [none,none] scope X.N X.env.scope=true)(F:X.calm=true)
  (hx:scope.names.lookup x=some .local) (hy:scope.names.lookup y=some .local) (a0:PE X ob to) (hb:dW ob "items" X.env (eval ob X.env)=eval ob X.env) (hl:(ap.endLine==cp.line)=true)
  (d1:(x==("__debug__":Str))=false) (d2:(y==("__debug__":Str))=false) (d3:(x==("__classdict__":Str))=false) (d4:(y==("__classdict__":Str))=false) :
  PE X (.ListComp (.BinOp (.Name x p1) .Add (.Tuple [.Name y p2] k2 p3) p4) [⟨.Tuple [.Name x p5,.Name y p6] k7 p8,.Call (.Attribute ob "items" ap) [] [] cp,[],0⟩] scope pos)
   (λ W H Q=>tComp [none,none] (aZ8 X.K to) (gI X.K) ck5 (teI X.K) W H λ v H'=>∃ a o G,H' a=some (.frz o (.dT G))/\(∀ o u,H a≠some (.frz o u))/\Q v (upd H' a (.dT G))):=by
 intro Y s W H Q I h;have base:=aK4 (X:=X) (pos:=pos) (scope:=scope) [x,y] [none,none] Z (br2 (elts:=[.Name x p5,.Name y p6]) (ek:=k7) (epos:=p8) a0 hb hl) F (g:=gI X.K) (tc:=ck5) (te:=teI X.K) (ifs:=[]) (elt:=.BinOp (.Name x p1) .Add (.Tuple [.Name y p2] k2 p3) p4) (λ Cc cells s H ex=>by
  have J:∀ z,scope.names.lookup z=some .local->(eX scope X.env).names.lookup z=some .local:=λ z hz=>by
   have q:(eX scope X.env).names.lookup z=some (if(NameKind.local==NameKind.free&&X.env.scope.kind==.function&&X.env.kindOf z==some .cell)then NameKind.cell else NameKind.local):=zY (env:=X.env) hz;rw[q];rfl
  have vx:Vis (eX scope X.env) x:=.inl (J x hx);have vy:Vis (eX scope X.env) y:=.inl (J y hy);have nd:[x,y].Nodup:=by simp[a1]
  refine⟨bz8 F (ay1 (az4 (i:=0) nd rfl (.inl (J x hx)) (.inr (J x hx))) (ay1 (az4 (i:=1) nd rfl (.inl (J y hy)) (.inr (J y hy))) bi6 rfl) rfl) rfl rfl,bb5,bR8 (bg4 rfl) (am8 (i:=0) rfl vx d1 d3) (bD8 (zp (am8 (i:=1) rfl vy d2 d4) ad2 rfl))⟩) (by intro _;rfl)
 exact thn (base Y s W H _ I h) λ v s' ⟨z,H',I',r',a,o,G,e,nf,q⟩=>⟨z,_,I'.thaw e (λ o u r=>nf o u (I.base.frzs _ _ _ r)),r',q⟩
section
variable {prog:aM} {w:World} {A:be} {R:l7->ag->Prop} {I:Addr} {fp wr:List Addr} {n:Nat} {P:Nat->Value->Prop} {St:Nat->Heap->Prop} {kw:List (Str×Value)}
def bj5 (Ww:Walks prog w A.in1 I fp wr n P St) bt (a7:CmpOf prog w A.in1 .Gt P bt) S (a9:S ∉ fp) :
  ∀ k j s vb c ,n - (j+1)=k->j+1<=n->St (j+1) s.heap->P (cF bt j) vb ->
  s.heap.get? S=some { cls:=.type "list",dict:=none,data:=.seq #[vb,vb] c,slots:=#[] } ->
  (∀ v h' tk,P (cF bt (n - 1)) v->(∀ b o,b ∉ wr->b≠S->s.heap.get? b=some o->h'.get? b=some o)->R (.ok (.ret v)) { s with heap:=h',toks:=tk }) ->
  gA (model prog w) A (.builtin "max.loop" ⟨[.ref I,.none,.ref S],kw⟩) R s:=by
 have a6:=λ h=>a9 (Ww.sub _ h);have Z:(toString "max"++toString ".loop":String) = "max.loop":=by decide
 intro k
 induction k with
 | zero =>
  intro j s vb c hk hj a3 a1 hS hR;have a8:j+1=n:=by omega
  refine dJ jo ?_;rw[c8 dw _];refine ac (cN hS rfl ?_);refine ac (cP (Ww.done s _ _ (a8▸a3) λ h' tk G=>?_));have a0:=G S _ a6 hS;refine ac ?_;refine eL a0 rfl (ac (em (am ?_)));refine hR vb _ tk (by rw[<-a8];exact a1) λ b o z F e=>(bq _ _ (dk F)).trans (G b o z e)
 | succ k ih =>
  intro j s vb c hk hj a3 a1 hS hR;have hlt:j+1<n:=by omega
  refine dJ jo ?_;rw[c8 dw _];refine ac (cN hS rfl ?_);refine ac (cP (Ww.item (j+1) s _ _ hlt a3 λ v h' tk hP a2 G=>?_));have a0:=G S _ a6 hS;show wpAny _ A.in1 (tryCatch (kF [v,v] (richCompare .Gt v vb >>= _)) _ >>= _) _ _ _;refine ac (cP (cn (ac (a7 (j+1) (cF bt j) v vb _ _ _ hP a1 ?_))));refine ac (cn (bI ?_));refine ac (em (am ?_));cases hb:bt (j+1) (cF bt j)with
  | true =>
   simp only[if_true];refine ac ?_;refine eL a0 rfl (ac (em ?_));rw[Z];refine am ⟨dY dw _,ih (j+1) _ v _ (by omega) hlt (Ww.frame _ _ _ a2 λ b b0 o e=>?_) (by simp only[cF,hb,if_true];exact hP) (cU _ a0 rfl)
    λ v' a5 Y a4 J=>?_⟩
   .exact(bq _ _ (λ h:S=b=>a9 (by rw[h];exact b0))).trans e
   .exact hR v' a5 Y a4 λ b o z F e=>J b o z F ((bq _ _ (dk F)).trans (G b o z e))
  | false =>
   simp only[bE,if_false];refine ac (em ?_);rw[Z];refine am ⟨dY dw _,ih (j+1) _ vb c (by omega) hlt a2 (by simp only[cF,hb,bE,if_false];exact a1) a0 λ v' a5 Y a4 J=>?_⟩;exact hR v' a5 Y a4 λ b o z F e=>J b o z F (G b o z e)
def aU5 (Ww:Walks prog w A.in1 I fp wr n P St) bt (a0:CmpOf prog w A.in1 .Gt P bt) S (J:S ∉ fp)(Y:St 0 s.heap)
  (hS:s.heap.get? S=some { cls:=.type "list",dict:=none,data:=.seq #[] c,slots:=#[] })
  (h0:n=0->∀ h' tk,(∀ b o,b ∉ wr->b≠S->s.heap.get? b=some o->h'.get? b=some o)->R (.ok (.ret d)) { s with heap:=h',toks:=tk })
  (hR:0<n->∀ v h' tk,P (cF bt (n - 1)) v->(∀ b o,b ∉ wr->b≠S->s.heap.get? b=some o->h'.get? b=some o)->R (.ok (.ret v)) { s with heap:=h',toks:=tk }) :
  gA (model prog w) A (.builtin "max.loop" ⟨[.ref I,.none,.ref S],[(aZ "default",d)]⟩) R s:=by
 have a6:=λ h=>J (Ww.sub _ h);have G:(toString "max"++toString ".loop":String) = "max.loop":=by decide
 refine dJ jo ?_;rw[c8 dw _];refine ac (cN hS rfl ?_);show wpAny _ A.in1 (tryCatch (f8 (.ref I)) _ >>= _) _ _ s;rcases lu n with hn|hn
 .refine ac (cP (Ww.done s _ _ (hn▸Y) λ h' tk F=>?_));show wpAny _ A.in1 (rule _ >>= _) _ _ _;refine ac (hZ (am ?_));exact h0 hn h' tk λ b o z _ e=>F b o z e
 .refine ac (cP (Ww.item 0 s _ _ hn Y λ v h' tk hP a3 F=>?_));have a4:=F S _ a6 hS;show wpAny _ A.in1 (mr S (λ _=>#[v,v]) >>= _) _ _ _;refine ac ?_;refine eL a4 rfl ?_;rw[G];refine am ⟨dY dw _,bj5 Ww bt a0 S J _ 0 _ v _ rfl hn (Ww.frame _ _ _ a3 λ b a5 o e=>?_) hP (cU _ a4 rfl) λ v' a8 a2 a7 a1=>?_⟩
  .exact(bq _ _ (λ h:S=b=>J (by rw[h];exact a5))).trans e
  .exact hR hn v' a8 a2 a7 λ b o z Z e=>a1 b o z Z ((bq _ _ (dk Z)).trans (F b o z e))
end
def bf3  a d :argsOk "max" ⟨[a],[(aZ "default",d)]⟩:=by unfold argsOk;kernel_rfl
theorem aq7 (val : Nat -> Int) : ∀ k j, j <= k -> val (cF (λ i j => decide (val i > val j)) k) ≥ val j
  | 0, j, h => by have : j = 0 := by omega
                  subst this; exact dP _
  | k + 1, j, h => by
    have ih := aq7 val k;unfold cF;by_cases hb : val (k + 1) > val (cF (λ i j => decide (val i > val j)) k)
    . rw[if_pos (by simpa using hb)]
      by_cases hj : j = k + 1
      . subst hj; exact dP _
      . have := ih j (by omega); lia
    . rw[if_neg (by simpa using hb)]
      by_cases hj : j = k + 1
      . subst hj; omega
      . exact ih j (by omega)
def bK1 (K:af):V->V->Hp->VK->Prop:=λ x d H Q=>∃ a ns,x=.ref a/\SqL K H a (ns.map V.int)/\(ns=[]->Q d H)/\∀ m∈ns,(∀ y∈ns,y<=m)->Q (.int m) H
def bt4 {W:St}(hc:X.calm=true)(I:Inv X G W H s)(rx:RelV x u)(rd:RelV d w')(h:bK1 X.K x d H Q) :
  wpAny (model X.prog X.w) X.A (call (.builtin "max") [u] [(aZ "default",w')]) (EP X G W Q) X.xe s:=by
 obtain⟨a,ns,rfl,hS,q0,qm⟩:=h;cases rx;obtain⟨its,rv,pl,hz⟩:=I.list hS;have hl:=rv.length;rw[aq]at hl;have Z:(toString "max"++toString ".loop":String) = "max.loop":=by decide
 refine kmb_tree F.kind_max F.plain_max F.entry_max (bf3 _ _) ?_;refine ac (iE (rfl) ?_);refine ac (am ?_);refine ac (dg pl.isList ?_);have a1:a<s.heap.objs.size:=by obtain⟨o,_,e,_⟩:=pl;exact aJ e
 have Ww:=jE (prog:=X.prog) (w:=X.w) (A:=X.A.in1) (I.ok.hd hc) s.heap.objs.size a (aK a1) its.toArray;refine ac (bp ?_);generalize Y:s.heap.push _=h2;have J:h2.objs.size=s.heap.objs.size+1:=by rw[<-Y,dD]
 have a0:∀ b o,s.heap.get? b=some o->h2.get? b=some o:=λ b o e=>by rw[<-Y];exact ao _ e
 have a3:h2.objs.size ∉ [s.heap.objs.size,a]:=by
  rw[J];intro z;rcases az.mp z with z|z
  .exact absurd z (mw _)
  .have z':=by simpa using z
   exact absurd (aL a1 (by rw[<-z'];exact dQ _)) (bG _)
 have a4:(h2.push { cls:=.type "list",data:=.seq ([]:yG).toArray }).IsListIter s.heap.objs.size a 0/\(h2.push { cls:=.type "list",data:=.seq ([]:yG).toArray }).IsList a its.toArray:=by
  refine⟨⟨_,ao _ (by rw[<-Y];exact aI _ rfl),rfl,rfl⟩,?_⟩;obtain⟨o,e,r⟩:=pl.isList;exact⟨o,ao _ (a0 _ _ e),r⟩
 let val:=λ i=>ns.getD i 0
 have a2:∀ i v,its.toArray[i]?=some v->∃ t,v=Value.int (val i) t:=λ i v e=>by
  obtain⟨z,t,e1,e2⟩:=al1 rv (by rw[cb]at e;exact e);refine⟨t,?_⟩;rw[e2];show Value.int z t=Value.int (ns.getD i 0) t;rw[aO,e1];rfl
 rw[Z];have nx:∀(h':Heap) (tk:Nat),(∀ b o,b ∉ [s.heap.objs.size]->b≠h2.objs.size->(h2.push { cls:=.type "list",data:=.seq ([]:yG).toArray }).get? b=some o->h'.get? b=some o)->Inv X G W H { s with heap:=h',toks:=tk }:=λ h' tk k=>I.kept λ b o e=>by
  refine k b o ?_ ?_ (ao _ (a0 b o e))
  .intro z;have z':b=s.heap.objs.size:=by simpa using z
   exact absurd (aJ e) (by rw[z'];exact bG _)
  .intro z;exact absurd (aJ e) (by rw[z,J];exact lv.mpr (dQ _))
 refine am ⟨dY dw _,aU5 (d:=w') Ww _ (CmpOf.ints_gt val a2) h2.objs.size a3 a4 (aI _ rfl) (λ hn h' tk k=>?_) λ hn v h' tk hP k=>?_⟩
 .have e:ns=[]:=by
   have:its.toArray.size=0:=hn;have:its.length=0:=by simpa using this
   exact bM.mp (by omega)
  exact⟨d,H,nx h' tk k,rd,q0 e⟩
 .obtain⟨z,t,e1,e2⟩:=al1 rv (i:=cF (λ i j=>decide (val i > val j)) (its.toArray.size - 1)) (v:=v) (by rw[cb]at hP;exact hP);subst e2;have hv:val (cF (λ i j=>decide (val i > val j)) (its.toArray.size - 1))=z:=by
   show ns.getD _ 0=z;rw[aO,e1];rfl
  refine⟨.int z,H,nx h' tk k,⟨t,rfl⟩,qm z (aE e1) λ y hy=>?_⟩;obtain⟨j,hj,e3⟩:=ci.mp hy;have:=aq7 val (its.toArray.size - 1) j (by simp only[aw];omega);rw[hv]at this;have e4:val j=y:=by
   show ns.getD j 0=y;rw[aO,ai hj];exact e3
  lia
def co1 (K:af)(ta td:TE):TE:=λ W H Q=>ta W H λ x H1=>td W H1 λ d H2=>bK1 K x d H2 Q
def bR5 {K}(hK:X.K=K)(hc:X.calm=true)(hg:Gl X "max")(hm:X.mg "max"=none)(ha:PE X e F)(hd:PE X Z Y)
  (hs:autoParam (bB [e] X.env=[(false,eval e X.env)]) Zq4._auto_1) :
  PE X (.Call (.Name "max" p) [e] [⟨some "default",Z,kp⟩] pos) (co1 K F Y):=by
 subst hK;intro z s W H Q I h;refine cW (at5 I hg hm co3 ?_);have h':aj4 F aW4 W H (λ vs J=>match vs with|[x]=>Y W J λ d H2=>bK1 X.K x d H2 Q|_=>False):=h;refine callWith_kw (thn ((zp ha ad2 hs) pos z s W H _ I h') λ us s1 ⟨vs,J,I1,r1,G⟩=>?_) (by rw[hs];rfl) (by rw[hs];rfl)
 match vs,G,r1 with
 | [x],G,r1 =>
  obtain⟨u,rfl,ru⟩:=qR r1;refine kws_cons (thn (hd z s1 W J _ I1 G) λ v s2 ⟨d,H2,I2,rd,q2⟩=>kws_nil ?_);exact bt4 hc I2 ru rd q2
def aY7 {K}
 (X:K.In s.heap) (z:fu (model prog w) s.heap (lp (Value.ref x)) (Value.ref Cc))
 (hm:kW K Cc (Value.type "object")=some true) (h:R (Except.ok (Flow.ret (Value.ref Cc))) s) :
   gA (model prog w) A
    (Code.call (Value.builtin "getset_descriptor.__get__")
     { pos:=[Value.builtin "object.__class__",Value.ref x,F] }) R s:=by
 obtain⟨hh,g,G,t,os⟩:=s;have L1:=PySem.W.looks_mroIn (M:=model prog w) X hm;refine ko lx.plain PySem.W.KF.entry_gs (lx.check (model prog w) A.in1 _ _ _ _ _ _ PySem.W.KF.type_class (PySem.W.KF.args_gs _ _ _) ?_);show wpAny (model prog w) A.in1 (do
   let __x <- kq { pos:=[Value.builtin "object.__class__",Value.ref x,F] }
   match __x with
    | (d,obj,snd)=>fe d obj) _ _ _
 rw[PySem.W.dga_obj];refine ac (am ?_);simp only[];unfold fe;refine ac ?_;unfold d8;have e1:jq (Value.builtin "object.__class__")=pure (aZ "__class__",Value.type "object"):=by
  show pure (aZ (eg "object.__class__").2,Value.type (eg "object.__class__").1)=_;rw[PySem.W.KF.owner_class]
 rw[e1];refine ac (am ?_);refine ac (ac (PySem.W.Looks.at z (PySem.W.Looks.at L1 (am ?_))));refine am ⟨Code.quiet_builtin _ (by decide +kernel),dJ PySem.W.KF.entry_class ?_⟩;refine ac ?_;unfold shownTypeOf;exact ac (PySem.W.Looks.at z (am (am h)))
def cu0 {K}{ D}(X:K.In h)
 (G:cC K (Value.ref D) name=some (some a)) (z:iI K a (aZ "__get__")=some (some g)) (F:jL K a=some true) :
 fu M h (fJ (Value.ref x) (Value.ref D) name) (Builtin.ObjectAttr.Found.bind g a):=by
 have L1:=gJ (M:=M) X G;have L2:=PySem.W.looks_specialIn (M:=M) X z;have L3:=PySem.W.looks_takesIn (M:=M) X F;unfold fJ;refine dF L1 (dF L2 ?_);refine dF (dF L3 iJ) (oB iJ)
def XAt (h:Heap)(x Cc:Addr):Prop:=∃ ox,h.get? x=some ox/\ox.cls=Value.ref Cc
def XAt.type (I:XAt h x Cc):fu M h (lp (Value.ref x)) (Value.ref Cc):=by
 obtain⟨G,F,z⟩:=I;exact z▸dF (mF F) iJ
def bZ1 {K:af}
 {x D:Addr} 
 (X:K.In s.heap) (L0:fu (model prog w) s.heap (lp (Value.ref x)) (Value.ref D))
 (L1:fu (model prog w) s.heap (fJ (Value.ref x) (Value.ref D) name) (Builtin.ObjectAttr.Found.bind g a))
 (Y:cC K (Value.ref D) (aZ "__getattribute__")=some (some (Value.builtin "BaseException.__getattribute__")))
 (hk:cC K (Value.ref D) (aZ "__getattr__")=some none)
 {bs Z:yG} {sn:yH} {sub:yG} {dd:yI} 
 (hC:s.heap.get? D=some (excClassObj nm q D N bs Z hdct sn sub ab col dd k0 k1 k2 k3 k5 G)) (T:OwnTailQ s.heap [.type "ValueError",.type "Exception",.type "BaseException",.type "object"] Z) (hx:s.heap.get? x=some o) (hc:o.cls=.ref D)
 (h:wpAny (model prog w) A.in1 (call g [a,Value.ref x,Value.ref D]) (λ v s'=>wpAny (model prog w) A (handedOut v) (λ v J=>Q (some v) J) (λ _ _=>False) s') (λ _ _=>False) { heap:=s.heap,gens:=s.gens,drawn:=s.drawn,toks:=s.toks+1,os:=s.os }) :
   wpAny (model prog w) A (getAttr? (Value.ref x) name) Q E s:=by
 obtain⟨hh,gg,d,t,os⟩:=s;have Lg:=gJ (M:=model prog w) X Y;have L2:=gJ (M:=model prog w) X hk;have f3:=fZ.ga.bind (Value.ref x);unfold getAttr?;refine ac (wpAny_mkText ?_);unfold getAttrBy?;refine ac (iU (cn (ac (PySem.W.Looks.at L0 (ac (PySem.W.Looks.at Lg ?_))))));refine wpAny_ite_false rfl ?_;refine ac (wpAny_ite_true rfl (PySem.W.Looks.at L2 ?_));refine ac (iU (cn ?_));refine wpAny_ite_false rfl ?_;refine ac (iE f3 (lh ?_));refine ko fZ.ga.plain F.entry_bexc_ga ?_;refine wpAny_check_ga_own fZ hC T hx hc ?_;refine ac (am ?_);refine ac (am (ac (PySem.W.Looks.at L0 (ac (PySem.W.Looks.at L1 ?_)))));refine ac (cn (bw h (λ v s' z=>am ?_) λ _ _ z=>z.elim));exact bw z (λ v J hv=>am hv) λ _ _ z=>z.elim
noncomputable def zC (h:Heap)(l:List Addr):Heap:={ h with objs:=h.objs.mapIdx λ i o=>if i∈l then { o with data:=.freed } else o }
def zv (hb:b∈l):(zC h l).get? b=none:=by
 unfold Heap.get? zC;simp only[jW];cases e:h.objs[b]? with
 | none=>rfl
 | some o=>simp only[gX,if_pos hb]
def qJ (hb:b ∉ l):(zC h l).get? b=h.get? b:=by
 unfold Heap.get? zC;simp only[jW];cases e:h.objs[b]? with
 | none=>rfl
 | some o=>simp only[gX,if_neg hb]
def qd :(zC h l).StaysIn h:=λ b o e=>by
 by_cases hb:b∈l
 .rw[zv hb]at e;cases e
 .rwa [qJ hb]at e
def without_none (e:(zC h l).get? b=none):b∈l\/h.get? b=none:=by
 by_cases hb:b∈l
 .exact .inl hb
 .rw[qJ hb]at e;exact .inr e
theorem ar6 {h :Heap}:∀ {l},h.FunFrames base l->(∀ b∈frs l,F.get? b=none)->h.FunFrames F l
 | [],_,_=>True.intro
 | env::l,⟨k,⟨L,o,hf,_,ho,hd⟩,r⟩,hb=>by
  have hm:frs (env::l)=L::frs l:=by unfold frs;rw[bc,hf]
  rw[hm]at hb;exact⟨k,⟨L,o,hf,hb L (ax ..),ho,hd⟩,ar6 r λ b z=>hb b (ak _ z)⟩
def HOk.part (x:HOk P w H h)(k:∀ b u o,H b=some u->h.get? b=some o->h'.get? b=some o):HOk P w H h':=λ a o e =>
 (x a o e).stay (λ b u hb q=>by
  rcases hb with rfl|hb
  .exact k _ _ _ e q
  .exact k _ _ _ hb q) (λ _ q=>q) λ _ _ q=>q
def ad5.at_ (x:ad5 P w H h a o):∃ u,h.get? a=some u:=by
 cases o with
 | J xs=>obtain⟨_,_,_,_,e⟩:=x;exact⟨_,e⟩
 | tp xs=>obtain⟨_,_,_,ob,e,_⟩:=x;exact⟨_,e⟩
 | dT kvs=>obtain⟨_,_,_,_,o,_,_,e,_⟩:=x;exact⟨_,e⟩
 | own y=>exact x
 | xd fs=>obtain⟨_,⟨_,_,_,e,_⟩,_⟩:=x;exact⟨_,e⟩
 | rng lo hi=>obtain⟨_,_,_,e⟩:=x;exact⟨_,e⟩
 | frz ob u=>obtain⟨e,_⟩:=x;exact⟨_,e⟩
 | tbl ps=>exact⟨_,(x)⟩
 | ext C=>obtain⟨_,e,_⟩:=x;exact e
structure Fly (h0:Heap)(H:Hp)(h:Heap)(a Cc:Addr):Prop where
 new:h0.get? a=none
 free:H a=none
 at_:∃ a0 oe vs T oT ts,h.get? a=some oe/\(oe.cls=.ref Cc/\vs[0]?=some a0)/\oe.data=.fields vs/\vs[1]?=some (.ref T)/\h0.get? T=none/\H T=none/\T≠a/\h.get? T=some oT/\oT.data=.fields ts/\ts[3]?=some .none
section
variable {X:Cx} {pins:yA} {W:St} {H:Hp} {s:ag} {a Cc:Addr} {a0:Value}
def bf0 (I:Inv X pins W H s)(Y:X.ex=[])(a1:∀ b∈frs X.stack,b∈bs)(hb:∀ b∈bs,b∈frs X.stack\/(X.s₀.heap.get? b=none/\H b=none))(n0:X.s₀.heap.get? a=none)(nH:H a=none)(G:∀ b∈X.fs,b∈frs X.stack)
  (L:Heap.LeftW (zC s.heap bs) X.stack a (.ref Cc) a0 s.heap h'):Un X.fs [] X.H₀ H X.s₀.heap h'/\HOk X.prog X.w H h'/\Fly X.s₀.heap H h' a Cc:=by
 obtain⟨st,ff,tr,sl⟩:=L;have un:=I.base;rw[Y]at un;have keep:=λ b o n e=>st b o (by rw[qJ n];exact e);have slot:∀ b o,b∈frs X.stack->s.heap.get? b=some o->∃ sl,h'.get? b=some { o with slots:=sl }:=λ b o n e=>by
  obtain⟨_,o',e',d⟩:=I.stack.mem n;rw[e]at e';cases e';exact sl b o e d
 have out:∀ b o,X.s₀.heap.get? b=some o->b ∉ frs X.stack->b ∉ bs:=λ b o e n z=>by
  rcases hb b z with q|⟨q,_⟩
  .exact n q
  .rw[e]at q;cases q
 have J:∀ b o,X.s₀.heap.get? b=some o->b ∉ X.fs->b ∉ frs X.stack:=λ b o e n z=>by
  rcases az.mp (I.stkSub b z)with q|q
  .subst q;exact absurd (aJ e) (lv.mpr I.ok.above)
  .exact n q
 refine⟨⟨λ b o e n F nx=>?_,λ b o e n F nx=>?_,un.free,λ b o e nx=>?_,un.tups,un.frzs,un.tbls⟩,I.hok.part λ b u o e q=>?_,⟨n0,nH,?_⟩⟩
 .exact keep b o (out b o e (J b o e F)) (un.keep b o e n F nx)
 .obtain⟨a2,e1⟩:=un.slot b o e n F nx;obtain⟨Z,e2⟩:=slot b _ (G b F) e1;exact⟨Z,e2⟩
 .obtain⟨o1,e1⟩:=un.there b o e nx;by_cases z:b∈frs X.stack
  .obtain⟨_,e2⟩:=slot b _ z e1;exact⟨_,e2⟩
  .exact⟨_,keep b o1 (out b o e z) e1⟩
 .refine keep b o (λ z=>?_) q;rcases hb b z with y|⟨_,y⟩
  .rw[I.stkFree b y]at e;cases e
  .rw[y]at e;cases e
 .obtain⟨oe,vs,T,oT,ts,h1,h2,h3,h4,h5,h6,h7,h8,h9⟩:=tr;have key:X.s₀.heap.get? T=none/\H T=none:=by
   rcases without_none h5 with z|z
   .rcases hb T z with y|y
    .obtain⟨_,o',e',d⟩:=ff.mem y;rw[h7]at e';cases e';exact absurd h8 (d _)
    .exact y
   .refine⟨?_,?_⟩
    .cases e:X.s₀.heap.get? T with
     | none=>rfl
     | some o=>obtain⟨o',e'⟩:=un.there T o e (by simp);rw[z]at e';cases e'
    .cases e:H T with
     | none=>rfl
     | some o=>obtain⟨u,e'⟩:=(I.hok T o e).at_;rw[z]at e';cases e'
  exact⟨a0,oe,vs,T,oT,ts,h1,h2,h3,h4,key.1,key.2,h6,h7,h8,h9⟩
def bh7 {vs:yJ}(I:Inv X pins W H s)(Y:X.ex=[])(z:X.stack=X.env::X.outer)(F:X.env.frame=some X.env.locals)(n0:X.s₀.heap.get? a=none)(nH:H a=none)
  (h1:s.heap.get? a=some oe) (h2:oe.cls=.ref Cc) (h3:oe.data=.fields vs) (h4:vs[1]?=some .none) (h5:vs[0]?=some a0) 
  (k:∀ h',Un X.fs [] X.H₀ H X.s₀.heap h'->HOk X.prog X.w H h'->Fly X.s₀.heap H h' a Cc->Q () { s with heap:=h' }):wpAny (model X.prog X.w) X.A (leaving X.env (.ref a)) Q E s:=by
 have Z:s.heap.FunFrames (zC s.heap (a::frs X.stack)) X.stack:=ar6 I.stack λ b hb=>zv (ak _ hb);have G:∀ b∈X.fs,b∈frs X.stack:=λ b hb=>by rw[z];unfold frs;rw[bc,F];exact ak _ hb
 have J:=I.ok.frames;rw[z]at J;refine wpAny_leaving_firstW (base:=zC s.heap (a::frs X.stack)) J (by rw[<-z];exact Z) F h1 qd (zv (ax ..)) h3 h4 h5 λ h' L=>?_;rw[h2,<-z]at L;obtain⟨u,o,f⟩:=bf0 I Y (λ b hb=>ak _ hb) (λ b hb=>by
  rcases az.mp hb with q|q
  .subst q;exact .inr ⟨n0,nH⟩
  .exact .inl q) n0 nH G L
 exact k h' u o f
def aV0 (I:Inv X pins W H s)(Z:X.ex=[])(z:X.stack=X.env::X.outer)(G:X.env.frame=some X.env.locals)(F:Fly X.s₀.heap H s.heap a Cc)
  (k:∀ h',Un X.fs [] X.H₀ H X.s₀.heap h'->HOk X.prog X.w H h'->Fly X.s₀.heap H h' a Cc->Q () { s with heap:=h' }):wpAny (model X.prog X.w) X.A (leaving X.env (.ref a)) Q E s:=by
 obtain⟨n0,nH,a0,oe,vs,T,oT,ts,h1,h2,h3,h4,h5,h6,h7,h8,h9,a1⟩:=F;have a2:s.heap.FunFrames (zC s.heap (a::T::frs X.stack)) X.stack:=ar6 I.stack λ b hb=>zv (ak _ (ak _ hb));have J:∀ b∈X.fs,b∈frs X.stack:=λ b hb=>by rw[z];unfold frs;rw[bc,G];exact ak _ hb
 have Y:=I.ok.frames;rw[z]at Y;refine wpAny_leaving_nextW Y (by rw[<-z];exact a2) G ⟨oe,vs,T,oT,ts,h1,h2,h3,h4,zv (by simp),h7,h8,h9,a1⟩ qd (zv (ax ..)) λ h' L=>?_;rw[<-z]at L;obtain⟨u,o,f⟩:=bf0 I Z (λ b hb=>ak _ (ak _ hb)) (λ b hb=>by
  rcases az.mp hb with q|q
  .subst q;exact .inr ⟨n0,nH⟩
  .rcases az.mp q with q|q
   .subst q;exact .inr ⟨h5,h6⟩
   .exact .inl q) n0 nH J L
 exact k h' u o f
end
def CX1 (P:aM)(w:World):CXT:=λ outer H s E e s'=>∃ a Cc H',e=.ref a/\s'.os=s.os/\g8 s'.gens/\Un (frs outer) [] H H' s.heap s'.heap/\HOk P w H' s'.heap/\Fly s.heap H' s'.heap a Cc/\E e (some Cc) H'
def CX1.inv {W:St}(I:Inv X G W H s)(J:X.ex=[])(h:CX1 X.prog X.w X.stack H s E e s') :
  ∃ a Cc H',e=.ref a/\Inv X G W H' s'/\Fly X.s₀.heap H' s'.heap a Cc/\E e (some Cc) H':=by
 obtain⟨a,Cc,H',rfl,os,bare,un,hok,F,q⟩:=h;have old:∀ b,s.heap.get? b=none->X.s₀.heap.get? b=none:=λ b z=>by
  cases e:X.s₀.heap.get? b with
  | none=>rfl
  | some o=>obtain⟨o',e'⟩:=I.base.there b o e (by rw[J];simp);rw[z]at e';cases e'
 obtain⟨n0,nH,a0,oe,vs,T,Y,ts,h1,h2,h3,Z,h5,h6,h7⟩:=F;exact⟨a,Cc,H',rfl,I.call' os un hok bare (λ b z=>absurd z (by simp)),⟨old _ n0,nH,a0,oe,vs,T,Y,ts,h1,h2,h3,Z,old _ h5,h6,h7⟩,q⟩
section
variable {P:aM} {w:World} {K:af} {mg:yC} {base:Heap} {N:yH} {qual:Str} {scope:Scope} {f:Addr} {cd:Value} {A:be} {outer:List Env} {s0:ag} {H0:Hp} {E:XK}
def cr5:aj1 (CX1 P w) (ao0 (CX1 P w) P w K mg base N qual scope f cd A outer s0 H0 E) E:=by
 intro z W H s e s' I h;obtain⟨a,Cc,H',rfl,J,F,q⟩:=CX1.inv I rfl h;exact aV0 J rfl rfl rfl F λ h' u o G=>⟨a,Cc,H',rfl,J.os,J.bare,u,o,G,q⟩
def aU7 (X:Cx)(E:XK):Prop:=∀ pins (W:St) H s h' a Cc (args:yG),Inv X pins W H s->Heap.MadeExcOf s.heap h' a (.ref Cc) args->E (.ref a) (some Cc) H->X.xe (.ref a) { s with heap:=h' }
def cs9:aU7 (ao0 (CX1 P w) P w K mg base N qual scope f cd A outer s0 H0 E) E:=by
 intro z W H s h' a Cc args I M q;have J:=I.kept (t':=s.toks) M.keeps;obtain⟨t,G,_⟩:=M.there;refine bh7 J rfl rfl rfl ?_ ?_ G rfl rfl rfl rfl λ Z u o F=>⟨a,Cc,H,rfl,J.os,J.bare,u,o,F,q⟩
 .show s0.heap.get? a=none;cases e:s0.heap.get? a with
  | none=>rfl
  | some o =>
   obtain⟨Y,e'⟩:=I.base.there a o e (by show a ∉ ([]);simp);rw[M.new]at e';cases e'
 .cases e:H a with
  | none=>rfl
  | some o =>
   obtain⟨u,e'⟩:=(I.hok a o e).at_;rw[M.new]at e';cases e'
end
def ffx {p:Prop}(h:false=true):p:=mG h
noncomputable def excTail:List Value:=[.type "ValueError",.type "Exception",.type "BaseException",.type "object"]
noncomputable def nsQ (K:af)(N:Addr):Bool:=match K.lookup N with
 | some ⟨_,_,.dict es _,_⟩=>(es.all λ e=>match e.key with|.str _ _=>true|_=>false)&&nA.all λ n=>(nsFind es n).isNone
 | _=>false
def bP2 (K:af):List Value->Bool
 | .ref A::tl=>(match K.lookup A with|some ⟨_,_,.cls cd,_⟩=>nsQ K cd.ns|_=>false)&&bP2 K tl
 | l=>l==excTail
def cn3 (K:af)(Cc:Addr):Bool:=match K.lookup Cc with
 | some ⟨c,_,.cls cd,⟨[_,_,_,_,k4,_]⟩⟩=>c==.type "type"&&(!cd.hasDel&&(nsQ K cd.ns&&((match cd.mro with|m::tl=>m==.ref Cc&&bP2 K tl|[]=>false)&&k4==some (.builtin "ValueError.__new__"))))
 | _=>false
def bz6 {K}(h:nsQ K N=true):∃ z,(∀ n∈nA,z n=none)/\∀ h:Heap,K.In h->h.Ns N z:=by
 unfold nsQ at h;cases e:K.lookup N with
 | none=>rw[e]at h;exact ffx h
 | some o =>
  rw[e]at h;obtain⟨c,d,G,sl⟩:=o;cases G with
  | dict es ep =>
   have h:=(aj _ _).mp h;refine⟨nsFind es,λ n hn=>?_,λ hp F=>⟨_,es,ep,F _ _ e,rfl,λ x hx=>?_,λ _=>rfl⟩⟩
   .have:=aU.mp h.2 n hn;exact Option.isNone_iff_eq_none.mp this
   .have:=Array.all_eq_true'.mp h.1 x hx;cases q:x.key with
    | str _ _=>exact⟨_,_,rfl⟩
    | _=>rw[q]at this;exact ffx this
  | _=>exact ffx h
theorem aO6 {K}:∀ {l:yG},bP2 K l=true->∀ h:Heap,K.In h->OwnTailQ h excTail l
 | [],h,hp,hK=>by
  cases eq_of_beq h
 | v::tl,h,hp,hK=>by
  cases v with
  | ref A =>
   obtain⟨z,G⟩:=(aj _ _).mp h;cases e:K.lookup A with
   | none=>rw[e]at z;exact ffx z
   | some o =>
    rw[e]at z;obtain⟨c,d,F,sl⟩:=o;cases F with
    | cls cd =>
     obtain⟨J,q,n⟩:=bz6 z;exact .own (hK _ _ e) (n hp hK) q (aO6 G hp hK)
    | _=>exact ffx z
  | type n =>
   cases eq_of_beq h;exact .base
  | _=>cases eq_of_beq h
structure ExcCls (K:af)(Cc:Addr):Prop where
 obj:∃ bm N nm q bs hdct sn sub ab col dd k0 k1 k2 k3 k5 mN,K.lookup Cc=some (excClassObj nm q Cc N bs bm hdct sn sub ab col dd k0 k1 k2 k3 k5 "ValueError.__new__")/\(∀ n∈nA,mN n=none)/\∀ h:Heap,K.In h->h.Ns N mN/\OwnTailQ h excTail bm
def bI2 {K}(h:cn3 K Cc=true):ExcCls K Cc:=by
 unfold cn3 at h;cases e:K.lookup Cc with
 | none=>rw[e]at h;exact ffx h
 | some o =>
  rw[e]at h;obtain⟨c,dd,dt,⟨sl⟩⟩:=o;cases dt with
  | cls cd =>
   rcases sl with _|⟨k0,_|⟨k1,_|⟨k2,_|⟨k3,_|⟨k4,_|⟨k5,_|⟨k6,sl⟩⟩⟩⟩⟩⟩⟩
   case cons.cons.cons.cons.cons.cons.nil =>
    obtain⟨nm,bs,F,N,q,hdct,sn,sub,ab,col,G⟩:=cd;obtain⟨h1,h⟩:=(aj _ _).mp h;obtain⟨J,h⟩:=(aj _ _).mp h;obtain⟨h3,h⟩:=(aj _ _).mp h;obtain⟨z,h5⟩:=(aj _ _).mp h;cases F with
    | nil=>exact ffx z
    | cons m tl =>
     obtain⟨z,h6⟩:=(aj _ _).mp z;have e1:=eq_of_beq h1;have e5:=eq_of_beq h5;have e4:=eq_of_beq z;subst e1 e5 e4;have J:=(eU _).mp J;subst J;obtain⟨mN,Z,n⟩:=bz6 h3;exact⟨tl,N,nm,q,bs,hdct,sn,sub,ab,col,dd,k0,k1,k2,k3,k5,mN,e,Z,λ hp Y=>⟨n hp Y,aO6 h6 hp Y⟩⟩
   all_goals exact ffx h
  | _=>exact ffx h
def bu1 {K}{ D}(hc:ExcCls K D)(F:cC K (.ref D) (aZ "__getattribute__")=some (some (.builtin "BaseException.__getattribute__")))(hk:cC K (.ref D) (aZ "__getattr__")=some none)
  (hf:cC K (.ref D) (aZ "__class__")=some (some (.builtin "object.__class__")))
  (hs:iI K (.builtin "object.__class__") (aZ "__get__")=some (some (.builtin "getset_descriptor.__get__")))
  (J:jL K (.builtin "object.__class__")=some true) (hm:kW K D (.type "object")=some true) :
  dn K (.ref x) (.ref D) (λ h=>XAt h x D):=by
 obtain⟨Z,N,nm,q,bs,hdct,sn,sub,ab,col,dd,k0,k1,k2,k3,k5,mN,hl,hq,hN⟩:=hc.obj;refine⟨λ M h _ I=>I.type,λ M h X I=>?_,λ h G dd its n sl X z=>?_,λ {prog w A E Q s} X I h=>?_⟩
 .intro A' Q' Y s' k q;exact ac (wpAny_loadPart (k _ _ (X _ _ hl)) (am q))
 .cases e:(Value.ref D==Value.ref G)with
  | false=>rfl
  | true =>
   have e:=eq_of_beq e;cases e;rw[X _ _ hl]at z;cases congrArg (λ o:Option Obj=>o.map Obj.data) z
 .obtain⟨o,ho,hcl⟩:=I;have L:=XAt.type (M:=model prog w) ⟨o,ho,hcl⟩;exact bZ1 X L (cu0 X hf hs J) F hk (X _ _ hl) (hN _ X).2 ho hcl (lh (aY7 X L hm (PySem.W.handed_on rfl h)))
noncomputable def excI (K:af)(Cc:Addr):Bool:=cC K (.ref Cc) (aZ "__getattribute__")==some (some (.builtin "BaseException.__getattribute__"))&&(cC K (.ref Cc) (aZ "__getattr__")==some none&&(cC K (.ref Cc) (aZ "__class__")==some (some (.builtin "object.__class__"))&&(iI K (.builtin "object.__class__") (aZ "__get__")==some (some (.builtin "getset_descriptor.__get__"))&&(jL K (.builtin "object.__class__")==some true&&kW K Cc (.type "object")==some true))))
def bK2 {K}(hc:ExcCls K Cc)(h:excI K Cc=true):dn K (.ref x) (.ref Cc) (λ h=>XAt h x Cc):=by
 unfold excI at h;simp only[aj]at h;obtain⟨h0,Y,G,F,z,J⟩:=h;exact bu1 hc (eq_of_beq h0) (eq_of_beq Y) (eq_of_beq G) (eq_of_beq F) (eq_of_beq z) (eq_of_beq J)
section
variable {X:Cx} {E:XK} {Cc:Addr} {x:Str}
def bo5 (T:aU7 X E)(hc:ExcCls X.K Cc)(hg:Gl X x)(hm:X.mg x=some (.ref Cc))(hh:X.A.handled=none)(hd:(x==("__debug__":Str))=false) :
  PS X (.Raise (some (.Call (.Name x np) [.Constant (.str y) j p] [] F)) none pos) (λ D W H=>∀ a,E (.ref a) (some Cc) H):=by
 intro z s W H D I q;obtain⟨bm,N,nm,q',bs,hdct,sn,sub,ab,col,dd,k0,k1,k2,k3,k5,mN,e,hq,hN⟩:=hc.obj;have Z:=hN _ I.kIn;refine wpAny_Raise_call_subT (nm:=nm) (q:=q') (C:=Cc) (N:=N) (bs:=bs) (hdct:=hdct) (sn:=sn) (sub:=sub) (ab:=ab) (col:=col) (dd:=dd) (k0:=k0) (k1:=k1) (k2:=k2) (k3:=k3) (k5:=k5) kr (OwnTail.hasType Z.2.tail kr.hasBase) hh rfl (hq _ (ax ..)) ?_;refine thn (aB4 (v:=.ref Cc) hg hm rfl hd z s W H (λ v G=>v=.ref Cc/\G=H) I ⟨rfl,rfl⟩) λ u s1 ⟨v,G,I1,r,e1,e2⟩=>?_;subst e1 e2;refine⟨r,gE ?_⟩;have pa:PA X [.Constant (.str y) j p] (aj4 (tC (.str y)) aW4):=zp aD7 ad2;refine thn (pa F z s1 W G (λ vs Y=>vs.length=1/\Y=G) I1 ⟨rfl,rfl⟩) λ us s2 ⟨vs,Y,J,r2,e3,e4⟩=>?_;subst e4;have hl:us.length=1:=by rw[<-r2.length];exact e3
 refine⟨rfl,by show us.length<=_;rw[hl];decide,J.kIn _ _ e,(hN _ J.kIn).1,(hN _ J.kIn).2.tail,λ h' a M=>?_⟩;exact T z W Y s2 h' a Cc us J M (q a)
end
structure Tr (X:Cx)(pins:yA)(W:St)(H:Hp)(s:ag)(a Cc:Addr)(fl:Value):Prop where
 inv:Inv X pins W H s
 n0:X.s₀.heap.get? a=none
 nH:H a=none
 np:∀ p∈X.pn++pins,p.1≠a
 tr:∃ a0 oe vs T oT ts,s.heap.get? a=some oe/\(oe.cls=.ref Cc/\vs[0]?=some a0)/\oe.data=.fields vs/\vs[1]?=some (.ref T)/\X.s₀.heap.get? T=none/\H T=none/\(∀ p∈X.pn++pins,p.1≠T)/\T≠a/\s.heap.get? T=some oT/\oT.data=.fields ts/\ts[3]?=some fl
section
variable {X:Cx} {pins:yA} {W:St} {H:Hp} {s:ag} {a Cc T:Addr} {fl fl' a0:Value} {h':Heap}
def Tr.stk (F:X.stack=X.env::X.outer)(z:X.env.frame=some X.env.locals):∀ b∈X.fs,b∈frs X.stack:=λ b hb=>by rw[F];unfold frs;rw[bc,z];exact ak _ hb
def Tr.moved (t:Tr X pins W H s a Cc fl)(a2:X.ex=[])(a9:X.stack=X.env::X.outer)(a8:X.env.frame=some X.env.locals){ts:yJ}(a3:X.s₀.heap.get? T=none)(a6:H T=none)(a5:∀ p∈X.pn++pins,p.1≠T)(a7:s.heap.get? T=some oT)(b1:oT.data=.fields ts)
  (st:(zC s.heap (a::T::frs X.stack)).StaysIn h') (ff:h'.FunFrames (zC s.heap (a::T::frs X.stack)) X.stack) (tr:h'.TracedAtW (zC s.heap (a::T::frs X.stack)) a (.ref Cc) a0 fl')
  (sl:∀ b o,s.heap.get? b=some o->(∀ vs,o.data≠.fields vs)->∃ sl,h'.get? b=some { o with slots:=sl }):Tr X pins W H { s with heap:=h' } a Cc fl':=by
 have I:=t.inv;have un:=I.base;rw[a2]at un;have Z:=Tr.stk a9 a8;obtain⟨b0,oe,vs,_,_,_,g1,_,g3,_⟩:=t.tr;have a1:∀ b,b∈a::T::frs X.stack->b=a\/b=T\/b∈frs X.stack:=λ b hb=>by
  rcases az.mp hb with q|q
  .exact .inl q
  .exact .inr (az.mp q)
 have keep:=λ b o n1 n2 n3 e=>st b o (by
  rw[qJ λ z=>(a1 b z).elim n1 λ z=>z.elim n2 n3];exact e)
 have slot:∀ b o,b∈frs X.stack->s.heap.get? b=some o->∃ sl,h'.get? b=some { o with slots:=sl }:=λ b o n e=>by
  obtain⟨_,o',e',d⟩:=I.stack.mem n;rw[e]at e';cases e';exact sl b o e d
 have b2:∀ b o,X.s₀.heap.get? b=some o->b ∉ X.fs->b ∉ frs X.stack:=λ b o e n z=>by
  rcases az.mp (I.stkSub b z)with q|q
  .subst q;exact absurd (aJ e) (lv.mpr I.ok.above)
  .exact n q
 have G:∀ b o,X.s₀.heap.get? b=some o->b≠a/\b≠T:=λ b o e=>⟨λ z=>(by rw[z,t.n0]at e;cases e),λ z=>(by rw[z,a3]at e;cases e)⟩
 have c1:∀ b o,s.heap.get? b=some o->(∀ vs,o.data≠.fields vs)->b≠a/\b≠T:=λ b o e d=>⟨λ z=>(by rw[z,g1]at e;cases e;exact d _ g3),λ z=>(by rw[z,a7]at e;cases e;exact d _ b1)⟩
 have up:=sl;have a4:Inv X pins W H { s with heap:=h' }:=by
  refine⟨I.ok,I.os,I.bare,?_,?_,λ x c e=>?_,I.free,I.freeC,λ p hp=>?_,I.hok.part λ b u o e q=>?_,I.len⟩
  .rw[a2];refine⟨λ b o e n Y nx=>?_,λ b o e n Y nx=>?_,un.free,λ b o e nx=>?_,un.tups,un.frzs,un.tbls⟩
   .exact keep b o (G b o e).1 (G b o e).2 (b2 b o e Y) (un.keep b o e n Y nx)
   .obtain⟨c0,e1⟩:=un.slot b o e n Y nx;obtain⟨J,e2⟩:=slot b _ (Z b Y) e1;exact⟨J,e2⟩
   .obtain⟨o1,e1⟩:=un.there b o e nx;by_cases z:b∈frs X.stack
    .obtain⟨_,e2⟩:=slot b _ z e1;exact⟨_,e2⟩
    .exact⟨_,keep b o1 (G b o e).1 (G b o e).2 z e1⟩
  .obtain⟨m,⟨o,es,ep,ho,hd,hr⟩,hl⟩:=I.loc;obtain⟨c0,e1⟩:=up _ o ho (λ vs z=>by rw[hd]at z;cases z);refine⟨m,⟨_,es,ep,e1,hd,hr⟩,λ i x v h1 h2 h3=>?_⟩;obtain⟨u,r,lk⟩:=hl i x v h1 h2 h3;refine⟨u,r,?_⟩;rcases lk with z|⟨z1,c,z2,oc,z3,z4⟩
   .exact .inl z
   .obtain⟨J,e2⟩:=up c oc z3 (λ vs z=>by rw[z4]at z;cases z);exact .inr ⟨z1,c,z2,_,e2,z4⟩
  .obtain⟨v,oc,z3,z4⟩:=I.cell x c e;obtain⟨J,e2⟩:=up c oc z3 (λ vs z=>by rw[z4]at z;cases z);exact⟨v,_,e2,z4⟩
  .obtain⟨q1,q2,q3,q4,q5⟩:=I.pin p hp;refine⟨keep _ _ (t.np p hp) (a5 p hp) (λ z=>?_) q1,q2,q3,q4,q5⟩;rcases az.mp (I.stkSub _ z)with q|q
   .exact q3 q
   .exact q4 q
  .refine keep b o (λ z=>?_) (λ z=>?_) (λ z=>?_) q
   .rw[z,t.nH]at e;cases e
   .rw[z,a6]at e;cases e
   .rw[I.stkFree b z]at e;cases e
 refine⟨a4,t.n0,t.nH,t.np,?_⟩;obtain⟨b5,b4,F,b6,b3,h1,h2,h3,h4,h5,h6,h7,h8,h9⟩:=tr;have key:X.s₀.heap.get? F=none/\H F=none/\∀ p∈X.pn++pins,p.1≠F:=by
  rcases without_none h5 with z|z
  .rcases a1 F z with y|y|y
   .exact absurd y h6
   .subst y;exact⟨a3,a6,a5⟩
   .obtain⟨_,o',e',d⟩:=ff.mem y;rw[h7]at e';cases e';exact absurd h8 (d _)
  .refine⟨?_,?_,λ p hp y=>?_⟩
   .cases e:X.s₀.heap.get? F with
    | none=>rfl
    | some o=>obtain⟨o',e'⟩:=un.there F o e (by simp);rw[z]at e';cases e'
   .cases e:H F with
    | none=>rfl
    | some o=>obtain⟨u,e'⟩:=(I.hok F o e).at_;rw[z]at e';cases e'
   .have:=(I.pin p hp).1;rw[y,z]at this;cases this
 exact⟨a0,b5,b4,F,b6,b3,h1,h2,h3,h4,key.1,key.2.1,key.2.2,h6,h7,h8,h9⟩
def Tr.noted (t:Tr X pins W H s a Cc .none)(Y:X.ex=[])(z:X.stack=X.env::X.outer)(F:X.env.frame=some X.env.locals)
  (k:∀ h' fl,Tr X pins W H { s with heap:=h' } a Cc fl->Q () { s with heap:=h' }):wpAny (model X.prog X.w) X.A (mq (.ref a) X.env) Q E s:=by
 have I:=t.inv;obtain⟨a0,oe,vs,T,oT,ts,h1,h2,h3,h4,h5,h6,J,h7,h8,h9,Z⟩:=t.tr;have a1:s.heap.FunFrames (zC s.heap (a::T::frs X.stack)) X.stack:=ar6 I.stack λ b hb=>zv (ak _ (ak _ hb));have G:=I.ok.frames;rw[z]at G;refine wpAny_noteFrame_onW G (by rw[<-z];exact a1) F ⟨oe,vs,T,oT,ts,h1,h2,h3,h4,zv (by simp),h7,h8,h9,Z⟩ qd (zv (ax ..)) λ h' L=>?_;rw[<-z]at L;obtain⟨st,ff,tr,sl⟩:=L;exact k h' _ (t.moved Y z F h5 h6 J h8 h9 st ff tr sl)
def Tr.down (t:Tr X pins W H s a Cc fl)(J:X.ex=[])(F:X.stack=X.env::X.outer)(z:X.env.frame=some X.env.locals)
  (k:∀ h',Tr X pins W H { s with heap:=h' } a Cc .none->Q () { s with heap:=h' }):wpAny (model X.prog X.w) A (mH (.ref a) none) Q E s:=by
 have I:=t.inv;obtain⟨a0,oe,vs,T,oT,ts,h1,h2,h3,h4,h5,h6,G,h7,h8,h9,Y⟩:=t.tr;have Z:s.heap.FunFrames (zC s.heap (a::T::frs X.stack)) X.stack:=ar6 I.stack λ b hb=>zv (ak _ (ak _ hb));refine wpAny_setFlight_noneW qd Z ⟨oe,vs,T,oT,ts,h1,h2,h3,h4,zv (by simp),h7,h8,h9,Y⟩ λ h' st ff tr sl=>?_;exact k h' (t.moved J F z h5 h6 G h8 h9 st ff tr.at λ b o e d=>⟨o.slots,sl b o e d⟩)
def CX1.tr (I:Inv X pins W H s)(Y:X.ex=[])(h:CX1 X.prog X.w X.stack H s E e s') :
  ∃ a Cc H',e=.ref a/\Tr X pins W H' s' a Cc .none/\E e (some Cc) H':=by
 have h0:=h;obtain⟨a,Cc,H',rfl,os,bare,un,hok,F,q⟩:=h;obtain⟨a',Cc',a1,e,J,G,q'⟩:=CX1.inv I Y h0;have old:∀ b,s.heap.get? b=none->X.s₀.heap.get? b=none:=λ b z=>by
  cases e:X.s₀.heap.get? b with
  | none=>rfl
  | some o=>obtain⟨o',e'⟩:=I.base.there b o e (by rw[Y];simp);rw[z]at e';cases e'
 have pn:∀ b,s.heap.get? b=none->∀ p∈X.pn++pins,p.1≠b:=λ b z p hp y=>by
  have:=(I.pin p hp).1;rw[y,z]at this;cases this
 obtain⟨n0,nH,a0,oe,vs,T,oT,ts,h1,h2,h3,h4,Z,h6,h7⟩:=F;exact⟨a,Cc,H',rfl,⟨I.call' os un hok bare (λ b z=>absurd z (by simp)),old _ n0,nH,pn _ n0,a0,oe,vs,T,oT,ts,h1,h2,h3,h4,old _ Z,h6,pn _ Z,h7⟩,q⟩
end
noncomputable abbrev Cx.hnd (X:Cx)(a:Addr)(oe:Obj):Cx:={ X with A:=X.A.mark (some (.ref a)),calm:=false,pn:=(a,oe)::X.pn,xe:=λ _ _=>False }
section
variable {X:Cx} {pins:yA} {W:St} {H:Hp} {s:ag} {a Cc:Addr} {oe:Obj} {fl:Value}
theorem Cx.Ok.hnd (ok:X.Ok)(a:Addr)(oe:Obj):(X.hnd a oe).Ok:=⟨ok.mod,ok.kind,ok.glob,ok.blt,ok.above,ok.inj,ok.has,ok.cab,(λ z=>by cases z),ok.frames,ok.stk,ok.exf,ok.bs,ok.bsz,ok.noex,ok.exfs,ok.funs,ok.frf⟩
def Inv.apart (I:Inv X pins W H s){vs:yJ}(e:s.heap.get? b=some o)(d:o.data=.fields vs):b≠X.env.locals/\b ∉ X.fs/\∀ v,o.data≠.cell v:=by
 refine⟨λ z=>?_,λ z=>?_,λ v z=>by rw[d]at z;cases z⟩
 .obtain⟨m,⟨F,es,ep,ho,hd,_⟩,_⟩:=I.loc;rw[<-z,e]at ho;cases ho;rw[d]at hd;cases hd
 .obtain⟨_,F,e',d'⟩:=I.funs.mem z;rw[e]at e';cases e';exact d' _ d
theorem Inv.hnd {vs:yJ}(I:Inv X pins W H s)(e:s.heap.get? a=some oe)(n:H a=none)(d:oe.data=.fields vs):Inv (X.hnd a oe) pins W H s :=
 ⟨I.ok.hnd a oe,I.os,I.bare,I.base,I.loc,I.cell,I.free,I.freeC,λ p hp=>by
  rcases az.mp hp with z|z
  .subst z;exact⟨e,n,I.apart e d⟩
  .exact I.pin p z,I.hok,I.len⟩
def Inv.unhnd (ok:X.Ok)(I:Inv (X.hnd a oe) pins W H s):Inv X pins W H s:=⟨ok,I.os,I.bare,I.base,I.loc,I.cell,I.free,I.freeC,λ p hp=>I.pin p (ak _ hp),I.hok,I.len⟩
def bb4 (I:Inv X pins W H s)(hN:X.N.Nodup)(Y:X.N[i]?=some x)(hx:X.env.scope.names.lookup x=some .local)(hv:W[i]?=some (some v))
  (h:∀ s',Inv X pins (W.set i none) H s'->Q () s'):wpAny M A (unbindName X.env x) Q E s:=by
 obtain⟨m,hn,hl⟩:=id I.loc;have F:(X.env.scope.kind==.class||(X.env.scope.kind==.module&&X.env.locals != X.env.globals))=false:=by rw[I.ok.kind];rfl
 obtain⟨u,r,lk⟩:=hl i x v Y hv (.inl hx);have hm:m x=some u:=by
  rcases lk with⟨_,e⟩|⟨e,_⟩
  .exact e
  .have J:X.env.kindOf x=some .local:=hx;rw[J]at e;rcases e with e|e<;>cases e
 have cne:=I.cne;refine wpAny_unbindName_local hx hn hm F λ h' u' G hs=>?_;obtain⟨oL,_,_,a0,_⟩:=id hn;have low:∀ b o,X.s₀.heap.get? b=some o->b≠X.env.locals:=λ b o e=>aK (aL (aJ e) I.ok.above);refine h _ ⟨I.ok,I.os,I.bare,⟨λ b o e n hb hx=>?_,λ b o e n hb hx=>?_,I.base.free,λ b o e hx=>?_,I.base.tups,I.base.frzs,I.base.tbls⟩,⟨_,G,λ j y v' e1 e2 e3=>?_⟩,λ y c e=>?_,I.free,I.freeC,λ p hp=>?_,I.hok.part λ b w o e q=>?_,by rw[bf];exact I.len⟩
 .exact(hs.2 b (low b o e)).trans (I.base.keep b o e n hb hx)
 .obtain⟨sl,e1⟩:=I.base.slot b o e n hb hx;exact⟨sl,(hs.2 b (low b o e)).trans e1⟩
 .obtain⟨o',e1⟩:=I.base.there b o e hx;exact⟨o',(hs.2 b (low b o e)).trans e1⟩
 .have hj:j≠i:=λ z=>by
   subst z;rw[bj (ae.mp hv).1]at e2;cases e2
  rw[bH (dk hj)]at e2;obtain⟨w,r',q⟩:=hl j y v' e1 e2 e3;refine⟨w,r',?_⟩;rcases q with⟨k,e⟩|⟨k,c,e,z⟩
  .refine .inl ⟨k,?_⟩;have:y≠x:=λ e=>hj (aB7 hN e1 (e▸Y));simp[this,e]
  .exact .inr ⟨k,c,e,z.sameBut hs (cne y c e)⟩
 .obtain⟨w',z⟩:=I.cell y c e;exact⟨w',z.sameBut hs (cne y c e)⟩
 .obtain⟨e,n,ne,Z,d⟩:=I.pin p hp;exact⟨(hs.2 p.1 ne).trans e,n,ne,Z,d⟩
 .refine(hs.2 b λ z=>?_).trans q;rw[z,I.free]at e;cases e
def Tr.own (t:Tr X pins W H s a Cc fl):∃ oe vs,s.heap.get? a=some oe/\oe.cls=.ref Cc/\oe.data=.fields vs:=by
 obtain⟨a0,oe,vs,T,J,ts,G,F,z,_⟩:=t.tr;exact⟨oe,vs,G,F.1,z⟩
def Tr.again (t:Tr X pins W H s a Cc fl){Q:V->Hp->Prop}(he:∀ oe,PE (X.hnd a oe) e (tC v))
  (k:∀ u s',RelV v u->Tr X pins W H s' a Cc fl->R u s'):wpAny (model X.prog X.w) (X.A.mark (some (.ref a))) (eval e X.env) R E s:=by
 obtain⟨a0,oe,vs,T,F,ts,h1,h2,h3,h4,h5,h6,Y,h7,h8,h9,Z⟩:=t.tr;have I:=t.inv;have J:Inv (X.hnd a oe) ((T,F)::pins) W H s:=(I.hnd h1 t.nH h3).pins_of λ p hp=>by
  rcases az.mp hp with z|z
  .subst z;exact⟨h8,h6,I.apart h8 h9⟩
  .exact I.pin p (aG _ z)
 refine bw (he oe ((T,F)::pins) s W H (λ w H1=>w=v/\H1=H) J ⟨rfl,rfl⟩) (λ u s1 ⟨w,H1,G,r,e1,e2⟩=>?_) (λ _ _ z=>bD z);subst e1 e2;refine k u s1 r ⟨(G.pins_of λ p hp=>G.pin p (aG _ (ak _ hp))).unhnd I.ok,t.n0,t.nH,t.np,a0,oe,vs,T,F,ts,(G.pin (a,oe) (ax ..)).1,h2,h3,h4,h5,h6,Y,h7,(G.pin (T,F) (aG _ (ax ..))).1,h9,Z⟩
end
section
variable {prog:aM} {w:World} {A:be} {R:l7->ag->Prop} {I:Addr} {fp wr:List Addr} {n:Nat} {P:Nat->Value->Prop} {St:Nat->Heap->Prop} {h₀:Heap}
end
def bD5 (tk tv:TE):TE:=λ W H Q=>∀ p,H p=none->tk W (upd H p (.dT [])) λ x H1=>tv W H1 λ y H2=>H2 p=some (.dT [])/\∃ b k,x=.ref b/\NK H2 k b/\Q (.ref p) (upd H2 p (.dT [(k,y)]))
def bq5 (hu:X.A.units+1<cLine)(hk:PE X e tk)(hv:PE X f tv):PE X (.Dict [some e] [f] pos) (bD5 tk tv):=by
 intro J s W H Q I q;have hn:=I.hok.fresh (au s.heap.objs.size);have I1:=I.laid (t':=s.toks) (λ _ _ q=>ao _ q) (au _) (aP1 s.heap I.big);refine wpAny_Dict_any rfl rfl (by nofun) (by show 1<=15;decide) (thn (bx1 hk hv bP8 J _ W _ (λ ps G=>match ps with
  | [(x,y)]=>G s.heap.objs.size=some (.dT [])/\∃ b k,x=.ref b/\NK G k b/\Q (.ref s.heap.objs.size) (upd G s.heap.objs.size (.dT [(k,y)]))
  | _=>False) I1 (q _ hn)) λ ws s2 ⟨ps,G,Z,F,r⟩=>?_)
 obtain⟨x,y,eps,e2,b,k,ex,nk,r2⟩:∃ x y,ps=[(x,y)]/\G s.heap.objs.size=some (.dT [])/\∃ b k,x=.ref b/\NK G k b/\Q (.ref s.heap.objs.size) (upd G s.heap.objs.size (.dT [(k,y)])):=by
  split at r
  .exact⟨_,_,rfl,r⟩
  .exact r.elim
 subst eps ex;cases F with
 | @cons _ w _ _ h1 t =>
  cases t;obtain⟨w1,w2⟩:=w;cases(h1.1);unfold storeAll;rw[mU];obtain⟨z,hd,xs,F,dd⟩:=bM3 Z.hok e2;cases F;refine ac (ac (wpAny_dictSet_heap (hu) (au1 Z.hok nk) dd λ h' Y hs=>?_));refine am ?_;show wpAny _ _ (forIn ([]) _ _) _ _ _;rw[kg];refine am ⟨.ref _,_,?_,rfl,r2⟩;obtain⟨qo,es,ep,hq,h2,h3,h4,_,h5⟩:=Y;refine ba4 Z (by rw[e2];exact True.intro) hs ⟨qo,hq⟩ ⟨by show 1<=aV;rw[dL];lia,hd,_,.cons ⟨rfl,nk.mono λ c ys ec=>?_,h1.2⟩ .nil,qo,es,ep,hq,h2,h3,h4,h5⟩;rw[zc (aN8 ec e2 (λ z=>nomatch z))];exact ec
noncomputable def cq5 (lo:Int)(n:Nat):It:=⟨λ i _=>i<n,λ i H x H'=>H'=H/\x=.int (lo+i*(-1)),λ i _=>n<=i⟩
def aL0 {K} it J n :Turn P w K tg (cq5 J n) [it] it (λ i h=>ka h it (J+(i)*(-1)) ((n) - (i)) (-1)) where
 mem:=by simp
 obj:=λ i h st b hb=>by
  have e:=by simpa using hb
  subst e;exact⟨_,st,λ v z=>by
   have z':=z;cases z'⟩
 keep:=λ i h h' st k=>k it (by simp) _ st
 item:=by
  intro X hP hw Y hc i F s W H E I hf st hg;subst hP hw Y;obtain⟨f0,f1,f2,f3,Z,f5⟩:=hf it (by simp);have Ww:=on (prog:=X.prog) (w:=X.w) (I.ok.hd hc) it J (-1) n;refine Ww.item i s _ _ hg st λ v h' tk hv G kk=>?_;obtain⟨t,rfl⟩:=hv;have I1:Inv X F W H { s with heap:=h',toks:=tk }:=I.turned (λ b o hb e=>kk b o (by simpa using hb) e) f0 f1 f3 Z f5;exact⟨_,rfl,bc1 G rfl rfl (by decide) ⟨.int (J+i*(-1)),H,I1,⟨t,rfl⟩,⟨rfl,rfl⟩,G,λ b hb=>(hf b hb).1⟩⟩
 done:=by
  intro X hP hw Y hc i F s W H E I hf st hg;subst hP hw Y;obtain⟨f0,f1,f2,f3,Z,f5⟩:=hf it (by simp);exact ju (I.ok.hd hc) st (by have:n<=i:=hg;omega) λ h' eb=>⟨rfl,I.turned (λ b o hb e=>eb b o hb e) f0 f1 f3 Z f5⟩
 self:=λ _ _ _ _ _ st h=>jv st h
def aE3 (h:0<=a):d6 a (-1) (-1)=a+1:=by
 unfold d6;rw[if_neg (by decide),if_pos (by omega),show(-(-1))=1 from rfl,n8];lia
def aY6 (ha:0<=a)(z:a<2^20):kP a (-1) (-1)=true:=by
 unfold kP;rw[aE3 ha];simp only[nh,aj,cH,decide_eq_true_eq,show ¬((-1:Int) > 0)by decide,if_false];lia
def bZ9 (ta:TA):TI:=λ W H R=>ta W H λ vs H1=>∃ i,vs=[.int i,.int (-1),.int (-1)]/\(0<=i/\i<2^20)/\R (cq5 i (i+1).toNat) H1
def bh6 {tg   }{p pos}(hg:Gl X "range")(hm:X.mg "range"=none)(ha:PA X [a,b,c] ta)(hs:autoParam (bB [a,b,c] X.env=(false,eval a X.env)::bB [b,c] X.env) Zq4._auto_1)(Y:autoParam (bB [b,c] X.env=[(false,eval b X.env),(false,eval c X.env)]) Zq4._auto_1) :
  PI X tg (.Call (.Name "range" p) [a,b,c] [] pos) (bZ9 ta):=by
 intro G s W H R I h;refine Call_ (at5 I hg hm boot_range (eV (thn (ha pos G s W H _ I h) λ us s1 ⟨vs,H1,I1,r1,J⟩=>?_) hs (by rw[Y];rfl)));obtain⟨z,e,⟨J,q2⟩,q⟩:=J;subst e;cases r1 with
 | cons r rr =>
  cases rr with
  | cons r' rr =>
   cases rr with
   | cons r'' rr =>
    cases rr;obtain⟨t,rfl⟩:=r;obtain⟨t',rfl⟩:=r';obtain⟨F,rfl⟩:=r'';refine call_range_3 (by decide) ?_;refine la (oq ..) (aY6 J q2) ?_;have Z:Inv X G W H1 { s1 with heap:=s1.heap.push { cls:=.type "range",data:=.fields #[.int z t,.int (-1) t',.int (-1) F] },toks:=s1.toks }:=I1.kept λ b o e=>ao _ e;refine⟨(s1.heap.push { cls:=.type "range",data:=.fields #[.int z t,.int (-1) t',.int (-1) F] }).objs.size,[(s1.heap.push { cls:=.type "range",data:=.fields #[.int z t,.int (-1) t',.int (-1) F] }).objs.size],_,_,H1,rfl,
     Z.kept λ b o e=>ao _ e,aL0 _ z (z+1).toNat,?_,λ b hb=>?_,q⟩
    .skip
     have e1:z+((0:Nat))*(-1)=z:=by simp
     have e2:(((z+1).toNat)) - ((0:Nat))=d6 z (-1) (-1):=by rw[aE3 J];lia
     rw[e1,e2];exact aI _ rfl
    .have e:b=(s1.heap.push { cls:=.type "range",data:=.fields #[.int z t,.int (-1) t',.int (-1) F] }).objs.size:=by simpa using hb
     subst e;exact Z.fpOk (au _) (Z.hok.fresh (au _))
def aG3 :PE X (.UnaryOp .USub (.Constant (.int 1) k p1) F) (tC (.int (-1))) :=
 λ z s W H Q I h=>bY6 bA4 bb9 z s W H Q I ⟨1,rfl,h⟩
section
variable {X:Cx} {pins:yA} {W:St} {H:Hp} {s:ag} {a Cc:Addr} {oe:Obj} {fl:Value}
end
def bv0 :PG X e (λ _ _ _ _=>False):=λ _ _ _ _ _ _ _ _ _ z=>z.elim
theorem PG.nox (h:PG X.nox e t):PG X e t:=λ F s W H v u Q I r hw =>
 bw (h F s W H v u Q (I.wish _) r hw) (λ _ _ ⟨W',H',G,q⟩=>⟨W',H',G.unwish,q⟩) λ _ _ z=>bD z
theorem PI.nox (h:PI X.nox tg e t):PI X tg e t:=λ F s W H R I hw =>
 bw (h F s W H R (I.wish _) hw) (λ _ _ z=>bw z (λ _ _ z=>by
  obtain⟨it,fp,Y,J,H2,e,I2,T,G,Z,q⟩:=z;exact⟨it,fp,Y,J,H2,e,I2.unwish,T,G,Z,q⟩) λ _ _ z=>bD z) λ _ _ z=>bD z
def bZ8 {K}{ D}{z:yL}{rest}(hx:bW K (.ref Cc) (.ref D)=some true)
  (h:wpAny (model P w) (A.mark (some (.ref e))) (eval t env) (λ c G=>c=.ref D/\K.In G.heap/\(∃ oe,G.heap.get? e=some oe/\oe.cls=.ref Cc) /\
   wpAny (model P w) (A.mark (some (.ref e))) (mH (.ref e) none) (λ _ Z=>wpAny (model P w) (A.mark (some (.ref e))) (nW env n (.ref e)) (λ _ s₃=>wpAny (model P w) (A.mark (some (.ref e))) (execs (J::z) env)
    (λ f s₄=>wpAny (model P w) A (do bindName env n .none;unbindBehindTheSuite env n pos) (λ _ s₅=>Q f s₅) E s₄)
    (AsSuiteRaised (model P w) (A.mark (some (.ref e))) env n pos (hJ (model P w) (A.mark (some (.ref e))) env (ly (model P w) A env E))) s₃) (hJ (model P w) (A.mark (some (.ref e))) env (ly (model P w) A env E)) Z) (hJ (model P w) (A.mark (some (.ref e))) env (ly (model P w) A env E)) G) (hJ (model P w) (A.mark (some (.ref e))) env (ly (model P w) A env E)) s) :
  wpAny (model P w) A (handleBy (.ref e) env (.ExceptHandler (some t) (some n) (J::z) pos::rest)) Q E s:=by
 refine wpAny_handleBy_cons (codeAny_handlers_test (bw h (λ c G Y=>?_) λ _ _ y=>y)) (by intro q;cases q);obtain⟨rfl,X,⟨oe,he,F⟩,hk⟩:=Y;have LT:fu (model P w) G.heap (lp (.ref e)) (.ref Cc):=by
  rw[<-F];exact(mF he).andThen .now
 exact(PySem.W.exm_one X LT hx).here (codeAny_handlers_suite_as hk)
section
variable {X:Cx} {pins:yA} {W:St} {H:Hp} {s:ag} {a Cc D':Addr} {oe:Obj} {fl:Value}
def aV1 {F:yL}{rest}{D}(t:Tr X pins W H s a Cc .none)(Z:X.ex=[])(Y:X.stack=X.env::X.outer)(J:X.env.frame=some X.env.locals)
  (hx:bW X.K (.ref Cc) (.ref D')=some true) (hg:Gl X x) (hm:X.mg x=some (.ref D')) (hd:(x==("__debug__":Str))=false) (hN:X.N.Nodup) (hi:X.N[i]?=some n) (hl:X.env.scope.names.lookup n=some .local)
  (hb:∀ oe,oe.cls=.ref Cc->PSs (X.hnd a oe) (b₀::F) th) (hq:th { nx:=λ _ _=>False,rt:=D.rt } (W.set i (some (.ref a))) H) :
  wpAny (model X.prog X.w) X.A (mq (.ref a) X.env) (λ _ s₂=>wpAny (model X.prog X.w) X.A (mH (.ref a) none) (λ _ s₃=>wpAny (model X.prog X.w) X.A (handleBy (.ref a) X.env (.ExceptHandler (some (.Name x np)) (some n) (b₀::F) pos::rest)) (SP X pins D) X.xe s₃) X.xe s₂) X.xe s:=by
 refine t.noted Z Y J λ h2 fl t2=>t2.down Z Y J λ h3 t3=>?_;refine bZ8 (K:=X.K) hx ?_;refine t3.again (Q:=λ _ _=>True) (v:=.ref D') (λ oe=>aB4 (X:=X.hnd a oe) hg hm rfl hd) λ u s4 r t4=>?_;obtain⟨a3,a8,a7,a4,b1⟩:=t4.own;refine⟨r,t4.inv.kIn,⟨a3,a7,a4⟩,?_⟩;refine t4.down Z Y J λ h5 t5=>?_;obtain⟨G,b0,a1,a5,a0⟩:=t5.own;have J5:Inv X ((a,G)::pins) W H { s4 with heap:=h5 }:=t5.inv.pins_of λ p hp=>by
  rcases az.mp hp with z|z
  .subst z;exact⟨a1,t5.nH,t5.inv.apart a1 a0⟩
  .exact t5.inv.pin p (aG _ z)
 refine ap1 J5 hN hi (.inl hl) (v:=.ref a) rfl (λ s6 J6=>?_) (.inr hl);have J7:Inv (X.hnd a G) pins (W.set i (some (.ref a))) H s6:=(J6.pins_of λ p hp=>J6.pin p (aG _ (ak _ hp))).hnd (J6.pin (a,G) (aG _ (ax ..))).1 t5.nH a0;refine bw (hb G a5 pins s6 _ H { nx:=λ _ _=>False,rt:=D.rt } J7 hq) (λ f s8 z=>?_) (λ _ _ z=>bD z);cases f with
 | next=>obtain⟨_,_,_,z⟩:=z;exact bD z
 | brk=>obtain⟨_,_,_,z⟩:=z;exact bD z
 | cont=>obtain⟨_,_,_,z⟩:=z;exact bD z
 | ret u8 =>
  obtain⟨v8,W8,H8,J8,r8,q8⟩:=z;have J8:=J8.unhnd t5.inv.ok;refine ac (wpAny_bindName (ap1 J8 hN hi (.inl hl) (v:=.N) (u:=.none) rfl (λ s9 J9=>?_) (.inr hl)));have a6:i < W8.length:=by rw[J8.len];exact(ae.mp hi).1
  exact wpAny_onRaise (bb4 J9 hN hi hl (by rw[bj a6]) λ a9 a2=>⟨v8,_,H8,a2,r8,q8⟩)
end
section
open PySem.AutoSeq1 (wpAny_loadPart')
open PySem.MeetsSeq PySem.MeetsSeq2 PySem.MeetsSeq3 PySem.SeqAt
end
section
variable {A:be} {s:ag}
end
section
variable {prog:aM} {w:World} {A:be} {E:Value->ag->Prop} {s:ag} {x y:Str} {t u:Tok}
end
end L2
end
noncomputable section
namespace DV
set_option genInjectivity true in
inductive D where
 | N|T (b:Bool)|int (i:Int)|str (x:List Nat)|tp (l:List D)|ref (n:Nat)|fn (f:String)|clo (f:String) (cs:List D)
noncomputable abbrev D.ctorIdx (x:D):Nat:=D.casesOn x 0 (λ _=>1) (λ _=>2) (λ _=>3) (λ _=>4) (λ _=>5) (λ _=>6) (λ _ _=>7)
noncomputable instance:DecidableEq D:=λ a b=>di (a=b)
noncomputable instance (x:D):Decidable (x=.N):=match x with
 | .N=>.isTrue rfl
 | .T _=>.isFalse nofun
 | .int _=>.isFalse nofun
 | .str _=>.isFalse nofun
 | .tp _=>.isFalse nofun
 | .ref _=>.isFalse nofun
 | .fn _=>.isFalse nofun
 | .clo _ _=>.isFalse nofun
inductive O where
 | J (l:List D)|ro (l:List D)|ins (c:String) (fs:List (String×D))|dit (l:List (D×D))
noncomputable abbrev O.ctorIdx (x:O):Nat:=O.casesOn x (λ _=>0) (λ _=>1) (λ _ _=>2) (λ _=>3)
noncomputable instance:DecidableEq O:=λ a b=>di (a=b)
abbrev Sto:=List O
noncomputable def O.kd:O->Nat
 | .J _=>0|.ro _=>1|.ins _ _=>3|.dit _=>4
set_option genInjectivity true in
inductive R (α:Type) where
 | ok (a:α) (s:Sto)|exc (e:D) (s:Sto)|B
noncomputable abbrev R.ctorIdx {α:Type} (x:R α):Nat:=R.casesOn x (λ _ _=>0) (λ _ _=>1) 2
noncomputable abbrev M α :=Sto->R α
noncomputable def R.bind (r:R α)(f:α->Sto->R β):R β:=match r with
 | .ok a s=>f a s
 | .exc e s=>.exc e s
 | .B=>.B
@[simp] theorem R.bind_ok a s (f:α->Sto->R β):(R.ok a s).bind f=f a s:=rfl
@[simp] theorem R.bind_bad (f:α->Sto->R β):(R.B).bind f=.B:=rfl
@[simp] theorem R.bind_exc e s (f:α->Sto->R β):(R.exc e s).bind f=.exc e s:=rfl
def R.bind_inv {r:R α}{b:β}(h:r.bind f=.ok b t):∃ a s,r=.ok a s/\f a s=.ok b t:=by
 cases r with
 | ok a s=>exact⟨a,s,rfl,h⟩
 | exc e s=>cases h
 | B=>cases h
@[simp] theorem R.bind_assoc (r:R α) f (g:β->Sto->R γ):(r.bind f).bind g=r.bind λ a s=>(f a s).bind g:=by cases r<;>rfl
mutual
noncomputable def D.bnd (n:Nat):D->Bool
 | .tp l=>D.bndL n l
 | .ref k=>decide (k<n)
 | .clo _ l=>D.bndL n l
 | _=>true
noncomputable def D.bndL (n:Nat):List D->Bool
 | []=>true
 | d::l=>D.bnd n d&&D.bndL n l
end
def O.bnd (n:Nat):O->Bool
 | .J l=>D.bndL n l
 | .ro l=>D.bndL n l
 | .ins _ fs=>D.bndL n (fs.map (·.2))
 | .dit l=>D.bndL n (l.map (·.1))&&D.bndL n (l.map (·.2))
mutual
noncomputable def D.plain:D->Bool
 | .N=>true|.int _=>true|.str _=>true
 | .tp l=>D.plainL l
 | _=>false
noncomputable def D.plainL:List D->Bool
 | []=>true
 | d::l=>D.plain d&&D.plainL l
end
mutual
noncomputable def D.ncl:D->Bool
 | .tp l=>D.nclL l
 | .clo _ _=>false
 | _=>true
noncomputable def D.nclL:List D->Bool
 | []=>true
 | d::l=>D.ncl d&&D.nclL l
end
def O.ncl:O->Bool
 | .J l=>D.nclL l
 | .ro l=>D.nclL l
 | .dit l=>D.nclL (l.map (·.2))
 | _=>false
noncomputable def D.key:D->Bool
 | .int _=>true|.str _=>true|_=>false
noncomputable def D.hdI:List D->Bool
 | .int _::_=>true|.N::_=>true|.tp _::_=>true|_=>false
noncomputable def D.keyF:D->Bool
 | .int _=>true|.N=>true|.str x=>decide (x.length<=1000)|_=>false
def D.keyS:D->Bool
 | .tp l=>D.hdI l&&(l.all D.keyF&&decide (l.length<=1000))|d=>D.keyF d
def D.keyT:D->Bool
 | .tp l=>D.hdI l&&(l.all D.keyS&&decide (l.length<=1000))|_=>false
noncomputable def LIM:Nat:=1000000
@[irreducible] noncomputable def BIG:Nat:=2^60000
@[irreducible] noncomputable def DIVL:Nat:=2^4096
set_option genCtorIdx true in
inductive BOp where
 | add|sub|mul|fdiv|mod|pow|shl|shr|band|bor
 deriving DecidableEq
set_option genCtorIdx true in
inductive COp where
 | eq|ne|lt|le|gt|ge|isin|notin
 deriving DecidableEq
set_option genCtorIdx true in
inductive Cn where
 | N|T (b:Bool)|int (i:Int)|str (x:List Nat)
 deriving DecidableEq
noncomputable def Cn.d:Cn->D
 | .N=>.N|.T b=>.T b|.int i=>.int i|.str x=>.str x
set_option genCtorIdx true in
inductive Bi where
 | len|abs|int|str|min2|max2|max3|min3|isInt|isBool|isStr|isTup|isList|ord
 deriving DecidableEq
set_option genCtorIdx true in
inductive Mk where
 | tuple|list|all|any|sum|min|max|sorted|lenset
 deriving DecidableEq
set_option genCtorIdx true in
inductive Mt where
 | append|partition
 deriving DecidableEq
set_option genCtorIdx true in
inductive Tg where
 | Y (i:Nat)|tp (is:List Nat)
 deriving DecidableEq
mutual
inductive E where
 | X (i:Nat)|K (c:Cn)|gl (x:String)
 | G (op:BOp) (a b:E)|neg (a:E)|not (a:E)
 | Z (op:COp) (a b:E)|chain (o p:COp) (a b c:E)
 | isN (a:E)|notN (a:E)
 | and (a b:E)|or (a b:E)|ite (c a b:E)
 | tp (es:Es)|J (es:Es)|dicT|dicU (k v:E)|get2 (o k d:E)
 | ix (a b:E)|slU (a hi:E)
 | call (f:String) (as:As)
 | bi (b:Bi) (es:Es)|mk (k:Mk) (l:L)|mkD (k:Mk) (l:L) (d:E)
 | me (m:Mt) (o:E) (es:Es)|ext (o:E) (l:L)
inductive Es where
 | nil|cons (e:E) (es:Es)
inductive As where
 | nil|ex (e:E) (as:As)|fn (f:String) (as:As)
inductive I where
 | seq (e:E)|rg (a:E)|rngD (a:E)
inductive L where
 | comp (tg:Tg) (it:I) (e:E) (caps:yD)|compIf (tg:Tg) (it:I) (c e:E) (caps:yD)|disp (es:Es)|seq (e:E)|itm (e:E)
end
noncomputable abbrev I.ctorIdx (x:I):Nat:=I.casesOn x (λ _=>0) (λ _=>1) (λ _=>2)
mutual
inductive S where
 | A (tg:Tg) (e:E)|setIx (o i e:E)|ex (e:E)|ret (e:E)
 | ite (c:E) (a b:Ss)|whl (c:E) (b:Ss)|fo (tg:Tg) (it:I) (b:Ss)|raise
inductive Ss where
 | nil|cons (s:S) (ss:Ss)
end
abbrev Env:=List (Option D)
noncomputable def ag1 (o:O):M D:=λ s=>.ok (.ref s.length) (s++[o])
noncomputable def pur (d:D):M D:=λ s=>.ok d s
noncomputable def bad :M α:=λ _=>.B
def mulOk (a b:Int):Bool:=decide (a.natAbs<2^64)||decide (b.natAbs<2^64)||(decide (a.natAbs<BIG)&&decide (b.natAbs<BIG))
noncomputable def rep:Nat->List Nat->List Nat
 | 0,_=>[]
 | n+1,a=>a++rep n a
noncomputable def aZ1:Nat->List D->List D
 | 0,_=>[]
 | n+1,a=>a++aZ1 n a
def qH:BOp->D->D->M D
 | .add,.int a,.int b=>pur (.int (a+b))
 | .add,.str a,.str b=>if a.length+b.length<=LIM then pur (.str (a++b))else bad
 | .add,.tp a,.tp b=>if a.length+b.length<=LIM then pur (.tp (a++b))else bad
 | .add,.ref a,.ref b=>λ s=>match s[a]?,s[b]? with
  | some (.J l),some (.J m)=>if l.length+m.length<=LIM then ag1 (.J (l++m)) s else .B
  | _,_=>.B
 | .sub,.int a,.int b=>pur (.int (a - b))
 | .mul,.int a,.int b=>if mulOk a b then pur (.int (a*b))else bad
 | .mul,.str a,.int n=>if 0<=n/\n<=1000000/\a.length*n.toNat<=LIM then pur (.str (rep n.toNat a))else bad
 | .mul,.tp a,.int n=>if 0<=n/\n<=1000000/\a.length*n.toNat<=LIM then pur (.tp (aZ1 n.toNat a))else bad
 | .mul,.ref a,.int n=>λ s=>match s[a]? with
  | some (.J l)=>if 0<=n/\n<=1000000/\l.length*n.toNat<=LIM then ag1 (.J (aZ1 n.toNat l)) s else .B
  | _=>.B
 | .fdiv,.int a,.int b=>if 0<b/\b<(DIVL)then pur (.int (a / b))else bad
 | .mod,.int a,.int b=>if 0<b then pur (.int (a % b))else bad
 | .pow,.int a,.int b=>if 0<=b/\b<=1000000/\a.natAbs<2^64 then pur (.int (a^b.toNat))else bad
 | .shl,.int a,.int b=>if 0<=b/\b<=1000000/\a.natAbs<2^64 then pur (.int (a*2^b.toNat))else bad
 | _,_,_=>bad
noncomputable def kd (s:Sto):D->Nat
 | .N=>0|.T _=>1|.int _=>1|.str _=>2|.tp _=>3
 | .ref r=>match s[r]? with|some (.J _)=>4|_=>9
 | _=>9
noncomputable def aN5 (a b:Nat):Bool:=a==9||b==9||a==b
noncomputable def b2i (b:Bool):Int:=if b then 1 else 0
def bg6:D->D->Option Bool
 | .N,.N=>some true
 | .T a,.T b=>some (a==b)
 | .int a,.int b=>some (a==b)
 | .T a,.int b=>some (b2i a==b)
 | .int a,.T b=>some (a==b2i b)
 | .str a,.str b=>some (a==b)
 | _,_=>none
def af7 (s:Sto)(a b:D):Option Bool:=match bg6 a b with
 | some z=>some z
 | none=>if aN5 (kd s a) (kd s b)then none else some false
noncomputable def eqL (f:D->D->Option Bool):List D->List D->Option Bool
 | [],[]=>some true
 | [],_::_=>some false
 | _::_,[]=>some false
 | a::l,b::m=>match f a b,eqL f l m with
  | some x,some y=>some (x&&y)
  | _,_=>none
def eqv (s:Sto):Nat->D->D->Option Bool
 | 0,a,b=>af7 s a b
 | n+1,a,b=>match a,b with
  | .tp l,.tp m=>eqL (eqv s n) l m
  | .ref x,.ref y=>match s[x]?,s[y]? with
   | some (.J l),some (.J m)=>if l.length=m.length then eqL (eqv s n) l m else some false
   | _,_=>none
  | a,b=>af7 s a b
noncomputable def DEEP:Nat:=30
def eqM (a b:D):M D:=λ s=>match eqv s DEEP a b with
 | some r=>.ok (.T r) s
 | none=>.B
def inL (s:Sto)(x:D):List D->Option Bool
 | []=>some false
 | y::l=>match eqv s DEEP y x,inL s x l with
  | some a,some b=>some (a||b)
  | _,_=>none
noncomputable def look (k:D):List (D×D)->Option D
 | []=>none
 | (a,v)::l=>if a=k then some v else look k l
def inM (a b:D):M Bool:=λ s=>match b with
 | .tp l=>match inL s a l with|some r=>.ok r s|none=>.B
 | .ref r=>match s[r]? with
  | some (.J l)=>match inL s a l with|some r=>.ok r s|none=>.B
  | some (.dit l)=>if a.keyT then .ok (look a l).isSome s else .B
  | _=>.B
 | .str y=>match a with|.str [c]=>.ok (decide (c∈y)) s|_=>.B
 | _=>.B
noncomputable def bu0:D->Option (Int×List Nat)
 | .tp [.int i,.str x]=>some (i,x)
 | _=>none
def cl2 (f:Int->List Nat->Int->List Nat->Bool)(a b:D):M D:=λ s=>match bu0 a,bu0 b with
 | some (i,x),some (j,y)=>.ok (.T (f i x j y)) s
 | _,_=>.B
def qC:COp->D->D->M D
 | .eq,a,b=>eqM a b
 | .ne,a,b=>λ s=>match eqv s DEEP a b with|some r=>.ok (.T (!r)) s|none=>.B
 | .lt,.int a,.int b=>pur (.T (decide (a<b)))
 | .le,.int a,.int b=>pur (.T (decide (a<=b)))
 | .gt,.int a,.int b=>pur (.T (decide (b<a)))
 | .isin,a,b=>λ s=>(inM a b s).bind λ r s=>.ok (.T r) s
 | .notin,a,b=>λ s=>(inM a b s).bind λ r s=>.ok (.T (!r)) s
 | _,_,_=>bad
noncomputable def ixn (n:Nat)(i:Int):Option Nat:=if 0<=i then(if i<n then some i.toNat else none)else if -(n)<=i then some (i+n).toNat else none
noncomputable def sbd (n:Nat)(i:Int):Nat:=if 0<=i then min i.toNat n else(i+n).toNat
def loB (n:Nat):Option Int->Nat
 | none=>0
 | some i=>sbd n i
def hiB (n:Nat):Option Int->Nat
 | none=>n
 | some i=>sbd n i
def aI4 {α:Type}(l:List α)(lo hi:Option Int):List α:=(l.drop (loB l.length lo)).take (hiB l.length hi - loB l.length lo)
def ixM (a b:D):M D:=λ s=>match a,b with
 | .tp l,.int i=>match(ixn l.length i).bind λ j=>l[j]? with|some d=>.ok d s|none=>.B
 | .str l,.int i=>match(ixn l.length i).bind λ j=>l[j]? with|some c=>.ok (.str [c]) s|none=>.B
 | .ref r,b=>match s[r]? with
  | some (.J l)=>match b with
   | .int i=>match(ixn l.length i).bind λ j=>l[j]? with|some d=>.ok d s|none=>.B
   | _=>.B
  | some (.ro l)=>match b with
   | .int i=>match(ixn l.length i).bind λ j=>l[j]? with|some d=>.ok d s|none=>.B
   | _=>.B
  | some (.dit l)=>if b.keyT then match look b l with|some d=>.ok d s|none=>.B else .B
  | _=>.B
 | _,_=>.B
def slM (a:D)(lo hi:Option Int):M D:=λ s=>match a with
 | .tp l=>.ok (.tp (aI4 l lo hi)) s
 | .str l=>.ok (.str (aI4 l lo hi)) s
 | .ref r=>match s[r]? with
  | some (.J l)=>ag1 (.J (aI4 l lo hi)) s
  | _=>.B
 | _=>.B
noncomputable def ah2:List D->Option (List Bool)
 | []=>some []
 | .T b::l=>(ah2 l).map (b::·)
 | _=>none
noncomputable def qk:List D->Option (List Int)
 | []=>some []
 | .int i::l=>(qk l).map (i::·)
 | _=>none
noncomputable def aw5:List D->Option (List (List Nat))
 | []=>some []
 | .str i::l=>(aw5 l).map (i::·)
 | _=>none
noncomputable def bM6 (d:D):M D:=λ s=>match d with
 | .tp l=>.ok (.int l.length) s
 | .str l=>.ok (.int l.length) s
 | .ref r=>match s[r]? with
  | some (.J l)=>.ok (.int l.length) s
  | some (.ro l)=>.ok (.int l.length) s
  | _=>.B
 | _=>.B
noncomputable def isK (k:Nat)(d:D):M D:=λ s=>match d with
 | .N=>.ok (.T false) s
 | .T _=>.ok (.T (k==1||k==2)) s
 | .int _=>.ok (.T (k==1)) s
 | .str _=>.ok (.T (k==3)) s
 | .tp _=>.ok (.T (k==4)) s
 | .ref r=>match s[r]? with
  | some (.J _)=>.ok (.T (k==5)) s
  | _=>.B
 | _=>.B
def bi1 (f:D->M D):List D->M D
 | [d]=>f d
 | _=>bad
def aU6:List D->M D
 | [.str [c]]=>λ s=>if 48<=c/\c<=57 then .ok (.int ((c - 48:Nat))) s else .B
 | _=>bad
def bi9:List D->M D
 | [.int i]=>λ s=>if 0<=i/\i<=9 then .ok (.str [48+i.toNat]) s else .B
 | [.str w]=>λ s=>.ok (.str w) s
 | _=>bad
def bi:Bi->List D->M D
 | .len,l=>bi1 bM6 l
 | .abs,l=>λ s=>match qk l with|some [i]=>.ok (.int (if i<0 then -i else i)) s|_=>.B
 | .int,l=>λ s=>match ah2 l with|some [b]=>.ok (.int (if b then 1 else 0)) s|some _=>.B|none=>aU6 l s
 | .str,l=>bi9 l
 | .min2,l=>λ s=>match qk l with|some [a,b]=>.ok (.int (if b<a then b else a)) s|_=>.B
 | .max2,l=>λ s=>match qk l with|some [a,b]=>.ok (.int (if b > a then b else a)) s|_=>.B
 | .max3,l=>λ s=>match qk l with|some [a,b,c]=>.ok (.int (max (max a b) c)) s|_=>.B
 | .isInt,l=>bi1 (isK 1) l
 | .isBool,l=>bi1 (isK 2) l
 | .isStr,l=>bi1 (isK 3) l
 | .isTup,l=>bi1 (isK 4) l
 | .isList,l=>bi1 (isK 5) l
 | _,_=>bad
noncomputable def minI:List Int->Option Int
 | []=>none
 | a::l=>some (l.foldl min a)
noncomputable def bU8:List Int->Option Int
 | []=>none
 | a::l=>some (l.foldl max a)
noncomputable def ins (a:Int):List Int->List Int
 | []=>[a]
 | b::l=>if a<=b then a::b::l else b::ins a l
def cj7:List Int->List Int
 | []=>[]
 | a::l=>ins a (cj7 l)
noncomputable def cx9 (is:List Int):Bool:=is.all (λ i=>decide (-1000000000<=i/\i<=1000000000))&&decide (is.length<=1000000)
def mk:Mk->List D->M D
 | .tuple,l=>λ s=>.ok (.tp l) s
 | .list,l=>ag1 (.J l)
 | .all,l=>λ s=>match ah2 l with|some bs=>.ok (.T (bs.all id)) s|none=>.B
 | .any,l=>λ s=>match ah2 l with|some bs=>.ok (.T (bs.any id)) s|none=>.B
 | .sum,l=>λ s=>match qk l with|some is=>if cx9 is then .ok (.int is.sum) s else .B|none=>.B
 | .min,l=>λ s=>match(qk l).bind minI with|some m=>.ok (.int m) s|none=>.B
 | .max,l=>λ s=>match(qk l).bind bU8 with|some m=>.ok (.int m) s|none=>.B
 | .sorted,l=>λ s=>match qk l with|some is=>ag1 (.J ((cj7 is).map D.int)) s|none=>.B
 | .lenset,l=>bad
def mkD (k:Mk)(l:List D)(d:D):M D:=λ s=>match k with
 | .min=>match qk l with|some is=>(match minI is with|some m=>.ok (.int m) s|none=>.ok d s)|none=>.B
 | .max=>match qk l with|some is=>(match bU8 is with|some m=>.ok (.int m) s|none=>.ok d s)|none=>.B
 | _=>.B
def aI3 (k v:D)(l:List (D×D)):List (D×D):=if(look k l).isSome then l.map (λ p=>if p.1=k then(p.1,v)else p)else l++[(k,v)]
def setIx (o i v:D):Sto->R Unit:=λ s=>match o with
 | .ref r=>match s[r]? with
  | some (.J l)=>match i with
   | .int i=>match ixn l.length i with|some j=>.ok () (s.set r (.J (l.set j v)))|none=>.B
   | _=>.B
  | some (.dit l)=>if i.keyT&&decide (l.length<LIM)then .ok () (s.set r (.dit (aI3 i v l)))else .B
  | _=>.B
 | _=>.B
def bE5 (o k e:D):M D:=λ s=>match o with
 | .ref r=>match s[r]? with
  | some (.dit l)=>if k.keyT then .ok ((look k l).getD e) s else .B
  | _=>.B
 | _=>.B
def meth:Mt->D->List D->M D
 | .append,.ref r,[d]=>λ s=>match s[r]? with
  | some (.J l)=>if l.length<LIM then .ok .N (s.set r (.J (l++[d])))else .B
  | _=>.B
 | _,_,_=>bad
def bM2 (o:D)(l:List D):M D:=λ s=>match o with
 | .ref r=>match s[r]? with
  | some (.J m)=>if m.length+l.length<=LIM then .ok .N (s.set r (.J (m++l)))else .B
  | _=>.B
 | _=>.B
structure Fns where
 call:String->List D->M D
 lam:String->List D->List D->M D
 con:String->Option D
 xcall:String->List D->Sto->Option (String×Sto)
 xc:String->Bool
 xt:String->Bool
 cdc:String->Option (List (List Nat×List Nat))
 kd:String->Bool
noncomputable def bn1 (U:Env)(i:Nat):M D:=λ s=>match U[i]? with|some (some d)=>.ok d s|_=>.B
noncomputable def zT (U:Env)(caps:yD):Env:=caps.map λ o=>match o with|none=>none|some j=>(U[j]?).join
noncomputable def aS0 (U:Env)(i:Nat)(d:D):Option Env:=if i < U.length then some (U.set i (some d))else none
noncomputable def aQ1 (U:Env)(i:Nat):Option Env:=if i < U.length then some (U.set i none)else none
def ap8 (U:Env):List Nat->List D->Option Env
 | [],[]=>some U
 | i::is,d::l=>(aS0 U i d).bind λ U=>ap8 U is l
 | _,_=>none
def ae8 (U:Env):Tg->D->Option Env
 | .Y i,d=>aS0 U i d
 | .tp is,.tp l=>ap8 U is l
 | _,_=>none
structure Sq where
 its:List D
 src:List Nat
noncomputable def ai2 (d:D):M Sq:=λ s=>match d with
 | .tp l=>.ok ⟨l,[]⟩ s
 | .str l=>.ok ⟨l.map λ c=>.str [c],[]⟩ s
 | .ref r=>match s[r]? with
  | some (.J l)=>.ok ⟨l,[r]⟩ s
  | some (.ro l)=>.ok ⟨l,[]⟩ s
  | _=>.B
 | _=>.B
noncomputable def cr8 (p:D×D):D:=match p.1 with
 | .tp l=>.tp (l++[p.2])
 | _=>.N
def by1 (d:D):Sto->R (List D):=λ s=>match d with
 | .ref r=>match s[r]? with
  | some (.dit l)=>if l.length<=LIM then .ok (l.map cr8) s else .B
  | _=>.B
 | _=>.B
noncomputable def bt0 (d:D):Sto->R (List D):=λ s=>match d with
 | .tp l=>.ok l s
 | .str l=>.ok (l.map λ c=>.str [c]) s
 | .ref r=>match s[r]? with
  | some (.J l)=>.ok l s
  | some (.ro l)=>.ok l s
  | _=>.B
 | _=>.B
noncomputable def Ww62:Int:=4611686018427387904
noncomputable def ah8 (a b:Int):List D:=(bn (b - a).toNat).map λ(k:Nat)=>.int (a+k)
noncomputable def am1 (a:Int):List D:=(bn (a+1).toNat).map λ(k:Nat)=>.int (a+(k)*(-1))
noncomputable def chk (s0 s:Sto)(src:List Nat):Bool:=src.all λ r=>decide (s[r]?=s0[r]?)
noncomputable def tru (r:R D)(f:Bool->Sto->R α):R α:=r.bind λ d s=>match d with|.T b=>f b s|_=>.B
@[simp] theorem tru_bl b s (f:Bool->Sto->R α):tru (.ok (.T b) s) f=f b s:=rfl
noncomputable def ag4 (ok:Sto->Bool)(g:D->Env->Sto->R (Option D×Env)):List D->Env->Sto->R (List D)
 | [],_,s=>if ok s then .ok [] s else .B
 | d::l,U,s=>if ok s then(g d U s).bind λ p s=>(ag4 ok g l p.2 s).bind λ r s=>.ok (match p.1 with|some v=>v::r|none=>r) s else .B
mutual
noncomputable def ev (F:Fns):E->Env->Sto->R D
 | .X i,U,s=>bn1 U i s
 | .K c,_,s=>.ok c.d s
 | .gl x,_,s=>match F.con x with|some d=>.ok d s|none=>.B
 | .G op a b,U,s=>(ev F a U s).bind λ x s=>(ev F b U s).bind λ y s=>qH op x y s
 | .neg a,U,s=>(ev F a U s).bind λ x s=>match x with|.int i=>.ok (.int (-i)) s|_=>.B
 | .not a,U,s=>tru (ev F a U s) λ b s=>.ok (.T (!b)) s
 | .Z op a b,U,s=>(ev F a U s).bind λ x s=>(ev F b U s).bind λ y s=>qC op x y s
 | .chain o p a b c,U,s=>(ev F a U s).bind λ x s=>(ev F b U s).bind λ y s=>tru (qC o x y s) λ k s=>if k then(ev F c U s).bind λ z s=>qC p y z s else .ok (.T false) s
 | .isN a,U,s=>(ev F a U s).bind λ x s=>.ok (.T (decide (x=.N))) s
 | .notN a,U,s=>(ev F a U s).bind λ x s=>.ok (.T (!decide (x=.N))) s
 | .and a b,U,s=>tru (ev F a U s) λ c s=>if c then tru (ev F b U s) λ c s=>.ok (.T c) s else .ok (.T false) s
 | .or a b,U,s=>tru (ev F a U s) λ c s=>if c then .ok (.T true) s else tru (ev F b U s) λ c s=>.ok (.T c) s
 | .ite c a b,U,s=>tru (ev F c U s) λ k s=>if k then ev F a U s else ev F b U s
 | .tp es,U,s=>(evs F es U s).bind λ l s=>.ok (.tp l) s
 | .J es,U,s=>(evs F es U s).bind λ l s=>ag1 (.J l) s
 | .dicT,_,s=>ag1 (.dit []) s
 | .dicU k v,U,s=>(ev F k U (s++[.dit []])).bind λ kd s1=>(ev F v U s1).bind λ vd s2=>if kd.keyT=true/\s2[s.length]?=some (.dit [])then .ok (.ref s.length) (s2.set s.length (.dit [(kd,vd)]))else .B
 | .get2 o k d,U,s=>(ev F o U s).bind λ x s=>(ev F k U s).bind λ y s=>(ev F d U s).bind λ z s=>bE5 x y z s
 | .ix a b,U,s=>(ev F a U s).bind λ x s=>(ev F b U s).bind λ y s=>ixM x y s
 | .slU a hi,U,s=>(ev F a U s).bind λ x s=>(ev F hi U s).bind λ y s=>match y with|.int i=>slM x none (some i) s|_=>.B
 | .call f as,U,s=>(ai4 F as U s).bind λ l s=>F.call f l s
 | .bi b es,U,s=>(evs F es U s).bind λ l s=>bi b l s
 | .mk k it,U,s=>(evL F it U s).bind λ q s=>mk k q s
 | .mkD k it d,U,s=>(evL F it U s).bind λ q s=>(ev F d U s).bind λ d s=>mkD k q d s
 | .me m o es,U,s=>(ev F o U s).bind λ x s=>(evs F es U s).bind λ l s=>meth m x l s
 | .ext o it,U,s=>(ev F o U s).bind λ x s=>(evL F it U s).bind λ q s=>bM2 x q s
noncomputable def evs (F:Fns):Es->Env->Sto->R (List D)
 | .nil,_,s=>.ok [] s
 | .cons e es,U,s=>(ev F e U s).bind λ d s=>(evs F es U s).bind λ l s=>.ok (d::l) s
noncomputable def ai4 (F:Fns):As->Env->Sto->R (List D)
 | .nil,_,s=>.ok [] s
 | .ex e as,U,s=>(ev F e U s).bind λ d s=>(ai4 F as U s).bind λ l s=>.ok (d::l) s
 | .fn f as,U,s=>(ai4 F as U s).bind λ l s=>.ok (.fn f::l) s
noncomputable def evI (F:Fns):I->Env->Sto->R Sq
 | .seq e,U,s=>(ev F e U s).bind λ d s=>ai2 d s
 | .rg a,U,s=>(ev F a U s).bind λ x s=>match x with|.int i=>if -Ww62<=i/\i<Ww62 then .ok ⟨ah8 0 i,[]⟩ s else .B|_=>.B
 | .rngD a,U,s=>(ev F a U s).bind λ x s=>match x with|.int i=>if 0<=i/\i<1048576 then .ok ⟨am1 i,[]⟩ s else .B|_=>.B
noncomputable def evL (F:Fns):L->Env->Sto->R (List D)
 | .comp tg it e caps,U,s=>(evI F it U s).bind λ q s0=>if q.its.length<=LIM then ag4 (λ s=>chk s0 s q.src) (λ d U s=>match ae8 U tg d with
   | some U=>(ev F e U s).bind λ v s=>.ok (some v,U) s
   | none=>.B) q.its (zT U caps) s0 else .B
 | .compIf tg it c e caps,U,s=>(evI F it U s).bind λ q s0=>if q.its.length<=LIM then ag4 (λ s=>chk s0 s q.src) (λ d U s=>match ae8 U tg d with
   | some U=>tru (ev F c U s) λ k s=>if k then(ev F e U s).bind λ v s=>.ok (some v,U) s else .ok (none,U) s
   | none=>.B) q.its (zT U caps) s0 else .B
 | .disp es,U,s=>evs F es U s
 | .seq e,U,s=>(ev F e U s).bind λ d s=>bt0 d s
 | .itm e,U,s=>(ev F e U s).bind λ d s=>by1 d s
end
inductive Ct where
 | next (U:Env)|ret (d:D)|cont (U:Env)|brk (U:Env)
noncomputable abbrev Ct.ctorIdx (x:Ct):Nat:=Ct.casesOn x (λ _=>0) (λ _=>1) (λ _=>2) (λ _=>3)
noncomputable def at6 (ok:Sto->Bool)(g:D->Env->Sto->R Ct):List D->Env->Sto->R Ct
 | [],U,s=>if ok s then .ok (.next U) s else .B
 | d::l,U,s=>if ok s then(g d U s).bind λ c s=>match c with
   | .next U=>at6 ok g l U s
   | .cont U=>at6 ok g l U s
   | .brk U=>.ok (.next U) s
   | .ret d=>.ok (.ret d) s
  else .B
def jk (c:Env->Sto->R D)(g:Env->Sto->R Ct):Nat->Env->Sto->R Ct
 | 0,_,_=>.B
 | n+1,U,s=>tru (c U s) λ b s=>if b then(g U s).bind λ c' s=>match c' with
   | .next U=>jk c g n U s
   | .cont U=>jk c g n U s
   | .brk U=>.ok (.next U) s
   | .ret d=>.ok (.ret d) s
  else .ok (.next U) s
open Classical in
def whl (c:Env->Sto->R D)(g:Env->Sto->R Ct)(U:Env)(s:Sto):R Ct :=
 if h:∃ n,jk c g n U s≠.B then jk c g h.choose U s else .B
mutual
noncomputable def ex (F:Fns):S->Env->Sto->R Ct
 | .A tg e,U,s=>(ev F e U s).bind λ d s=>match ae8 U tg d with|some U=>.ok (.next U) s|none=>.B
 | .setIx o i e,U,s=>(ev F e U s).bind λ d s=>(ev F o U s).bind λ x s=>(ev F i U s).bind λ y s=>(setIx x y d s).bind λ _ s=>.ok (.next U) s
 | .ex e,U,s=>(ev F e U s).bind λ _ s=>.ok (.next U) s
 | .ret e,U,s=>(ev F e U s).bind λ d s=>.ok (.ret d) s
 | .ite c a b,U,s=>tru (ev F c U s) λ k s=>if k then exs F a U s else exs F b U s
 | .whl c b,U,s=>whl (ev F c) (exs F b) U s
 | .fo tg it b,U,s=>(evI F it U s).bind λ q s0=>at6 (λ s=>chk s0 s q.src) (λ d U s=>match ae8 U tg d with
   | some U=>exs F b U s
   | none=>.B) q.its U s0
 | .raise,_,_=>.B
noncomputable def exs (F:Fns):Ss->Env->Sto->R Ct
 | .nil,U,s=>.ok (.next U) s
 | .cons st ss,U,s=>(ex F st U s).bind λ c s=>match c with|.next U=>exs F ss U s|c=>.ok c s
end
structure Df where
 name:String
 ps:Nat
 vs:Nat
 body:Ss
structure Lm where
 id:String
 ps:Nat
 cs:Nat
 body:E
inductive HT where
 | ve
 | isi (cs:List String)|Y (c:String)|not (t:HT)|or (a b:HT)
noncomputable abbrev HT.ctorIdx (x:HT):Nat:=HT.casesOn x 0 (λ _=>1) (λ _=>2) (λ _=>3) (λ _ _=>4)
inductive Hd where
 | ret (t:HT)|iff (t:HT) (b:Bool) (h:Hd)|nob (b:Bool)|noe|iffN (t:HT) (h:Hd)|aoN (a b:HT)|sup (x:String) (h:Hd)
 | kin (f:String) (l:Bool)
noncomputable abbrev Hd.ctorIdx (x:Hd):Nat:=Hd.casesOn x (λ _=>0) (λ _ _ _=>1) (λ _=>2) 3 (λ _ _=>4) (λ _ _=>5) (λ _ _=>6) (λ _ _=>7)
noncomputable def subC (c d:String):Bool:=c==d||(d == "TollError"||d == "ValueError")
noncomputable def ac9:List String:=["NotSteady", "TooMuch", "TooLong", "NoMaking", "NoPaper", "NoPair", "NoText", "NoRow", "NoName"]
noncomputable def ag7:List (List Nat):=[[115,116,101,97,100,121],[109,117,99,104],[108,111,110,103],[109,97,107,105,110,103],[112,97,112,101,114],[112,97,105,114],[116,101,120,116],[114,111,119],[110,97,109,101]]
noncomputable def ap3:List Nat:=[97,110,111,116,104,101,114]
def ca4 (bs:List Bool):List Nat:=if bs.countP id=1 then ag7.getD (bs.findIdx id) []else ap3
def ag0 (c:String):List Nat:=ca4 (ac9.map (subC c))
def HT.val (c:String):HT->Bool
 | .isi cs=>cs.any (subC c)
 | .Y d=>subC c d
 | .not t=>!t.val c
 | .or a b=>if a.val c then true else b.val c
 | .ve=>true
noncomputable def HT.ok (p:String->Bool):HT->Bool
 | .isi cs=>cs.all p
 | .Y d=>p d
 | .not t=>t.ok p
 | .or a b=>a.ok p&&b.ok p
 | .ve=>true
noncomputable def Hd.val (c:String):Hd->Bool
 | .ret t=>t.val c
 | .iff t b h=>if t.val c then b else h.val c
 | .nob b=>b
 | .noe=>false
 | .iffN _ h=>h.val c
 | .aoN a b=>a.val c&&b.val c
 | .sup _ h=>h.val c
 | .kin _ _=>false
noncomputable def Hd.ok (p:String->Bool):Hd->Bool
 | .ret t=>t.ok p
 | .iff t _ h=>t.ok p&&h.ok p
 | .nob _=>true
 | .noe=>true
 | .iffN t h=>t.ok p&&h.ok p
 | .aoN a b=>a.ok p&&b.ok p
 | .sup x h=>p x&&h.ok p
 | .kin _ _=>ac9.all p
noncomputable def Hd.vD (c:String):Hd->D
 | .ret t=>.T (t.val c)
 | .iff t b h=>if t.val c then .T b else h.vD c
 | .nob b=>.T b
 | .noe=>.N
 | .iffN t h=>if t.val c then .N else h.vD c
 | .aoN a b=>if a.val c then(if b.val c then .T true else .N)else .N
 | .sup _ h=>h.vD c
 | .kin _ _=>.N
noncomputable def Hd.kn:Hd->Option (String×Bool)
 | .kin f l=>some (f,l)
 | .sup _ h=>h.kn
 | _=>none
noncomputable def Hd.kok (k:String->Bool)(h:Hd):Bool:=match h.kn with|some (f,_)=>k f|none=>true
noncomputable def Hd.cls (c:String):Hd->String
 | .sup x _=>x|_=>c
def Hd.supOk (c:String):Hd->Bool
 | .sup x _=>subC c x|_=>true
noncomputable def Hd.nn:Hd->Bool
 | .nob _=>true|.noe=>true|_=>false
noncomputable def aV2 (ok:Sto->Bool)(g:D->Env->Sto->R Ct)(gx:D->Env->Sto->Option (String×Sto)):List D->Env->Sto->Option (String×Sto)
 | [],_,_=>none
 | d::l,U,s=>if ok s then match g d U s with
   | .ok (.next U1) s1=>aV2 ok g gx l U1 s1
   | .ok (.cont U1) s1=>aV2 ok g gx l U1 s1
   | .ok _ _=>none
   | _=>gx d U s
  else none
noncomputable def aW2 (c:Env->Sto->R D)(g:Env->Sto->R Ct)(gx:Env->Sto->Option (String×Sto)):Nat->Env->Sto->Option (String×Sto)
 | 0,_,_=>none
 | n+1,U,s=>match c U s with
  | .ok (.T true) s1=>match g U s1 with
   | .ok (.next U1) s2=>aW2 c g gx n U1 s2
   | .ok (.cont U1) s2=>aW2 c g gx n U1 s2
   | .ok _ _=>none
   | _=>gx U s1
  | _=>none
open Classical in
def whlX (c:Env->Sto->R D)(g:Env->Sto->R Ct)(gx:Env->Sto->Option (String×Sto))(U:Env)(s:Sto):Option (String×Sto):=if h:∃ n,(aW2 c g gx n U s).isSome=true then aW2 c g gx h.choose U s else none
inductive XB where
 | no|rais (c:String)|call (f:String) (as:As)|iteT (c:E) (a r:XB)|seq (s:S) (b:XB)
 | kind|alt (a b:XB)
 | iteE (c:E) (a r:XB)|forX (tg:Tg) (it:I) (b:Ss) (x:XB)|whlX (c:E) (b:Ss) (x:XB)
noncomputable abbrev XB.ctorIdx (x:XB):Nat:=XB.casesOn x 0 (λ _=>1) (λ _ _=>2) (λ _ _ _=>3) (λ _ _=>4) 5 (λ _ _=>6) (λ _ _ _=>7) (λ _ _ _ _=>8) (λ _ _ _=>9)
def xB (F:Fns):XB->Env->Sto->Option (String×Sto)
 | .no,_,_=>none
 | .kind,_,_=>none
 | .alt a b,U,s=>match xB F a U s with|some r=>some r|none=>xB F b U s
 | .rais c,_,s=>if F.xc c=true then some (c,s)else none
 | .call f as,U,s=>match ai4 F as U s with|.ok l s1=>F.xcall f l s1|_=>none
 | .iteT c a r,U,s=>match ev F c U s with|.ok (.T b) s1=>if b then xB F a U s1 else xB F r U s1|_=>none
 | .seq st b,U,s=>match ex F st U s with|.ok (.next U1) s1=>xB F b U1 s1|_=>none
 | .forX tg it b x,U,s=>match evI F it U s with
  | .ok q s0=>aV2 (λ s=>chk s0 s q.src) (λ d U s=>match ae8 U tg d with
   | some U=>exs F b U s
   | none=>.B) (λ d U s=>match ae8 U tg d with
   | some U=>xB F x U s
   | none=>none) q.its U s0
  | _=>none
 | .iteE c a r,U,s=>match ev F c U s with|.ok (.T b) s1=>if b then xB F a U s1 else xB F r U s1|_=>none
 | .whlX c b x,U,s=>DV.whlX (ev F c) (exs F b) (xB F x) U s
structure Xf where
 ps:Nat
 vs:Nat
 body:XB
structure Tf where
 ps:Nat
 vs:Nat
 body:Ss
 xb:XB
 c:String
 i:Nat
 h:Hd
 tl:Ss
 pre:Ss
structure Pr where
 df:String->Option Df
 lm:String->Option Lm
 con:String->Option D
 xf:String->Option Xf
 tf:String->Option Tf
 xc:String->Bool
 xt:String->Bool
 cdc:String->Option (List (List Nat×List Nat))
noncomputable def aA2 (st st':Sto):Bool:=(bn st.length).all λ i=>decide (st'[i]?=st[i]?)||(match st'[i]? with|some o=>o.bnd st.length|none=>false)
def zt (st:Sto)(d:D)(st':Sto):R D :=
 if aA2 st st' then
  match d with
  | .ref r=>if r<st.length then .ok d (st'.take st.length)else match st'[r]? with
   | some o=>if o.bnd st.length then .ok (.ref st.length) (st'.take st.length++[o])else .ok d st'
   | none=>.B
  | d=>if d.bnd st.length then .ok d (st'.take st.length)else .ok d st'
 else .ok d st'
def Hd.out (h:Hd)(c:String)(s s':Sto):R D:=match h with
 | .noe=>zt s (.ref s'.length) (s'++[.J []])
 | h=>match h.kn with
  | some (_,true)=>zt s (.ref s'.length) (s'++[.J [.str (ag0 c)]])
  | some (_,false)=>zt s (.str (ag0 c)) s'
  | none=>zt s (h.vD c) s'
def Tf.tk (d:Tf)(c:String):Bool:=match d.h with|.sup x _=>subC c x|_=>c==d.c
noncomputable def XB.isK:XB->Bool
 | .kind=>true|_=>false
noncomputable def bT6 (P:Pr)(f:String):Bool:=match P.xf f with|some d=>d.ps==1&&(d.vs==1&&d.body.isK)|none=>false
def aX0 (F:Fns)(d:Tf)(s:Sto)(U0:Env)(s0:Sto):R D:=match xB F d.xb U0 s0 with
 | some (c,s')=>if d.tk c=true/\F.xc c=true/\d.h.ok F.xt=true/\d.h.kok F.kd=true then d.h.out c s s' else .B
 | none=>(exs F d.body U0 s0).bind λ c s1=>match c with
  | .ret v=>zt s v s1
  | .next U=>(exs F d.tl U s1).bind λ c s2=>match c with
   | .ret v=>zt s v s2
   | .next _=>zt s .N s2
   | _=>.B
  | _=>.B
def bo7 (F:Fns)(d:Tf)(l:List D)(s:Sto):R D:=match exs F d.pre (l.map some++ah d.vs none) s with
 | .ok (.next U0) s0=>aX0 F d s U0 s0
 | _=>.B
def aa0 (P:Pr):Nat->Fns
 | 0=>⟨λ _ _ _=>.B,λ _ _ _ _=>.B,P.con,λ _ _ _=>none,P.xc,P.xt,P.cdc,bT6 P⟩
 | n+1=>⟨λ f l s=>match P.df f with
   | some d=>if l.length=d.ps then(exs (aa0 P n) d.body (l.map some++ah d.vs none) s).bind λ c s'=>match c with
     | .ret v=>zt s v s'
     | .next _=>zt s .N s'
     | _=>.B else .B
   | none=>match P.tf f with
    | some d=>if l.length=d.ps then bo7 (aa0 P n) d l s else .B
    | none=>.B,
  λ id cs l s=>match P.lm id with
   | some d=>if l.length=d.ps/\cs.length=d.cs/\(D.nclL l&&D.nclL cs&&s.all O.ncl)=true then(ev (aa0 P n) d.body (l.map some++cs.map some) s).bind λ v s'=>zt s v s' else .B
   | none=>.B,P.con,
  λ f l s=>match P.xf f with
   | some d=>if l.length=d.ps then xB (aa0 P n) d.body (l.map some++ah d.vs none) s else none
   | none=>none,P.xc,P.xt,P.cdc,bT6 P⟩
def KP (s s':Sto):Prop:=∀(i:Nat) o ,s[i]?=some o->∃ o',s'[i]?=some o'/\o'.kd=o.kd
def KP.refl s :KP s s:=λ i o h=>⟨o,h,rfl⟩
theorem KP.trans (h:KP a b)(g:KP b c):KP a c:=λ i o e=>by
 obtain⟨z,e1,k1⟩:=h i o e;obtain⟨F,e2,k2⟩:=g i z e1;exact⟨F,e2,k2.trans k1⟩
def KP.app s t :KP s (s++t):=λ i o e=>⟨o,by rw[aS (ae.mp e).1];exact e,rfl⟩
theorem KP.set (h:s[r]?=some F)(k:o.kd=F.kd):KP s (s.set r o):=λ i u e=>by
 by_cases z:r=i
 .subst z;rw[h]at e;cases e;exact⟨o,bj (ae.mp h).1,k⟩
 .exact⟨u,by rw[bH z];exact e,rfl⟩
def KR (s:Sto)(r:R α):Prop:=∀ a s',r=.ok a s'->KP s s'
def KR.bad :KR s (.B:R α):=λ _ _ h=>by cases h
theorem KR.ok {a:α}:KR s (.ok a s):=λ _ _ h=>by cases h;exact KP.refl _
theorem KR.bind {f:α->Sto->R β}(h:KR s r)(g:∀ a s1,KR s1 (f a s1)):KR s (r.bind f):=λ b s' e=>by
 obtain⟨a,s1,e1,e2⟩:=R.bind_inv e;exact(h a s1 e1).trans (g a s1 b s' e2)
def KR.tru {f:Bool->Sto->R α}(h:KR s r)(g:∀ a s1,KR s1 (f a s1)):KR s (tru r f):=KR.bind h λ a s1=>by
 cases a with
 | T b=>exact g b s1
 | _=>exact KR.bad
def KR.if {c}[Decidable c]{a b:R α}(h:KR s a)(g:KR s b):KR s (if c then a else b):=by split;exact h;exact g
def KR.al :KR s (ag1 o s):=λ _ _ h=>by cases h;exact KP.app _ _
def KR.pu :KR s (pur d s):=λ _ _ h=>by cases h;exact KP.refl _
def KR.bd :KR s ((DV.bad:M D) s):=λ _ _ h=>by cases h
def KR.im {c}{_:Decidable c}{d}:KR s ((if c then pur d else DV.bad) s):=by split;exact KR.pu;exact KR.bd
def KR.ia {c}{_:Decidable c}{o}:KR s (if c then ag1 o s else .B):=KR.if KR.al KR.bd
def bq0 op x y s :KR s (qH op x y s):=by
 cases op with
 | add=>cases x with
  | int a=>cases y with
   | int b=>exact KR.pu
   | _=>exact KR.bd
  | str a=>cases y with
   | str b=>exact KR.im
   | _=>exact KR.bd
  | tp a=>cases y with
   | tp b=>exact KR.im
   | _=>exact KR.bd
  | ref a=>cases y with
   | ref b =>
    show KR s (match s[a]?,s[b]? with|some (.J l),some (.J m)=>if l.length+m.length<=LIM then ag1 (.J (l++m)) s else .B|_,_=>.B);split
    .exact KR.ia
    .exact KR.bd
   | _=>exact KR.bd
  | _=>exact KR.bd
 | sub=>cases x with
  | int a=>cases y with
   | int b=>exact KR.pu
   | _=>exact KR.bd
  | _=>exact KR.bd
 | mul=>cases x with
  | int a=>cases y with
   | int b=>exact KR.im
   | _=>exact KR.bd
  | str a=>cases y with
   | int b=>exact KR.im
   | _=>exact KR.bd
  | tp a=>cases y with
   | int b=>exact KR.im
   | _=>exact KR.bd
  | ref a=>cases y with
   | int n =>
    show KR s (match s[a]? with|some (.J l)=>if 0<=n/\n<=1000000/\l.length*n.toNat<=LIM then ag1 (.J (aZ1 n.toNat l)) s else .B|_=>.B);split
    .exact KR.ia
    .exact KR.bd
   | _=>exact KR.bd
  | _=>exact KR.bd
 | fdiv=>cases x with
  | int a=>cases y with
   | int b=>exact KR.im
   | _=>exact KR.bd
  | _=>exact KR.bd
 | mod=>cases x with
  | int a=>cases y with
   | int b=>exact KR.im
   | _=>exact KR.bd
  | _=>exact KR.bd
 | pow=>cases x with
  | int a=>cases y with
   | int b=>exact KR.im
   | _=>exact KR.bd
  | _=>exact KR.bd
 | shl=>cases x with
  | int a=>cases y with
   | int b=>exact KR.im
   | _=>exact KR.bd
  | _=>exact KR.bd
 | shr=>intro a s' h;exact absurd h (by nofun)
 | band=>intro a s' h;exact absurd h (by nofun)
 | _=>exact KR.bd
def bI6 f x y s :KR s (cl2 f x y s):=by
 intro a s' h;unfold cl2 at h;split at h<;>cases h;exact KP.refl _
def bi5 op x y s :KR s (qC op x y s):=by
 have z:∀ a b:D,KR s (inM a b s):=λ a b=>by
  intro r s' h;unfold inM at h;split at h
  .split at h<;>cases h;exact KP.refl _
  .split at h
   .split at h<;>cases h;exact KP.refl _
   .split at h<;>cases h;exact KP.refl _
   .cases h
  .split at h<;>cases h;exact KP.refl _
  .cases h
 cases op with
 | isin=>exact KR.bind (z x y) λ _ _=>KR.ok
 | notin=>exact KR.bind (z x y) λ _ _=>KR.ok
 | eq=>intro a s' h;change eqM x y s=_ at h;unfold eqM at h;split at h<;>cases h;exact KP.refl _
 | ne =>
  intro a s' h;change(match eqv s DEEP x y with|some r=>R.ok (D.T (!r)) s|none=>.B)=_ at h;split at h<;>cases h;exact KP.refl _
 | _ =>
  intro a s' h;cases x with
  | int i=>(cases y with
   | int j=>cases h<;>exact KP.refl _
   | _=>cases h)
  | tp l=>(cases y with
   | tp m=>first|exact bI6 _ _ _ _ _ _ h|cases h
   | _=>cases h)
  | _=>cases h
def cn9 x y s :KR s (ixM x y s):=by
 intro a s' h;unfold ixM at h
 repeat' split at h
 all_goals first|(cases h;exact KP.refl _;done)|(cases h;done)
def cn2 x F z s :KR s (slM x F z s):=by
 intro a s' h;unfold slM at h
 repeat' split at h
 all_goals first|(cases h;exact KP.refl _;done)|(cases h;exact KP.app _ _;done)|(cases h;done)
def bK5 x s :KR s (bt0 x s):=by
 intro a s' h;unfold bt0 at h
 repeat' split at h
 all_goals first|(cases h;exact KP.refl _;done)|(cases h;done)
def bG2 x s :KR s (ai2 x s):=by
 intro a s' h;unfold ai2 at h
 repeat' split at h
 all_goals first|(cases h;exact KP.refl _;done)|(cases h;done)
def bO6 l s :KR s (bi9 l s):=by
 intro a s' h;unfold bi9 at h;split at h
 .split at h<;>cases h;exact KP.refl _
 .cases h;exact KP.refl _
 .cases h
def bF8 l s :KR s (aU6 l s):=by
 intro a s' h;unfold aU6 at h;split at h
 .split at h<;>cases h;exact KP.refl _
 .cases h
def cr2 b l s :KR s (bi b l s):=by
 have k1:∀ f:D->M D,(∀ d,KR s (f d s))->KR s (bi1 f l s):=λ f hf=>by
  cases l with
  | nil=>exact KR.bad
  | cons d t=>(cases t with
   | nil=>exact hf d
   | cons _ _=>exact KR.bad)
 have k2:∀ k d,KR s (isK k d s):=λ k d=>by
  intro a s' h;unfold isK at h
  repeat' split at h
  all_goals first|(cases h;exact KP.refl _;done)|(cases h;done)
 have k3:∀ d,KR s (bM6 d s):=λ d=>by
  intro a s' h;unfold bM6 at h
  repeat' split at h
  all_goals first|(cases h;exact KP.refl _;done)|(cases h;done)
 cases b with
 | len=>exact k1 _ k3
 | isInt=>exact k1 _ (k2 1)
 | isBool=>exact k1 _ (k2 2)
 | isStr=>exact k1 _ (k2 3)
 | isTup=>exact k1 _ (k2 4)
 | isList=>exact k1 _ (k2 5)
 | str=>exact bO6 l s
 | int =>
  intro a s' h;have h:(match ah2 l with|some [b]=>R.ok (D.int (if b then 1 else 0)) s|some _=>.B|none=>aU6 l s)=.ok a s':=h;split at h
  .cases h;exact KP.refl _
  .cases h
  .exact bF8 l s a s' h
 | _ =>
  intro a s' h;unfold bi at h
  first|(cases h;done)|(simp only at h;split at h<;>first|(cases h;exact KP.refl _;done)|(cases h;done))
def cm4 k l s :KR s (mk k l s):=by
 cases k with
 | tuple=>exact KR.ok
 | list=>exact KR.al
 | lenset=>exact KR.bad
 | _ =>
  intro a s' h;unfold mk at h;simp only at h
  repeat' split at h
  all_goals first|(cases h;exact KP.refl _;done)|(cases h;exact KP.app _ _;done)|(cases h;done)
def cd0 k l d s :KR s (mkD k l d s):=by
 intro a s' h;unfold mkD at h
 repeat' split at h
 all_goals first|(cases h;exact KP.refl _;done)|(cases h;done)
def bN1 m o l s :KR s (meth m o l s):=by
 have z:∀ {r:Nat} {f:List D->R D},(∀ l,s[r]?=some (.J l)->KR s (f l))->KR s (match s[r]? with|some (.J l)=>f l|_=>.B):=λ {r f} h=>by
  cases e:s[r]? with
  | none=>exact KR.bad
  | some ob=>cases ob with
   | J l=>exact h l e
   | _=>exact KR.bad
 cases o with
 | ref r=>cases m with
  | append=>match l with
   | [d]=>exact z λ l e=>KR.if (λ _ _ h=>by cases h;exact KP.set e rfl) KR.bad
   | []=>exact KR.bd
   | _::_::_=>exact KR.bd
  | _=>exact KR.bd
 | _=>cases m<;>exact KR.bd
def bP3 o l s :KR s (bM2 o l s):=by
 intro a s' h;unfold bM2 at h
 repeat' split at h
 all_goals first|(cases h;done)|(rename_i e _;cases h;exact KP.set e rfl;done)
def bo6 o i v s :KR s (setIx o i v s):=by
 intro a s' h;unfold setIx at h;cases o with
 | ref r =>
  simp only at h;cases e:s[r]? with
  | none=>rw[e]at h;cases h
  | some ob =>
   rw[e]at h;cases ob with
   | J l =>
    cases i with
    | int k=>simp only at h;split at h<;>cases h;exact KP.set e rfl
    | _=>cases h
   | dit l=>simp only at h;split at h<;>cases h;exact KP.set e rfl
   | _=>cases h
 | _=>cases h
def bM7 o k e s :KR s (bE5 o k e s):=by
 intro a s' h;unfold bE5 at h
 repeat' split at h
 all_goals first|(cases h;exact KP.refl _;done)|(cases h;done)
def bS2 d s :KR s (by1 d s):=by
 intro a s' h;unfold by1 at h
 repeat' split at h
 all_goals first|(cases h;exact KP.refl _;done)|(cases h;done)
structure FK (F:Fns):Prop where
 call:∀ f l s,KR s (F.call f l s)
 lam:∀ id cs l s,KR s (F.lam id cs l s)
 xcall:∀ f l s c s',F.xcall f l s=some (c,s')->KP s s'
theorem az1 (hg:∀ d U s,KR s (g d U s)):∀ l U s ,KR s (ag4 ok g l U s)
 | [],U,s=>KR.if KR.ok KR.bad
 | d::l,U,s=>KR.if (KR.bind (hg d U s) λ p s1=>KR.bind (az1 hg l p.2 s1) λ r s2=>KR.ok) KR.bad
section
variable {F:Fns} (hF:FK F)
def bS5 U i s :KR s (bn1 U i s):=by
 intro a s' h;unfold bn1 at h;split at h<;>cases h;exact KP.refl _
include hF
mutual
theorem zq:∀(e:E) (U:Env) (s:Sto),KR s (ev F e U s)
 | .X i,U,s=>bS5 U i s
 | .K c,U,s=>KR.ok
 | .gl x,U,s=>by
  intro a s' h;change(match F.con x with|some d=>R.ok d s|none=>.B)=_ at h;split at h<;>cases h;exact KP.refl _
 | .G op a b,U,s=>KR.bind (zq a U s) λ x s=>KR.bind (zq b U s) λ y s=>bq0 op x y s
 | .neg a,U,s=>KR.bind (zq a U s) λ x s=>by
  cases x with
  | int i=>exact KR.ok
  | _=>exact KR.bad
 | .not a,U,s=>KR.tru (zq a U s) λ b s=>KR.ok
 | .Z op a b,U,s=>KR.bind (zq a U s) λ x s=>KR.bind (zq b U s) λ y s=>bi5 op x y s
 | .chain o p a b c,U,s=>KR.bind (zq a U s) λ x s=>KR.bind (zq b U s) λ y s=>KR.tru (bi5 o x y s) λ k s=>KR.if (KR.bind (zq c U s) λ z s=>bi5 p y z s) KR.ok
 | .isN a,U,s=>KR.bind (zq a U s) λ x s=>KR.ok
 | .notN a,U,s=>KR.bind (zq a U s) λ x s=>KR.ok
 | .and a b,U,s=>KR.tru (zq a U s) λ c s=>KR.if (KR.tru (zq b U s) λ c s=>KR.ok) KR.ok
 | .or a b,U,s=>KR.tru (zq a U s) λ c s=>KR.if KR.ok (KR.tru (zq b U s) λ c s=>KR.ok)
 | .ite c a b,U,s=>KR.tru (zq c U s) λ k s=>KR.if (zq a U s) (zq b U s)
 | .tp es,U,s=>KR.bind (ap7 es U s) λ l s=>KR.ok
 | .J es,U,s=>KR.bind (ap7 es U s) λ l s=>KR.al
 | .dicT,U,s=>KR.al
 | .dicU k v,U,s=>by
  intro a s' h;obtain⟨kd,s1,e1,h⟩:=R.bind_inv (show(ev F k U (s++[.dit []])).bind _=_ from h);obtain⟨G,s2,e2,h⟩:=R.bind_inv h;split at h
  case isFalse=>cases h
  rename_i hc;cases h;exact((KP.app _ _).trans ((zq k U _ _ _ e1).trans (zq v U _ _ _ e2))).trans (KP.set hc.2 rfl)
 | .get2 o k d,U,s=>KR.bind (zq o U s) λ x s=>KR.bind (zq k U s) λ y s=>KR.bind (zq d U s) λ z s=>bM7 x y z s
 | .ix a b,U,s=>KR.bind (zq a U s) λ x s=>KR.bind (zq b U s) λ y s=>cn9 x y s
 | .slU a hi,U,s=>KR.bind (zq a U s) λ x s=>KR.bind (zq hi U s) λ y s=>by
  cases y with
  | int i=>exact cn2 _ _ _ _
  | _=>exact KR.bad
 | .call f as,U,s=>KR.bind (aB2 as U s) λ l s=>hF.call f l s
 | .bi b es,U,s=>KR.bind (ap7 es U s) λ l s=>cr2 b l s
 | .mk k it,U,s=>KR.bind (aN9 it U s) λ q s=>cm4 k q s
 | .mkD k it d,U,s=>KR.bind (aN9 it U s) λ q s=>KR.bind (zq d U s) λ d s=>cd0 k q d s
 | .me m o es,U,s=>KR.bind (zq o U s) λ x s=>KR.bind (ap7 es U s) λ l s=>bN1 m x l s
 | .ext o it,U,s=>KR.bind (zq o U s) λ x s=>KR.bind (aN9 it U s) λ q s=>bP3 x q s
theorem ap7:∀(es:Es) (U:Env) (s:Sto),KR s (evs F es U s)
 | .nil,U,s=>KR.ok
 | .cons e es,U,s=>KR.bind (zq e U s) λ d s=>KR.bind (ap7 es U s) λ l s=>KR.ok
theorem aB2:∀(z:As) (U:Env) (s:Sto),KR s (ai4 F z U s)
 | .nil,U,s=>KR.ok
 | .ex e z,U,s=>KR.bind (zq e U s) λ d s=>KR.bind (aB2 z U s) λ l s=>KR.ok
 | .fn f z,U,s=>KR.bind (aB2 z U s) λ l s=>KR.ok
theorem aU3:∀(it:I) (U:Env) (s:Sto),KR s (evI F it U s)
 | .seq e,U,s=>KR.bind (zq e U s) λ d s=>bG2 d s
 | .rg a,U,s=>KR.bind (zq a U s) λ x s=>by
  cases x with
  | int i=>exact KR.if KR.ok KR.bad
  | _=>exact KR.bad
 | .rngD a,U,s=>KR.bind (zq a U s) λ x s=>by
  cases x with
  | int i=>exact KR.if KR.ok KR.bad
  | _=>exact KR.bad
theorem aN9:∀(it:L) (U:Env) (s:Sto),KR s (evL F it U s)
 | .comp tg it e caps,U,s=>KR.bind (aU3 it U s) λ q s0=>KR.if (az1 (λ d U s=>by
   intro a s' h;split at h
   .exact KR.bind (zq e _ s) (λ v s=>KR.ok) _ _ h
   .cases h) _ _ _) KR.bad
 | .compIf tg it c e caps,U,s=>KR.bind (aU3 it U s) λ q s0=>KR.if (az1 (λ d U s=>by
   intro a s' h;split at h
   .exact KR.tru (zq c _ s) (λ k s=>KR.if (KR.bind (zq e _ s) λ v s=>KR.ok) KR.ok) _ _ h
   .cases h) _ _ _) KR.bad
 | .disp es,U,s=>ap7 es U s
 | .seq e,U,s=>KR.bind (zq e U s) λ d s=>bK5 d s
 | .itm e,U,s=>KR.bind (zq e U s) λ d s=>bS2 d s
end
theorem aI7 (hg:∀ d U s,KR s (g d U s)):∀ l U s ,KR s (at6 ok g l U s)
 | [],U,s=>KR.if KR.ok KR.bad
 | d::l,U,s=>KR.if (KR.bind (hg d U s) λ c s=>by
   cases c with
   | next U=>exact aI7 hg l U s
   | cont U=>exact aI7 hg l U s
   | brk U=>exact KR.ok
   | ret d=>exact KR.ok) KR.bad
theorem aM3 (hc:∀ U s,KR s (c U s))(hg:∀ U s,KR s (g U s)):∀ n U s ,KR s (jk c g n U s)
 | 0,U,s=>KR.bad
 | n+1,U,s=>KR.tru (hc U s) λ b s=>KR.if (KR.bind (hg U s) λ z s=>by
   cases z with
   | next U=>exact aM3 hc hg n U s
   | cont U=>exact aM3 hc hg n U s
   | brk U=>exact KR.ok
   | ret d=>exact KR.ok) KR.ok
mutual
theorem bW8:∀(st:S) (U:Env) (s:Sto),KR s (ex F st U s)
 | .A tg e,U,s=>KR.bind (zq hF e U s) λ d s=>by
  intro a s' h;split at h<;>cases h;exact KP.refl _
 | .setIx o i e,U,s=>KR.bind (zq hF e U s) λ d s=>KR.bind (zq hF o U s) λ x s=>KR.bind (zq hF i U s) λ y s=>KR.bind (bo6 x y d s) λ _ s=>KR.ok
 | .ex e,U,s=>KR.bind (zq hF e U s) λ d s=>KR.ok
 | .ret e,U,s=>KR.bind (zq hF e U s) λ d s=>KR.ok
 | .ite c a b,U,s=>KR.tru (zq hF c U s) λ k s=>KR.if (ah4 a U s) (ah4 b U s)
 | .whl c b,U,s=>by
  intro r s' h;change whl (ev F c) (exs F b) U s=_ at h;unfold whl at h;split at h
  .exact aM3 hF (λ U s=>zq hF c U s) (λ U s=>ah4 b U s) _ U s _ _ h
  .cases h
 | .fo tg it b,U,s=>KR.bind (aU3 hF it U s) λ q s0=>aI7 hF (λ d U s=>by
   intro a s' h;split at h
   .exact ah4 b _ _ _ _ h
   .cases h) _ _ _
 | .raise,U,s=>KR.bad
theorem ah4:∀(z:Ss) (U:Env) (s:Sto),KR s (exs F z U s)
 | .nil,U,s=>KR.ok
 | .cons st z,U,s=>KR.bind (bW8 st U s) λ c s=>by
  cases c with
  | next U=>exact ah4 z U s
  | _=>exact KR.ok
end
end
def zW (h:KP s st):KR s (zt s d st):=by
 have tk:∀ t,KP s (st.take s.length++t):=λ t i o e=>by
  obtain⟨F,e',k⟩:=h i o e;have G:=(ae.mp e).1;have J:=(ae.mp e').1;refine⟨F,?_,k⟩;rw[aS (by rw[bP];lia),lz,if_pos G];exact e'
 have z:=by have:=tk [];rwa [bh]at this
 intro a s' e;unfold zt at e
 repeat' split at e
 all_goals first|(cases e;exact z;done)|(cases e;exact tk _;done)|(cases e;exact h;done)|(cases e;done)
theorem aB6 (hg:∀ d U s,KR s (g d U s))(hx:∀ d U s c s',z d U s=some (c,s')->KP s s'):∀ l U s c s' ,aV2 ok g z l U s=some (c,s')->KP s s'
 | [],U,s,c,s',h=>by cases h
 | d::l,U,s,c,s',h=>by
  unfold aV2 at h;split at h
  .split at h
   .rename_i e;exact(hg d U s _ _ e).trans (aB6 hg hx l _ _ _ _ h)
   .rename_i e;exact(hg d U s _ _ e).trans (aB6 hg hx l _ _ _ _ h)
   .cases h
   .exact hx _ _ _ _ _ h
  .cases h
theorem az8 (z:∀ U s,KR s (t U s))(hg:∀ U s,KR s (g U s))(hx:∀ U s c s',F U s=some (c,s')->KP s s'):∀ n U s c s' ,aW2 t g F n U s=some (c,s')->KP s s'
 | 0,U,s,c,s',h=>by cases h
 | n+1,U,s,c,s',h=>by
  unfold aW2 at h;split at h
  .rename_i s1 e1;have k:=z U s _ _ e1;split at h
   .rename_i e;exact k.trans ((hg U s1 _ _ e).trans (az8 z hg hx n _ _ _ _ h))
   .rename_i e;exact k.trans ((hg U s1 _ _ e).trans (az8 z hg hx n _ _ _ _ h))
   .cases h
   .exact k.trans (hx _ _ _ _ h)
  .cases h
theorem aq0 (z:FK F):∀ b U s c s' ,xB F b U s=some (c,s')->KP s s'
 | .no,U,s,c,s',h=>by cases h
 | .alt a b,U,s,c,s',h=>by
  change(match xB F a U s with|some r=>some r|none=>xB F b U s)=_ at h;split at h
  .rename_i r e;cases h;exact aq0 z a _ _ _ _ e
  .exact aq0 z b _ _ _ _ h
 | .rais d,U,s,c,s',h=>by
  change(if F.xc d=true then some (d,s)else none)=_ at h;split at h
  .cases h;exact KP.refl _
  .cases h
 | .call f as,U,s,c,s',h=>by
  change(match ai4 F as U s with|.ok l s1=>F.xcall f l s1|_=>none)=_ at h;split at h
  .rename_i l s1 e;exact(aB2 z as U s _ _ e).trans (z.xcall _ _ _ _ _ h)
  .cases h
 | .iteT d a r,U,s,c,s',h=>by
  change(match ev F d U s with|.ok (.T b) s1=>if b then xB F a U s1 else xB F r U s1|_=>none)=_ at h;split at h
  .rename_i b s1 e;have k:=zq z d U s _ _ e;split at h
   .exact k.trans (aq0 z a _ _ _ _ h)
   .exact k.trans (aq0 z r _ _ _ _ h)
  .cases h
 | .seq st b,U,s,c,s',h=>by
  change(match ex F st U s with|.ok (.next U1) s1=>xB F b U1 s1|_=>none)=_ at h;split at h
  .rename_i U1 s1 e;exact(bW8 z st U s _ _ e).trans (aq0 z b _ _ _ _ h)
  .cases h
 | .iteE d a r,U,s,c,s',h=>by
  change(match ev F d U s with|.ok (.T b) s1=>if b then xB F a U s1 else xB F r U s1|_=>none)=_ at h;split at h
  .rename_i b s1 e;have k:=zq z d U s _ _ e;split at h
   .exact k.trans (aq0 z a _ _ _ _ h)
   .exact k.trans (aq0 z r _ _ _ _ h)
  .cases h
 | .forX tg it b x,U,s,c,s',h=>by
  change(match evI F it U s with
   | .ok q s0=>aV2 (λ s=>chk s0 s q.src) (λ d U s=>match ae8 U tg d with
    | some U=>exs F b U s
    | none=>.B) (λ d U s=>match ae8 U tg d with
    | some U=>xB F x U s
    | none=>none) q.its U s0
   | _=>none)=_ at h
  split at h
  .rename_i q s0 e;refine(aU3 z it U s _ _ e).trans (aB6 ?_ ?_ _ _ _ _ _ h)
   .intro d U s;split
    .exact ah4 z _ _ _
    .exact KR.bad
   .intro d U s c s' h;split at h
    .exact aq0 z x _ _ _ _ h
    .cases h
  .cases h
 | .whlX d b x,U,s,c,s',h=>by
  change whlX (ev F d) (exs F b) (xB F x) U s=_ at h;unfold whlX at h;split at h
  .exact az8 (zq z d) (ah4 z b) (λ U s c s' h=>aq0 z x _ _ _ _ h) _ _ _ _ _ h
  .cases h
def bV8 {h:Hd}(k:KP s st):KR s (h.out c s st):=by
 unfold Hd.out;split
 .exact zW (k.trans (KP.app _ _))
 .split
  .exact zW (k.trans (KP.app _ _))
  .exact zW k
  .exact zW k
def br9 (z:FK F) d (k0:KP s s0) U0 :KR s (aX0 F d s U0 s0):=by
 intro a s' h;unfold aX0 at h;split at h
 .rename_i c s1 e;have k:=k0.trans (aq0 z _ _ _ _ _ e);split at h
  .exact bV8 k _ _ h
  .cases h
 .obtain⟨c,s1,e1,h⟩:=R.bind_inv h;have k1:=k0.trans (ah4 z _ _ _ _ _ e1);cases c with
  | ret v=>exact zW k1 _ _ h
  | next U =>
   obtain⟨c,s2,e2,h⟩:=R.bind_inv h;have k2:=k1.trans (ah4 z _ _ _ _ _ e2);cases c with
   | ret v=>exact zW k2 _ _ h
   | next U=>exact zW k2 _ _ h
   | _=>cases h
  | _=>cases h
def bK6 (z:FK F) d l s :KR s (bo7 F d l s):=by
 intro a s' h;unfold bo7 at h;split at h
 .rename_i U0 s0 e;exact br9 z d (ah4 z _ _ _ _ _ e) U0 _ _ h
 .cases h
theorem ak7 P :∀ n,FK (aa0 P n)
 | 0=>⟨λ _ _ _=>KR.bad,λ _ _ _ _=>KR.bad,λ _ _ _ _ _ h=>by cases h⟩
 | n+1=>by
  refine⟨λ f l s=>?_,λ id z l s=>?_,λ f l s c s' h=>?_⟩
  .intro a s' h;unfold aa0 at h;simp only at h;split at h
   case h_2 =>
    split at h
    case h_2=>cases h
    split at h
    case isFalse=>cases h
    exact bK6 (ak7 P n) _ _ _ _ _ h
   split at h
   case isFalse=>cases h
   obtain⟨c,s1,e1,h⟩:=R.bind_inv h;have k1:=ah4 (ak7 P n) _ _ _ _ _ e1;cases c with
   | ret v=>exact zW k1 _ _ h
   | next U=>exact zW k1 _ _ h
   | _=>cases h
  .intro a s' h;unfold aa0 at h;simp only at h;split at h
   case h_2=>cases h
   split at h
   case isFalse=>cases h
   obtain⟨v,s1,e1,h⟩:=R.bind_inv h;exact zW (zq (ak7 P n) _ _ _ _ _ e1) _ _ h
  .unfold aa0 at h;simp only at h;split at h
   case h_2=>cases h
   split at h
   case isFalse=>cases h
   exact aq0 (ak7 P n) _ _ _ _ _ h
end DV
end
open DV renaming Sto->oC,D->oD,Env->oE,ev->oG,R->oH,aa0->oJ,subC->oM,LIM->oN,eqv->oP,Fns->oQ,tru->oS,Pr->oU,ag0->oV,DEEP->oW,eqL->oY,rep->oZ,kd->o4,af7->o5,ae8->o6,Es->o7,aI4->o8,O->o9,look->pb,aI3->pd,evs->pf,Bi->ph,Tg->pi,Ct->pj,aZ1->pp,sbd->pq,chk->pw,ai4->pz,loB->pA,ag1->pB,inL->pC,ixn->pD,ah2->pF,qk->pG,Hd->pH,xB->pI,E->pJ,minI->pK,aN5->pL,ah8->pM,am1->pO,aS0->pP,ag4->pQ,mk->pR,zt->pS,Sq->pU,zT->pV,As->pW,Df->pX,COp->pY,M->pZ,hiB->p9,slM->rb,ap8->re,aw5->rf,exs->rg,bi->rh,Mk->rj,Mt->rk,bg6->rm,pur->rn,inM->rp,bi1->rq,at6->rA,mkD->rB,evI->rC,ag7->rD,ca4->rE,meth->rF,BOp->rH,isK->rJ,Ww62->rK,Ss->rL,bU8->rM,evL->rN,XB->rO,aA2->rP,Tf->rQ
open DV.D renaming bndL->oF,bnd->oI,hdI->oO,keyS->oX,keyF->pT
open DV.O renaming bnd->oK
open DV.Hd renaming out->rG
noncomputable section
namespace L2
def fb {p:Prop}(h:(DV.R.B:oH α)=.ok d s):p:=nomatch h
open PySem PySem.Spec PyProof.Rows
structure LamI where
 qual:Str
 params:gb
 body:Expr
 scope:Scope
 ps:List Str
 fr:List Str
 nm:Option (Str×Pos)
def aG5 (H:Hp)(f:Addr)(J:LamI)(cap:List V)(clos:yB):Prop:=match J.nm with
 | none=>bd7 H f J.qual J.params J.body J.scope J.fr cap clos
 | some p=>aF0 H f p.1 J.qual J.params [.Return (some J.body) p.2] J.scope J.fr cap clos
def aF5 (H:Hp)(f:Addr)(J:LamI)(clos:yB):Prop:=match J.nm with
 | none=>∃ pm c' ctv,H f=some (bT1 f (ny "<lambda>" J.qual J.params J.body J.scope clos pm (.ref c') ctv))/\H c'=some (aV8 c' J.qual)
 | some p=>∃ doc pm c' ctv,H f=some (bT1 f (ou p.1 J.qual J.params [.Return (some J.body) p.2] J.scope clos .none .none doc pm none (.ref c') ctv))/\H c'=some (aV8 c' J.qual)
structure Gm where
 K:af
 fa:String->Option Addr
 lg:String->LamI->Prop
 T:List (Addr×Str)
variable (Γ:Gm)
mutual
noncomputable def RV (C:Nat->Addr)(H:Hp):oD->V->Prop
 | .N,v=>v=.N
 | .T b,v=>v=.T b
 | .int i,v=>v=.int i
 | .str x,v=>v=.str ⟨x.toArray⟩/\x.length<=oN
 | .tp l,v=>∃ a xs,v=.ref a/\(SqT Γ.K H a xs/\(oO l=true->H a=some (.tp xs)))/\RVL C H l xs
 | .ref n,v=>v=.ref (C n)
 | .fn f,v=>∃ a,Γ.fa f=some a/\v=.ref a
 | .clo id cs,v=>∃ f cap J clos,v=.ref f/\Γ.lg id J/\aG5 H f J cap clos/\cap.length=J.fr.length/\RVL C H cs cap
noncomputable def RVL (C:Nat->Addr)(H:Hp):List oD->List V->Prop
 | [],xs=>xs=[]
 | d::l,xs=>∃ x r,xs=x::r/\RV C H d x/\RVL C H l r
end
noncomputable def cl9:HO->Bool
 | .tp _=>true
 | .frz _ _=>true
 | .ext _=>true
 | _=>false
def Kp (H H':Hp):Prop:=∀ b o,H b=some o->cl9 o=true->H' b=some o
def Kp.refl H :Kp H H:=λ _ _ h _=>h
def Kp.trans (a:Kp H F)(b:Kp F z):Kp H z:=λ c o h f=>b c o (a c o h f) f
def Kp.new (a:Kp H z)(h:z p=none):Kp H (upd z p o):=λ c u e f=>by
 have e1:=a c u e f;rw[zc (zf e1 h)];exact e1
def Kp.put (a:Kp H F)(h:F p=some u)(hu:cl9 u=false):Kp H (upd F p o):=λ c v e f=>by
 have e1:=a c v e f;rw[zc (λ z=>by subst z;rw[h]at e1;cases e1;rw[hu]at f;cases f)];exact e1
def Kp.sqT {K}(e:Kp H H')(h:SqT K H a z):SqT K H' a z:=by
 rcases h with(h|⟨o,h⟩)|h
 .exact .inl (.inl (e _ _ h rfl))
 .exact .inl (.inr ⟨o,e _ _ h rfl⟩)
 .exact .inr h
def bd7.kp (h:bd7 H f qual params body scope fr cap F)(e:Kp H H'):bd7 H' f qual params body scope fr cap F:=by
 obtain⟨J,c',G,h1,h2,h3,Z,h5,h6⟩:=h;refine⟨J,c',G,e _ _ h1 rfl,e _ _ h2 rfl,λ x c q=>?_,Z,h5,λ i x v a b=>?_⟩
 .obtain⟨o,v,z,d⟩:=h3 x c q;exact⟨o,v,e _ _ z rfl,d⟩
 .obtain⟨c,o,u,z1,z2,Y⟩:=h6 i x v a b;exact⟨c,o,u,z1,e _ _ z2 rfl,Y⟩
def aF0.kp (h:aF0 H f name qual params body scope fr cap F)(e:Kp H H'):aF0 H' f name qual params body scope fr cap F:=by
 obtain⟨J,Y,c',G,h1,h2,h3,h4,h5,h6⟩:=h;refine⟨J,Y,c',G,e _ _ h1 rfl,e _ _ h2 rfl,λ x c q=>?_,h4,h5,λ i x v a b=>?_⟩
 .obtain⟨o,v,z,d⟩:=h3 x c q;exact⟨o,v,e _ _ z rfl,d⟩
 .obtain⟨c,o,u,z1,z2,Z⟩:=h6 i x v a b;exact⟨c,o,u,z1,e _ _ z2 rfl,Z⟩
theorem aG5.kp (h:aG5 H f J cap z)(e:Kp H H'):aG5 H' f J cap z:=by
 unfold aG5 at h ⊢;cases q:J.nm with
 | none=>rw[q]at h;exact bd7.kp h e
 | some p=>rw[q]at h;exact aF0.kp h e
def aF5.kp (h:aF5 H f J z)(e:Kp H H'):aF5 H' f J z:=by
 unfold aF5 at h ⊢;cases q:J.nm with
 | none =>
  rw[q]at h;obtain⟨Y,G,F,h1,Z⟩:=h;exact⟨Y,G,F,e _ _ h1 rfl,e _ _ Z rfl⟩
 | some p =>
  rw[q]at h;obtain⟨a0,Y,G,F,h1,Z⟩:=h;exact⟨a0,Y,G,F,e _ _ h1 rfl,e _ _ Z rfl⟩
theorem aG5.fn {K}(h:aG5 H f J cap z):cl3 K H f:=by
 unfold aG5 at h;cases q:J.nm with
 | none=>rw[q]at h;obtain⟨Z,Y,F,G,_⟩:=h;exact .inl ⟨_,G⟩
 | some p=>rw[q]at h;exact aF0.fn h
structure Gw (C:Nat->Addr)(n:Nat)(H:Hp)(C':Nat->Addr)(H':Hp):Prop where
 map:∀ i,i<n->C' i=C i
 kp:Kp H H'
variable {Γ:Gm}
mutual
theorem RV.monoW {C C':Nat->Addr}{n:Nat}{H H':Hp}(g:Gw C n H C' H'):∀(d:oD) (v:V),d.bnd n=true->RV Γ C H d v->RV Γ C' H' d v
 | .N,_,_,h=>by unfold RV at h ⊢;exact h
 | .T _,_,_,h=>by unfold RV at h ⊢;exact h
 | .int _,_,_,h=>by unfold RV at h ⊢;exact h
 | .str _,_,_,h=>by unfold RV at h ⊢;exact h
 | .tp l,_,b,h=>by
  unfold RV at h ⊢;unfold oI at b;obtain⟨a,G,e,q,r⟩:=h;exact⟨a,G,e,⟨g.kp.sqT q.1,λ z=>g.kp _ _ (q.2 z) rfl⟩,RVL.monoW g l G b r⟩
 | .ref k,_,b,h=>by
  unfold RV at h ⊢;unfold oI at b;rw[g.map k (of_decide_eq_true b)];exact h
 | .fn _,_,_,h=>by unfold RV at h ⊢;exact h
 | .clo id cs,_,b,h=>by
  unfold RV at h ⊢;unfold oI at b;obtain⟨f,cap,J,F,e,h1,h2,Z,Y⟩:=h;exact⟨f,cap,J,F,e,h1,h2.kp g.kp,Z,RVL.monoW g cs cap b Y⟩
theorem RVL.monoW {C C':Nat->Addr}{n:Nat}{H H':Hp}(g:Gw C n H C' H'):∀(l:List oD) (z:List V),oF n l=true->RVL Γ C H l z->RVL Γ C' H' l z
 | [],_,_,h=>by unfold RVL at h ⊢;exact h
 | d::l,_,b,h=>by
  unfold RVL at h ⊢;unfold oF at b;rw[aj]at b;obtain⟨x,r,e,q,t⟩:=h;exact⟨x,r,e,RV.monoW g d x b.1 q,RVL.monoW g l r b.2 t⟩
end
mutual
theorem zn {n m:Nat}(h:n<=m):∀ d:oD,d.bnd n=true->d.bnd m=true
 | .N,_=>rfl
 | .T _,_=>rfl
 | .int _,_=>rfl
 | .str _,_=>rfl
 | .tp l,b=>by unfold oI at b ⊢;exact ac5 h l b
 | .ref k,b=>by unfold oI at b ⊢;exact decide_eq_true (aL (of_decide_eq_true b) h)
 | .fn _,_=>rfl
 | .clo _ l,b=>by unfold oI at b ⊢;exact ac5 h l b
theorem ac5 {n m:Nat}(h:n<=m):∀ l:List oD,oF n l=true->oF m l=true
 | [],_=>rfl
 | d::l,b=>by
  unfold oF at b ⊢;rw[aj]at b ⊢;exact⟨zn h d b.1,ac5 h l b.2⟩
end
theorem ab0 :∀ {l},oF n l=true↔∀ d∈l,d.bnd n=true
 | []=>by unfold oF;simp
 | d::l=>by
  unfold oF;rw[aj,ab0 ];simp
def zQ (h:oF n l=true)(h':oF n m=true):oF n (l++m)=true :=
 ab0.mpr λ d hd=>(aW.mp hd).elim (ab0.mp h d) (ab0.mp h' d)
def aP4 (h:oF n l=true)(s:∀ d∈m,d∈l):oF n m=true:=ab0.mpr λ d hd=>ab0.mp h d (s d hd)
def az6 {i:Nat}(h:oF n l=true)(e:l[i]?=some d):d.bnd n=true:=ab0.mp h d (aE e)
section
variable {C:Nat->Addr} {H:Hp}
def RVL.nil:RVL Γ C H [] []:=by unfold RVL;rfl
def RVL.cons (a:RV Γ C H d x)(b:RVL Γ C H l z):RVL Γ C H (d::l) (x::z):=by unfold RVL;exact⟨x,z,rfl,a,b⟩
def RVL.unnil (h:RVL Γ C H [] z):z=[]:=by unfold RVL at h;exact h
def RVL.uncons (h:RVL Γ C H (d::l) z):∃ x r,z=x::r/\RV Γ C H d x/\RVL Γ C H l r:=by unfold RVL at h;exact h
theorem RVL.length:∀ {l} {z},RVL Γ C H l z->z.length=l.length
 | [],_,h=>by rw[h.unnil];rfl
 | d::l,_,h=>by
  obtain⟨x,r,rfl,_,t⟩:=h.uncons;rw[aR,aR,RVL.length t]
theorem RVL.get:∀ {l} {z} {i:Nat} {d},RVL Γ C H l z->l[i]?=some d->∃ x,z[i]?=some x/\RV Γ C H d x
 | [],_,_,_,_,e=>by simp at e
 | d::l,_,0,d',h,e=>by
  obtain⟨x,r,rfl,q,t⟩:=h.uncons;have e':=by simpa using e
  subst e';exact⟨x,rfl,q⟩
 | d::l,_,i+1,_,h,e=>by
  obtain⟨x,r,rfl,q,t⟩:=h.uncons;obtain⟨y,e1,e2⟩:=RVL.get t (by simpa using e);exact⟨y,by simpa using e1,e2⟩
theorem RVL.append:∀ {l m} {z ys},RVL Γ C H l z->RVL Γ C H m ys->RVL Γ C H (l++m) (z++ys)
 | [],_,_,_,h,h'=>by rw[h.unnil];exact h'
 | d::l,_,_,_,h,h'=>by
  obtain⟨x,r,rfl,q,t⟩:=h.uncons;exact .cons q (RVL.append t h')
theorem RVL.drop:∀ {l} {z} n ,RVL Γ C H l z->RVL Γ C H (l.drop n) (z.drop n)
 | _,_,0,h=>h
 | [],_,n+1,h=>by rw[h.unnil];exact .nil
 | d::l,_,n+1,h=>by
  obtain⟨x,r,rfl,q,t⟩:=h.uncons;exact RVL.drop n t
theorem RVL.take:∀ {l} {z} n ,RVL Γ C H l z->RVL Γ C H (l.take n) (z.take n)
 | _,_,0,h=>.nil
 | [],_,n+1,h=>by rw[h.unnil];exact .nil
 | d::l,_,n+1,h=>by
  obtain⟨x,r,rfl,q,t⟩:=h.uncons;exact .cons q (RVL.take n t)
theorem RVL.set:∀ {l} {z} {d} {x} i ,RVL Γ C H l z->RV Γ C H d x->RVL Γ C H (l.set i d) (z.set i x)
 | [],_,_,_,_,h,_=>by rw[h.unnil];exact .nil
 | d::l,_,_,_,0,h,q=>by
  obtain⟨x,r,rfl,_,t⟩:=h.uncons;exact .cons q t
 | d::l,_,_,_,i+1,h,q=>by
  obtain⟨x,r,rfl,F,t⟩:=h.uncons;exact .cons F (RVL.set i t q)
def RV.intE (h:RV Γ C H (.int i) v):v=.int i:=by unfold RV at h;exact h
def RV.blE (h:RV Γ C H (.T i) v):v=.T i:=by unfold RV at h;exact h
def RV.nonE (h:RV Γ C H .N v):v=.N:=by unfold RV at h;exact h
def RV.strE (h:RV Γ C H (.str x) v):v=.str ⟨x.toArray⟩:=by unfold RV at h;exact h.1
def RV.strL (h:RV Γ C H (.str x) v):x.length<=oN:=by unfold RV at h;exact h.2
def RV.tupE (h:RV Γ C H (.tp l) v):∃ a z,v=.ref a/\SqT Γ.K H a z/\RVL Γ C H l z:=by unfold RV at h;obtain⟨a,z,e,q,r⟩:=h;exact⟨a,z,e,q.1,r⟩
def RV.tupZ (h:RV Γ C H (.tp l) v):∃ a z,(v=.ref a/\(oO l=true->H a=some (.tp z)))/\SqT Γ.K H a z/\RVL Γ C H l z:=by unfold RV at h;obtain⟨a,z,e,q,r⟩:=h;exact⟨a,z,⟨e,q.2⟩,q.1,r⟩
def RVL.tonil (h:RVL Γ C H l []):l=[]:=bM.mp h.length.symm
def RV.tupK (h:RV Γ C H (.tp l) v)(z:oO l=true):∃ a F,v=.ref a/\H a=some (.tp F)/\RVL Γ C H l F:=by unfold RV at h;obtain⟨a,F,e,q,r⟩:=h;exact⟨a,F,e,q.2 z,r⟩
def RV.refE (h:RV Γ C H (.ref n) v):v=.ref (C n):=by unfold RV at h;exact h
def RV.intI :RV Γ C H (.int i) (.int i):=by unfold RV;rfl
def RV.blI :RV Γ C H (.T i) (.T i):=by unfold RV;rfl
def RV.nonI:RV Γ C H .N .N:=by unfold RV;rfl
def RV.strI (h:x.length<=oN):RV Γ C H (.str x) (.str ⟨x.toArray⟩):=by unfold RV;exact⟨rfl,h⟩
def RV.tupI (h:H a=some (.tp z))(q:RVL Γ C H l z):RV Γ C H (.tp l) (.ref a):=by unfold RV;exact⟨a,z,rfl,⟨SqT.of h,λ _=>h⟩,q⟩
def RV.tupC (h:SqT Γ.K H a F)(z:oO l=true->H a=some (.tp F))(q:RVL Γ C H l F):RV Γ C H (.tp l) (.ref a):=by unfold RV;exact⟨a,F,rfl,⟨h,z⟩,q⟩
def RV.refI :RV Γ C H (.ref n) (.ref (C n)):=by unfold RV;rfl
end
def bJ5 (h:oO (pp n l)=true):oO l=true:=by
 cases n with
 | zero=>cases h
 | succ n =>
  cases l with
  | nil => 
   have:∀ k,pp k ([])=[]:=λ k=>by
    induction k with
    | zero=>rfl
    | succ k ih=>show[]++pp k []=[];rw[ih];rfl
   rw[this]at h;cases h
  | cons a l =>
   have e:pp (n+1) (a::l)=a::(l++pp n (a::l)):=rfl;rw[e]at h;cases a with
   | int _=>rfl
   | N=>rfl
   | tp _=>rfl
   | _=>cases h
def bm5 (h:(o8 l F G).length=l.length):o8 l F G=l:=by
 unfold o8 at h ⊢;rw[bP,gc]at h;by_cases z:l=[]
 .subst z;simp
 .have hp:=kO.mpr z;have e1:pA l.length F=0:=by lia
  rw[e1]at h ⊢;rw[ir];exact fS (by lia)
def SqF (K:af)(H:Hp)(a:Addr)(xs:List V):Prop:=SqL K H a xs/\∀ H',Kp H H'->SqL K H' a xs
noncomputable def fOf:oD->Option FK
 | .N=>some none
 | .int i=>some (some (.inl i))
 | .str x=>some (some (.inr ⟨x.toArray⟩))
 | _=>none
noncomputable def qz {κ:Type}(f:oD->Option κ):List oD->Option (List κ)
 | []=>some []
 | d::l=>match f d,qz f l with
  | some k,some r=>some (k::r)
  | _,_=>none
def nOf:oD->Option NI
 | .tp l=>(qz fOf l).map .inr
 | d=>(fOf d).map .inl
def am7:List oD->Option (List NI):=qz nOf
def bT3:oD->Option (List NI)
 | .tp l=>if(oO l&&(l.all oX&&decide (l.length<=1000)))=true then am7 l else none
 | _=>none
def RVD {κ:Type}(kf:oD->Option κ)(Γ:Gm)(C:Nat->Addr)(H:Hp):List (oD×oD)->List (κ×V)->Prop
 | [],kvs=>kvs=[]
 | (d,e)::l,kvs=>∃ k v r,kvs=(k,v)::r/\kf d=some k/\RV Γ C H e v/\RVD kf Γ C H l r
variable (Γ)
def RO (C:Nat->Addr)(H:Hp)(a:Addr):o9->Prop
 | .J l=>∃ xs,H a=some (.J xs)/\RVL Γ C H l xs
 | .ro l=>∃ xs,SqF Γ.K H a xs/\RVL Γ C H l xs
 | .dit l=>∃ kvs,H a=some (.dT kvs)/\RVD bT3 Γ C H l kvs
 | .ins _ _=>False
abbrev okd:o9->Nat:=DV.O.kd
noncomputable def isMut:o9->Bool
 | .ro _=>false
 | _=>true
structure Rp (C:Nat->Addr)(H:Hp)(s:oC):Prop where
 inj:∀(i j:Nat) (o o':o9),s[i]?=some o->s[j]?=some o'->isMut o=true->isMut o'=true->C i=C j->i=j
 obj:∀(i:Nat) (o:o9),s[i]?=some o->RO Γ C H (C i) o
 wf:∀(i:Nat) (o:o9),s[i]?=some o->o.bnd s.length=true
 tab:TabsH Γ.T H
structure RE (C:Nat->Addr)(H:Hp)(n:Nat)(U:oE)(W:St):Prop where
 len:U.length=W.length
 val:∀(i:Nat) (d:oD),U[i]?=some (some d)->d.bnd n=true/\∃ v,W[i]?=some (some v)/\RV Γ C H d v
structure Gr (C:Nat->Addr)(s:oC)(H:Hp)(C':Nat->Addr)(s':oC)(H':Hp):Prop where
 w:Gw C s.length H C' H'
 le:s.length<=s'.length
 new:∀ i:Nat,s.length<=i->i<s'.length->H (C' i)=none
 kd:∀(i:Nat) (o o':o9),s[i]?=some o->s'[i]?=some o'->okd o'=okd o
 st:∀ b,H b≠none->H' b≠none
 fr:∀ b o,H b=some o->(∀ ps,o≠.tbl ps)->(∀(i:Nat) (ob:o9),s[i]?=some ob->isMut ob=true->C i≠b)->H' b=some o
variable {Γ}
def bG8 (h:okd z=okd o)(m:isMut z=true):isMut o=true:=by
 cases o with
 | ro _=>cases z with
  | ro _=>cases m
  | _=>cases h
 | _=>rfl
def Gr.mu (g:Gr C s H C' s' H')(i:Nat) o z (e:s[i]?=some o)(e':s'[i]?=some z)(m:isMut z=true):isMut o=true:=bG8 (g.kd i o z e e') m
theorem Gr.refl C s H :Gr C s H C s H:=⟨⟨λ _ _=>rfl,Kp.refl H⟩,au _,λ i G z=>absurd z (by lia),λ i o F e e'=>by rw[e]at e';cases e';rfl,λ _ h=>h,λ _ _ h _ _=>h⟩
theorem Gr.trans (a:Gr C s H C1 s1 Y)(b:Gr C1 s1 Y C2 s2 H2)(_h:s.length<=s1.length):Gr C s H C2 s2 H2:=by
 refine⟨⟨λ i F=>(b.w.map i (aL F a.le)).trans (a.w.map i F),a.w.kp.trans b.w.kp⟩,ar a.le b.le,λ i h1 h2=>?_,λ i o o' e e'=>?_,λ c h=>b.st c (a.st c h),λ c o h Z ne=>?_⟩
 .by_cases F:i<s1.length
  .rw[b.w.map i F];exact a.new i h1 F
  .have e:=b.new i (by lia) h2;cases q:H (C2 i)with
   | none=>rfl
   | some o=>exact absurd e (a.st _ (by rw[q];simp))
 .have hl:i<s1.length:=aL (ae.mp e).1 a.le;obtain⟨G,e1⟩:∃ G,s1[i]?=some G:=⟨s1[i],ai hl⟩
  exact(b.kd i G o' e1 e').trans (a.kd i o G e e1)
 .refine b.fr c o (a.fr c o h Z ne) Z λ i ob e m z=>?_;by_cases F:i<s.length
  .obtain⟨J,e0⟩:∃ J,s[i]?=some J:=⟨s[i],ai F⟩
   exact ne i J e0 (a.mu i J ob e0 e m) (by rw[<-a.w.map i F];exact z)
  .have:=a.new i (by lia) (ae.mp e).1;rw[z,h]at this;cases this
def RV.mono (g:Gr C s H C' s' H') d v (b:d.bnd s.length=true)(h:RV Γ C H d v):RV Γ C' H' d v:=RV.monoW g.w d v b h
def RVL.mono (g:Gr C s H C' s' H') d v (b:oF s.length d=true)(h:RVL Γ C H d v):RVL Γ C' H' d v:=RVL.monoW g.w d v b h
theorem RE.mono (h:RE Γ C H s.length U W)(g:Gr C s H C' s' H')(hn:s.length<=s'.length):RE Γ C' H' s'.length U W :=
 ⟨h.len,λ i d e=>by
  obtain⟨b,v,e1,e2⟩:=h.val i d e;exact⟨zn hn d b,v,e1,RV.mono g d v b e2⟩⟩
def ah0 (Γ:Gm)(C:Nat->Addr)(s:oC)(H:Hp)(d:oD)(s':oC)(Q:VK):Prop :=
 ∀ v C' H',Gr C s H C' s' H'->s.length<=s'.length->d.bnd s'.length=true->RV Γ C' H' d v->Rp Γ C' H' s'->Q v H'
theorem ah0.trans (h:ah0 Γ C s H d s' Q)(g:Gr C s H C1 s1 z)(l:s.length<=s1.length):ah0 Γ C1 s1 z d s' Q :=
 λ v C' H' g' F b r p=>h v C' H' (g.trans g' l) (ar l F) b r p
def ah0.here (h:ah0 Γ C s H d s Q)(p:Rp Γ C H s)(b:d.bnd s.length=true)(r:RV Γ C H d v):Q v H :=
 h v C H (Gr.refl C s H) (au _) b r p
theorem RVD.monoW (g:Gw C n H C' H'):∀ l (z:List (κ×V)),oF n (l.map (·.2))=true->RVD F Γ C H l z->RVD F Γ C' H' l z
 | [],_,_,h=>h
 | (d,e)::l,_,b,h=>by
  obtain⟨k,v,r,e1,e2,G,J⟩:=h;rw[av]at b;unfold oF at b;rw[aj]at b;exact⟨k,v,r,e1,e2,RV.monoW g e v b.1 G,RVD.monoW g l r b.2 J⟩
def RO.mono (h:RO Γ C H a o)(g:Gw C n H C' H')(b:o.bnd n=true)(hl:isMut o=true->∀ u,H a=some u->H' a=some u):RO Γ C' H' a o:=by
 cases o with
 | J l =>
  unfold oK at b;obtain⟨z,e,r⟩:=h;exact⟨z,hl rfl _ e,RVL.monoW g l z b r⟩
 | ro l =>
  unfold oK at b;obtain⟨z,e,r⟩:=h;exact⟨z,⟨e.2 _ g.kp,λ G k=>e.2 _ (g.kp.trans k)⟩,RVL.monoW g l z b r⟩
 | dit l =>
  unfold oK at b;rw[aj]at b;obtain⟨F,e,r⟩:=h;exact⟨F,hl rfl _ e,RVD.monoW g l F b.2 r⟩
 | ins _ _=>exact h.elim
def RO.there (h:RO Γ C H a o)(m:isMut o=true):∃ u,H a=some u/\cl9 u=false/\∀ ps,u≠.tbl ps:=by
 cases o with
 | J l=>obtain⟨z,e,_⟩:=h;exact⟨_,e,rfl,by nofun⟩
 | ro l=>cases m
 | dit l=>obtain⟨z,e,_⟩:=h;exact⟨_,e,rfl,by nofun⟩
 | ins _ _=>exact h.elim
def Rp.addr (p:Rp Γ C H s)(e:s[i]?=some (.J l)):∃ z,H (C i)=some (.J z)/\RVL Γ C H l z:=p.obj i _ e
def qe (h:n<=m)(o:o9)(b:o.bnd n=true):o.bnd m=true:=by
 cases o with
 | J l=>unfold oK at b ⊢;exact ac5 h l b
 | ro l=>unfold oK at b ⊢;exact ac5 h l b
 | dit l =>
  unfold oK at b ⊢;rw[aj]at b ⊢;exact⟨ac5 h _ b.1,ac5 h _ b.2⟩
 | ins c l=>unfold oK at b ⊢;exact ac5 h _ b
def TabsH.keepF (h:TabsH T H)(k:∀ b o,(cl9 o=true\/∃ ps,o=.tbl ps)->H b=some o->H' b=some o):TabsH T H':=λ y hy=>by
 obtain⟨ps,e,t,c⟩:=h y hy;refine⟨ps,k _ _ (.inr ⟨_,rfl⟩) e,t,λ pos F q=>?_⟩;obtain⟨z,e1,e2⟩:=c pos F q;exact⟨z,e1,k _ _ (.inl rfl) e2⟩
theorem Rp.new (r:Rp Γ C H s)(hp:H p=none)(hb:o.bnd s.length=true)
  (ho:∀ C' H',Gw C s.length H C' H'->H' p=some u->RO Γ C' H' p o):Gr C s H (λ i=>if i=s.length then p else C i) (s++[o]) (upd H p u)/\Rp Γ (λ i=>if i=s.length then p else C i) (upd H p u) (s++[o]):=by
 have g:Gw C s.length H (λ i=>if i=s.length then p else C i) (upd H p u):=⟨λ i z=>if_neg (aK z),(Kp.refl H).new hp⟩
 have key:∀ i F,(s++[o])[i]?=some F->(i<s.length/\s[i]?=some F)\/(i=s.length/\F=o):=λ i F e=>by
  rcases fT i s.length with h|h|h
  .rw[aS h]at e;exact .inl ⟨h,e⟩
  .subst h;simp at e;exact .inr ⟨rfl,e.symm⟩
  .rw[cV (by simp;lia)]at e;cases e
 refine⟨⟨g,by simp,λ i h1 h2=>?_,λ i o1 o2 e1 e2=>?_,λ b hb=>?_,λ b ob hb _ _=>by rw[zc (zf hb hp)];exact hb⟩,λ i j J G ei ej Z Y e=>?_,λ i F e=>?_,λ i F e=>?_,r.tab.new hp⟩
 .rw[aA,eR]at h2;rw[if_pos (by lia)];exact hp
 .rcases key i o2 e2 with⟨_,e⟩|⟨z,_⟩
  .rw[e1]at e;cases e;rfl
  .have:=(ae.mp e1).1;lia
 .unfold upd;split
  .simp
  .exact hb
 .rcases key i J ei with⟨z,ei⟩|⟨z,rfl⟩<;>rcases key j G ej with⟨hj,ej⟩|⟨hj,ej'⟩
  .rw[if_neg (aK z),if_neg (aK hj)]at e;exact r.inj i j J G ei ej Z Y e
  .rw[if_neg (aK z),if_pos hj]at e;obtain⟨u,hu,_,_⟩:=(r.obj i J ei).there Z;rw[e,hp]at hu;cases hu
  .rw[if_neg (aK hj),if_pos z]at e;obtain⟨u,hu,_,_⟩:=(r.obj j G ej).there Y;rw[<-e,hp]at hu;cases hu
  .rw[z,hj]
 .rcases key i F e with⟨z,e⟩|⟨z,rfl⟩
  .show RO Γ _ _ (if i=s.length then p else C i) F;rw[if_neg (aK z)];exact(r.obj i F e).mono g (r.wf i F e) λ _ v hv=>by rw[zc (zf hv hp)];exact hv
  .show RO Γ _ _ (if i=s.length then p else C i) F;rw[if_pos z];exact ho _ _ g zg
 .rw[aA,eR];rcases key i F e with⟨z,e⟩|⟨z,rfl⟩
  .exact qe (dQ _) _ (r.wf i F e)
  .exact qe (dQ _) _ hb
theorem Rp.set (r:Rp Γ C H s)(hk:s[k]?=some G)(Z:isMut G=true)(hb:o.bnd s.length=true)
  (ho:∀ H',Gw C s.length H C H'->H' (C k)=some u->RO Γ C H' (C k) o) (a1:autoParam (okd o=okd G) Zq4._auto_1):Gr C s H C (s.set k o) (upd H (C k) u)/\Rp Γ C (upd H (C k) u) (s.set k o):=by
 obtain⟨v0,J,f0,a0⟩:=(r.obj k G hk).there Z;have a2:=(ae.mp hk).1;have g:Gw C s.length H C (upd H (C k) u):=⟨λ _ _=>rfl,(Kp.refl H).put J f0⟩
 have key:∀ i F,(s.set k o)[i]?=some F->(i≠k/\s[i]?=some F)\/(i=k/\F=o):=λ i F e=>by
  by_cases h:i=k
  .subst h;rw[bj a2]at e;exact .inr ⟨rfl,(aC e).symm⟩
  .rw[bH (dk h)]at e;exact .inl ⟨h,e⟩
 have mm:∀ i F,(s.set k o)[i]?=some F->isMut F=true->∃ Y,s[i]?=some Y/\isMut Y=true:=λ i F e m=>by
  rcases key i F e with⟨_,e⟩|⟨h,_⟩
  .exact⟨F,e,m⟩
  .exact⟨G,by rw[h];exact hk,Z⟩
 refine⟨⟨g,by simp,λ i h1 h2=>by rw[bf]at h2;lia,λ i o1 o2 e1 e2=>?_,λ b hb=>?_,λ b ob hb nt ne=>by rw[zc (dk (ne k G hk Z))];exact hb⟩,λ i j oi oj ei ej mi mj e=>?_,λ i F e=>?_,λ i F e=>?_,r.tab.keepF λ b v hv q=>?_⟩
 .rcases key i o2 e2 with⟨_,e⟩|⟨h,rfl⟩
  .rw[e1]at e;cases e;rfl
  .subst h;rw[hk]at e1;cases e1;exact a1
 .unfold upd;split
  .simp
  .exact hb
 .obtain⟨o1,e1,m1⟩:=mm i oi ei mi;obtain⟨o2,e2,m2⟩:=mm j oj ej mj;exact r.inj i j o1 o2 e1 e2 m1 m2 e
 .rcases key i F e with⟨h,e⟩|⟨h,rfl⟩
  .refine(r.obj i F e).mono g (r.wf i F e) λ m v hv=>?_;rw[zc λ z=>h (r.inj i k F G e hk m Z z)];exact hv
  .subst h;exact ho _ g zg
 .rw[bf];rcases key i F e with⟨_,e⟩|⟨_,rfl⟩
  .exact r.wf i F e
  .exact hb
 .rw[zc λ z=>by
   subst z;rw[J]at q;cases q;rcases hv with h|⟨ps,h⟩
   .rw[f0]at h;cases h
   .exact a0 _ h]
  exact q
theorem Rp.same (r:Rp Γ C H s)(e:af0 H H'):Gr C s H C s H'/\Rp Γ C H' s:=by
 have g:Gw C s.length H C H':=⟨λ _ _=>rfl,λ b o h _=>e b o h⟩
 exact⟨⟨g,au _,λ i G z=>absurd z (by omega),λ i o F e e'=>by rw[e]at e';cases e';rfl,λ b hb=>by
  cases q:H b with
  | none=>exact absurd q hb
  | some o=>rw[e b o q];simp,λ b o h _ _=>e b o h⟩,r.inj,λ i o h=>(r.obj i o h).mono g (r.wf i o h) λ _ u hu=>e _ u hu,r.wf,r.tab.same e⟩
section
variable {C:Nat->Addr} {H:Hp} {s:oC} {Q:VK}
def ah0.alloc (h:ah0 Γ C s H (.ref s.length) (s++[.J l]) Q)(r:Rp Γ C H s)(hl:RVL Γ C H l z)(hb:oF s.length l=true)(hp:H p=none):Q (.ref p) (upd H p (.J z)):=by
 obtain⟨g,F⟩:=r.new (o:=.J l) hp hb λ C' H' g e=>⟨z,e,RVL.monoW g l z hb hl⟩
 have:=h (.ref p) _ _ g (by simp) (by unfold oI;simp) (by unfold RV;simp) F;exact this
def ah0.tup (h:ah0 Γ C s H (.tp l) s Q)(r:Rp Γ C H s)(hl:RVL Γ C H l z)(hb:oF s.length l=true)(hp:H p=none):Q (.ref p) (upd H p (.tp z)):=by
 obtain⟨g,F⟩:=r.same ((af0.refl H).new hp);exact h _ _ _ g (au _) (by unfold oI;exact hb) (RV.tupI zg (RVL.mono g l z hb hl)) F
def ah0.put (h:ah0 Γ C s H d (s.set k (.J l)) Q)(r:Rp Γ C H s)(hk:s[k]?=some (.J l0))(hl:RVL Γ C H l z)(hb:oF s.length l=true)
  (hd:d.bnd s.length=true) (hv:RV Γ C H d v):Q v (upd H (C k) (.J z)):=by
 obtain⟨g,F⟩:=r.set (o:=.J l) hk rfl hb λ H' g e=>⟨z,e,RVL.monoW g l z hb hl⟩
 exact h _ _ _ g (by simp) (by rw[bf];exact hd) (RV.mono g d v hd hv) F
end
variable {Γ:Gm}
def by5 {κ:Type}(kf:oD->Option κ):Prop:=∀ {a b} {k},kf a=some k->kf b=some k->a=b
def bc7:by5 fOf:=λ {a b k} ha hb=>by
 cases a with
 | N=>cases ha;cases b with|N=>rfl|_=>cases hb
 | int i=>cases ha;cases b with|int j=>cases hb;rfl|_=>cases hb
 | str x=>cases ha;cases b with|str y=>cases hb;rfl|_=>cases hb
 | _=>cases ha
theorem as6 {f}(z:by5 f):∀ {a b} {k:List κ},qz f a=some k->qz f b=some k->a=b
 | [],[],k,_,_=>rfl
 | [],y::b,k,ha,hb=>by
  cases ha;unfold qz at hb;split at hb<;>cases hb
 | x::a,[],k,ha,hb=>by
  cases hb;unfold qz at ha;split at ha<;>cases ha
 | x::a,y::b,k,ha,hb=>by
  unfold qz at ha hb;split at ha
  .rename_i k1 r1 e1 e2;cases ha;split at hb
   .rename_i k2 r2 F G;cases hb;rw[z e1 F,as6 z e2 G]
   .cases hb
  .cases ha
def qY (h:nOf d=some k):(∃ l r,d=.tp l/\qz fOf l=some r/\k=.inr r)\/∃ f,fOf d=some f/\k=.inl f:=by
 cases d with
 | tp l =>
  obtain⟨r,e,q⟩:=cr.mp (h);exact .inl ⟨l,r,rfl,e,q.symm⟩
 | N=>obtain⟨r,e,q⟩:=cr.mp (show(fOf .N).map .inl=some k from h);exact .inr ⟨r,e,q.symm⟩
 | int i=>obtain⟨r,e,q⟩:=cr.mp (show(fOf (.int i)).map .inl=some k from h);exact .inr ⟨r,e,q.symm⟩
 | str i=>obtain⟨r,e,q⟩:=cr.mp (show(fOf (.str i)).map .inl=some k from h);exact .inr ⟨r,e,q.symm⟩
 | _=>cases h
def bR6:by5 nOf:=λ {a b k} ha hb=>by
 rcases qY ha with⟨l,r,rfl,e,rfl⟩|⟨f,e,rfl⟩
 .rcases qY hb with⟨m,z,rfl,e',q⟩|⟨f,e',q⟩
  .cases q;rw[as6 bc7 e e']
  .cases q
 .rcases qY hb with⟨m,z,rfl,e',q⟩|⟨f',e',q⟩
  .cases q
  .cases q;exact bc7 e e'
def aj7 (h:bT3 d=some k):∃ l,d=.tp l/\(oO l=true/\l.all oX=true/\l.length<=1000)/\am7 l=some k:=by
 cases d with
 | tp l =>
  have h:(if(oO l&&(l.all oX&&decide (l.length<=1000)))=true then am7 l else none)=some k:=h;by_cases z:(oO l&&(l.all oX&&decide (l.length<=1000)))=true
  .rw[if_pos z]at h;rw[aj,aj]at z;exact⟨l,rfl,⟨z.1,z.2.1,of_decide_eq_true z.2.2⟩,h⟩
  .rw[if_neg z]at h;cases h
 | _=>cases h
def keyT_inj:by5 bT3:=λ ha hb=>by
 obtain⟨l,rfl,_,F⟩:=aj7 ha;obtain⟨m,rfl,_,z⟩:=aj7 hb;rw[as6 bR6 F z]
theorem al3 {p}(hp:∀ d,p d=true->∃ k,f d=some k):∀ {l},l.all p=true->∃ k,qz f l=some k
 | [],_=>⟨[],rfl⟩
 | d::l,h=>by
  rw[cz,aj]at h;obtain⟨k,hk⟩:=hp d h.1;obtain⟨r,hr⟩:=al3 hp h.2;exact⟨k::r,by unfold qz;rw[hk,hr]⟩
def ba1 d (h:d.keyF=true):∃ k,fOf d=some k:=by
 cases d with
 | int i=>exact⟨_,rfl⟩
 | str x=>exact⟨_,rfl⟩
 | N=>exact⟨_,rfl⟩
 | _=>cases h
def aA4 (h:(DV.D.tp l).keyS=true):oO l=true/\l.all pT=true/\l.length<=1000:=by
 have h:(oO l&&(l.all pT&&decide (l.length<=1000)))=true:=h;rw[aj,aj]at h;exact⟨h.1,h.2.1,of_decide_eq_true h.2.2⟩
def bl4 d (h:d.keyS=true):∃ k,nOf d=some k:=by
 cases d with
 | tp l=>obtain⟨r,e⟩:=al3 ba1 (aA4 h).2.1;exact⟨.inr r,by show(qz fOf l).map _=_;rw[e];rfl⟩
 | int i=>exact⟨_,rfl⟩
 | str x=>exact⟨_,rfl⟩
 | N=>exact⟨_,rfl⟩
 | _=>cases h
def qO (h:d.keyT=true):∃ k,bT3 d=some k:=by
 cases d with
 | tp l =>
  have h:(oO l&&(l.all oX&&decide (l.length<=1000)))=true:=h;have h':=h;rw[aj,aj]at h';obtain⟨k,hk⟩:=al3 bl4 h'.2.1;exact⟨k,by show(if(oO l&&(l.all oX&&decide (l.length<=1000)))=true then am7 l else none)=some k;rw[if_pos h];exact hk⟩
 | _=>cases h
def cv4 (h:fOf d=some k)(r:RV Γ C H d v):v=fV k:=by
 cases d with
 | N=>cases h;exact r.nonE
 | int i=>cases h;exact r.intE
 | str x=>cases h;exact r.strE
 | _=>cases h
theorem bU4 :∀ {l} {k} {z},qz fOf l=some k->RVL Γ C H l z->z=k.map fV
 | [],k,z,h,r=>by cases h;exact r.unnil
 | d::l,k,z,h,r=>by
  unfold qz at h;split at h
  .rename_i k1 r1 e1 e2;cases h;obtain⟨x,ys,rfl,G,F⟩:=r.uncons;rw[cv4 e1 G,bU4 e2 F,av]
  .cases h
theorem bd9 :∀ {l} {k} {F},am7 l=some k->l.all oX=true->RVL Γ C H l F->dz (NAt H) k F
 | [],k,F,h,_,r=>by cases h;cases r.unnil;exact .nil
 | d::l,k,F,h,z,r=>by
  unfold am7 qz at h;rw[cz,aj]at z;split at h
  .rename_i k1 r1 e1 e2;cases h;obtain⟨x,ys,rfl,G,J⟩:=r.uncons;refine .cons ?_ (bd9 e2 z.2 J);rcases qY e1 with⟨m,q,rfl,e,rfl⟩|⟨f,e,rfl⟩
   .obtain⟨a,F,e',Y,Z⟩:=G.tupK (aA4 z.1).1;rw[bU4 e Z]at Y;exact⟨a,e',Y⟩
   .exact cv4 e G
  .cases h
def aq5 (h:bT3 d=some k)(r:RV Γ C H d v):∃ b,v=.ref b/\NK H k b:=by
 obtain⟨l,rfl,z,hk⟩:=aj7 h;obtain⟨a,F,e,J,G⟩:=r.tupK z.1;exact⟨a,e,F,J,bd9 hk z.2.1 G⟩
def cu9 (h:fOf d=some k)(hl:d.keyF=true):RV Γ C H d (fV k):=by
 cases d with
 | N=>cases h;exact RV.nonI
 | int i=>cases h;exact RV.intI
 | str x=>cases h;exact RV.strI (ar (of_decide_eq_true hl) (by decide))
 | _=>cases h
theorem bX0 :∀ {l} {k},qz fOf l=some k->l.all pT=true->RVL Γ C H l (k.map fV)
 | [],k,h,_=>by cases h;exact .nil
 | d::l,k,h,z=>by
  unfold qz at h;rw[cz,aj]at z;split at h
  .rename_i k1 r1 e1 e2;cases h;exact .cons (cu9 e1 z.1) (bX0 e2 z.2)
  .cases h
def cy6 (h:nOf d=some k)(hl:d.keyS=true)(hv:NAt H k v):RV Γ C H d v:=by
 rcases qY h with⟨m,q,rfl,e,rfl⟩|⟨f,e,rfl⟩
 .obtain⟨c,rfl,hc⟩:=hv;exact RV.tupI hc (bX0 e (aA4 hl).2.1)
 .cases hv;refine cu9 e ?_;cases d with
  | tp l=>cases e
  | _=>exact hl
theorem bl7 :∀ {l} {k} {F},am7 l=some k->l.all oX=true->dz (NAt H) k F->RVL Γ C H l F
 | [],k,F,h,_,p=>by cases h;cases p;exact .nil
 | d::l,k,F,h,z,p=>by
  unfold am7 qz at h;rw[cz,aj]at z;split at h
  .rename_i k1 r1 e1 e2;cases h;cases p with
   | cons h1 t=>exact .cons (cy6 e1 z.1 h1) (bl7 e2 z.2 t)
  .cases h
theorem aE8 :∀ {l} {k},qz f l=some k->k.length=l.length
 | [],k,h=>by cases h;rfl
 | d::l,k,h=>by
  unfold qz at h;split at h
  .rename_i k1 r1 e1 e2;cases h;rw[aR,aR,aE8 e2]
  .cases h
def bo9 (h:bT3 d=some k):k≠[]/\k.length<=1000:=by
 obtain⟨l,rfl,z,hk⟩:=aj7 h;have:=aE8 hk;refine⟨λ e=>?_,by lia⟩;subst e;have hl:=bM.mp this.symm;subst hl;cases z.1
section
variable {κ:Type} [DecidableEq κ] {kf:oD->Option κ}
theorem RVD.val (J:by5 kf)(hk:kf d=some k):∀ {l} {F},RVD kf Γ C H l F->(pb d l=none/\aQ5 F k=none)\/∃ e v,pb d l=some e/\aQ5 F k=some v/\RV Γ C H e v/\e∈l.map (·.2)
 | [],F,h=>by
  have h:=h;subst h;exact .inl ⟨rfl,rfl⟩
 | (a,e)::l,F,h=>by
  obtain⟨G,v,r,rfl,e2,Z,e4⟩:=h;by_cases z:a=d
  .subst z;rw[hk]at e2;cases e2;exact .inr ⟨e,v,by unfold pb;rw[if_pos rfl],ao6 rfl,Z,by simp⟩
  .have zk:¬ G=k:=λ q=>z (J e2 (by rw[q];exact hk));have e5:pb d ((a,e)::l)=pb d l:=by
    conv=>lhs;unfold pb
    rw[if_neg z]
   rw[e5,ao9 (zk)];rcases RVD.val J hk e4 with q|⟨e',v',Y,q2,q3,q4⟩
   .exact .inl q
   .exact .inr ⟨e',v',Y,q2,q3,by simp at q4 ⊢;exact .inr q4⟩
theorem RVD.repl (G:by5 kf)(hk:kf d=some k)(hv:RV Γ C H e v):∀ {l} {F},RVD kf Γ C H l F->RVD kf Γ C H (l.map λ p=>if p.1=d then(p.1,e)else p) (F.map λ kv=>if kv.1=k then(kv.1,v)else kv)
 | [],F,h=>by
  have h:=h;subst h;exact(rfl)
 | (a,e0)::l,F,h=>by
  obtain⟨Y,v0,r,rfl,e2,Z,J⟩:=h;rw[av,av];by_cases z:a=d
  .subst z;rw[hk]at e2;cases e2;rw[if_pos rfl,if_pos rfl];exact⟨k,v,_,rfl,hk,hv,RVD.repl G hk hv J⟩
  .have zk:¬ Y=k:=λ q=>z (G e2 (by rw[q];exact hk));rw[if_neg z,if_neg zk];exact⟨Y,v0,_,rfl,e2,Z,RVD.repl G hk hv J⟩
theorem RVD.snoc (Y:by5 kf)(hk:kf d=some k)(hv:RV Γ C H e v):∀ {l} {z},RVD kf Γ C H l z->RVD kf Γ C H (l++[(d,e)]) (z++[(k,v)])
 | [],z,h=>by
  have h:=h;subst h;exact⟨k,v,[],rfl,hk,hv,rfl⟩
 | (a,e0)::l,z,h=>by
  obtain⟨J,v0,r,rfl,e2,F,G⟩:=h;exact⟨J,v0,_,rfl,e2,F,RVD.snoc Y hk hv G⟩
def RVD.put (G:by5 kf)(hk:kf d=some k)(hv:RV Γ C H e v)(h:RVD kf Γ C H l z):RVD kf Γ C H (pd d e l) (aZ0 z k v):=by
 unfold pd aZ0;rw[ay5];rcases h.val G hk with⟨F,q2⟩|⟨e',v',F,q2,_⟩
 .rw[F,q2];exact h.snoc G hk hv
 .rw[F,q2];exact h.repl G hk hv
theorem RVD.get :∀ {l} {z} {i:Nat} {d e},RVD kf Γ C H l z->l[i]?=some (d,e)->∃ k v,z[i]?=some (k,v)/\kf d=some k/\RV Γ C H e v
 | [],_,_,_,_,_,h=>by cases h
 | (a,b)::l,z,0,d,e,h,q=>by
  obtain⟨k,v,r,rfl,e2,F,G⟩:=h;cases q;exact⟨k,v,rfl,e2,F⟩
 | (a,b)::l,z,i+1,d,e,h,q=>by
  obtain⟨k,v,r,rfl,e2,F,G⟩:=h;exact RVD.get (i:=i) G (q)
theorem RVD.keys :∀ {l} {F},RVD kf Γ C H l F->∀ kv∈F,∃ d,kf d=some kv.1
 | [],F,h,kv,hk=>by
  have h:=h;subst h;cases hk
 | (a,b)::l,F,h,kv,hk=>by
  obtain⟨k,v,r,rfl,e2,J,G⟩:=h;rcases az.mp hk with z|z
  .subst z;exact⟨a,e2⟩
  .exact RVD.keys G kv z
theorem RVD.length :∀ {l} {z},RVD kf Γ C H l z->z.length=l.length
 | [],z,h=>by
  have h:=h;subst h;rfl
 | (a,e)::l,z,h=>by
  obtain⟨J,v,r,rfl,e2,G,F⟩:=h;rw[aR,aR,RVD.length F]
end
def bw0 (h:(DV.O.dit l).bnd n=true)(hd:d.bnd n=true)(F:e.bnd n=true):(DV.O.dit (pd d e l)).bnd n=true:=by
 unfold oK at h ⊢;rw[aj]at h ⊢;obtain⟨J,G⟩:=h;have g1:=ab0.mp J;have z:=ab0.mp G;unfold pd;refine⟨ab0.mpr λ x hx=>?_,ab0.mpr λ x hx=>?_⟩
 .obtain⟨p,hp,rfl⟩:=ay.mp hx;split at hp
  .obtain⟨q,hq,rfl⟩:=ay.mp hp;split
   .exact g1 _ (aX (f:=(·.1)) hq)
   .exact g1 _ (aX hq)
  .rcases aW.mp hp with q|q
   .exact g1 _ (aX q)
   .rw[bA.mp q];exact hd
 .obtain⟨p,hp,rfl⟩:=ay.mp hx;split at hp
  .obtain⟨q,hq,rfl⟩:=ay.mp hp;split
   .exact F
   .exact z _ (aX hq)
  .rcases aW.mp hp with q|q
   .exact z _ (aX q)
   .rw[bA.mp q];exact F
def bs8 (h:(DV.O.dit l).bnd n=true)(hd:d.bnd n=true)(z:e.bnd n=true):(DV.O.dit (pd d e l)).bnd n=true:=bw0 h hd z
def ao7 (h:oY f (a::l) (b::m)=some z):∃ x y,f a b=some x/\oY f l m=some y/\z=(x&&y):=by
 unfold oY at h;cases e1:f a b with
 | none=>rw[e1]at h;cases h
 | some x =>
  cases e2:oY f l m with
  | none=>rw[e1,e2]at h;cases h
  | some y=>rw[e1,e2]at h;exact⟨x,y,rfl,rfl,(aC h).symm⟩
theorem bd8 :∀ {l m} {z},oY f l m=some z->∃ e,(∀ j d d',l[j]?=some d->m[j]?=some d'->f d d'=some (e j))/\((l.length==m.length)&&(bn (min l.length m.length)).all e)=z
 | [],[],z,h=>by
  unfold oY at h;cases h;exact⟨λ _=>true,λ j d d' h=>by simp at h,by simp⟩
 | [],b::m,z,h=>by
  unfold oY at h;cases h;exact⟨λ _=>true,λ j d d' h=>by simp at h,by simp⟩
 | a::l,[],z,h=>by
  unfold oY at h;cases h;exact⟨λ _=>true,λ j d d' J G=>by simp at G,by simp⟩
 | a::l,b::m,z,h=>by
  obtain⟨x,y,e1,e2,Y⟩:=ao7 h;obtain⟨e,J,G⟩:=bd8 e2;refine⟨λ j=>match j with|0=>x|j+1=>e j,λ j d d' g1 F=>?_,?_⟩
  .cases j with
   | zero=>simp at g1 F;subst g1;subst F;exact e1
   | succ j=>exact J j d d' (by simpa using g1) (by simpa using F)
  .rw[aR,aR,show min (l.length+1) (m.length+1)=min l.length m.length+1 by lia,jr,cz,n5,Y,<-G];have:((l.length+1==m.length+1)=(l.length==m.length)):=by
    by_cases q:l.length=m.length
    .simp[]
    .have:=by omega
     simp[]
   rw[this];show((l.length==m.length)&&(x&&(bn _).all e))=_;cases x<;>cases(l.length==m.length)<;>simp
section
variable {X:Cx} {pins:yA} {W:St} {H:Hp} {sh:ag} {C:Nat->Addr} {s:oC}
def ar3 (I:Inv X pins W H sh)(h:H a=some (.J F))(h':SqT X.K H a ys):False:=by
 rcases h' with(z|⟨o,z⟩)|⟨o,its,n,hk,_⟩
 .rw[h]at z;cases z
 .rw[h]at z;cases z
 .have:=(I.bs a o (I.mod.kin a o hk)).2;rw[h]at this;cases this
def rv_two (I:Inv X pins W H sh)(hK:X.K=Γ.K)(R:Rp Γ C H s)(J:RV Γ C H a x)(z:RV Γ C H b x)(n1:o4 s a≠9)(F:o4 s b≠9):a=b\/∃ l m p Y,a=.tp l/\b=.tp m/\x=.ref p/\RVL Γ C H l Y/\RVL Γ C H m Y:=by
 have G:∀ {r:Nat},o4 s (.ref r)≠9->∃ l,s[r]?=some (.J l):=λ {r} h=>by
  have h:(match s[r]? with|some (DV.O.J l)=>4|_=>9:Nat)≠9:=h;cases hs:s[r]? with
  | none=>rw[hs]at h;exact absurd rfl h
  | some o =>
   rw[hs]at h;cases o with
   | J l=>exact⟨l,rfl⟩
   | _=>exact absurd rfl h
 cases a with
 | N=>have e:=J.nonE;subst e;cases b with
  | N=>exact .inl rfl
  | T _=>cases z.blE
  | int _=>cases z.intE
  | str _=>cases z.strE
  | tp _=>obtain⟨_,_,e,_⟩:=z.tupE;cases e
  | ref _=>cases z.refE
  | fn _=>exact absurd rfl F
  | clo _ _=>exact absurd rfl F
 | T p=>have e:=J.blE;subst e;cases b with
  | N=>cases z.nonE
  | T _=>cases z.blE;exact .inl rfl
  | int _=>cases z.intE
  | str _=>cases z.strE
  | tp _=>obtain⟨_,_,e,_⟩:=z.tupE;cases e
  | ref _=>cases z.refE
  | fn _=>exact absurd rfl F
  | clo _ _=>exact absurd rfl F
 | int p=>have e:=J.intE;subst e;cases b with
  | N=>cases z.nonE
  | T _=>cases z.blE
  | int _=>cases z.intE;exact .inl rfl
  | str _=>cases z.strE
  | tp _=>obtain⟨_,_,e,_⟩:=z.tupE;cases e
  | ref _=>cases z.refE
  | fn _=>exact absurd rfl F
  | clo _ _=>exact absurd rfl F
 | str p=>have e:=J.strE;subst e;cases b with
  | N=>cases z.nonE
  | T _=>cases z.blE
  | int _=>cases z.intE
  | str q =>
   have e':p.toArray=q.toArray:=Str.mk.inj (V.str.inj z.strE);have a0:p=q:=by simpa using congrArg lG e'
   subst a0;exact .inl rfl
  | tp _=>obtain⟨_,_,e,_⟩:=z.tupE;cases e
  | ref _=>cases z.refE
  | fn _=>exact absurd rfl F
  | clo _ _=>exact absurd rfl F
 | tp l =>
  obtain⟨p,Y,e,Z,d1⟩:=J.tupE;subst e;cases b with
  | N=>cases z.nonE
  | T _=>cases z.blE
  | int _=>cases z.intE
  | str _=>cases z.strE
  | tp m =>
   obtain⟨p',ys,e,q2,d2⟩:=z.tupE;cases e;rw[<-hK]at Z q2;rw[I.tuple_inj q2 Z]at d2;exact .inr ⟨l,m,p,Y,rfl,rfl,rfl,d1,d2⟩
  | ref r =>
   cases z.refE;obtain⟨m,hm⟩:=G F;obtain⟨ys,hy,_⟩:=R.addr hm;rw[<-hK]at Z;exact(ar3 I hy Z).elim
  | fn _=>exact absurd rfl F
  | clo _ _=>exact absurd rfl F
 | ref r =>
  have e:=J.refE;subst e;obtain⟨l,hl⟩:=G n1;obtain⟨Y,hx,_⟩:=R.addr hl;cases b with
  | N=>cases z.nonE
  | T _=>cases z.blE
  | int _=>cases z.intE
  | str _=>cases z.strE
  | tp m =>
   obtain⟨p',ys,e,q2,d2⟩:=z.tupE;cases e;rw[<-hK]at q2;exact(ar3 I hx q2).elim
  | ref r' =>
   obtain⟨m,hm⟩:=G F;have e:C r=C r':=V.ref.inj z.refE;rw[R.inj r r' _ _ hl hm rfl rfl e];exact .inl rfl
  | fn _=>exact absurd rfl F
  | clo _ _=>exact absurd rfl F
 | fn _=>exact absurd rfl n1
 | clo _ _=>exact absurd rfl n1
def jb (h:o5 s a b=some z):rm a b=some z\/(rm a b=none/\pL (o4 s a) (o4 s b)=false/\z=false):=by
 unfold o5 at h;cases e:rm a b with
 | some w=>rw[e]at h;exact .inl h
 | none =>
  rw[e]at h;cases q:pL (o4 s a) (o4 s b)with
  | true=>rw[q]at h;cases h
  | false=>rw[q]at h;exact .inr ⟨rfl,rfl,(aC h).symm⟩
def bu7 (h:rm a b=some z):o4 s a≠9/\o4 s b≠9:=by
 cases a<;>cases b<;>first|(cases h;done)|(constructor<;>(intro z;cases z))
def aj9 (h:o5 s a b=some z):o4 s a≠9/\o4 s b≠9:=by
 rcases jb h with h|⟨_,h,_⟩
 .exact bu7 h
 .unfold pL at h;simp only[gG,beq_eq_false_iff_ne]at h;exact⟨h.1.1,h.1.2⟩
def aN1 (h:o5 s a a=some z):z=true:=by
 rcases jb h with h|⟨_,h,_⟩
 .cases a<;>cases h<;>first|rfl|exact beq_self_eq_true _
 .unfold pL at h;simp at h
def aQ6 (I:Inv X pins W H sh)(hK:X.K=Γ.K)(R:Rp Γ C H s):∀ n a b x z ,oP s n a b=some z->RV Γ C H a x->RV Γ C H b x->z=true:=by
 have Y:∀ a b x z ,o5 s a b=some z->RV Γ C H a x->RV Γ C H b x->z=true:=by
  intro a b x z h G F;rcases rv_two I hK R G F (aj9 h).1 (aj9 h).2 with e|⟨l,m,_,_,rfl,rfl,_⟩
  .subst e;exact aN1 h
  .rcases jb h with h|⟨_,h,_⟩
   .cases h
   .unfold pL at h;simp[o4]at h
 intro n
 induction n with
 | zero=>intro a b x z h;unfold oP at h;exact Y a b x z h
 | succ n ih =>
  have a1:∀ l m J z ,oY (oP s n) l m=some z->RVL Γ C H l J->RVL Γ C H m J->z=true:=by
   intro l
   induction l with
   | nil =>
    intro m J z h G F;cases m with
    | nil=>unfold oY at h;exact(aC h).symm
    | cons b m=>obtain⟨x,r,e,_⟩:=F.uncons;rw[G.unnil]at e;cases e
   | cons a l ihl =>
    intro m J z h G F;cases m with
    | nil=>obtain⟨x,r,e,_⟩:=G.uncons;rw[F.unnil]at e;cases e
    | cons b m =>
     obtain⟨p,q,e1,e2,ez⟩:=ao7 h;obtain⟨v,r,rfl,g1,g2⟩:=G.uncons;obtain⟨v',r',e,g3,g4⟩:=F.uncons;cases e;rw[ez,ih a b v p e1 g1 g3,ihl m r q e2 g2 g4];rfl
  intro a b x z h G F;unfold oP at h;split at h
  .rename_i l m;obtain⟨a,J,rfl,q1,d1⟩:=G.tupE;obtain⟨b,ys,e,q2,Z⟩:=F.tupE;cases e;rw[<-hK]at q1 q2;rw[I.tuple_inj q2 q1]at Z;exact a1 l m J z h d1 Z
  .rename_i p q;split at h
   .rename_i l m hl hm;obtain⟨J,e1,d1⟩:=R.addr hl;obtain⟨ys,e2,Z⟩:=R.addr hm;have e:=G.refE.symm.trans F.refE;have e':=V.ref.inj e;rw[e',e2]at e1;have e3:=by injection (aC e1)
    subst e3;split at h
    .exact a1 l m ys z h d1 Z
    .rename_i a0;exact absurd (d1.length.symm.trans Z.length) a0
   .cases h
  .exact Y a b x z h G F
end
variable {Γ:Gm}
inductive Vw (sh:ag):Nat->Value->Prop where
 | N:Vw sh 0 .none
 | T (b:Bool):Vw sh 1 (.bool b)
 | int (i:Int) (t:Tok):Vw sh 1 (.int i t)
 | str (x:Str) (t:Tok):Vw sh 2 (.str x t)
 | tp {l:Addr} {items:yJ} (h:sh.heap.IsTuple l items):Vw sh 3 (.ref l)
 | J {l:Addr} {items:yJ} (h:sh.heap.IsList l items):Vw sh 4 (.ref l)
def Vw.eq (a:Vw sh k u)(b:Vw sh F v)(z:k≠F)(hu:A.units<cLine):iu A sh u v false:=by
 cases a with
 | N=>cases b with
  | N=>exact absurd rfl z
  | T b=>exact SeqAt.EqAt.none_bool b
  | int i t=>exact kH i t
  | str x t=>exact kI x t
  | tp h=>exact jN h hu
  | J h=>exact SeqAt.EqAt.none_list h hu
 | T a=>cases b with
  | N=>exact SeqAt.EqAt.bool_none a
  | T b=>exact absurd rfl z
  | int i t=>exact absurd rfl z
  | str x t=>exact SeqAt.EqAt.bool_str a x t
  | tp h=>exact SeqAt.EqAt.bool_tuple a h hu
  | J h=>exact SeqAt.EqAt.bool_list a h hu
 | int a q=>cases b with
  | N=>exact kJ a q
  | T b=>exact absurd rfl z
  | int i t=>exact absurd rfl z
  | str x t=>exact kY a q x t
  | tp h=>exact jZ a q h hu
  | J h=>exact SeqAt.EqAt.int_list a q h hu
 | str a q=>cases b with
  | N=>exact kK a q
  | T b=>exact SeqAt.EqAt.str_bool a q b
  | int i t=>exact kZ a q i t
  | str x t=>exact absurd rfl z
  | tp h=>exact j7 a q h hu
  | J h=>exact SeqAt.EqAt.str_list a q h hu
 | tp g=>cases b with
  | N=>exact jO g hu
  | T b=>exact SeqAt.EqAt.tuple_bool b g hu
  | int i t=>exact j8 i t g hu
  | str x t=>exact j9 x t g hu
  | tp h=>exact absurd rfl z
  | J h=>exact SeqAt.EqAt.tuple_list g h hu
 | J g=>cases b with
  | N=>exact SeqAt.EqAt.list_none g hu
  | T b=>exact SeqAt.EqAt.list_bool b g hu
  | int i t=>exact SeqAt.EqAt.list_int i t g hu
  | str x t=>exact SeqAt.EqAt.list_str x t g hu
  | tp h=>exact SeqAt.EqAt.list_tuple g h hu
  | J h=>exact absurd rfl z
def Vw.rc (a:Vw sh k u)(b:Vw sh F v)(z:k≠F)(hu:A.units<cLine):oA A sh u v false:=by
 cases a with
 | N=>cases b with
  | N=>exact absurd rfl z
  | T b=>exact SeqAt.RcAt.none_bool b
  | int i t=>exact SeqAt.RcAt.none_int i t
  | str x t=>exact SeqAt.RcAt.none_str x t
  | tp h=>exact SeqAt.RcAt.none_tuple h hu
  | J h=>exact SeqAt.RcAt.none_list h hu
 | T a=>cases b with
  | N=>exact SeqAt.RcAt.bool_none a
  | T b=>exact absurd rfl z
  | int i t=>exact absurd rfl z
  | str x t=>exact SeqAt.RcAt.bool_str a x t
  | tp h=>exact SeqAt.RcAt.bool_tuple a h hu
  | J h=>exact SeqAt.RcAt.bool_list a h hu
 | int a q=>cases b with
  | N=>exact SeqAt.RcAt.int_none a q
  | T b=>exact absurd rfl z
  | int i t=>exact absurd rfl z
  | str x t=>exact SeqAt.RcAt.int_str a q x t
  | tp h=>exact SeqAt.RcAt.int_tuple a q h hu
  | J h=>exact SeqAt.RcAt.int_list a q h hu
 | str a q=>cases b with
  | N=>exact SeqAt.RcAt.str_none a q
  | T b=>exact SeqAt.RcAt.str_bool a q b
  | int i t=>exact SeqAt.RcAt.str_int a q i t
  | str x t=>exact absurd rfl z
  | tp h=>exact SeqAt.RcAt.str_tuple a q h hu
  | J h=>exact SeqAt.RcAt.str_list a q h hu
 | tp g=>cases b with
  | N=>exact SeqAt.RcAt.tuple_none g hu
  | T b=>exact SeqAt.RcAt.tuple_bool b g hu
  | int i t=>exact SeqAt.RcAt.tuple_int i t g hu
  | str x t=>exact SeqAt.RcAt.tuple_str x t g hu
  | tp h=>exact absurd rfl z
  | J h=>exact SeqAt.RcAt.tuple_list g h hu
 | J g=>cases b with
  | N=>exact SeqAt.RcAt.list_none g hu
  | T b=>exact SeqAt.RcAt.list_bool b g hu
  | int i t=>exact SeqAt.RcAt.list_int i t g hu
  | str x t=>exact SeqAt.RcAt.list_str x t g hu
  | tp h=>exact SeqAt.RcAt.list_tuple g h hu
  | J h=>exact absurd rfl z
def Vw.ne (a:Vw sh k u)(b:Vw sh F v)(z:k≠F)(hu:A.units<cLine):oa A sh u v true:=by
 cases a with
 | N=>cases b with
  | N=>exact absurd rfl z
  | T b=>exact SeqAt.RcNeAt.none_bool b
  | int i t=>exact SeqAt.RcNeAt.none_int i t
  | str x t=>exact SeqAt.RcNeAt.none_str x t
  | tp h=>exact SeqAt.RcNeAt.none_tuple h hu
  | J h=>exact SeqAt.RcNeAt.none_list h hu
 | T a=>cases b with
  | N=>exact SeqAt.RcNeAt.bool_none a
  | T b=>exact absurd rfl z
  | int i t=>exact absurd rfl z
  | str x t=>exact SeqAt.RcNeAt.bool_str a x t
  | tp h=>exact SeqAt.RcNeAt.bool_tuple a h hu
  | J h=>exact SeqAt.RcNeAt.bool_list a h hu
 | int a q=>cases b with
  | N=>exact SeqAt.RcNeAt.int_none a q
  | T b=>exact absurd rfl z
  | int i t=>exact absurd rfl z
  | str x t=>exact SeqAt.RcNeAt.int_str a q x t
  | tp h=>exact SeqAt.RcNeAt.int_tuple a q h hu
  | J h=>exact SeqAt.RcNeAt.int_list a q h hu
 | str a q=>cases b with
  | N=>exact SeqAt.RcNeAt.str_none a q
  | T b=>exact SeqAt.RcNeAt.str_bool a q b
  | int i t=>exact SeqAt.RcNeAt.str_int a q i t
  | str x t=>exact absurd rfl z
  | tp h=>exact SeqAt.RcNeAt.str_tuple a q h hu
  | J h=>exact SeqAt.RcNeAt.str_list a q h hu
 | tp g=>cases b with
  | N=>exact SeqAt.RcNeAt.tuple_none g hu
  | T b=>exact SeqAt.RcNeAt.tuple_bool b g hu
  | int i t=>exact SeqAt.RcNeAt.tuple_int i t g hu
  | str x t=>exact SeqAt.RcNeAt.tuple_str x t g hu
  | tp h=>exact absurd rfl z
  | J h=>exact SeqAt.RcNeAt.tuple_list g h hu
 | J g=>cases b with
  | N=>exact SeqAt.RcNeAt.list_none g hu
  | T b=>exact SeqAt.RcNeAt.list_bool b g hu
  | int i t=>exact SeqAt.RcNeAt.list_int i t g hu
  | str x t=>exact SeqAt.RcNeAt.list_str x t g hu
  | tp h=>exact SeqAt.RcNeAt.list_tuple g h hu
  | J h=>exact absurd rfl z
def ce6 (a b:List Nat):((⟨a.toArray⟩:Str)==⟨b.toArray⟩)=(a==b):=by
 by_cases e:a=b
 .subst e;simp
 .have:(⟨a.toArray⟩:Str)≠⟨b.toArray⟩:=λ q=>e (by simpa using congrArg (λ z=>z.cps.toList) q);rw[beq_eq_false_iff_ne.mpr this,beq_eq_false_iff_ne.mpr e]
structure Cmp (A:be)(sh:ag)(u v:Value)(z:Bool):Prop where
 rc:oA A sh u v z
 ne:oa A sh u v (!z)
section
variable {X:Cx} {pins:yA} {W:St} {H:Hp} {sh:ag} {C:Nat->Addr} {s:oC}
def cj5 (I:Inv X pins W H sh)(z:X.K=Γ.K)(R:Rp Γ C H s)(h:RV Γ C H d x)(r:RelV x u)(hk:o4 s d≠9):Vw sh (o4 s d) u:=by
 cases d with
 | N=>have e:=h.nonE;subst e;cases r;exact .N
 | T b=>have e:=h.blE;subst e;cases r;exact .T b
 | int i=>have e:=h.intE;subst e;obtain⟨t,rfl⟩:=r;exact .int i t
 | str y=>have e:=h.strE;subst e;obtain⟨t,rfl⟩:=r;exact .str _ t
 | tp l =>
  obtain⟨a,F,e,q,_⟩:=h.tupE;subst e;cases r;rw[<-z]at q;obtain⟨its,_,t,_⟩:=I.tuple q;exact .tp t
 | ref n =>
  have e:=h.refE;subst e;cases r;have hk:(match s[n]? with|some (DV.O.J l)=>4|_=>9:Nat)≠9:=hk;show Vw sh (match s[n]? with|some (DV.O.J l)=>4|_=>9:Nat) _;cases hs:s[n]? with
  | none=>rw[hs]at hk;exact absurd rfl hk
  | some o =>
   rw[hs]at hk;cases o with
   | J l =>
    obtain⟨F,e,_⟩:=R.addr hs;obtain⟨its,_,t,_⟩:=I.list (SqL.of e);exact .J t.isList
   | _=>exact absurd rfl hk
 | fn _=>exact absurd rfl hk
 | clo _ _=>exact absurd rfl hk
def aG0 (I:Inv X pins W H sh)(Y:X.K=Γ.K)(R:Rp Γ C H s)(h:o5 s a b=some z)(G:RV Γ C H a x)(F:RV Γ C H b y)(r1:RelV x u)(r2:RelV y v)(hu:A.units<cLine) :
  iu A sh u v z/\Cmp A sh u v z:=by
 rcases jb h with h|⟨_,hn,hz⟩
 .cases a<;>cases b<;>try cases h
  .cases G.nonE;cases F.nonE;cases r1;cases r2;exact⟨fw _,SeqAt.RcAt.none_none,SeqAt.RcNeAt.none_none⟩
  .cases G.blE;cases F.blE;cases r1;cases r2;exact⟨ku _ _,SeqAt.RcAt.bool_bool _ _,SeqAt.RcNeAt.bool_bool _ _⟩
  .cases G.blE;cases F.intE;cases r1;obtain⟨t',rfl⟩:=r2;exact⟨SeqAt.EqAt.bool_int _ _ _,SeqAt.RcAt.bool_int _ _ _,SeqAt.RcNeAt.bool_int _ _ _⟩
  .cases G.intE;cases F.blE;obtain⟨t,rfl⟩:=r1;cases r2;exact⟨SeqAt.EqAt.int_bool _ _ _,SeqAt.RcAt.int_bool _ _ _,SeqAt.RcNeAt.int_bool _ _ _⟩
  .cases G.intE;cases F.intE;obtain⟨t,rfl⟩:=r1;obtain⟨t',rfl⟩:=r2;exact⟨SeqAt.EqAt.int_int _ _ _ _,SeqAt.RcAt.int_int _ _ _ _,SeqAt.RcNeAt.int_int _ _ _ _⟩
  .cases G.strE;cases F.strE;obtain⟨t,rfl⟩:=r1;obtain⟨t',rfl⟩:=r2;rw[<-ce6];exact⟨SeqAt.EqAt.str_str _ _ _ _,SeqAt.RcAt.str_str _ _ _ _,SeqAt.RcNeAt.str_str _ _ _ _⟩
 .subst hz;unfold pL at hn;simp only[gG,beq_eq_false_iff_ne]at hn;have J:=cj5 I Y R G r1 hn.1.1;have w2:=cj5 I Y R F r2 hn.1.2;exact⟨J.eq w2 hn.2 hu,J.rc w2 hn.2 hu,J.ne w2 hn.2 hu⟩
def bc6 (I:Inv X pins W H sh)(hK:X.K=Γ.K)(R:Rp Γ C H s):∀ n a b x y u v A z ,oP s n a b=some z->RV Γ C H a x->RV Γ C H b y->RelV x u->RelV y v->Room n A ->
  iu A sh u v z/\Cmp A sh u v z:=by
 intro n
 induction n with
 | zero=>intro a b x y u v A z h h1 h2 r1 r2 hr;unfold oP at h;exact aG0 I hK R h h1 h2 r1 r2 hr.units0
 | succ n ih =>
  have F:∀ {l m:List oD} {xs ys:List V} {its its':yG} {A:be} {e:Nat->Bool},RVL Γ C H l xs->RVL Γ C H m ys->Vals xs its->Vals ys its'->Room n A->(∀ j d d',l[j]?=some d->m[j]?=some d'->oP s n d d'=some (e j)) ->
    ∀ j (h1:j<its.toArray.size) (h2:j<its'.toArray.size),iu A sh its.toArray[j] its'.toArray[j] (e j):=by
   intro l m xs ys its its' A e d1 Y v1 Z hr he j h1 h2;have l1:=v1.length;have l2:=Z.length;have e1:=d1.length;have e2:=Y.length;have a4:=by simpa using h1
   have a2:=by simpa using h2
   have hj:j<l.length:=by lia
   have a1:j<m.length:=by lia
   obtain⟨x,ex,dx⟩:=d1.get (ai hj);obtain⟨y,ey,dy⟩:=Y.get (ai a1);obtain⟨u,eu,ru⟩:=v1.get ex;obtain⟨w,ew,a3⟩:=Z.get ey;have g1:its.toArray[j]=u:=by
    have:=ai a4;rw[eu]at this;simpa using(aC this).symm
   have g2:its'.toArray[j]=w:=by
    have:=ai a2;rw[ew]at this;simpa using(aC this).symm
   rw[g1,g2];exact(ih _ _ x y u w A (e j) (he j _ _ (ai hj) (ai a1)) dx dy ru a3 hr).1
  intro a b x y u v A z h h1 h2 r1 r2 hr;have hz:=h;unfold oP at h;split at h
  .rename_i l m;obtain⟨p,xs,ex,q1,d1⟩:=id h1.tupE;obtain⟨q,ys,ey,q2,Y⟩:=id h2.tupE;subst ex;subst ey;cases r1;cases r2;rw[<-hK]at q1 q2;obtain⟨its,v1,t1,_⟩:=I.tuple q1;obtain⟨its',Z,t2,_⟩:=I.tuple q2;obtain⟨e,he,G⟩:=bd8 h;have l1:=v1.length;have l2:=Z.length;have e1:=d1.length;have e2:=Y.length;have sz:((bn (min its.toArray.size its'.toArray.size)).all e&&its.toArray.size==its'.toArray.size)=z:=by
    rw[<-G,Bool.and_comm,show its.toArray.size=l.length by simp;lia,show its'.toArray.size=m.length by simp;lia]
   have key:=lE t1 t2 hr.units0 (F d1 Y v1 Z hr.in1 he);have J:=SeqAt.RcNeAt.tuples t1 t2 hr.units0 (F d1 Y v1 Z hr.in1 he);rw[sz]at key J;refine⟨?_,key,J⟩;by_cases hab:p=q
   .subst hab;rw[aQ6 I hK R _ _ _ _ _ hz h1 h2];exact fw _
   .exact ib hab key
  .rename_i p q;split at h
   .rename_i l m hl hm;obtain⟨xs,e1,d1⟩:=R.addr hl;obtain⟨ys,e2,Y⟩:=R.addr hm;have ex:=h1.refE;have ey:=h2.refE;subst ex;subst ey;cases r1;cases r2;obtain⟨its,v1,t1,_⟩:=I.list (SqL.of e1);obtain⟨its',Z,t2,_⟩:=I.list (SqL.of e2);have l1:=v1.length;have l2:=Z.length;have c1:=d1.length;have c2:=Y.length;have fin:Cmp A sh (.ref (C p)) (.ref (C q)) z:=by
     split at h
     .rename_i a0;obtain⟨e,he,G⟩:=bd8 h;have sz:(bn its.toArray.size).all e=z:=by
       rw[<-G,show its.toArray.size=l.length by simp;omega,a0];simp
      have key:=SeqAt.RcAt.lists t1.isList t2.isList (by simp;lia) hr.units0 (F d1 Y v1 Z hr.in1 he);have J:=SeqAt.RcNeAt.lists (s:=sh) (e:=e) t1.isList t2.isList (by simp;omega) hr.units0 (F d1 Y v1 Z hr.in1 he);rw[sz]at key J;exact⟨key,J⟩
     .rename_i a0;cases h;have hs:(its.toArray.size != its'.toArray.size)=true:=by simp;lia
      exact⟨SeqAt.RcAt.lists_lengths t1.isList t2.isList hs hr.units0,SeqAt.RcNeAt.lists_lengths t1.isList t2.isList hs hr.units0⟩
    refine⟨?_,fin⟩;by_cases hab:C p=C q
    .rw[aQ6 I hK R _ _ _ _ _ hz RV.refI (by rw[hab];exact RV.refI),hab];exact fw _
    .exact ib hab fin.rc
   .cases h
  .exact aG0 I hK R h h1 h2 r1 r2 hr.units0
end
variable {Γ:Gm} {X:Cx}
noncomputable def cs8:rH->Operator
 | .add=>.Add|.sub=>.Sub|.mul=>.Mult|.fdiv=>.FloorDiv|.mod=>.Mod|.pow=>.Pow|.shl=>.LShift|.shr=>.RShift|.band=>.BitAnd|.bor=>.BitOr
noncomputable def av3:pY->CmpOp
 | .eq=>.Eq|.ne=>.NotEq|.lt=>.Lt|.le=>.LtE|.gt=>.Gt|.ge=>.GtE|.isin=>.In|.notin=>.NotIn
def rOp (Γ:Gm)(f:oD->oD->oC->oH oD):R2:=λ x y H Q=>∃ C s a b d s',Rp Γ C H s/\RV Γ C H a x/\RV Γ C H b y/\a.bnd s.length=true/\b.bnd s.length=true/\f a b s=.ok d s'/\ah0 Γ C s H d s' Q
def qg (h:rn d s=.ok e t):d=e/\s=t:=by
 unfold rn at h;cases h;exact⟨rfl,rfl⟩
def qj (h:pB o s=.ok e t):e=.ref s.length/\t=s++[o]:=by
 unfold pB at h;cases h;exact⟨rfl,rfl⟩
def bb8 (a b:List Nat):(⟨a.toArray⟩:Str)++⟨b.toArray⟩=⟨(a++b).toArray⟩:=by
 show Str.append _ _=_;unfold Str.append;simp
def z7:oN<=aV:=by rw[dL];decide
def bI9:OpR X (c5 .Mult) (rI (λ i j=>DV.mulOk i j=true) λ i j=>.int (i*j)):=opI λ i j _ _ _ _ _ hc q=>mul_int q (by
 unfold DV.mulOk at hc;simp only[cH,aj,decide_eq_true_eq]at hc;rcases hc with(h|h)|⟨F,z⟩
 .exact cl5.ok (.inl (by omega))
 .exact cl5.ok (.inr (by omega))
 .unfold DV.BIG at F z;exact IntMulOk.of_le (intBits_le_iff.mpr F) (intBits_le_iff.mpr z) (by decide))
theorem aP8 l :∀ n z ,(ah n l.toArray).foldl (·++·) z=z++(oZ n l).toArray
 | 0,z=>by simp[oZ]
 | n+1,z=>by
  rw[b8,cE,aP8 l n];simp[oZ]
def bO1 l :oZ 1 l=l:=by simp[oZ]
theorem be7:∀ n,oZ n []=[]
 | 0=>rfl
 | n+1=>by simp[oZ,be7 n]
theorem rep_len l :∀ n,(oZ n l).length=l.length*n
 | 0=>by simp[oZ]
 | n+1=>by simp[oZ,rep_len l n,mO];lia
def bP7:OpR X (c5 .Mult) (λ x y H Q=>∃ l n ,x=.str ⟨l.toArray⟩/\y=.int n/\(0<=n/\n<=1000000/\l.length*n.toNat<=oN)/\Q (.str ⟨(oZ n.toNat l).toArray⟩) H):=by
 intro G s W H x y v u Q I Y ry h;obtain⟨l,n,rfl,rfl,⟨h0,h1,h2⟩,q⟩:=h;obtain⟨t,rfl⟩:=Y;obtain⟨t',rfl⟩:=ry;have z:(⟨l.toArray⟩:Str).length=l.length:=by show l.toArray.size=_;simp
 have hL:=z7;have Z:=at7;refine SB.mul ⟨?_,λ hn _=>?_,λ hn _=>?_⟩ λ t2 k=>?_
 .rw[decide_eq_false (by lia),decide_eq_false (by lia)];rfl
 .rw[z];have F:1<=n:=by omega
  intro J;have h3:(l.length:Int)*n<=1000000:=by
   have:=Int.ofNat_le.mpr h2;rw[fx,gZ h0]at this;have e:((oN:Nat):Int)=1000000:=by unfold oN;rfl
   lia
  have h4:=by
   have:(l.length:Int)*1<=(l.length:Int)*n:=gK F (by lia);omega
  have h5:(1000000:Int)<=(2^63 - 1) / n:=by
   rw[Int.le_ediv_iff_mul_le (by omega)];have:=gK h1 (by omega);lia
  omega
 .rw[z];unfold nJ;exact decide_eq_false (by lia)
 .have e:Txt.mul ⟨l.toArray⟩ n=⟨(oZ n.toNat l).toArray⟩:=by
   unfold Txt.mul;split
   .have:n.toNat=0:=by lia
    rw[this];rfl
   .split
    .rename_i hc;rw[cH]at hc;rcases hc with hc|hc
     .have:=by simpa using hc
      subst this;show(⟨l.toArray⟩:Str)=⟨(oZ 1 l).toArray⟩;rw[bO1]
     .have:=by
       have:=eq_of_beq hc;rw[z]at this;exact bM.mp this
      subst this;rw[be7]
    .skip
     rw[aP8];simp
  rw[e];exact⟨.str _,H,I.tok _,⟨_,rfl⟩,q⟩
theorem ar9 (h:oF n l=true):∀ k,oF n (pp k l)=true
 | 0=>rfl
 | k+1=>zQ h (ar9 h k)
theorem RVL.repD (h:RVL Γ C H l z):∀ k,RVL Γ C H (pp k l) (au3 k z)
 | 0=>RVL.nil
 | k+1=>h.append (RVL.repD h k)
theorem aD8 (z:List α):∀ k,au3 k z=(ah k z).flatten
 | 0=>rfl
 | k+1=>by rw[b8,dM,<-aD8 z k];rfl
def bX4 (hK:X.K=Γ.K) op :OpR X (c5 (cs8 op)) (rOp Γ (DV.qH op)):=by
 intro F s W H x y v u Q I J Y h;obtain⟨C,st,a,b,d,a0,R,ha,hb,na,nb,hf,q⟩:=h;cases op with
 | add =>
  cases a with
  | int a =>
   cases b with
   | int b =>
    obtain⟨rfl,rfl⟩:=qg hf;have ex:=ha.intE;have G:=hb.intE;subst ex;subst G;exact ce0 F s W H _ _ v u Q I J Y ⟨_,_,rfl,rfl,q.here R rfl RV.intI⟩
   | _=>exact fb hf
  | str a =>
   cases b with
   | str b =>
    change(if _ then _ else _:pZ oD) st=_ at hf;split at hf
    .rename_i hl;obtain⟨rfl,rfl⟩:=qg hf;have ex:=ha.strE;have G:=hb.strE;subst ex;subst G;refine aV5 F s W H _ _ v u Q I J Y ⟨_,_,rfl,rfl,?_,?_⟩
     .show a.toArray.size+b.toArray.size<=_;simp only[aw];exact ar hl z7
     .rw[bb8];exact q.here R rfl (RV.strI (by rw[aA];exact hl))
    .exact fb hf
   | _=>exact fb hf
  | tp a =>
   cases b with
   | tp b =>
    change(if _ then _ else _:pZ oD) st=_ at hf;split at hf
    .rename_i hl;obtain⟨rfl,rfl⟩:=qg hf;obtain⟨p,xs,⟨rfl,z1⟩,Z,d1⟩:=ha.tupZ;obtain⟨p',ys,⟨rfl,z2⟩,h2,d2⟩:=hb.tupZ;refine bg4 hK F s W H _ _ v u Q I J Y ⟨p,p',xs,ys,rfl,rfl,Z,h2,?_,λ t H' e ht hn=>?_⟩
     .rw[d1.length,d2.length];exact ar hl z7
     .obtain⟨g,r'⟩:=R.same e;unfold oI at na nb;refine q _ _ _ g (au _) (by unfold oI;exact zQ na nb) (RV.tupC ht (λ z=>?_) ((RVL.mono g _ _ na d1).append (RVL.mono g _ _ nb d2))) r';rcases hn with hn|⟨rfl,rfl⟩|⟨rfl,rfl⟩
      .exact hn
      .rw[d2.tonil,bh]at z;rw[bh];exact e _ _ (z1 z)
      .rw[d1.tonil]at z;exact e _ _ (z2 z)
    .exact fb hf
   | _=>exact fb hf
  | ref a =>
   cases b with
   | ref b =>
    change(match st[a]?,st[b]? with|some (DV.O.J l),some (DV.O.J m)=>if l.length+m.length<=oN then pB (.J (l++m)) st else .B|_,_=>.B:oH oD)=_ at hf;split at hf
    .rename_i l m Z h2;split at hf
     .rename_i hl;obtain⟨rfl,rfl⟩:=qj hf;obtain⟨xs,e1,d1⟩:=R.addr Z;obtain⟨ys,e2,d2⟩:=R.addr h2;have ex:=ha.refE;have G:=hb.refE;subst ex;subst G;have b1:=R.wf _ _ Z;have b2:=R.wf _ _ h2;unfold oK at b1 b2;refine bC5 F s W H _ _ v u Q I J Y ⟨C a,C b,xs,ys,rfl,rfl,e1,e2,?_,λ p hp=>?_⟩
      .rw[d1.length,d2.length];exact ar hl z7
      .exact q.alloc R (d1.append d2) (zQ b1 b2) hp
     .exact fb hf
    .exact fb hf
   | _=>exact fb hf
  | _=>exact fb hf
 | sub =>
  cases a with
  | int a =>
   cases b with
   | int b =>
    obtain⟨rfl,rfl⟩:=qg hf;have ex:=ha.intE;have G:=hb.intE;subst ex;subst G;exact cg6 F s W H _ _ v u Q I J Y ⟨_,_,rfl,rfl,q.here R rfl RV.intI⟩
   | _=>exact fb hf
  | _=>exact fb hf
 | mul =>
  cases a with
  | int a =>
   cases b with
   | int b =>
    change(if _ then _ else _:pZ oD) st=_ at hf;split at hf
    .rename_i hc;obtain⟨rfl,rfl⟩:=qg hf;have ex:=ha.intE;have G:=hb.intE;subst ex;subst G;exact bI9 F s W H _ _ v u Q I J Y ⟨_,_,rfl,rfl,hc,q.here R rfl RV.intI⟩
    .exact fb hf
   | _=>exact fb hf
  | str a =>
   cases b with
   | int b =>
    change(if _ then _ else _:pZ oD) st=_ at hf;split at hf
    .rename_i hc;obtain⟨rfl,rfl⟩:=qg hf;have ex:=ha.strE;have G:=hb.intE;subst ex;subst G;exact bP7 F s W H _ _ v u Q I J Y ⟨_,_,rfl,rfl,hc,q.here R rfl (RV.strI (by rw[rep_len];exact hc.2.2))⟩
    .exact fb hf
   | _=>exact fb hf
  | tp a =>
   cases b with
   | int b =>
    change(if _ then _ else _:pZ oD) st=_ at hf;split at hf
    .rename_i hc;obtain⟨rfl,rfl⟩:=qg hf;obtain⟨p,xs,⟨rfl,z1⟩,Z,d1⟩:=ha.tupZ;have G:=hb.intE;subst G;refine bS1 hK F s W H _ _ v u Q I J Y ⟨p,xs,_,rfl,rfl,Z,⟨hc.1,hc.2.1,by rw[d1.length];exact hc.2.2⟩,λ t H' e ht hn=>?_⟩;obtain⟨g,r'⟩:=R.same e;unfold oI at na;refine q _ _ _ g (au _) (by unfold oI;exact ar9 na _) (RV.tupC ht (λ z=>?_) (RVL.repD (RVL.mono g _ _ na d1) _)) r';rcases hn with hn|⟨rfl,ex⟩
     .exact hn
     .rw[ex];exact e _ _ (z1 (bJ5 z))
    .exact fb hf
   | _=>exact fb hf
  | ref a =>
   cases b with
   | int b =>
    change(match st[a]? with|some (DV.O.J l)=>if 0<=b/\b<=1000000/\l.length*b.toNat<=oN then pB (.J (pp b.toNat l)) st else .B|_=>.B:oH oD)=_ at hf;split at hf
    .rename_i l Z;split at hf
     .rename_i hc;obtain⟨rfl,rfl⟩:=qj hf;obtain⟨xs,e1,d1⟩:=R.addr Z;have ex:=ha.refE;have G:=hb.intE;subst ex;subst G;have b1:=R.wf _ _ Z;unfold oK at b1;refine ca6 F s W H _ _ v u Q I J Y ⟨C a,b,xs,rfl,rfl,e1,by lia,by omega,?_,λ p hp=>?_⟩
      .rw[d1.length];exact ar hc.2.2 z7
      .rw[<-aD8];exact q.alloc R (RVL.repD d1 _) (ar9 b1 _) hp
     .exact fb hf
    .exact fb hf
   | _=>exact fb hf
  | _=>exact fb hf
 | fdiv =>
  cases a with
  | int a =>
   cases b with
   | int b =>
    change(if _ then _ else _:pZ oD) st=_ at hf;split at hf
    .rename_i hc;obtain⟨rfl,rfl⟩:=qg hf;have ex:=ha.intE;have G:=hb.intE;subst ex;subst G;refine bp5 F s W H _ _ v u Q I J Y ⟨_,_,rfl,rfl,⟨hc.1,?_⟩,q.here R rfl RV.intI⟩;have:=hc.2;unfold DV.DIVL at this;simpa using this
    .exact fb hf
   | _=>exact fb hf
  | _=>exact fb hf
 | mod =>
  cases a with
  | int a =>
   cases b with
   | int b =>
    change(if _ then _ else _:pZ oD) st=_ at hf;split at hf
    .rename_i hc;obtain⟨rfl,rfl⟩:=qg hf;have ex:=ha.intE;have G:=hb.intE;subst ex;subst G;exact bU6 F s W H _ _ v u Q I J Y ⟨_,_,rfl,rfl,hc,q.here R rfl RV.intI⟩
    .exact fb hf
   | _=>exact fb hf
  | _=>exact fb hf
 | pow =>
  cases a with
  | int a =>
   cases b with
   | int b =>
    change(if _ then _ else _:pZ oD) st=_ at hf;split at hf
    .rename_i hc;obtain⟨rfl,rfl⟩:=qg hf;have ex:=ha.intE;have G:=hb.intE;subst ex;subst G;exact bZ5 F s W H _ _ v u Q I J Y ⟨_,_,rfl,rfl,hc,q.here R rfl RV.intI⟩
    .exact fb hf
   | _=>exact fb hf
  | _=>exact fb hf
 | shl =>
  cases a with
  | int a =>
   cases b with
   | int b =>
    change(if _ then _ else _:pZ oD) st=_ at hf;split at hf
    .rename_i hc;obtain⟨rfl,rfl⟩:=qg hf;have ex:=ha.intE;have G:=hb.intE;subst ex;subst G;exact ce8 F s W H _ _ v u Q I J Y ⟨_,_,rfl,rfl,hc,q.here R rfl RV.intI⟩
    .exact fb hf
   | _=>exact fb hf
  | _=>exact fb hf
 | shr=>exact fb hf
 | band=>exact fb hf
 | bor=>exact fb hf
variable {Γ:Gm} {X:Cx} {pins:yA} {W:St} {H:Hp} {sh:ag} {C:Nat->Addr} {s:oC}
def aS3 (h:oP s n a b=some z):o4 s a≠9:=by
 cases n with
 | zero=>unfold oP at h;exact(aj9 h).1
 | succ n =>
  unfold oP at h;split at h
  .simp[o4]
  .split at h
   .rename_i F _;simp[o4,F]
   .cases h
  .exact(aj9 h).1
def bj8 (I:Inv X pins W H sh)(Y:X.K=Γ.K)(R:Rp Γ C H s):∀ n a b c x p q ,RV Γ C H a x->RV Γ C H b x->oP s n a c=some p->oP s n b c=some q->p=q:=by
 intro n
 induction n with
 | zero =>
  intro a b c x p q F z e1 e2;rcases rv_two I Y R F z (aS3 e1) (aS3 e2)with e|⟨l,m,_,_,rfl,rfl,_⟩
  .subst e;rw[e1]at e2;exact aC e2
  .unfold oP at e1 e2;have:o5 s (.tp l) c=o5 s (.tp m) c:=by unfold o5;cases c<;>rfl
   rw[this,e2]at e1;exact(aC e1).symm
 | succ n ih =>
  have J:∀ l m k G p q ,RVL Γ C H l G->RVL Γ C H m G->oY (oP s n) l k=some p->oY (oP s n) m k=some q->p=q:=by
   intro l
   induction l with
   | nil =>
    intro m k G p q F z e1 e2;have:=F.unnil;subst this;have hm:=by have:=z.length;exact bM.mp this.symm
    subst hm;rw[e1]at e2;exact aC e2
   | cons a l ihl =>
    intro m k G p q F z e1 e2;obtain⟨x,r,rfl,g1,g2⟩:=F.uncons;cases m with
    | nil=>have:=z.unnil;cases this
    | cons b m =>
     obtain⟨x',r',e,g3,g4⟩:=z.uncons;cases e;cases k with
     | nil=>unfold oY at e1 e2;rw[<-aC e1,<-aC e2]
     | cons c k =>
      obtain⟨p1,p2,a1,a2,a3⟩:=ao7 e1;obtain⟨q1,q2,b1,b2,b3⟩:=ao7 e2;rw[a3,b3,ih a b c x p1 q1 g1 g3 a1 b1,ihl m k r p2 q2 g2 g4 a2 b2]
  intro a b c x p q F z e1 e2;rcases rv_two I Y R F z (aS3 e1) (aS3 e2)with e|⟨l,m,_,G,rfl,rfl,_,d1,Z⟩
  .subst e;rw[e1]at e2;exact aC e2
  .cases c with
   | tp k=>unfold oP at e1 e2;exact J l m k G p q d1 Z e1 e2
   | _ =>
    unfold oP at e1 e2;simp only at e1 e2;have e3:o5 s (.tp l)=o5 s (.tp m):=by funext c;unfold o5;cases c<;>rfl
    rw[e3]at e1;exact aC (e1.symm.trans e2)
theorem bC6 :∀ {l} {z},pC s x l=some z->∃ e:Nat->Bool,(∀ j d,l[j]?=some d->oP s oW d x=some (e j))/\(z=true↔∃ j,j<l.length/\e j=true)
 | [],z,h=>by
  unfold pC at h;cases h;exact⟨λ _=>true,λ j d h=>by simp at h,by simp⟩
 | y::l,z,h=>by
  unfold pC at h;cases e1:oP s oW y x with
  | none=>rw[e1]at h;cases h
  | some a =>
   cases e2:pC s x l with
   | none=>rw[e1,e2]at h;cases h
   | some b =>
    rw[e1,e2]at h;obtain⟨e,G,F⟩:=bC6 e2;refine⟨λ j=>match j with|0=>a|j+1=>e j,λ j d g=>?_,?_⟩
    .cases j with
     | zero=>simp at g;subst g;exact e1
     | succ j=>exact G j d (by simpa using g)
    .have hz:=aC h;rw[<-hz,cH,F];constructor
     .rintro(q|⟨j,hj,q⟩)
      .exact⟨0,by simp,q⟩
      .exact⟨j+1,by simpa using hj,q⟩
     .rintro⟨j,hj,q⟩
      cases j with
      | zero=>exact .inl q
      | succ j=>exact .inr ⟨j,by simpa using hj,q⟩
def bz7 (I:Inv X pins W H sh)(hK:X.K=Γ.K)(R:Rp Γ C H s)(hx:RV Γ C H x xv)(rx:RelV xv Z){its:yG}(hl:RVL Γ C H l ys)(hv:Vals ys its)(h:pC s x l=some z)(hr:Room oW A) :
  ∃ e:Value->Bool,(∀ y,y∈its.toArray->iu A sh y Z (e y))/\its.toArray.any e=z:=by
 obtain⟨e,h1,h2⟩:=bC6 h;have len:its.length=l.length:=by rw[<-hv.length];exact hl.length
 have F:∀ j u,its[j]?=some u->∃ d y,l[j]?=some d/\ys[j]?=some y/\RV Γ C H d y/\RelV y u:=λ j u g=>by
  have hj:j<l.length:=by rw[<-len];exact(ae.mp g).1
  obtain⟨y,g1,g2⟩:=hl.get (ai hj);obtain⟨u',G,Y⟩:=hv.get g1;rw[g]at G;cases G;exact⟨_,y,ai hj,g1,g2,Y⟩
 classical
 let f:Value->Bool:=λ u=>decide (∃ j,its[j]?=some u/\e j=true)
 have hf:∀ j u,its[j]?=some u->f u=e j:=λ j u g=>by
  obtain⟨d,y,g1,g2,G,Y⟩:=F j u g;cases q:e j with
  | true=>exact decide_eq_true ⟨j,g,q⟩
  | false =>
   refine decide_eq_false λ⟨k,g',q'⟩=>?_;obtain⟨d',y',k1,k2,k3,k4⟩:=F k u g';have ey:y'=y:=k4.inj Y;subst ey;have:=bj8 I hK R _ d d' x _ _ _ G k3 (h1 j d g1) (h1 k d' k1);rw[q,q']at this;cases this
 refine⟨f,λ u hu=>?_,?_⟩
 .obtain⟨j,hj,g⟩:=ci.mp (by simpa using hu:u∈its);have g':its[j]?=some u:=by rw[ai hj,g]
  obtain⟨d,y,g1,g2,G,Y⟩:=F j u g';rw[hf j u g'];exact(bc6 I hK R _ d x y xv u Z A _ (h1 j d g1) G hx Y rx hr).1
 .have e1:its.toArray.any f=true↔z=true:=by
   rw[h2,List.any_toArray,d7];constructor
   .rintro⟨u,hu,q⟩
    obtain⟨j,hj,g⟩:=ci.mp hu;have g':its[j]?=some u:=by rw[ai hj,g]
    exact⟨j,by lia,by rw[<-hf j u g'];exact q⟩
   .rintro⟨j,hj,q⟩
    have J:j<its.length:=by lia
    exact⟨its[j],jp J,by rw[hf j _ (ai J)];exact q⟩
  cases z<;>cases q:its.toArray.any f
  .rfl
  .have:=e1.mp q;cases this
  .rw[q]at e1;have:=e1.mpr rfl;cases this
  .rfl
variable {Γ:Gm} {X:Cx}
def aa1 {r:oH α}{b:β}(h:r.bind f=.ok b t):∃ a s,r=.ok a s/\f a s=.ok b t:=DV.R.bind_inv h
def bC3 (hK:X.K=Γ.K)(hr:Room (oW+1) X.A)(F:Bool){st }
  (I:Inv X G W H sh) (rx:RelV x v) (ry:RelV y u) (R:Rp Γ C H st) (ha:RV Γ C H a x) (hb:RV Γ C H b y) (hf:rp a b st=.ok z J) :
  J=st/\∀ Q:Value->ag->Prop,(∀ Y,Inv X G W H Y->Q (.bool (if F then !z else z)) Y)->wpAny (model X.prog X.w) X.A (db (if F then .NotIn else .In) v u) Q X.xe sh:=by
 unfold rp at hf;cases b with
 | tp l =>
  simp only at hf;cases e:pC st a l with
  | none=>rw[e]at hf;cases hf
  | some w =>
   rw[e]at hf;cases hf;obtain⟨p,ys,rfl,q,d⟩:=hb.tupE;cases ry;rw[<-hK]at q;obtain⟨its,rv,t,_⟩:=I.tuple q;obtain⟨f,h1,h2⟩:=bz7 I hK R ha rx d rv e (A:=X.A.in1) hr.in1;refine⟨rfl,λ Q hq=>?_⟩;cases F with
   | false=>exact SeqAt.in_tupleAt f t h1 (by rw[h2];exact hq _ I)
   | true=>exact SeqAt.notIn_tupleAt f t h1 (by rw[h2];exact hq _ I)
 | str y0 =>
  simp only at hf;split at hf
  case h_2=>exact fb hf
  rename_i c;cases hf;refine⟨rfl,λ Q hq=>?_⟩;have e1:=ha.strE;have e2:=hb.strE;subst e1 e2;obtain⟨t1,rfl⟩:=rx;obtain⟨t2,rfl⟩:=ry;have a1:=nZ (⟨y0.toArray⟩:Str) c;cases F with
  | false=>exact in_str (by rw[show(⟨[c].toArray⟩:Str)=⟨#[c]⟩from rfl,a1];simpa using hq _ I)
  | true=>exact notIn_str (by rw[show(⟨[c].toArray⟩:Str)=⟨#[c]⟩from rfl,a1];simpa using hq _ I)
 | ref r =>
  simp only at hf;cases hs:st[r]? with
  | none=>rw[hs]at hf;cases hf
  | some o =>
   rw[hs]at hf;cases o with
   | J l =>
    simp only at hf;cases e:pC st a l with
    | none=>rw[e]at hf;cases hf
    | some w =>
     rw[e]at hf;cases hf;obtain⟨ys,e1,d⟩:=R.addr hs;have ey:=hb.refE;subst ey;cases ry;obtain⟨its,rv,t,_⟩:=I.list (SqL.of e1);obtain⟨f,h1,h2⟩:=bz7 I hK R ha rx d rv e (A:=X.A.in1) hr.in1;refine⟨rfl,λ Q hq=>?_⟩;cases F with
     | false=>exact SeqAt.in_listAt f t.isList h1 (by rw[h2];exact hq _ I)
     | true=>exact SeqAt.notIn_listAt f t.isList h1 (by rw[h2];exact hq _ I)
   | dit l =>
    simp only at hf;split at hf
    case isFalse=>exact fb hf
    rename_i Z;cases hf;obtain⟨k,hk⟩:=qO Z;obtain⟨a2,e1,d⟩:=R.obj r _ hs;have ey:=hb.refE;subst ey;cases ry;obtain⟨kb,ex,a0⟩:=aq5 hk ha;subst ex;have ez:(pb a l).isSome=(aQ5 a2 k).isSome:=by
     rcases d.val keyT_inj hk with⟨q1,q2⟩|⟨_,_,q1,q2,_⟩<;>rw[q1,q2]<;>rfl
    refine⟨rfl,λ Q hq=>?_⟩;rw[ez]at hq;cases F with
    | false=>exact cy9 (aw3 hr) I (aY1.t e1 a0) rx hq
    | true=>exact bQ8 (aw3 hr) I (aY1.t e1 a0) rx hq
   | ro l=>exact fb hf
   | ins c l=>exact fb hf
 | _=>exact fb hf
def ce5 {st }(h:DV.qC .le a b st=.ok d z):∃ i j,a=.int i/\b=.int j:=by
 cases a with
 | int i =>
  (cases b with
  | int j=>exact⟨i,j,rfl,rfl⟩
  | _=>exact fb h)
 | _=>exact fb h
def aC6 (h:DV.bu0 a=some (i,x)):a=.tp [.int i,.str x]:=by
 unfold DV.bu0 at h;split at h
 .cases h;rfl
 .cases h
def bs0 {st }(h:DV.cl2 f a b st=.ok d z):∃ i x j y,a=.tp [.int i,.str x]/\b=.tp [.int j,.str y]:=by
 unfold DV.cl2 at h;split at h
 .rename_i i x j y e1 e2;exact⟨i,x,j,y,aC6 e1,aC6 e2⟩
 .exact fb h
def ord_inv {st }(ho:op=.lt\/op=.gt\/op=.ge)(h:DV.qC op a b st=.ok d z):(∃ i j,a=.int i/\b=.int j)\/∃ i x j y,a=.tp [.int i,.str x]/\b=.tp [.int j,.str y]:=by
 rcases ho with rfl|rfl|rfl <;>
 (cases a with
 | int i =>
  (cases b with
  | int j=>exact .inl ⟨i,j,rfl,rfl⟩
  | _=>exact fb h)
 | tp l =>
  (cases b with
  | tp m=>first|exact .inr (bs0 h)|exact fb h
  | _=>exact fb h)
 | _=>exact fb h)
section
variable {pins:yA} {sh:ag} {W:St} {H:Hp} {C:Nat->Addr} {st:oC}
end
def bm4 (hK:X.K=Γ.K)(hr:Room (oW+1) X.A) op :OpR X (db (av3 op)) (rOp Γ (DV.qC op)):=by
 intro F s W H x y v u Q I J Y h;obtain⟨C,st,a,b,d,G,R,ha,hb,na,nb,hf,q⟩:=h;cases op with
 | eq =>
  have hf:DV.eqM a b st=.ok d G:=hf;unfold DV.eqM at hf;cases e:oP st oW a b with
  | none=>rw[e]at hf;cases hf
  | some z =>
   rw[e]at hf;cases hf;exact(bc6 I hK R _ a b x y v u X.A z e ha hb J Y (hr.mono (by lia))).2.rc X.prog X.w X.xe _ ⟨.T z,H,I,rfl,q.here R rfl RV.blI⟩
 | ne =>
  have hf:(match oP st oW a b with|some r=>.ok (.T (!r)) st|none=>.B:oH oD)=.ok d G:=hf;cases e:oP st oW a b with
  | none=>rw[e]at hf;cases hf
  | some z =>
   rw[e]at hf;cases hf;exact(bc6 I hK R _ a b x y v u X.A z e ha hb J Y (hr.mono (by omega))).2.ne X.prog X.w X.xe _ ⟨.T (!z),H,I,rfl,q.here R rfl RV.blI⟩
 | lt =>
  rcases ord_inv (.inl rfl) hf with⟨i,j,rfl,rfl⟩|⟨i,x0,j,y0,rfl,rfl⟩
  .cases hf;have ex:=ha.intE;have Z:=hb.intE;subst ex;subst Z;exact cq0 F s W H _ _ v u Q I J Y ⟨_,_,rfl,rfl,q.here R rfl RV.blI⟩
  .exact fb hf
 | le =>
  obtain⟨i,j,rfl,rfl⟩:=ce5 hf;cases hf;have ex:=ha.intE;have Z:=hb.intE;subst ex;subst Z;exact cu2 F s W H _ _ v u Q I J Y ⟨_,_,rfl,rfl,q.here R rfl RV.blI⟩
 | gt =>
  rcases ord_inv (.inr (.inl rfl)) hf with⟨i,j,rfl,rfl⟩|⟨i,x0,j,y0,rfl,rfl⟩
  .cases hf;have ex:=ha.intE;have Z:=hb.intE;subst ex;subst Z;exact cr6 F s W H _ _ v u Q I J Y ⟨_,_,rfl,rfl,q.here R rfl RV.blI⟩
  .exact fb hf
 | ge=>exact fb hf
 | isin =>
  have hf:=hf;obtain⟨z,s1,e1,e2⟩:=aa1 hf;obtain⟨rfl,w⟩:=bC3 hK hr false I J Y R ha hb e1;cases e2;exact w _ λ s' I'=>⟨.T z,H,I',rfl,q.here R rfl RV.blI⟩
 | notin =>
  have hf:=hf;obtain⟨z,s1,e1,e2⟩:=aa1 hf;obtain⟨rfl,w⟩:=bC3 hK hr true I J Y R ha hb e1;cases e2;exact w _ λ s' I'=>⟨.T (!z),H,I',rfl,q.here R rfl RV.blI⟩
def bb0 (h:RVL Γ C H l z)(e:((pD l.length i).bind λ j=>l[j]?)=some d):∃ v,atI z i=some v/\RV Γ C H d v:=by
 cases hj:pD l.length i with
 | none=>rw[hj]at e;cases e
 | some j =>
  rw[hj]at e;obtain⟨v,e1,e2⟩:=h.get (e);refine⟨v,?_,e2⟩;unfold atI;have:ixN z.length i=some j:=by rw[h.length];exact hj
  rw[this];exact e1
def aL9 {l:List oD}(e:((pD l.length i).bind λ j=>l[j]?)=some d):d∈l:=by
 cases hj:pD l.length i with
 | none=>rw[hj]at e;cases e
 | some j=>rw[hj]at e;exact aE (e)
def cs0 (hK:X.K=Γ.K)(hu:X.A.units+2<cLine):IxR X (rOp Γ DV.ixM):=by
 intro z G J s W H x y v u Q I rx ry h hs;obtain⟨C,st,a,b,d,a3,R,ha,hb,na,nb,hf,q⟩:=h;unfold DV.ixM at hf;cases a with
 | tp l =>
  cases b with
  | int i =>
   simp only at hf;split at hf
   .rename_i d' e;cases hf;obtain⟨p,Z,rfl,h1,d1⟩:=ha.tupE;have Y:=hb.intE;subst Y;obtain⟨w,e1,e2⟩:=bb0 d1 e;unfold oI at na;exact bQ7 hK z G J s W H _ _ v u Q I rx ry ⟨p,Z,i,w,rfl,rfl,h1,e1,q.here R (ab0.mp na _ (aL9 e)) e2⟩ hs
   .exact fb hf
  | _=>exact fb hf
 | str l =>
  cases b with
  | int i =>
   simp only at hf;split at hf
   .rename_i c e;cases hf;have hl:=ha.strL;have ex:=ha.strE;have Y:=hb.intE;subst ex;subst Y;exact ix_str z G J s W H _ _ v u Q I rx ry ⟨⟨l.toArray⟩,i,c,rfl,rfl,by show l.toArray.size<=_;rw[aw];exact ar hl z7,e,q.here R rfl (RV.strI (by simp;decide))⟩ hs
   .exact fb hf
  | _=>exact fb hf
 | ref r =>
  have ex:=ha.refE;subst ex;simp only at hf;cases hsr:st[r]? with
  | none=>rw[hsr]at hf;cases hf
  | some o =>
   rw[hsr]at hf;cases o with
   | J l =>
    cases b with
    | int i =>
     simp only at hf;split at hf
     .rename_i d' e;cases hf;have Y:=hb.intE;subst Y;obtain⟨Z,e1,d1⟩:=R.addr hsr;obtain⟨w,e2,e3⟩:=bb0 d1 e;have wf:=R.wf _ _ hsr;unfold oK at wf;exact aP5 hK z G J s W H _ _ v u Q I rx ry ⟨C r,Z,i,w,rfl,rfl,SqL.of e1,e2,q.here R (ab0.mp wf _ (aL9 e)) e3⟩ hs
     .exact fb hf
    | _=>exact fb hf
   | ro l =>
    cases b with
    | int i =>
     simp only at hf;split at hf
     .rename_i d' e;cases hf;have Y:=hb.intE;subst Y;obtain⟨Z,e1,d1⟩:=R.obj _ _ hsr;obtain⟨w,e2,e3⟩:=bb0 d1 e;have wf:=R.wf _ _ hsr;unfold oK at wf;exact aP5 hK z G J s W H _ _ v u Q I rx ry ⟨C r,Z,i,w,rfl,rfl,e1.1,e2,q.here R (ab0.mp wf _ (aL9 e)) e3⟩ hs
     .exact fb hf
    | _=>exact fb hf
   | dit l =>
    simp only at hf;split at hf
    case isFalse=>exact fb hf
    rename_i a0;obtain⟨k,hk⟩:=qO a0;obtain⟨a4,e1,d1⟩:=R.obj r _ hsr;obtain⟨kb,Y,a1⟩:=aq5 hk hb;subst Y;cases rx;rcases d1.val keyT_inj hk with⟨q1,_⟩|⟨e,v',q1,q2,q3,q4⟩
    .rw[q1]at hf;cases hf
    .rw[q1]at hf;cases hf;have wf:=R.wf _ _ hsr;unfold oK at wf;rw[aj]at wf;have g:aY1 H (C r) (.ref kb) (some v'):=by rw[<-q2];exact aY1.t e1 a1
     exact tail_any (aJ8 I g) PySem.F.slot_dict_getitem.lookup (aZ5 hu I g ry λ w' s' I' a2=>⟨v',H,I',a2,q.here R (ab0.mp wf.2 _ q4) q3⟩) hs
   | ins c l=>cases b<;>cases hf
 | _=>cases b<;>cases hf
def bf1 n d i :HT.sIx n d (some i)=pq n i:=by
 show(if i<0 then(i+(n)).toNat else min i.toNat n)=_;unfold pq;by_cases h:i<0
 .rw[if_pos h,if_neg (by lia)]
 .rw[if_neg h,if_pos (by lia)]
def bA1 (h:RVL Γ C H l F) G z :RVL Γ C H (o8 l G z) (aW6 F G z):=by
 unfold o8 aW6;have e1:HT.sIx F.length 0 G=pA l.length G:=by
  cases G with
  | none=>rfl
  | some i=>rw[bf1,h.length];rfl
 have e2:HT.sIx F.length F.length z=p9 l.length z:=by
  cases z with
  | none=>exact h.length
  | some i=>rw[bf1,h.length];rfl
 rw[e1,e2];exact(h.drop _).take _
def aR4 :∀ d∈o8 l F z,d∈l:=λ d hd=>kz (gL hd)
def bw2 (l:List α) z F :(o8 l z F).length<=l.length:=by
 unfold o8;rw[bP,gc];lia
def cq6 z F n :bQ z F 1 n=(bn (p9 n F - pA n z)).map (pA n z+·):=by
 rw[<-sliceRange_one];unfold bQ;have cl:∀ i:Int,max 0 (min (if i<0 then i+(n)else i) (n))=((pq n i)):=λ i=>by
  unfold pq;by_cases h:i<0
  .rw[if_pos h,if_neg (by omega)];omega
  .rw[if_neg h,if_pos (by omega)];omega
 simp only[if_true];cases z<;>cases F<;>simp only[cl,p9]<;>rfl
theorem aR3 {l:List Nat}:∀ a k ,a+k<=l.length->((bn k).map (a+·)).filterMap (λ x=>l.toArray[x]?)=(l.drop a).take k
 | a,0,_=>by simp
 | a,k+1,h=>by
  rw[List.range_succ,fA,List.filterMap_append,aR3 a k (by lia)];have hk:a+k<l.length:=by lia
  rw[List.take_add_one,List.getElem?_drop];simp[hk]
def bk0 l F z :gT ⟨l.toArray⟩ F z=⟨(o8 l F z).toArray⟩:=by
 unfold gT;have hn:(⟨l.toArray⟩:Str).length=l.length:=by show l.toArray.size=_;simp
 rw[hn,cq6];have hb:p9 l.length z<=l.length:=by
  cases z with
  | none=>exact au _
  | some i=>show pq l.length i<=_;unfold pq;split<;>lia
 have ha:pA l.length F<=l.length:=by
  cases F with
  | none=>exact b9 _
  | some i=>show pq l.length i<=_;unfold pq;split<;>lia
 unfold o8;generalize p9 l.length z=b at *;generalize pA l.length F=a at *;by_cases hc:((1:Int)==1&&((bn (b - a)).map (a+·)).length==l.length)=true
 .rw[if_pos hc];have:=by simpa using hc
  have h0:a=0\/l.length=0:=by lia
  rcases h0 with h0|h0
  .subst h0;rw[this];simp
  .have:=bM.mp h0;subst this;simp
 .rw[if_neg hc];by_cases hab:a<=b
  .have e:=aR3 (l:=l) a (b - a) (by omega);rw[e]
  .rw[show b - a=0 by lia];simp
def rSl (Γ:Gm):V->Option Int->Option Int->Hp->VK->Prop:=λ x lo hi H Q=>∃ C s a d s',Rp Γ C H s/\RV Γ C H a x/\a.bnd s.length=true/\rb a lo hi s=.ok d s'/\ah0 Γ C s H d s' Q
def cq3 (hK:X.K=Γ.K):SlR X (rSl Γ):=by
 intro F s W H x v vl vu G J sl Q I rx hs Z pu h;obtain⟨C,st,a,d,a0,R,ha,na,hf,q⟩:=h;unfold rb at hf;cases a with
 | tp l =>
  cases hf;obtain⟨p,Y,⟨rfl,z1⟩,h1,d1⟩:=ha.tupZ;unfold oI at na;refine bL6 hK F s W H _ v vl vu G J sl Q I rx hs Z pu ⟨p,Y,rfl,h1,λ t H' e ht hn=>?_⟩;obtain⟨g,r'⟩:=R.same e;have d2:=bA1 (RVL.mono g _ _ na d1) G J;refine q _ _ _ g (au _) (by unfold oI;exact aP4 na aR4) (RV.tupC ht (λ z=>?_) d2) r';rcases hn with hn|⟨rfl,ex⟩
  .exact hn
  .rw[ex];refine e _ _ (z1 ?_);have hl:(o8 l G J).length=l.length:=by rw[<-d2.length,ex,d1.length]
   rwa [bm5 hl]at z
 | str l =>
  cases hf;have hl:=ha.strL;have ex:=ha.strE;subst ex;refine cj9 F s W H _ v vl vu G J sl Q I rx hs Z pu ⟨_,rfl,by show l.toArray.size<=_;rw[aw];exact ar hl z7,?_⟩;rw[bk0];exact q.here R rfl (RV.strI (ar (bw2 l G J) hl))
 | ref r =>
  have ex:=ha.refE;subst ex;simp only at hf;cases hsr:st[r]? with
  | none=>rw[hsr]at hf;cases hf
  | some o =>
   rw[hsr]at hf;cases o with
   | J l =>
    obtain⟨rfl,rfl⟩:=qj hf;obtain⟨Y,e1,d1⟩:=R.addr hsr;have wf:=R.wf _ _ hsr;unfold oK at wf;exact bw9 hK F s W H _ v vl vu G J sl Q I rx hs Z pu ⟨C r,Y,rfl,SqL.of e1,λ p hp=>q.alloc R (bA1 d1 G J) (aP4 wf aR4) hp⟩
   | _=>exact fb hf
 | _=>exact fb hf
variable {Γ:Gm} {X:Cx}
def rCl (Γ:Gm)(f:List oD->oC->oH oD):List V->Hp->VK->Prop:=λ xs H Q=>∃ C s l d s',Rp Γ C H s/\RVL Γ C H l xs/\oF s.length l=true/\f l s=.ok d s'/\ah0 Γ C s H d s' Q
def RVL.one (h:RVL Γ C H [d] z):∃ x,z=[x]/\RV Γ C H d x:=by
 obtain⟨x,r,rfl,G,F⟩:=h.uncons;rw[F.unnil];exact⟨x,rfl,G⟩
noncomputable def biN:ph->Option (String×Nat)
 | .len=>some ("len",1)|.abs=>some ("abs",1)|.min2=>some ("min",2)|_=>none
theorem qf:∀ {l} {is},pG l=some is->l=is.map DV.D.int
 | [],is,h=>by unfold pG at h;cases h;rfl
 | d::l,is,h=>by
  cases d with
  | int i =>
   have h:(pG l).map (i::·)=some is:=h;cases e:pG l with
   | none=>rw[e]at h;cases h
   | some m=>rw[e]at h;cases h;rw[qf e];rfl
  | _=>cases h
theorem ak4:∀ {l} {is},pF l=some is->l=is.map DV.D.T
 | [],is,h=>by unfold pF at h;cases h;rfl
 | d::l,is,h=>by
  cases d with
  | T i =>
   have h:(pF l).map (i::·)=some is:=h;cases e:pF l with
   | none=>rw[e]at h;cases h
   | some m=>rw[e]at h;cases h;rw[ak4 e];rfl
  | _=>cases h
theorem RVL.ints :∀ {is:List Int} {z},RVL Γ C H (is.map DV.D.int) z->z=is.map V.int
 | [],_,h=>h.unnil
 | i::is,_,h=>by
  obtain⟨x,r,rfl,G,F⟩:=RVL.uncons h;rw[G.intE,RVL.ints F];rfl
theorem RVL.bls :∀ {is:List Bool} {z},RVL Γ C H (is.map DV.D.T) z->z=is.map V.T
 | [],_,h=>h.unnil
 | i::is,_,h=>by
  obtain⟨x,r,rfl,G,F⟩:=RVL.uncons h;rw[G.blE,RVL.bls F];rfl
def bj0 (h:rq f l s=.ok d s'):∃ a,l=[a]/\f a s=.ok d s':=by
 match l,h with
 | [a],h=>exact⟨a,rfl,h⟩
 | [],h=>exact fb h
 | _::_::_,h=>exact fb h
def bL2 (G:X.K=Γ.K)(hc:X.calm=true)(hn:biN b=some (nm,k)):ad8 X (.builtin nm) (rCl Γ (rh b)):=by
 intro z s W H Z us Q I r h;obtain⟨C,st,l,d,F,R,hl,Y,hf,q⟩:=h;cases b with
 | len =>
  cases hn;have hf:=hf;obtain⟨a,rfl,hg⟩:=bj0 hf;clear hf;obtain⟨x,rfl,hx⟩:=hl.one;unfold DV.bM6 at hg;cases a with
  | tp l =>
   cases hg;obtain⟨p,ys,rfl,J,d1⟩:=hx.tupE;refine as4 G z s W H _ us Q I r ⟨p,ys,rfl,.inr J,?_⟩;rw[d1.length];exact q.here R rfl RV.intI
  | str l =>
   cases hg;have hL:=hx.strL;have e:=hx.strE;subst e;refine aE0 z s W H _ us Q I r ⟨_,rfl,by show l.toArray.size<=_;rw[aw];exact ar hL z7,?_⟩;show Q (.int ((l.toArray.size))) H;rw[aw];exact q.here R rfl RV.intI
  | ref n =>
   have e:=hx.refE;subst e;simp only at hg;cases hs:st[n]? with
   | none=>rw[hs]at hg;cases hg
   | some o =>
    rw[hs]at hg;cases o with
    | J l =>
     cases hg;obtain⟨ys,e1,d1⟩:=R.addr hs;refine as4 G z s W H _ us Q I r ⟨C n,ys,rfl,.inl (SqL.of e1),?_⟩;rw[d1.length];exact q.here R rfl RV.intI
    | ro l =>
     cases hg;obtain⟨ys,e1,d1⟩:=R.obj _ _ hs;refine as4 G z s W H _ us Q I r ⟨C n,ys,rfl,.inl e1.1,?_⟩;rw[d1.length];exact q.here R rfl RV.intI
    | dit l=>exact fb hg
    | ins c l=>exact fb hg
  | _=>exact fb hg
 | abs =>
  cases hn;have hf:(match pG l with|some [i]=>.ok (.int (if i<0 then -i else i)) st|_=>.B:oH oD)=.ok d F:=hf;split at hf
  .rename_i i e;cases hf;have:=qf e;subst this;have:=RVL.ints hl;subst this;exact bs4 z s W H _ us Q I r ⟨i,rfl,q.here R rfl RV.intI⟩
  .exact fb hf
 | min2 =>
  cases hn;have hf:(match pG l with|some [a,b]=>.ok (.int (if b<a then b else a)) st|_=>.B:oH oD)=.ok d F:=hf;split at hf
  .rename_i a b e;cases hf;have:=qf e;subst this;have:=RVL.ints hl;subst this;exact ba9 hc z s W H _ us Q I r ⟨_,_,rfl,q.here R rfl RV.intI⟩
  .exact fb hf
 | _=>cases hn
def aQ3:∀ j:Nat,j<=9->aZ (toString (j:Int))=(⟨[48+j].toArray⟩):=by decide
def cf8:ad8 X (.type "int") (rCl Γ (rh .int)):=by
 intro z s W H Y us Q I r h;obtain⟨C,st,l,d,G,R,hl,J,hf,q⟩:=h;have hf:(match pF l with|some [b]=>.ok (.int (if b then 1 else 0)) st|some _=>.B|none=>DV.aU6 l st:oH oD)=.ok d G:=hf;split at hf
 .rename_i b e;cases hf;have:=ak4 e;subst this;have:=RVL.bls hl;subst this;exact bg1 z s W H _ us Q I r (.inr ⟨b,rfl,q.here R rfl RV.intI⟩)
 .exact fb hf
 .unfold DV.aU6 at hf;split at hf
  .rename_i c _ _;split at hf
   .rename_i hc;cases hf;obtain⟨x,F,rfl,r1,r2⟩:=hl.uncons;cases(r2);have:=r1.strE;subst this;obtain⟨u,rfl,t,rfl⟩:=qR r;obtain⟨j,hj,rfl⟩:∃ j,j<=9/\c=48+j:=⟨c - 48,by omega,by omega⟩
    rw[(aQ3 j hj).symm];refine PySem.W.KIN.call_num (by lia) (by lia) ⟨.int (j),H,I.tok _,⟨_,rfl⟩,?_⟩;have:=q.here R rfl (RV.intI );rw[show 48+j - 48=j by lia]at this;exact this
   .exact fb hf
  .exact fb hf
def cg5:ad8 X (.type "str") (rCl Γ (rh .str)):=by
 intro G s W H Y us Q I r h;obtain⟨C,st,l,d,F,R,hl,J,hf,q⟩:=h;have hf:DV.bi9 l st=.ok d F:=hf;unfold DV.bi9 at hf;split at hf
 .rename_i i _;split at hf
  .rename_i Z;cases hf;obtain⟨x,z,rfl,r1,r2⟩:=hl.uncons;cases(r2);have:=r1.intE;subst this;obtain⟨u,rfl,t,rfl⟩:=qR r;obtain⟨j,rfl⟩:∃ j:Nat,i=(j):=⟨i.toNat,by lia⟩
   have hj:j<=9:=by lia
   refine PySem.P.str_of_int ?_ ⟨.str ⟨[48+j].toArray⟩,H,I.tok _,⟨s.toks,?_⟩,?_⟩
   .have:(j:Int).natAbs.log2<=(j:Int).natAbs:=Nat.log2_le_self _;lia
   .rw[<-aQ3 j hj]
   .have:=q.here R rfl (RV.strI (by show 1<=oN;decide));rw[ce]at this;exact this
  .exact fb hf
 .rename_i w _;cases hf;obtain⟨x,z,rfl,r1,r2⟩:=hl.uncons;cases(r2);have e:=r1.strE;subst e;obtain⟨u,rfl,t,rfl⟩:=qR r;refine PySem.P.str_of_str ⟨.str ⟨w.toArray⟩,H,I,⟨_,rfl⟩,?_⟩;unfold oF at J;exact q.here R rfl r1
 .exact fb hf
noncomputable def av2:Nat->String
 | 1 => "int" | 2 => "bool" | 3 => "str" | 4 => "tuple" | _ => "list"
def bF5 {K} k (hk:1<=k/\k<=5):bo K (.type "NoneType") (.type (av2 k))=some false/\bo K (.type "bool") (.type (av2 k))=some (k==1||k==2) /\
  bo K (.type "int") (.type (av2 k))=some (k==1)/\bo K (.type "str") (.type (av2 k))=some (k==3)/\bo K (.type "tuple") (.type (av2 k))=some (k==4)/\bo K (.type "list") (.type (av2 k))=some (k==5):=by
 obtain⟨F,z⟩:=hk;rcases(by lia:k=1\/k=2\/k=3\/k=4\/k=5)with h|h|h|h|h<;>subst h<;>refine⟨?_,?_,?_,?_,?_,?_⟩<;>with_unfolding_all rfl
def aX2 {s}(I:Inv X F W H s)(Y:SqT X.K H a G)(e:bo X.K (.type "tuple") c=some b)
  (h:∀ tk,Q (.bool b) { s with toks:=tk }):wpAny (model X.prog X.w) A (call (.builtin "isinstance") [.ref a,c]) Q E s:=by
 obtain⟨its,_,⟨o,g1,J,_⟩,_⟩:=I.tuple Y;exact bV lf I.kIn ⟨o,g1,J⟩ e (λ z=>nomatch z) h
def cf7 (Y:X.K=Γ.K)(hk:1<=k/\k<=5):ad8 X (.builtin "isinstance") (λ F H Q=>∃ x,F=[x,.ty (av2 k)]/\rCl Γ (rq (rJ k)) [x] H Q):=by
 intro G s W H F us Q I r h;obtain⟨x,rfl,C,st,l,d,z,R,hl,nl,hf,q⟩:=h;obtain⟨a,rfl,hg⟩:=bj0 hf;clear hf;obtain⟨u,w',rfl,r1,r2⟩:=br4 r;cases r2;obtain⟨x',e',hx⟩:=hl.one;cases e';obtain⟨k0,k1,k2,k3,Z,k5⟩:=bF5 k hk;unfold rJ at hg;cases a with
 | N=>cases hg;have e:=hx.nonE;subst e;exact qV I r1 .N k0 λ tk=>⟨.T _,H,I.tok _,rfl,q.here R rfl RV.blI⟩
 | T b=>cases hg;have e:=hx.blE;subst e;exact qV I r1 (.T b) k1 λ tk=>⟨.T _,H,I.tok _,rfl,q.here R rfl RV.blI⟩
 | int b=>cases hg;have e:=hx.intE;subst e;exact qV I r1 (.int b) k2 λ tk=>⟨.T _,H,I.tok _,rfl,q.here R rfl RV.blI⟩
 | str b=>cases hg;have e:=hx.strE;subst e;exact qV I r1 (.str _) k3 λ tk=>⟨.T _,H,I.tok _,rfl,q.here R rfl RV.blI⟩
 | tp l =>
  cases hg;obtain⟨p,ys,rfl,J,d1⟩:=hx.tupE;cases r1;rw[<-Y]at J;exact aX2 I J Z λ tk=>⟨.T _,H,I.tok _,rfl,q.here R rfl RV.blI⟩
 | ref n =>
  have e:=hx.refE;subst e;have hg:(match st[n]? with|some (.J _)=>.ok (.T (k==5)) st|_=>.B:oH oD)=.ok d z:=hg;cases hs:st[n]? with
  | none=>rw[hs]at hg;cases hg
  | some o =>
   rw[hs]at hg;cases o with
   | J l =>
    cases hg;obtain⟨ys,e1,d1⟩:=R.addr hs;exact qV I r1 (.J e1) k5 λ tk=>⟨.T _,H,I.tok _,rfl,q.here R rfl RV.blI⟩
   | _=>exact fb hg
 | _=>exact fb hg
variable {X:Cx}
def bk7 {bs:List Bool}{its:yG}(r:Vals (bs.map V.T) its){i:Nat}(h:its[i]?=some v):∃ z,bs[i]?=some z/\v=Value.bool z:=by
 induction bs generalizing its i with
 | nil=>rw[aP]at r;cases r;simp at h
 | cons b bs ih =>
  rw[av]at r;cases r with
  | cons r1 r2 =>
   cases i with
   | zero =>
    cases r1;have:=aC h;exact⟨b,rfl,this.symm⟩
   | succ i=>exact ih r2 h
def ba0 {bs:List Bool}:(bn bs.length).all (λ i=>bs.getD i false)=bs.all id:=by
 rw[cD,aU,aU];constructor
 .intro h b hb;obtain⟨i,z,e⟩:=ci.mp hb;have:=h i (bR.mpr z);rw[aO,ai z]at this;rw[<-e];exact this
 .intro h i z;have z:=bR.mp z;rw[aO,ai z];exact h _ (jp z)
def bl1 {bs:List Bool}:(bn bs.length).any (λ i=>bs.getD i false)=bs.any id:=by
 rw[cD,d7,d7];constructor
 .rintro⟨i,z,e⟩
  have z:=bR.mp z;rw[aO,ai z]at e;exact⟨_,jp z,e⟩
 .rintro⟨b,hb,e⟩
  obtain⟨i,z,e2⟩:=ci.mp hb;refine⟨i,bR.mpr z,?_⟩;rw[aO,ai z];rw[e2];exact e
def bh2 {K}(hc:X.calm=true)(hK:X.K=K):ad8 X (.builtin "all") (λ Z H Q=>∃(a:Addr) (bs:List Bool),Z=[.ref a]/\SqL K H a (bs.map V.T)/\Q (.T (bs.all id)) H):=by
 subst hK;intro a0 s W H Z us Q I r h;obtain⟨a,bs,rfl,hS,q⟩:=h;obtain⟨u,rfl,ru⟩:=qR r;cases ru;obtain⟨its,Y,G,hz⟩:=I.list hS;have hl:=Y.length;rw[aq]at hl;refine call_all_walk (dg G.isList ?_);have J:a<s.heap.objs.size:=by obtain⟨o,_,e,_⟩:=G;exact aJ e
 have Ww:=jE (prog:=X.prog) (w:=X.w) (A:=X.A.in1) (I.ok.hd hc) s.heap.objs.size a (aK J) its.toArray;refine⟨_,_,_,_,_,_,λ i=>bs.getD i false,rfl,Ww,⟨⟨_,aI _ rfl,rfl,rfl⟩,?_⟩,λ i v s' Q' E' F hQ=>?_,λ h' tk k=>?_⟩
 .obtain⟨o,e,r⟩:=G.isList;exact⟨o,ao _ e,r⟩
 .obtain⟨z,e1,e2⟩:=bk7 Y (by have F:its.toArray[i]?=some v:=F;rw[cb]at F;exact F);subst e2;refine bI ?_;have:bs.getD i false=z:=by rw[aO,e1];rfl
  rw[<-this];exact hQ
 .have es:its.toArray.size=bs.length:=by rw[aw];lia
  rw[es,ba0];refine⟨.T (bs.all id),H,I.kept λ b o q=>k b o ?_ (ao _ q),rfl,q⟩;intro z;have z':=by simpa using z
  exact absurd (aJ q) (by rw[z'];exact bG _)
def aZ9 {K}(hc:X.calm=true)(hK:X.K=K):ad8 X (.builtin "any") (λ Z H Q=>∃(a:Addr) (bs:List Bool),Z=[.ref a]/\SqL K H a (bs.map V.T)/\Q (.T (bs.any id)) H):=by
 subst hK;intro a0 s W H Z us Q I r h;obtain⟨a,bs,rfl,hS,q⟩:=h;obtain⟨u,rfl,ru⟩:=qR r;cases ru;obtain⟨its,Y,G,hz⟩:=I.list hS;have hl:=Y.length;rw[aq]at hl;refine call_any_walk (dg G.isList ?_);have J:a<s.heap.objs.size:=by obtain⟨o,_,e,_⟩:=G;exact aJ e
 have Ww:=jE (prog:=X.prog) (w:=X.w) (A:=X.A.in1) (I.ok.hd hc) s.heap.objs.size a (aK J) its.toArray;refine⟨_,_,_,_,_,_,λ i=>bs.getD i false,rfl,Ww,⟨⟨_,aI _ rfl,rfl,rfl⟩,?_⟩,λ i v s' Q' E' F hQ=>?_,λ h' tk k=>?_⟩
 .obtain⟨o,e,r⟩:=G.isList;exact⟨o,ao _ e,r⟩
 .obtain⟨z,e1,e2⟩:=bk7 Y (by have F:its.toArray[i]?=some v:=F;rw[cb]at F;exact F);subst e2;refine bI ?_;have:bs.getD i false=z:=by rw[aO,e1];rfl
  rw[<-this];exact hQ
 .have es:its.toArray.size=bs.length:=by rw[aw];omega
  rw[es,bl1];refine⟨.T (bs.any id),H,I.kept λ b o q=>k b o ?_ (ao _ q),rfl,q⟩;intro z;have z':=by simpa using z
  exact absurd (aJ q) (by rw[z'];exact bG _)
def co0:bC "any"=some (.builtin "any"):=by decide +kernel
noncomputable def sgV (x:List Nat):List V:=x.map λ c=>.str ⟨#[c]⟩
def bM0 {z:yG}(hl:vs.length=z.length)(h:∀(i:Nat) (x:V) (u:Value),vs[i]?=some x->z[i]?=some u->RelV x u):Vals vs z:=by
 induction vs generalizing z with
 | nil=>cases z with
  | nil=>exact .nil
  | cons _ _=>cases hl
 | cons v vs ih=>cases z with
  | nil=>cases hl
  | cons a z=>exact .cons (h 0 v a rfl rfl) (ih (by simpa using hl) λ i x u e1 e2=>h (i+1) x u e1 e2)
def aw7 {z:yJ}(h:ItemsOf (SignAt ⟨x.toArray⟩) z x.length):Vals (sgV x) z.toList:=by
 have hl:(sgV x).length=z.toList.length:=by unfold sgV;rw[aq];simpa using h.1.symm
 refine bM0 hl λ i v u e1 e2=>?_;obtain⟨c,t,F,G⟩:=h.2 i u (by rw[<-jV];exact e2);unfold sgV at e1;rw[aQ]at e1;have F:=by simpa using F
 rw[F]at e1;cases e1;exact⟨t,G⟩
def aL7 (hc:X.calm=true):ad8 X (.type "tuple") (λ J H Q=>∃ x,J=[.str ⟨x.toArray⟩]/\x.length<=oN/\∀ l,H l=none->Q (.ref l) (upd H l (.tp (sgV x)))):=by
 intro z s W H J us Q I r h;obtain⟨x,rfl,hl,q⟩:=h;obtain⟨u,rfl,rx⟩:=qR r;obtain⟨t,rfl⟩:=rx;have hz:(sgV x).length<=aV:=by unfold sgV;rw[aq];exact ar hl z7
 refine call_tuple_str (I.ok.hd hc) _ t (λ h' tk F kp G=>?_) (by skip;rw[aw];exact ar hl z7);have G:=by simpa using G
 have Z:=aw7 G;have Y:=I.kept (t':=tk) kp;have I2 :=
  Y.laid (t':=tk) (λ b o e=>ao _ e) (au _) (show ad5 X.prog X.w _ _ _ (.tp (sgV x))from⟨hz,F.toList,Z,l8 _ _⟩)
 exact⟨.ref h'.objs.size,_,I2,rfl,q _ (Y.hok.fresh (au _))⟩
def aX6 (hc:X.calm=true):ad8 X (.type "list") (λ G H Q=>∃ x,G=[.str ⟨x.toArray⟩]/\x.length<=oN/\∀ l,H l=none->Q (.ref l) (upd H l (.J (sgV x)))):=by
 intro J s W H G us Q I r h;obtain⟨x,rfl,hl,q⟩:=h;obtain⟨u,rfl,rx⟩:=qR r;obtain⟨t,rfl⟩:=rx;have hz:(sgV x).length<=aV:=by unfold sgV;rw[aq];exact ar hl z7
 refine call_list_str (I.ok.hd hc) _ t (λ h' tk z Z kp e F=>?_) (by skip;rw[aw];exact ar hl z7);have F:=by simpa using F
 have Y:=aw7 F;exact⟨.ref s.heap.objs.size,_,I.laid kp (au _) (show ad5 X.prog X.w _ h' _ (.J (sgV x))from⟨hz,z.toList,Z,Y,e⟩),rfl,q _ (I.hok.fresh (au _))⟩
section
variable {Γ:Gm} {C C':Nat->Addr} {H H' H1 H2 H3:Hp} {clos:yB} {s s':oC}
def Gr.put (hc:Cells clos H)(G:∀ b,isC clos b=true->H' b=none)(Z:∀ b o,Γ.K.lookup b=some o->H b=none)(R':Rp Γ C' H' s')(g:Gr C s (ay4 clos H) C' s' H'):Gr C s H C' s' (Put clos H H'):=by
 refine⟨⟨g.w.map,λ b o e f=>?_⟩,g.le,λ i h1 Y=>?_,g.kd,λ b e=>?_,λ b o e nt no=>?_⟩
 .by_cases z:isC clos b=true
  .rw[Put.cell z];exact e
  .rw[Put.ne z];exact g.w.kp b o (by rw[ay4.ne z];exact e) f
 .have hd:=g.new i h1 Y;by_cases z:isC clos (C' i)=true
  .have hg:=G _ z;obtain⟨o,eo⟩:∃ o,s'[i]?=some o:=⟨s'[i],ai Y⟩
   have F:=R'.obj i o eo;cases o with
   | J l=>obtain⟨J,e,_⟩:=F;rw[hg]at e;cases e
   | ro l =>
    obtain⟨J,e,_⟩:=F;rcases e.1 with(e|⟨_,e⟩)|⟨ob,its,n,e,_⟩
    .rw[hg]at e;cases e
    .rw[hg]at e;cases e
    .exact Z _ _ e
   | dit l=>obtain⟨J,e,_⟩:=F;rw[hg]at e;cases e
   | ins _ _=>exact F.elim
  .rw[ay4.ne z]at hd;exact hd
 .by_cases z:isC clos b=true
  .rw[Put.cell z];exact e
  .rw[Put.ne z];exact g.st b (by rw[ay4.ne z];exact e)
 .by_cases z:isC clos b=true
  .rw[Put.cell z];exact e
  .rw[Put.ne z];exact g.fr b o (by rw[ay4.ne z];exact e) nt no
def Cells.kp (h:Cells clos H)(k:Kp H H'):Cells clos H':=λ x c e=>by
 obtain⟨o,v,q,d⟩:=h x c e;exact⟨o,v,k _ _ q rfl,d⟩
def PVp (Γ:Gm)(cells:yB)(N:yH)(W:St)(C:Nat->Addr)(H:Hp)(d:oD)(v:V):Prop:=RV Γ C H d v\/∃ id cs,d=.clo id cs/\∃ f J,v=.ref f/\Γ.lg id J/\aF5 H f J (au8 cells J.scope.names []) /\
  cs.length=J.fr.length/\(∀ x,J.scope.names.lookup x=some .free->∃ c,cells.lookup x=some c) /\
  ∃ cap,RVL Γ C H cs cap/\∀(i:Nat) x v ,J.fr[i]?=some x->cap[i]?=some v->J.scope.names.lookup x=some .free/\∃ j:Nat,N[j]?=some x/\W[j]?=some (some v)
inductive PVL (Γ:Gm)(cells:yB)(N:yH)(W:St)(C:Nat->Addr)(H:Hp):List oD->List V->Prop where
 | nil:PVL Γ cells N W C H [] []
 | cons {d v l vs} (a:PVp Γ cells N W C H d v) (b:PVL Γ cells N W C H l vs):PVL Γ cells N W C H (d::l) (v::vs)
theorem PVp.mono (g:Gr C s H C' s' H')(b:d.bnd s.length=true)(h:PVp Γ cells N W C H d v):PVp Γ cells N W C' H' d v:=by
 rcases h with h|⟨id,z,rfl,h⟩
 .exact .inl (RV.mono g _ _ b h)
 .obtain⟨f,J,e,h1,Z,F,G,cap,Y,h7⟩:=h;unfold oI at b;exact .inr ⟨id,z,rfl,f,J,e,h1,Z.kp g.w.kp,F,G,cap,RVL.mono g z cap b Y,h7⟩
end
variable {Γ:Gm} {X:Cx}
def TEv (Γ:Gm)(m:oE->oC->oH oD):TE:=λ W H Q=>∃ C U s d s',RE Γ C H s.length U W/\Rp Γ C H s/\m U s=.ok d s'/\ah0 Γ C s H d s' Q
def cd1 (Γ:Gm)(C:Nat->Addr)(s:oC)(H:Hp)(l:List oD)(s':oC)(Q:List V->Hp->Prop):Prop :=
 ∀ vs C' H',Gr C s H C' s' H'->s.length<=s'.length->oF s'.length l=true->RVL Γ C' H' l vs->Rp Γ C' H' s'->Q vs H'
def TAv (Γ:Gm)(m:oE->oC->oH (List oD)):TA:=λ W H Q=>∃ C U s l s',RE Γ C H s.length U W/\Rp Γ C H s/\m U s=.ok l s'/\cd1 Γ C s H l s' Q
def aP7 (Γ:Gm)(C:Nat->Addr)(s:oC)(H:Hp)(b:Bool)(s':oC)(Q:Bool->Hp->Prop):Prop :=
 ∀ C' H',Gr C s H C' s' H'->s.length<=s'.length->Rp Γ C' H' s'->Q b H'
def TTv (Γ:Gm)(m:oE->oC->oH oD):TT:=λ W H Q=>∃ C U s b s',RE Γ C H s.length U W/\Rp Γ C H s/\m U s=.ok (.T b) s'/\aP7 Γ C s H b s' Q
def PE.imp (h:PE X e t)(i:∀ W H Q,t' W H Q->t W H Q):PE X e t':=λ z s W H Q I q=>h z s W H Q I (i W H Q q)
def PT.imp (h:PT X e t)(i:∀ W H Q,t' W H Q->t W H Q):PT X e t':=λ z s W H Q I q=>h z s W H Q I (i W H Q q)
def PA.imp (h:PA X e t)(i:∀ W H Q,t' W H Q->t W H Q):PA X e t':=λ pos z s W H Q I q=>h pos z s W H Q I (i W H Q q)
theorem aP7.trans (h:aP7 Γ C s H b s' Q)(g:Gr C s H C1 s1 z)(l:s.length<=s1.length):aP7 Γ C1 s1 z b s' Q :=
 λ C' H' g' F p=>h C' H' (g.trans g' l) (ar l F) p
def bX8 i (h:TEv Γ (λ U s=>DV.bn1 U i s) W H Q):be3 i W H Q:=by
 obtain⟨C,U,s,d,s',E,R,hm,q⟩:=h;simp only[DV.bn1]at hm;split at hm
 .rename_i d' e;cases hm;obtain⟨b,v,e1,e2⟩:=E.val i _ e;exact⟨v,e1,q.here R b e2⟩
 .exact fb hm
def aG9 (hb:∀ n,c.bnd n=true)(hv:∀ C H,RV Γ C H c v)(h:TEv Γ (λ U s=>.ok c s) W H Q):tC v W H Q:=by
 obtain⟨C,U,s,d,s',E,R,hm,q⟩:=h;cases hm;exact q.here R (hb _) (hv _ _)
def bt6 (h:TEv Γ (λ U s=>(m1 U s).bind λ x s=>(m2 U s).bind λ y s=>f x y s) W H Q):tOp (rOp Γ f) (TEv Γ m1) (TEv Γ m2) W H Q:=by
 obtain⟨C,U,s,d,s',E,R,hm,q⟩:=h;obtain⟨x,s1,e1,hm⟩:=aa1 hm;obtain⟨y,s2,e2,hm⟩:=aa1 hm;refine⟨C,U,s,x,s1,E,R,e1,λ v1 C1 J g1 l1 b1 r1 R1=>?_⟩;refine⟨C1,U,s1,y,s2,E.mono g1 l1,R1,e2,λ G C2 Y z F b2 r2 R2=>?_⟩;exact⟨C2,s2,x,y,d,s',R2,RV.mono z x v1 b1 r1,r2,zn F x b1,b2,hm,q.trans (g1.trans z l1) (ar l1 F)⟩
def cm6 {f:oD->oC->oH oD}(h:TEv Γ (λ U s=>(m U s).bind λ x s=>f x s) W H Q)
  (hr:∀ C s x d s' v H',Rp Γ C H' s->RV Γ C H' x v->x.bnd s.length=true->f x s=.ok d s'->ah0 Γ C s H' d s' Q->r v H' Q):tUn r (TEv Γ m) W H Q:=by
 obtain⟨C,U,s,d,s',E,R,hm,q⟩:=h;obtain⟨x,s1,e1,hm⟩:=aa1 hm;exact⟨C,U,s,x,s1,E,R,e1,λ v1 C1 z g1 l1 b1 r1 R1=>hr C1 s1 x d s' v1 z R1 r1 b1 hm (q.trans g1 l1)⟩
def zL {a:α}(h:oS r f=.ok a t):∃ b s,r=.ok (.T b) s/\f b s=.ok a t:=by
 unfold oS at h;obtain⟨d,s,e,h⟩:=aa1 h;cases d with
 | T b=>exact⟨b,s,e,h⟩
 | _=>exact fb h
def aO7 (h:TTv Γ m W H Q):tB (TEv Γ m) W H Q:=by
 obtain⟨C,U,s,b,s',E,R,hm,q⟩:=h;refine⟨C,U,s,.T b,s',E,R,hm,λ v C' H' g l F r z=>?_⟩;exact⟨b,r.blE,q C' H' g l z⟩
def bh9 (h:TTv Γ m W H Q):bN7 (TEv Γ m) W H Q:=aO7 h
def cc0 (h:TTv Γ (λ U s=>oS (m U s) λ b s=>.ok (.T (!b)) s) W H Q):cw1 (TTv Γ m) W H Q:=by
 obtain⟨C,U,s,b,s',E,R,hm,q⟩:=h;obtain⟨c,s1,e1,hm⟩:=zL hm;cases hm;exact⟨C,U,s,c,_,E,R,e1,q⟩
def bC9 (h:TTv Γ (λ U s=>oS (m1 U s) λ c s=>if c then oS (m2 U s) λ c s=>.ok (.T c) s else .ok (.T false) s) W H Q):cw5 (TTv Γ m1) (TTv Γ m2) W H Q:=by
 obtain⟨C,U,s,b,s',E,R,hm,q⟩:=h;obtain⟨c,s1,e1,hm⟩:=zL hm;refine⟨C,U,s,c,s1,E,R,e1,λ C1 z g1 l1 R1=>?_⟩;cases c with
 | true =>
  rw[if_pos rfl]at hm ⊢;obtain⟨F,s2,e2,hm⟩:=zL hm;cases hm;exact⟨C1,U,s1,_,_,E.mono g1 l1,R1,e2,q.trans g1 l1⟩
 | false =>
  rw[if_neg aH]at hm ⊢;cases hm;exact q C1 z g1 l1 R1
def ca7 (h:TTv Γ (λ U s=>oS (m1 U s) λ c s=>if c then .ok (.T true) s else oS (m2 U s) λ c s=>.ok (.T c) s) W H Q):tOr (TTv Γ m1) (TTv Γ m2) W H Q:=by
 obtain⟨C,U,s,b,s',E,R,hm,q⟩:=h;obtain⟨c,s1,e1,hm⟩:=zL hm;refine⟨C,U,s,c,s1,E,R,e1,λ C1 z g1 l1 R1=>?_⟩;cases c with
 | true =>
  rw[if_pos rfl]at hm ⊢;cases hm;exact q C1 z g1 l1 R1
 | false =>
  rw[if_neg aH]at hm ⊢;obtain⟨F,s2,e2,hm⟩:=zL hm;cases hm;exact⟨C1,U,s1,_,_,E.mono g1 l1,R1,e2,q.trans g1 l1⟩
def ch0 (h:TEv Γ (λ U s=>oS (m U s) λ b s=>.ok (.T (!b)) s) W H Q):bV9 (TEv Γ m) W H Q:=by
 obtain⟨C,U,s,d,s',E,R,hm,q⟩:=h;obtain⟨c,s1,e1,hm⟩:=zL hm;cases hm;exact⟨C,U,s,.T c,_,E,R,e1,λ v C1 z g l b r R1=>⟨c,r.blE,q _ C1 z g l rfl RV.blI R1⟩⟩
def by0 (h:TEv Γ (λ U s=>oS (m1 U s) λ c s=>if c then oS (m2 U s) λ c s=>.ok (.T c) s else .ok (.T false) s) W H Q):ch1 (TEv Γ m1) (TEv Γ m2) W H Q:=by
 obtain⟨C,U,s,d,s',E,R,hm,q⟩:=h;obtain⟨c,s1,e1,hm⟩:=zL hm;refine⟨C,U,s,.T c,s1,E,R,e1,λ v C1 z g1 l1 b1 r1 R1=>⟨c,r1.blE,?_⟩⟩;cases c with
 | true =>
  rw[if_pos rfl]at hm ⊢;obtain⟨c,s2,e2,hm⟩:=zL hm;cases hm;exact⟨C1,U,s1,.T c,_,E.mono g1 l1,R1,e2,q.trans g1 l1⟩
 | false =>
  rw[if_neg aH]at hm ⊢;cases hm;exact q _ C1 z g1 l1 rfl RV.blI R1
def bV0 (h:TEv Γ (λ U s=>oS (m1 U s) λ c s=>if c then .ok (.T true) s else oS (m2 U s) λ c s=>.ok (.T c) s) W H Q):cv1 (TEv Γ m1) (TEv Γ m2) W H Q:=by
 obtain⟨C,U,s,d,s',E,R,hm,q⟩:=h;obtain⟨c,s1,e1,hm⟩:=zL hm;refine⟨C,U,s,.T c,s1,E,R,e1,λ v C1 z g1 l1 b1 r1 R1=>⟨c,r1.blE,?_⟩⟩;cases c with
 | true =>
  rw[if_pos rfl]at hm ⊢;cases hm;exact q _ C1 z g1 l1 rfl RV.blI R1
 | false =>
  rw[if_neg aH]at hm ⊢;obtain⟨c,s2,e2,hm⟩:=zL hm;cases hm;exact⟨C1,U,s1,.T c,_,E.mono g1 l1,R1,e2,q.trans g1 l1⟩
def ch7 (h:TEv Γ (λ U s=>oS (mc U s) λ k s=>if k then m1 U s else m2 U s) W H Q):tIf (TTv Γ mc) (TEv Γ m1) (TEv Γ m2) W H Q:=by
 obtain⟨C,U,s,d,s',E,R,hm,q⟩:=h;obtain⟨c,s1,e1,hm⟩:=zL hm;refine⟨C,U,s,c,s1,E,R,e1,λ C1 z g1 l1 R1=>?_⟩;cases c with
 | true =>
  rw[if_pos rfl]at hm ⊢;exact⟨C1,U,s1,d,s',E.mono g1 l1,R1,hm,q.trans g1 l1⟩
 | false =>
  rw[if_neg aH]at hm ⊢;exact⟨C1,U,s1,d,s',E.mono g1 l1,R1,hm,q.trans g1 l1⟩
def aS2 (h:TEv Γ (λ U s=>(Z U s).bind λ x s=>(mb U s).bind λ y s=>oS (f x y s) λ k s=>if k then(mc U s).bind λ z s=>g y z s else .ok (.T false) s) W H Q) :
  bf7 (rOp Γ f) (rOp Γ g) (TEv Γ Z) (TEv Γ mb) (TEv Γ mc) W H Q:=by
 obtain⟨C,U,s,d,s',E,R,hm,q⟩:=h;obtain⟨x,s1,e1,hm⟩:=aa1 hm;obtain⟨y,s2,e2,hm⟩:=aa1 hm;obtain⟨c,s3,e3,hm⟩:=zL hm;refine⟨C,U,s,x,s1,E,R,e1,λ v1 C1 H1 g1 l1 b1 r1 R1=>?_⟩;refine⟨C1,U,s1,y,s2,E.mono g1 l1,R1,e2,λ v2 C2 H2 Y J b2 r2 R2=>?_⟩;refine⟨C2,s2,x,y,.T c,s3,R2,RV.mono Y x v1 b1 r1,r2,zn J x b1,b2,e3,λ v3 C3 H3 g3 F b3 r3 R3=>⟨c,r3.blE,?_⟩⟩;have G:=(g1.trans Y l1).trans g3 (ar l1 J);have L:=ar (ar l1 J) F;cases c with
 | true =>
  rw[if_pos rfl]at hm ⊢;obtain⟨z,s4,e4,hm⟩:=aa1 hm;refine⟨C3,U,s3,z,s4,E.mono G L,R3,e4,λ v4 C4 H4 g4 l4 b4 r4 R4=>?_⟩;exact⟨C4,s4,y,z,d,s',R4,RV.mono (g3.trans g4 F) y v2 b2 r2,r4,zn (ar F l4) y b2,b4,hm,q.trans (G.trans g4 L) (ar L l4)⟩
 | false =>
  rw[if_neg aH]at hm ⊢;cases hm;exact q _ C3 H3 G L rfl RV.blI R3
def aR0 (h:TAv Γ (λ U s=>.ok [] s) W H Q):aW4 W H Q:=by
 obtain⟨C,U,s,d,s',E,R,hm,q⟩:=h;cases hm;exact q [] C H (Gr.refl _ _ _) (au _) rfl .nil R
def bQ6 (h:TAv Γ (λ U s=>(m U s).bind λ d s=>(z U s).bind λ l s=>.ok (d::l) s) W H Q):aj4 (TEv Γ m) (TAv Γ z) W H Q:=by
 obtain⟨C,U,s,l,s',E,R,hm,q⟩:=h;obtain⟨x,s1,e1,hm⟩:=aa1 hm;obtain⟨y,s2,e2,hm⟩:=aa1 hm;cases hm;refine⟨C,U,s,x,s1,E,R,e1,λ v1 C1 Z g1 l1 b1 r1 R1=>?_⟩;refine⟨C1,U,s1,y,_,E.mono g1 l1,R1,e2,λ J C2 Y F G b2 r2 R2=>?_⟩;refine q (v1::J) C2 Y (g1.trans F l1) (ar l1 G) ?_ (.cons (RV.mono F x v1 b1 r1) r2) R2;unfold oF;rw[zn G x b1,b2];rfl
def aN4 (h:TEv Γ (λ U s=>(z U s).bind λ l s=>f l s) W H Q):tCB (rCl Γ f) (TAv Γ z) W H Q:=by
 obtain⟨C,U,s,d,s',E,R,hm,q⟩:=h;obtain⟨l,s1,e1,hm⟩:=aa1 hm;exact⟨C,U,s,l,s1,E,R,e1,λ vs C1 F g1 l1 b1 r1 R1=>⟨C1,s1,l,d,s',R1,r1,b1,hm,q.trans g1 l1⟩⟩
def cn8 :
  (TEv Γ (λ U s=>(m U s).bind λ x s=>(ml U s).bind λ y s=>match y with|.int i=>rb x (some i) none s|_=>.B) W H Q->tSl (rSl Γ) (TEv Γ m) (bm2 (TEv Γ ml)) aK2 W H Q) /\
  (TEv Γ (λ U s=>(m U s).bind λ x s=>(J U s).bind λ y s=>match y with|.int i=>rb x none (some i) s|_=>.B) W H Q->tSl (rSl Γ) (TEv Γ m) aK2 (bm2 (TEv Γ J)) W H Q) /\
  (TEv Γ (λ U s=>(m U s).bind λ x s=>(ml U s).bind λ y s=>match y with|.int i=>(J U s).bind (λ z s=>match z with|.int j=>rb x (some i) (some j) s|_=>.B)|_=>.B) W H Q->tSl (rSl Γ) (TEv Γ m) (bm2 (TEv Γ ml)) (bm2 (TEv Γ J)) W H Q):=by
 refine⟨λ h=>?_,λ h=>?_,λ h=>?_⟩
 .obtain⟨C,U,s,d,s',E,R,hm,q⟩:=h;obtain⟨x,s1,e1,hm⟩:=aa1 hm;obtain⟨y,s2,e2,hm⟩:=aa1 hm;refine⟨C,U,s,x,s1,E,R,e1,λ v1 C1 H1 g1 l1 b1 r1 R1=>?_⟩;refine⟨C1,U,s1,y,s2,E.mono g1 l1,R1,e2,λ Z C2 H2 G F b2 r2 R2=>?_⟩;cases y with
  | int i=>exact⟨i,r2.intE,C2,s2,x,d,s',R2,RV.mono G x v1 b1 r1,zn F x b1,hm,q.trans (g1.trans G l1) (ar l1 F)⟩
  | _=>exact fb hm
 .obtain⟨C,U,s,d,s',E,R,hm,q⟩:=h;obtain⟨x,s1,e1,hm⟩:=aa1 hm;obtain⟨y,s2,e2,hm⟩:=aa1 hm;refine⟨C,U,s,x,s1,E,R,e1,λ v1 C1 H1 g1 l1 b1 r1 R1=>?_⟩;refine⟨C1,U,s1,y,s2,E.mono g1 l1,R1,e2,λ Z C2 H2 G F b2 r2 R2=>?_⟩;cases y with
  | int i=>exact⟨i,r2.intE,C2,s2,x,d,s',R2,RV.mono G x v1 b1 r1,zn F x b1,hm,q.trans (g1.trans G l1) (ar l1 F)⟩
  | _=>exact fb hm
 .obtain⟨C,U,s,d,s',E,R,hm,q⟩:=h;obtain⟨x,s1,e1,hm⟩:=aa1 hm;obtain⟨y,s2,e2,hm⟩:=aa1 hm;refine⟨C,U,s,x,s1,E,R,e1,λ v1 C1 H1 g1 l1 b1 r1 R1=>?_⟩;refine⟨C1,U,s1,y,s2,E.mono g1 l1,R1,e2,λ Z C2 H2 G F b2 r2 R2=>?_⟩;cases y with
  | int i =>
   obtain⟨z,s3,e3,hm⟩:=aa1 hm;refine⟨i,r2.intE,C2,U,s2,z,s3,E.mono (g1.trans G l1) (ar l1 F),R2,e3,λ v3 C3 H3 g3 Y b3 r3 R3=>?_⟩;cases z with
   | int j=>exact⟨j,r3.intE,C3,s3,x,d,s',R3,RV.mono (G.trans g3 F) x v1 b1 r1,zn (ar F Y) x b1,hm,q.trans ((g1.trans G l1).trans g3 (ar l1 F)) (ar (ar l1 F) Y)⟩
   | _=>exact fb hm
  | _=>exact fb hm
variable {Γ:Gm} {X:Cx}
def as2 (Γ:Gm)(J:It)(C0:Nat->Addr)(H0:Hp)(s0:oC)(q:pU):Prop :=
 ∀ C H s,Gr C0 s0 H0 C s H->s0.length<=s.length->Rp Γ C H s->pw s0 s q.src=true->∀ i:Nat,
  (i<q.its.length->J.go i H/\∀ x H',J.yld i H x H'->af0 H H'/\∀ d,q.its[i]?=some d->RV Γ C H' d x)/\(q.its.length<=i->J.stop i H)
def TIv (Γ:Gm)(m:oE->oC->oH pU):TI:=λ W H R=>∃ C U s q s',RE Γ C H s.length U W/\Rp Γ C H s/\m U s=.ok q s' /\
 ∀ J C' H',Gr C s H C' s' H'->s.length<=s'.length->oF s'.length q.its=true->Rp Γ C' H' s'->as2 Γ J C' H' s' q->R J H'
def PI.imp (h:PI X tg e t)(i:∀ W H R,t' W H R->t W H R):PI X tg e t':=λ z s W H R I q=>h z s W H R I (i W H R q)
def PI.or (h:PI X tg e t)(h':PI X tg e t'):PI X tg e (λ W H R=>t W H R\/t' W H R):=λ z s W H R I q=>q.elim (h z s W H R I) (h' z s W H R I)
def bo1 (h:SqT Γ.K H0 a F)(hl:RVL Γ C0 H0 l F)(hb:oF s0.length l=true):as2 Γ (Itt Γ.K a) C0 H0 s0 ⟨l,[]⟩:=by
 intro C H s g _ R _ i;have h':=g.w.kp.sqT h;have z:=RVL.mono g l F hb hl;refine⟨λ hlt=>⟨⟨F,F[i]'(by rw[z.length];exact hlt),h',ai _⟩,λ x H' y=>?_⟩,λ G=>⟨F,h',by rw[z.length];exact G⟩⟩;obtain⟨e,y⟩:=y;subst e;refine⟨af0.refl _,λ d hd=>?_⟩;obtain⟨v,e1,e2⟩:=z.get hd;rw[y F h']at e1;cases e1;exact e2
def bP4 (h:SqF Γ.K H0 a F)(hl:RVL Γ C0 H0 l F)(hb:oF s0.length l=true):as2 Γ (Itl Γ.K a) C0 H0 s0 ⟨l,[]⟩:=by
 intro C H s g _ R _ i;have h':=h.2 _ g.w.kp;have z:=RVL.mono g l F hb hl;refine⟨λ hlt=>⟨⟨F,F[i]'(by rw[z.length];exact hlt),h',ai _⟩,λ x H' y=>?_⟩,λ G=>⟨F,h',by rw[z.length];exact G⟩⟩;obtain⟨e,y⟩:=y;subst e;refine⟨af0.refl _,λ d hd=>?_⟩;obtain⟨v,e1,e2⟩:=z.get hd;rw[y F h']at e1;cases e1;exact e2
def bs2 (hr:s0[r]?=some (.J l)):as2 Γ (Itl Γ.K (C0 r)) C0 H0 s0 ⟨l,[r]⟩:=by
 intro C H s g _ R Y i;have G:=(ae.mp hr).1;have hs:s[r]?=some (.J l):=by
  unfold pw at Y;simp only[cz,og,iV,decide_eq_true_eq]at Y;rw[Y];exact hr
 obtain⟨F,e,z⟩:=R.addr hs;rw[g.w.map r G]at e;have h':SqL Γ.K H (C0 r) F:=SqL.of e;refine⟨λ hlt=>⟨⟨F,F[i]'(by rw[z.length];exact hlt),h',ai _⟩,λ x H' y=>?_⟩,λ J=>⟨F,h',by rw[z.length];exact J⟩⟩;obtain⟨e,y⟩:=y;subst e;refine⟨af0.refl _,λ d hd=>?_⟩;obtain⟨v,e1,e2⟩:=z.get hd;rw[y F h']at e1;cases e1;exact e2
def bu3 {l:List Nat}:as2 Γ (Its ⟨l.toArray⟩) C0 H0 s0 ⟨l.map λ c=>.str [c],[]⟩:=by
 intro C H s g _ R _ i;have hsz:(⟨l.toArray⟩:Str).cps.size=l.length:=by simp
 refine⟨λ hlt=>?_,λ z=>?_⟩
 .simp only[aq]at hlt;refine⟨show i<(⟨l.toArray⟩:Str).cps.size by rw[hsz];exact hlt,λ x H' y=>?_⟩;obtain⟨e,c,hc,rfl⟩:=y;subst e;refine⟨af0.refl _,λ d hd=>?_⟩;have F:=by simpa using hc
  rw[aQ,F]at hd;cases hd;exact RV.strI (by simp;decide)
 .simp only[aq]at z;show(⟨l.toArray⟩:Str).cps.size<=i;rw[hsz];exact z
def bu8 :as2 Γ (Itr a (b - a).toNat) C0 H0 s0 ⟨pM a b,[]⟩:=by
 intro C H s g _ R _ i;have hn:(pM a b).length=(b - a).toNat:=by simp[pM]
 refine⟨λ hlt=>⟨show i<(b - a).toNat by rw[<-hn];exact hlt,λ x H' y=>?_⟩,λ z=>show(b - a).toNat<=i by rw[<-hn];exact z⟩;obtain⟨e,rfl⟩:=y;subst e;refine⟨af0.refl _,λ d hd=>?_⟩;simp only[pM]at hd hlt;rw[aQ,dZ (by simpa using hlt)]at hd;cases hd;exact RV.intI
def bl0 :as2 Γ (cq5 a (a+1).toNat) C0 H0 s0 ⟨pO a,[]⟩:=by
 intro C H s g _ R _ i;have hn:(pO a).length=(a+1).toNat:=by unfold pO;simp
 refine⟨λ hlt=>⟨show i<(a+1).toNat by rw[<-hn];exact hlt,λ x H' y=>?_⟩,λ F=>show(a+1).toNat<=i by rw[<-hn];exact F⟩;obtain⟨e,rfl⟩:=y;subst e;refine⟨af0.refl _,λ d hd=>?_⟩;have z:i<(a+1).toNat:=by rw[<-hn];exact hlt
 simp only[pO]at hd;rw[aQ,dZ z]at hd;cases hd;exact RV.intI
def bG9 (h:TIv Γ (λ U s=>(m1 U s).bind λ x s=>match x with|.int i=>if 0<=i/\i<1048576 then .ok ⟨pO i,[]⟩ s else .B|_=>.B) W H R) :
  bZ9 (aj4 (TEv Γ m1) (aj4 (tC (.int (-1))) (aj4 (tC (.int (-1))) aW4))) W H R:=by
 obtain⟨C,U,s,q,s',E,P,hm,k⟩:=h;obtain⟨x,s1,e1,hm⟩:=aa1 hm;refine⟨C,U,s,x,s1,E,P,e1,λ v C1 F g l b r G=>?_⟩;cases x with
 | int i =>
  simp only at hm;split at hm
  .rename_i z;cases hm;refine⟨i,by rw[r.intE],⟨z.1,z.2⟩,k _ C1 F g l ?_ G bl0⟩;refine ab0.mpr λ d hd=>?_;unfold pO at hd;rw[ay]at hd;obtain⟨_,_,rfl⟩:=hd;rfl
  .exact fb hm
 | _=>exact fb hm
def bI4 (h:TIv Γ (λ U s=>(m U s).bind λ x s=>match x with|.int i=>if -rK<=i/\i<rK then .ok ⟨pM 0 i,[]⟩ s else .B|_=>.B) W H R) :
  cg2 (aj4 (TEv Γ m) aW4) W H R:=by
 obtain⟨C,U,s,q,s',E,P,hm,k⟩:=h;obtain⟨x,s1,e1,hm⟩:=aa1 hm;refine⟨C,U,s,x,s1,E,P,e1,λ v C1 F g l b r G=>?_⟩;cases x with
 | int i =>
  simp only at hm;split at hm
  .rename_i z;cases hm;have hw:rK=2^62:=by decide
   rw[hw]at z;refine⟨i,by rw[r.intE],z.1,z.2,k _ C1 F g l ?_ G ?_⟩
   .refine ab0.mpr λ d hd=>?_;simp only[pM,ay]at hd;obtain⟨_,_,rfl⟩:=hd;rfl
   .have:=bu8 (Γ:=Γ) (C0:=C1) (H0:=F) (s0:=s') (a:=0) (b:=i)
    rwa [oh]at this
  .exact fb hm
 | _=>exact fb hm
def bW6 (h:TIv Γ (λ U s=>(m U s).bind λ d s=>DV.ai2 d s) W H R) :
  cu4 Γ.K (TEv Γ m) W H R\/bR4 Γ.K (TEv Γ m) W H R\/cw7 (TEv Γ m) W H R:=by
 obtain⟨C,U,s,q,s',E,P,hm,k⟩:=h;obtain⟨x,s1,e1,hm⟩:=aa1 hm;unfold DV.ai2 at hm;cases x with
 | tp l =>
  cases hm;refine .inl ⟨C,U,s,_,_,E,P,e1,λ v C1 F g l b r z=>?_⟩;obtain⟨a,G,rfl,Z,d1⟩:=r.tupE;unfold oI at b;exact⟨a,rfl,⟨G,Z⟩,k _ C1 F g l b z (bo1 Z d1 b)⟩
 | str l =>
  cases hm;refine .inr (.inr ⟨C,U,s,_,_,E,P,e1,λ v C1 F g J b r z=>?_⟩);refine⟨_,r.strE,k _ C1 F g J ?_ z bu3⟩;refine ab0.mpr λ d hd=>?_;simp only[ay]at hd;obtain⟨_,_,rfl⟩:=hd;rfl
 | ref r =>
  simp only at hm;cases hs:s1[r]? with
  | none=>rw[hs]at hm;cases hm
  | some o =>
   rw[hs]at hm;cases o with
   | J l =>
    cases hm;refine .inr (.inl ⟨C,U,s,_,_,E,P,e1,λ v C1 F g J b Y z=>?_⟩);have e:=Y.refE;subst e;obtain⟨G,e2,d1⟩:=z.addr hs;have wf:=z.wf _ _ hs;unfold oK at wf;exact⟨C1 r,rfl,⟨G,SqL.of e2⟩,k _ C1 F g J wf z (bs2 hs)⟩
   | ro l =>
    cases hm;refine .inr (.inl ⟨C,U,s,_,_,E,P,e1,λ v C1 F g J b Y z=>?_⟩);have e:=Y.refE;subst e;obtain⟨G,e2,d1⟩:=z.obj _ _ hs;have wf:=z.wf _ _ hs;unfold oK at wf;exact⟨C1 r,rfl,⟨G,e2.1⟩,k _ C1 F g J wf z (bP4 e2 d1 wf)⟩
   | dit l=>exact fb hm
   | ins c l=>exact fb hm
 | _=>exact fb hm
variable {Γ:Gm} {X:Cx}
noncomputable def ck6:List Nat->TGs
 | []=>cp1
 | i::is=>bo8 (au5 i) (ck6 is)
def gOf (K:af):pi->TG
 | .Y i=>au5 i
 | .tp is=>cl7 K is.length (ck6 is)
def bz9 (E:RE Γ C H n U W)(r:RV Γ C H d v)(b:d.bnd n=true)(h:pP U i d=some U'):RE Γ C H n U' (W.set i (some v)):=by
 unfold pP at h;split at h
 .rename_i z;cases h;refine⟨by rw[bf,bf];exact E.len,λ j e hj=>?_⟩;by_cases hij:j=i
  .subst hij;rw[bj z]at hj;cases hj;exact⟨b,v,by rw[bj (by rw[<-E.len];exact z)],r⟩
  .rw[bH (dk hij)]at hj;obtain⟨J,w,G,F⟩:=E.val j e hj;exact⟨J,w,by rw[bH (dk hij)];exact G,F⟩
 .cases h
theorem cf9 :∀ is l z U U' W ,RE Γ C H n U W->RVL Γ C H l z->oF n l=true->re U is l=some U'->(∀ W',RE Γ C H n U' W'->Q W' H)->ck6 is z W H Q
 | [],[],z,U,U',W,E,r,_,h,k=>by
  cases h;exact⟨r.unnil,k W E⟩
 | [],d::l,_,_,_,_,_,_,_,h,_=>by cases h
 | i::is,[],_,_,_,_,_,_,_,h,_=>by cases h
 | i::is,d::l,z,U,U',W,E,r,b,h,k=>by
  have h:(pP U i d).bind (λ U=>re U is l)=some U':=h;obtain⟨x,F,rfl,J,G⟩:=r.uncons;unfold oF at b;rw[aj]at b;cases e:pP U i d with
  | none=>rw[e]at h;cases h
  | some U1 =>
   rw[e]at h;exact⟨x,F,rfl,cf9 is l F U1 U' _ (bz9 E J b.1 e) G b.2 h k⟩
def bb2 :∀ {is} {U U'},re U is l=some U'->is.length=l.length:=by
 induction l with
 | nil=>intro is U U' h;cases is with
  | nil=>rfl
  | cons i is=>cases h
 | cons d l ih=>intro is U U' h;cases is with
  | nil=>cases h
  | cons i is =>
   have h:(pP U i d).bind (λ U=>re U is l)=some U':=h;cases e:pP U i d with
   | none=>rw[e]at h;cases h
   | some U1=>rw[e]at h;rw[aR,aR,ih h]
def bG7 (E:RE Γ C H n U W)(r:RV Γ C H d v)(b:d.bnd n=true)(h:o6 U tg d=some U')(k:∀ W',RE Γ C H n U' W'->Q W' H):gOf Γ.K tg v W H Q:=by
 cases tg with
 | Y i=>exact k _ (bz9 E r b h)
 | tp is =>
  cases d with
  | tp l =>
   have h:=h;obtain⟨a,z,rfl,F,d1⟩:=r.tupE;unfold oI at b;exact⟨a,z,rfl,F,by rw[d1.length,bb2 h],cf9 is l z U U' W E d1 b h k⟩
  | _=>cases h
def Off (C:Nat->Addr)(s:oC)(b:Addr):Prop:=∀ i ob ,s[i]?=some ob->isMut ob=true->C i≠b
def Off.mono (h:Off C s b)(g:Gr C s H C' s' H')(hb:H b=some o):Off C' s' b:=λ i ob e m z=>by
 by_cases J:i<s.length
 .obtain⟨F,G⟩:∃ F,s[i]?=some F:=⟨s[i],ai J⟩
  exact h i F G (g.mu i F ob G e m) (by rw[<-g.w.map i J];exact z)
 .have:=g.new i (by lia) (ae.mp e).1;rw[z,hb]at this;cases this
def Off.new (r:Rp Γ C H s)(h:H b=none):Off C s b:=λ i ob e m z=>by
 obtain⟨u,hu,_⟩:=(r.obj i ob e).there m;rw[z,h]at hu;cases hu
def Rp.foreign (r:Rp Γ C H s)(hb:H b=some (.J ys))(ho:Off C s b):Rp Γ C (upd H b (.J z)) s:=by
 have g:Gw C s.length H C (upd H b (.J z)):=⟨λ _ _=>rfl,(Kp.refl H).put hb rfl⟩
 exact⟨r.inj,λ i o e=>(r.obj i o e).mono g (r.wf i o e) λ m u hu=>by rw[zc (ho i o e m)];exact hu,r.wf,r.tab.put hb⟩
def Gr.foreign (g:Gr C s H C' s' H')(h0:H b=none)(hb:H' b=some (.J ys)):Gr C s H C' s' (upd H' b (.J z)):=by
 have ne:∀ c o,H c=some o->c≠b:=λ c o e=>zf e h0;refine⟨⟨g.w.map,λ c o e f=>?_⟩,g.le,g.new,g.kd,λ c hc=>?_,λ c o e G F=>?_⟩
 .rw[zc (ne c o e)];exact g.w.kp c o e f
 .unfold upd;split
  .simp
  .exact g.st c hc
 .rw[zc (ne c o e)];exact g.fr c o e G F
def ci6 (Γ:Gm)(C:Nat->Addr)(s:oC)(H:Hp)(l:List oD)(s':oC)(Q:VK):Prop :=
 ∀ p ys C' H',Gr C s H C' s' H'->s.length<=s'.length->oF s'.length l=true->H' p=some (.J ys)->H p=none->Off C' s' p->RVL Γ C' H' l ys->Rp Γ C' H' s'->Q (.ref p) H'
def TFv (Γ:Gm)(m:oE->oC->oH (List oD)):TE:=λ W H Q=>∃ C U s l s',RE Γ C H s.length U W/\Rp Γ C H s/\m U s=.ok l s'/\ci6 Γ C s H l s' Q
def bk2 (h:TEv Γ (λ U s=>(m U s).bind λ l s=>pB (.J l) s) W H Q):TFv Γ m W H Q:=by
 obtain⟨C,U,s,d,s',E,R,hm,q⟩:=h;obtain⟨l,s1,e1,hm⟩:=aa1 hm;obtain⟨rfl,rfl⟩:=qj hm;refine⟨C,U,s,l,s1,E,R,e1,λ p ys C' H' g hl hb hp h0 ho r J=>?_⟩;have gw:Gw C' s1.length H' (λ i=>if i=s1.length then p else C' i) H':=⟨λ i z=>if_neg (aK z),Kp.refl _⟩
 have key:∀ i F ,(s1++[DV.O.J l])[i]?=some F->(i<s1.length/\s1[i]?=some F)\/(i=s1.length/\F=.J l):=λ i F e=>by
  rcases fT i s1.length with h|h|h
  .rw[aS h]at e;exact .inl ⟨h,e⟩
  .subst h;simp at e;exact .inr ⟨rfl,e.symm⟩
  .rw[cV (by simp;lia)]at e;cases e
 have G:Gr C s H (λ i=>if i=s1.length then p else C' i) (s1++[.J l]) H':=by
  refine⟨⟨λ i z=>by skip;rw[if_neg (by lia)];exact g.w.map i z,g.w.kp⟩,by simp;lia,λ i h1 h2=>?_,λ i o F e e'=>?_,g.st,g.fr⟩
  .by_cases z:i=s1.length
   .skip
    rw[if_pos z];exact h0
   .skip
    rw[if_neg z];exact g.new i h1 (by simp at h2;lia)
  .rcases key i F e' with⟨_,e2⟩|⟨z,_⟩
   .exact g.kd i o F e e2
   .have:=(ae.mp e).1;lia
 have P:Rp Γ (λ i=>if i=s1.length then p else C' i) H' (s1++[.J l]):=by
  refine⟨λ i j Z Y ei ej mi mj e=>?_,λ i o e=>?_,λ i o e=>?_,J.tab⟩
  .rcases key i Z ei with⟨z,ei⟩|⟨z,_⟩<;>rcases key j Y ej with⟨hj,ej⟩|⟨hj,_⟩
   .rw[if_neg (aK z),if_neg (aK hj)]at e;exact J.inj i j Z Y ei ej mi mj e
   .rw[if_neg (aK z),if_pos hj]at e;exact absurd e (ho i Z ei mi)
   .rw[if_neg (aK hj),if_pos z]at e;exact absurd e.symm (ho j Y ej mj)
   .rw[z,hj]
  .rcases key i o e with⟨z,e⟩|⟨z,rfl⟩
   .skip
    rw[if_neg (aK z)];exact(J.obj i o e).mono gw (J.wf i o e) λ _ u hu=>hu
   .skip
    rw[if_pos z];exact⟨ys,hp,RVL.monoW gw l ys hb r⟩
  .rw[aA,eR];rcases key i o e with⟨_,e⟩|⟨_,rfl⟩
   .exact qe (dQ _) _ (J.wf i o e)
   .exact qe (dQ _) _ (by unfold oK;exact hb)
 exact q (.ref p) _ H' G (by simp;omega) (by unfold oI;simp) (by unfold RV;simp) P
def ca8 (E:RE Γ C H n U W) z :RE Γ C H n (pV U z) (aH2 z W):=by
 refine⟨by unfold pV aH2;simp,λ i d e=>?_⟩;unfold pV at e;rw[aQ]at e;cases q:z[i]? with
 | none=>rw[q]at e;cases e
 | some o =>
  rw[q]at e;cases o with
  | none=>cases e
  | some j =>
   have e':(U[j]?).join=some d:=aC e;have ej:U[j]?=some (some d):=by
    cases q2:U[j]? with
    | none=>rw[q2]at e';cases e'
    | some o2=>rw[q2]at e';exact congrArg some e'
   obtain⟨b,v,G,F⟩:=E.val j d ej;refine⟨b,v,?_,F⟩;unfold aH2;rw[aQ,q];show some ((W[j]?).join)=_;rw[G];rfl
def aZ2 
  (h:TFv Γ (λ U s=>(mI U s).bind λ q s0=>if q.its.length<=oN then pQ (λ s=>pw s0 s q.src) (λ d U s=>match o6 U tg d with
   | some U=>oS (mc U s) λ k s=>if k then(me U s).bind λ v s=>.ok (some v,U) s else .ok (none,U) s
   | none=>.B) q.its (pV U Y) s0 else .B) W H Q):tComp Y (TIv Γ mI) (gOf Γ.K tg) (TTv Γ mc) (TEv Γ me) W H Q:=by
 obtain⟨C,U,s,l,s',E,R,hm,k⟩:=h;obtain⟨q,s0,e1,hm⟩:=aa1 hm;split at hm
 case isFalse=>exact fb hm
 rename_i b2;refine⟨C,U,s,q,s0,E,R,e1,λ J C1 H1 g1 l1 b1 R1 wk D hD=>?_⟩;have h0:H D=none:=by
  cases e:H D with
  | none=>rfl
  | some o=>exact absurd hD (g1.st D (by rw[e];simp))
 refine⟨λ i m W' H'=>∃ C' U' t F ys rest,Gr C1 s0 H1 C' t H'/\Rp Γ C' H' t/\RE Γ C' H' t.length U' W'/\H' D=some (.J ys)/\Off C' t D/\RVL Γ C' H' F ys/\oF t.length F=true/\F.length<=i/\i<=q.its.length/\m=q.its.length - i /\
  pQ (λ s=>pw s0 s q.src) (λ d U s=>match o6 U tg d with
   | some U=>oS (mc U s) λ k s=>if k then(me U s).bind λ v s=>.ok (some v,U) s else .ok (none,U) s
   | none=>.B) (q.its.drop i) U' t=.ok rest s'/\l=F++rest,⟨q.its.length,?_⟩,?_⟩
 .obtain⟨g2,R2⟩:=R1.same ((af0.refl H1).new hD);exact⟨C1,pV U Y,s0,[],[],l,g2,R2,ca8 ((E.mono g1 l1).mono g2 (au _)) Y,zg,Off.new R1 hD,.nil,rfl,au _,b9 _,by simp,by rw[ir];exact hm,rfl⟩
 .rintro i m W' H' ⟨C',U',t,F,ys,rest,g,R',E',hy,a3,ra,ba,b4,b3,rfl,hc,hl⟩
  have G:=g.le;rcases jG i q.its.length with hlt|hge
  .have hd:=ai hlt;rw[fh hlt]at hc;unfold pQ at hc;split at hc
   case isFalse=>exact fb hc
   rename_i a2;obtain⟨a7,a9⟩:=(wk C' H' t g G R' a2 i).1 hlt;refine .inr ⟨a7,_,λ W2 H2 n=>⟨q.its.length - (i+1),by omega,n⟩,λ x H2 a8=>?_⟩;obtain⟨sm,rv⟩:=a9 x H2 a8;obtain⟨g2,R2⟩:=R'.same sm;have rd:=rv _ hd;have bd:=zn G _ (az6 b1 hd);obtain⟨p,t3,hs,hc⟩:=aa1 hc;obtain⟨r2,t4,a6,hc⟩:=aa1 hc;cases hb:o6 U' tg q.its[i]with
   | none=>rw[hb]at hs;cases hs
   | some U3 =>
    rw[hb]at hs;refine bG7 (E'.mono g2 (au _)) rd bd hb λ W3 E3=>?_;obtain⟨c,t1,ec,hs⟩:=zL hs;refine⟨C',U3,t,c,t1,E3,R2,ec,λ C2 H4 g4 l4 R4=>?_⟩;have a5:=sm _ _ hy;have a4:=g4.fr D _ a5 (by nofun) a3;have Z:=a3.mono g4 a5;have G4:=(g.trans g2 G).trans g4 G;cases c with
    | true =>
     rw[if_pos rfl]at hs;refine iteT ?_;obtain⟨v,t2,ev,hs⟩:=aa1 hs;cases hs;refine⟨C2,U3,t1,v,t3,E3.mono g4 l4,R4,ev,λ w C3 H5 g5 l5 b5 r5 R5=>?_⟩;have a0:=g5.fr D _ a4 (by nofun) Z;have a1:=Z.mono g5 a4;refine⟨ys,a0,?_,?_⟩
     .rw[ra.length];have:=z7;lia
     .have gw:Gw C3 t3.length H5 C3 (upd H5 D (.J (ys++[w]))):=⟨λ _ _=>rfl,(Kp.refl H5).put a0 rfl⟩
      have G5:=G4.trans g5 (ar G l4);have GG:=g2.trans (g4.trans g5 l4) (au _);have b0:=RVL.mono GG _ _ ba ra;have bb:oF t3.length (F++[v])=true:=zQ (ac5 GG.le _ ba) (by unfold oF;rw[b5];rfl);refine⟨C3,U3,t3,F++[v],ys++[w],r2,G5.foreign hD a0,R5.foreign a0 a1,?_,zg,a1,RVL.monoW gw _ _ bb (b0.append (.cons r5 .nil)),bb,by simp;omega,hlt,rfl,?_,?_⟩
      .have E5:=(E3.mono g4 l4).mono g5 l5;exact⟨E5.len,λ j e hj=>by
        obtain⟨h1,z,h2,h3⟩:=E5.val j e hj;exact⟨h1,z,h2,RV.monoW gw _ _ h1 h3⟩⟩
      .cases hc;exact a6
      .cases hc;rw[hl];simp
    | false =>
     rw[if_neg aH]at hs;refine cx7 ?_;cases hs;have GG:=g2.trans g4 (au _);exact⟨C2,U3,t3,F,ys,r2,G4,R4,E3.mono g4 l4,a4,Z,RVL.mono GG _ _ ba ra,ac5 l4 _ ba,by lia,hlt,rfl,by cases hc;exact a6,by cases hc;exact hl⟩
  .have hi:=by omega
   rw[jH hge]at hc;unfold pQ at hc;split at hc
   case isFalse=>exact fb hc
   rename_i a2;cases hc;refine .inl ⟨(wk C' H' s' g G R' a2 i).2 hge,?_⟩;rw[bh]at hl;subst hl;exact k D ys C' H' (g1.trans g l1) (ar l1 G) ba hy h0 a3 ra R'
variable {Γ:Gm} {X:Cx}
def cv2 (Γ:Gm)(C:Nat->Addr)(H:Hp)(n:Nat)(D:Ends):pj->Prop
 | .next U=>∀ W,RE Γ C H n U W->D.nx W H
 | .ret d=>∀ v,d.bnd n=true->RV Γ C H d v->D.rt v H
 | .cont U=>∀ W,RE Γ C H n U W->D.ct W H
 | .brk U=>∀ W,RE Γ C H n U W->D.bk W H
def aq8 (Γ:Gm)(C:Nat->Addr)(s:oC)(H:Hp)(c:pj)(s':oC)(D:Ends):Prop :=
 ∀ C' H',Gr C s H C' s' H'->s.length<=s'.length->Rp Γ C' H' s'->cv2 Γ C' H' s'.length D c
def TSv (Γ:Gm)(m:oE->oC->oH pj):TS:=λ D W H=>∃ C U s c s',RE Γ C H s.length U W/\Rp Γ C H s/\m U s=.ok c s'/\aq8 Γ C s H c s' D
def PS.imp (h:PS X e t)(i:∀ D W H,t' D W H->t D W H):PS X e t':=λ z s W H Q I q=>h z s W H Q I (i Q W H q)
def PSs.imp (h:PSs X e t)(i:∀ D W H,t' D W H->t D W H):PSs X e t':=λ z s W H Q I q=>h z s W H Q I (i Q W H q)
theorem aq8.trans {D}(h:aq8 Γ C s H c s' D)(g:Gr C s H C1 s1 z)(l:s.length<=s1.length):aq8 Γ C1 s1 z c s' D :=
 λ C' H' g' F p=>h C' H' (g.trans g' l) (ar l F) p
def aq8.here {D}(h:aq8 Γ C s H c s D)(p:Rp Γ C H s):cv2 Γ C H s.length D c:=h C H (Gr.refl C s H) (au _) p
variable {D:Ends} {W:St} {H:Hp}
def bM8 (hm:∀ U s,m U s=.ok (.next U) s)(h:TSv Γ m D W H):cj2 D W H:=by
 obtain⟨C,U,s,c,s',E,R,e,q⟩:=h;rw[hm]at e;cases e;exact q.here R W E
def cd9 (h:TSv Γ (λ U s=>(m U s).bind λ d s=>.ok (.ret d) s) D W H):cx0 (TEv Γ m) D W H:=by
 obtain⟨C,U,s,c,s',E,R,e,q⟩:=h;obtain⟨x,s1,e1,e⟩:=aa1 e;cases e;exact⟨C,U,s,x,_,E,R,e1,λ v C1 z g1 l1 b1 r1 R1=>q C1 z g1 l1 R1 v b1 r1⟩
def bO5 (h:TSv Γ (λ U s=>(m U s).bind λ _ s=>.ok (.next U) s) D W H):ca1 (TEv Γ m) D W H:=by
 obtain⟨C,U,s,c,s',E,R,e,q⟩:=h;obtain⟨x,s1,e1,e⟩:=aa1 e;cases e;exact⟨C,U,s,x,_,E,R,e1,λ v C1 z g1 l1 b1 r1 R1=>q C1 z g1 l1 R1 W (E.mono g1 l1)⟩
def bi3 (h:TSv Γ (λ U s=>(m U s).bind λ d s=>match o6 U tg d with|some U=>.ok (.next U) s|none=>.B) D W H):bx7 (TEv Γ m) (gOf Γ.K tg) D W H:=by
 obtain⟨C,U,s,c,s',E,R,e,q⟩:=h;obtain⟨x,s1,e1,e⟩:=aa1 e;refine⟨C,U,s,x,s1,E,R,e1,λ v C1 F g1 l1 b1 r1 R1=>?_⟩;cases hb:o6 U tg x with
 | none=>rw[hb]at e;cases e
 | some U1 =>
  rw[hb]at e;cases e;exact bG7 (E.mono g1 l1) r1 b1 hb λ W' z=>q C1 F g1 l1 R1 W' z
def br0 (h:TSv Γ (λ U s=>((m U s).bind λ l s=>pB (.J l) s).bind λ d s=>match o6 U tg d with|some U=>.ok (.next U) s|none=>.B) D W H):bx7 (TFv Γ m) (gOf Γ.K tg) D W H :=
 bk2 (bi3 h)
def bZ2 (Γ:Gm):ck7:=λ o i v H Q=>∃ C s x y d s',Rp Γ C H s/\RV Γ C H x o/\RV Γ C H y i/\RV Γ C H d v/\x.bnd s.length=true/\y.bnd s.length=true/\d.bnd s.length=true/\DV.setIx x y d s=.ok () s' /\
 ∀ C' H',Gr C s H C' s' H'->s.length<=s'.length->Rp Γ C' H' s'->Q H'
def bs3 (h:TSv Γ (λ U s=>(J U s).bind λ d s=>(mo U s).bind λ x s=>(mi U s).bind λ y s=>(DV.setIx x y d s).bind λ _ s=>.ok (.next U) s) D W H) :
  bx7 (TEv Γ J) (cu6 (TEv Γ mo) (TEv Γ mi) (bZ2 Γ)) D W H:=by
 obtain⟨C,U,s,c,s',E,R,e,q⟩:=h;obtain⟨d,s1,e1,e⟩:=aa1 e;obtain⟨x,s2,e2,e⟩:=aa1 e;obtain⟨y,s3,e3,e⟩:=aa1 e;obtain⟨u,s4,e4,e⟩:=aa1 e;cases e;refine⟨C,U,s,d,s1,E,R,e1,λ v1 C1 H1 g1 l1 b1 r1 R1=>?_⟩;refine⟨C1,U,s1,x,s2,E.mono g1 l1,R1,e2,λ v2 C2 H2 Z F b2 r2 R2=>?_⟩;have G2:=g1.trans Z l1;have L2:=ar l1 F;refine⟨C2,U,s2,y,s3,E.mono G2 L2,R2,e3,λ v3 C3 H3 G z b3 r3 R3=>?_⟩;refine⟨C3,s3,x,y,d,_,R3,RV.mono G x v2 b2 r2,r3,RV.mono (Z.trans G F) d v1 b1 r1,zn z x b2,b3,zn (ar F z) d b1,e4,λ C4 H4 g4 l4 R4=>?_⟩;have Y:=G2.trans G L2;have L3:=ar L2 z;exact q C4 H4 (Y.trans g4 L3) (ar L3 l4) R4 W (E.mono (Y.trans g4 L3) (ar L3 l4))
def bV4 (hu:X.A.units+2<cLine):cq4 X (bZ2 Γ):=by
 intro F sh W H o i v ov iv u Q I ro ri rv h;obtain⟨C,s,x,y,d,s',R,rx,ry,rd,bx,a0,bd,hm,q⟩:=h;cases x with
 | ref r =>
  have hm:(match s[r]? with
   | some (.J l)=>(match y with
    | .int i=>(match pD l.length i with|some j=>DV.R.ok () (s.set r (.J (l.set j d)))|none=>.B)
    | _=>.B)
   | some (.dit l)=>if y.keyT&&decide (l.length<oN)then .ok () (s.set r (.dit (pd y d l)))else .B
   | _=>.B)=.ok () s':=hm
  cases e:s[r]? with
  | none=>rw[e]at hm;cases hm
  | some ob =>
   rw[e]at hm;cases ob with
   | J l =>
    cases y with
    | int k =>
     have hm:(match pD l.length k with|some j=>DV.R.ok () (s.set r (.J (l.set j d)))|none=>.B)=.ok () s':=hm;cases ej:pD l.length k with
     | none=>rw[ej]at hm;cases hm
     | some j =>
      rw[ej]at hm;cases hm;obtain⟨xs,h1,G⟩:=R.addr e;have hb:oF s.length (l.set j d)=true:=ab0.mpr λ z hz=>by
       rcases List.mem_or_eq_of_mem_set hz with h|h
       .exact ab0.mp (by have:=R.wf r _ e;unfold oK at this;exact this) z h
       .subst h;exact bd
      refine bw3 F sh W H o i v ov iv u Q I ro ri rv ⟨C r,xs,k,j,rx.refE,ry.intE,h1,?_,?_⟩
      .rw[G.length];exact ej
      .obtain⟨g,R'⟩:=R.set (o:=.J (l.set j d)) e rfl hb λ H' g e=>⟨_,e,RVL.monoW g _ _ hb (G.set j rd)⟩
       exact q _ _ g (by simp) R'
    | _=>exact fb hm
   | dit l =>
    have hm:(if y.keyT&&decide (l.length<oN)then DV.R.ok () (s.set r (.dit (pd y d l)))else .B)=.ok () s':=hm;split at hm
    case isFalse=>exact fb hm
    rename_i hc;cases hm;rw[aj]at hc;obtain⟨k,hk⟩:=qO hc.1;have hlt:=of_decide_eq_true hc.2;obtain⟨J,h1,G⟩:=R.obj r _ e;have ex:=rx.refE;subst ex;cases ro;obtain⟨kb,ey,Y⟩:=aq5 hk ry;subst ey;have hb:=bs8 (R.wf r _ e) a0 bd;have Z:=by
     unfold oK at hb;rw[aj]at hb;exact hb.2
    obtain⟨g,R'⟩:=R.set e rfl hb λ H' g e=>⟨_,e,RVD.monoW g _ _ Z (G.put keyT_inj hk rd)⟩
    exact bf9 hu I (ck3.t h1 Y (by rw[G.length];exact aL hlt z7)) ri rv λ s4 I4=>⟨_,I4,q _ _ g (by simp) R'⟩
   | _=>exact fb hm
 | _=>exact fb hm
def cn4 (h:TSv Γ (λ U s=>oS (mc U s) λ k s=>if k then m1 U s else m2 U s) D W H):cv3 (TTv Γ mc) (TSv Γ m1) (TSv Γ m2) D W H:=by
 obtain⟨C,U,s,d,s',E,R,hm,q⟩:=h;obtain⟨c,s1,e1,hm⟩:=zL hm;refine⟨C,U,s,c,s1,E,R,e1,λ C1 z g1 l1 R1=>?_⟩;cases c with
 | true =>
  rw[if_pos rfl]at hm ⊢;exact⟨C1,U,s1,d,s',E.mono g1 l1,R1,hm,q.trans g1 l1⟩
 | false =>
  rw[if_neg aH]at hm ⊢;exact⟨C1,U,s1,d,s',E.mono g1 l1,R1,hm,q.trans g1 l1⟩
def bD7 (h:TSv Γ (λ U s=>(m1 U s).bind λ c s=>match c with|.next U=>m2 U s|c=>.ok c s) D W H):co7 (TSv Γ m1) (TSv Γ m2) D W H:=by
 obtain⟨C,U,s,c,s',E,R,hm,q⟩:=h;obtain⟨F,s1,e1,hm⟩:=aa1 hm;refine⟨C,U,s,F,s1,E,R,e1,λ C1 z g1 l1 R1=>?_⟩;cases F with
 | next U1=>exact λ W1 G=>⟨C1,U1,s1,c,s',G,R1,hm,q.trans g1 l1⟩
 | ret d=>cases hm;exact q C1 z g1 l1 R1
 | cont U=>cases hm;exact q C1 z g1 l1 R1
 | brk U=>cases hm;exact q C1 z g1 l1 R1
def bq2 (h:TSv Γ (DV.whl mc F) D W H):bB9 (TTv Γ mc) (TSv Γ F) D W H:=by
 obtain⟨C,U,s,c,s',E,R,hm,q⟩:=h;unfold DV.whl at hm;split at hm
 case isFalse=>exact fb hm
 rename_i hn;generalize hn.choose=n at hm;refine⟨λ n W H=>∃ C U s,RE Γ C H s.length U W/\Rp Γ C H s/\DV.jk mc F n U s=.ok c s'/\aq8 Γ C s H c s' D,⟨n,C,U,s,E,R,hm,q⟩,?_⟩;clear E R hm q hn
 rintro n W H ⟨C,U,s,E,R,hm,q⟩
 cases n with
 | zero=>exact fb hm
 | succ n =>
  unfold DV.jk at hm;obtain⟨b,s1,e1,hm⟩:=zL hm;refine⟨C,U,s,b,s1,E,R,e1,λ C1 Z g1 l1 R1=>?_⟩;cases b with
  | false =>
   rw[if_neg aH]at hm ⊢;cases hm;exact q C1 Z g1 l1 R1 W (E.mono g1 l1)
  | true =>
   rw[if_pos rfl]at hm ⊢;obtain⟨Y,s2,e2,hm⟩:=aa1 hm;refine⟨_,λ W' H' w=>⟨n,gi n,w⟩,C1,U,s1,Y,s2,E.mono g1 l1,R1,e2,λ C2 J g2 l2 R2=>?_⟩;have G:=g1.trans g2 l1;have L:=ar l1 l2;cases Y with
   | next U1=>exact λ W1 z=>⟨C2,U1,s2,z,R2,hm,q.trans G L⟩
   | cont U1=>exact λ W1 z=>⟨C2,U1,s2,z,R2,hm,q.trans G L⟩
   | ret d=>cases hm;exact q C2 J G L R2
   | brk U=>cases hm;exact q C2 J G L R2
def bV5 (h:TSv Γ (λ U s=>(mI U s).bind λ q s0=>rA (λ s=>pw s0 s q.src) (λ d U s=>match o6 U tg d with
  | some U=>mb U s
  | none=>.B) q.its U s0) D W H):cv8 (TIv Γ mI) (gOf Γ.K tg) (TSv Γ mb) D W H:=by
 obtain⟨C,U,s,c,s',E,R,hm,k⟩:=h;obtain⟨q,s0,e1,hm⟩:=aa1 hm;refine⟨C,U,s,q,s0,E,R,e1,λ J C1 H1 g1 l1 b1 R1 wk=>?_⟩;refine⟨λ i m W' H'=>∃ C' U' t,Gr C1 s0 H1 C' t H'/\Rp Γ C' H' t/\RE Γ C' H' t.length U' W'/\i<=q.its.length/\m=q.its.length - i /\
  rA (λ s=>pw s0 s q.src) (λ d U s=>match o6 U tg d with
   | some U=>mb U s
   | none=>.B) (q.its.drop i) U' t=.ok c s',⟨q.its.length,?_⟩,?_⟩
 .exact⟨C1,U,s0,Gr.refl _ _ _,R1,E.mono g1 l1,b9 _,by simp,by rw[ir];exact hm⟩
 .rintro i m W' H' ⟨C',U',t,g,G,E',a3,rfl,hc⟩
  have z:=g.le;rcases jG i q.its.length with hlt|hge
  .have hd:=ai hlt;rw[fh hlt]at hc;unfold rA at hc;split at hc
   case isFalse=>exact fb hc
   rename_i F;obtain⟨a1,a0⟩:=(wk C' H' t g z G F i).1 hlt;refine .inr ⟨a1,_,λ W2 H2 n=>⟨q.its.length - (i+1),by omega,n⟩,λ x H2 a2=>?_⟩;obtain⟨sm,rv⟩:=a0 x H2 a2;obtain⟨g2,R2⟩:=G.same sm;have rd:=rv _ hd;have bd:=zn z _ (az6 b1 hd);obtain⟨c1,Z,hs,hc⟩:=aa1 hc;cases hb:o6 U' tg q.its[i]with
   | none=>rw[hb]at hs;cases hs
   | some U3 =>
    rw[hb]at hs;refine bG7 (E'.mono g2 (au _)) rd bd hb λ W3 E3=>?_;refine⟨C',U3,t,c1,Z,E3,R2,hs,λ C2 H4 g4 l4 Y=>?_⟩;have G4:=(g.trans g2 z).trans g4 z;have L4:=ar z l4;have GG:=g1.trans G4 l1;cases c1 with
    | next U1=>exact λ W1 E1=>⟨C2,U1,Z,G4,Y,E1,hlt,rfl,hc⟩
    | cont U1=>exact λ W1 E1=>⟨C2,U1,Z,G4,Y,E1,hlt,rfl,hc⟩
    | ret d=>cases hc;exact k C2 H4 GG (ar l1 L4) Y
    | brk U=>cases hc;exact k C2 H4 GG (ar l1 L4) Y
  .rw[jH hge]at hc;unfold rA at hc;split at hc
   case isFalse=>exact fb hc
   rename_i F;cases hc;exact .inl ⟨(wk C' H' s' g z G F i).2 hge,k C' H' (g1.trans g l1) (ar l1 z) G W' E'⟩
structure Ck where
 N:List Str
 sc:Scope
 lk:String->List Nat->Expr->Bool
noncomputable abbrev ck0 (N:yH)(sc:Scope):Ck:=⟨N,sc,λ _ _ _=>false⟩
noncomputable def Ck.vis (c:Ck)(x:Str):Bool:=match c.sc.names.lookup x with|some .local=>true|some .cell=>true|some .free=>true|_=>false
noncomputable def Ck.loc (c:Ck)(x:Str):Bool:=match c.sc.names.lookup x with|some .local=>true|some .cell=>true|_=>false
noncomputable def Ck.gl (c:Ck)(x:Str):Bool:=(match c.sc.names.lookup x with|some .globalImplicit=>true|_=>false)&&!(x==("__debug__"))&&!decide (x=("__name__"))
noncomputable def Ck.var (c:Ck)(i:Nat)(x:Str):Bool:=decide (c.N[i]?=some x)&&c.vis x&&!(x==("__debug__"))&&!(x==("__classdict__"))
noncomputable def shp:Expr->Bool
 | .Starred ..=>false
 | .Set ..=>false
 | .SetComp ..=>false
 | .DictComp ..=>false
 | .GeneratorExp ..=>false
 | .Slice ..=>false
 | .NamedExpr ..=>false
 | _=>true
noncomputable def ax7:Expr->Bool
 | .ListComp ..=>false
 | .SetComp ..=>false
 | .DictComp ..=>false
 | _=>true
noncomputable def ca3:Expr->Bool
 | .Tuple ..=>false
 | _=>true
noncomputable def bA5:Expr->Bool
 | .Call _ [] [] _=>false
 | _=>true
noncomputable def mC:DV.Cn->Const->Bool
 | .N,.none=>true
 | .T b,.bool c=>b==c
 | .int i,.int j=>decide (i=j)
 | .str x,.str y=>decide (y=⟨x.toArray⟩)&&decide (x.length<=1000)
 | _,_=>false
noncomputable def ck8 (ck:Ck):List Nat->List Expr->Bool
 | [],[]=>true
 | i::is,.Name x _::es=>decide (ck.N[i]?=some x)&&ck.loc x&&ck8 ck is es
 | _,_=>false
def mTg (ck:Ck):pi->Expr->Bool
 | .Y i,.Name x _=>decide (ck.N[i]?=some x)&&ck.loc x
 | .tp is,.Tuple es _ _=>ck8 ck is es
 | _,_=>false
noncomputable def tgN:Expr->List Str
 | .Name x _=>[x]
 | .Tuple es _ _=>es.filterMap λ e=>match e with|.Name x _=>some x|_=>none
 | _=>[]
structure ItT where
 x:Str
 y:Str
 ob:Expr
 sc:Scope
 p1:Pos
 p2:Pos
 p3:Pos
 p4:Pos
 p5:Pos
 p6:Pos
 p7:Pos
 k1:Nat
 k2:Nat
 ap:Pos
 cp:Pos
 pos:Pos
noncomputable def ItT.tg (q:ItT):Expr:=.Tuple [.Name q.x q.p5,.Name q.y q.p6] q.k2 q.p7
noncomputable def ItT.it (q:ItT):Expr:=.Call (.Attribute q.ob "items" q.ap) [] [] q.cp
noncomputable def ItT.text (q:ItT):Expr:=.ListComp (.BinOp (.Name q.x q.p1) .Add (.Tuple [.Name q.y q.p2] q.k1 q.p3) q.p4) [⟨q.tg,q.it,[],0⟩] q.sc q.pos
noncomputable def cl4:Expr->Option ItT
 | .ListComp (.BinOp (.Name x p1) .Add (.Tuple [.Name y p2] k1 p3) p4) [⟨.Tuple [.Name x' p5,.Name y' p6] k2 p7,.Call (.Attribute ob it ap) [] [] cp,[],z⟩] sc pos=>if x'=x/\y'=y/\it=("items")/\z=0 then some ⟨x,y,ob,sc,p1,p2,p3,p4,p5,p6,p7,k1,k2,ap,cp,pos⟩else none
 | _=>none
def ckC (ck:Ck)(tgt:Expr)(caps:yD)(scope:Scope):Ck:=⟨tgN tgt++(caps.filterMap id).map λ j=>ck.N.getD j "",scope,λ _ _ _=>false⟩
def aK8 (ck:Ck)(tg:pi)(tgt iter:Expr)(caps:yD)(scope:Scope):Bool :=
 zU (ckC ck tgt caps scope).N caps scope ck.N ck.sc&&decide ((ckC ck tgt caps scope).N.Nodup)&&mTg (ckC ck tgt caps scope) tg tgt&&shp iter
noncomputable def biT:ph->Option Str
 | .len=>some "len" | .abs=>some "abs" | .min2=>some "min" | .int=>some "int" | .str=>some "str" | _=>none
noncomputable def biK:ph->Option (Nat×Str)
 | .isInt=>some (1, "int")|.isBool=>some (2, "bool")|.isStr=>some (3, "str")|.isTup=>some (4, "tuple")|.isList=>some (5, "list")|_=>none
noncomputable def mkT:rj->Option Str
 | .tuple=>some "tuple" | .list=>some "list" | _=>none
noncomputable def mkF:rj->Option Str
 | .all=>some "all" | .any=>some "any" | .min=>some "min" | _=>none
noncomputable def mtT:rk->Option (Str×Nat)
 | .append=>some ("append",1)|_=>none
def cm0 (ck:Ck)(b:ph)(x:Str)(xs:yK)(m1 m2:Bool):Bool:=match biK b with
 | some p=>(match xs with|[_,.Name y _]=>decide (x=("isinstance"))&&ck.gl x&&decide (y=p.2)&&ck.gl y&&m2|_=>false)
 | none=>(match xs with|_::_=>decide (biT b=some x)&&ck.gl x&&m1|[]=>false)
def ck4 (ck:Ck)(q:ItT):Bool:=aK8 ck (.tp [0,1]) q.tg q.it [none,none] q.sc&&decide (q.x≠q.y)&&decide (q.sc.names.lookup q.x=some .local)&&decide (q.sc.names.lookup q.y=some .local)&&bA5 q.ob&&(q.ap.endLine==q.cp.line) &&
 (!(q.x==("__debug__":Str))&&!(q.y==("__debug__":Str))&&!(q.x==("__classdict__":Str))&&!(q.y==("__classdict__":Str)))
mutual
noncomputable def mE (ck:Ck):pJ->Expr->Bool
 | .X i,E=>match E with|.Name x _=>ck.var i x|_=>false
 | .K c,E=>match E with|.Constant v _ _=>mC c v|_=>false
 | .gl g,E=>match E with|.Name x _=>decide (x=(g:Str))&&ck.gl x|_=>false
 | .G op a b,E=>match E with|.BinOp l o r _=>decide (o=cs8 op)&&mE ck a l&&mE ck b r|_=>false
 | .neg a,E=>match E with|.UnaryOp .USub l _=>mE ck a l|_=>false
 | .not a,E=>match E with|.UnaryOp .Not l _=>mE ck a l|_=>false
 | .Z op a b,E=>match E with|.Compare l [o] [r] _=>decide (o=av3 op)&&mE ck a l&&mE ck b r|_=>false
 | .chain o p a b c,E=>match E with|.Compare l [o1,o2] [m,r] _=>decide (o1=av3 o)&&decide (o2=av3 p)&&mE ck a l&&mE ck b m&&mE ck c r|_=>false
 | .isN a,E=>match E with|.Compare l [.Is] [.Constant .none _ _] _=>mE ck a l|_=>false
 | .notN a,E=>match E with|.Compare l [.IsNot] [.Constant .none _ _] _=>mE ck a l|_=>false
 | .and a b,E=>match E with
  | .BoolOp .And [l,r] _=>mE ck a l&&mE ck b r
  | .BoolOp .And (l::m::r::es) p=>mE ck a l&&mE ck b (.BoolOp .And (m::r::es) p)
  | _=>false
 | .or a b,E=>match E with
  | .BoolOp .Or [l,r] _=>mE ck a l&&mE ck b r
  | .BoolOp .Or (l::m::r::es) p=>mE ck a l&&mE ck b (.BoolOp .Or (m::r::es) p)
  | _=>false
 | .ite c a b,E=>match E with|.IfExp t l r _=>mE ck c t&&mE ck a l&&mE ck b r|_=>false
 | .tp es,E=>match E with|.Tuple xs _ _=>mEs ck es xs&&decide (xs.length<=1000)|_=>false
 | .J es,E=>match E with|.List xs _=>mEs ck es xs&&decide (xs.length<=1000)|_=>false
 | .slU a hi,E=>match E with|.Subscript o (.Slice none (some h) none _) _=>mE ck a o&&mE ck hi h|_=>false
 | .dicT,E=>match E with|.Dict [] [] _=>true|_=>false
 | .dicU k v,E=>match E with|.Dict a b _=>(match a,b with|[some x],[y]=>mE ck k x&&mE ck v y|_,_=>false)|_=>false
 | .get2 o k d,E=>match E with|.Call (.Attribute ob x ap) [a,b] [] cp=>decide (x=("get":Str))&&bA5 ob&&(ap.endLine==cp.line)&&mE ck o ob&&mE ck k a&&mE ck d b&&shp a&&shp b|_=>false
 | .ix a b,E=>match E with|.Subscript o i _=>mE ck a o&&mE ck b i|_=>false
 | .call f as,E=>match E with|.Call (.Name x _) xs [] _=>decide (x=(f:Str))&&ck.gl x&&mAs ck as xs|_=>false
 | .bi b es,E=>match E with|.Call (.Name x _) xs [] _=>cm0 ck b x xs (mEs ck es xs) (mEs ck es (xs.take 1))|_=>false
 | .mk k l,E=>match E with
  | .Call (.Name x _) [a] [] _=>ck.gl x&&shp a&&((decide (mkT k=some x)&&mL ck 2 l a)||(decide (mkF k=some x)&&mL ck 1 l a))
  | .ListComp e gs sc p=>decide (k=.list)&&mL ck 0 l (.ListComp e gs sc p)
  | _=>false
 | .mkD k l d,E=>match E with
  | .Call (.Name x _) [a] [⟨some y,de,_⟩] _=>((decide (k=.max)&&decide (x=("max":Str)))||(decide (k=.min)&&decide (x=("min":Str))))&&decide (y=("default":Str))&&ck.gl x&&shp a&&mL ck 1 l a&&mE ck d de
  | _=>false
 | .me m o es,E=>match E with
  | .Call (.Attribute ob x ap) xs [] cp=>decide (mtT m=some (x,xs.length))&&bA5 ob&&(ap.endLine==cp.line)&&mE ck o ob&&mEs ck es xs
  | _=>false
 | .ext o l,E=>match E with
  | .Call (.Attribute ob x ap) [a] [] cp=>decide (x=("extend":Str))&&bA5 ob&&(ap.endLine==cp.line)&&mE ck o ob&&mL ck 1 l a&&shp a
  | _=>false
noncomputable def mEs (ck:Ck):o7->List Expr->Bool
 | .nil,xs=>match xs with|[]=>true|_=>false
 | .cons e es,xs=>match xs with|x::xs=>mE ck e x&&shp x&&mEs ck es xs|_=>false
noncomputable def mFs (ck:Ck):o7->List Expr->Bool
 | .nil,xs=>match xs with|[]=>true|_=>false
 | .cons e es,xs=>match xs with
  | .FormattedValue v c none _::xs=>decide (c=-1)&&mE ck e v&&mFs ck es xs
  | .Constant v j p::xs=>mE ck e (.Constant v j p)&&mFs ck es xs
  | _=>false
noncomputable def mAs (ck:Ck):pW->List Expr->Bool
 | .nil,xs=>match xs with|[]=>true|_=>false
 | .ex e es,xs=>match xs with|x::xs=>mE ck e x&&shp x&&mAs ck es xs|_=>false
 | .fn _ _,_=>false
noncomputable def cx1 (ck:Ck):pW->List Expr->Bool
 | .nil,xs=>match xs with|[]=>true|_=>false
 | .ex e es,xs=>match xs with|x::xs=>mE ck e x&&shp x&&cx1 ck es xs|_=>false
 | .fn _ _,_=>false
noncomputable def mI (ck:Ck)(tgt:Expr):DV.I->Expr->Bool
 | .rg a,E=>match E with|.Call (.Name x _) [l] [] _=>decide (x=("range":Str))&&ck.gl x&&mE ck a l&&shp l|_=>false
 | .seq e,x=>mE ck e x&&shp x
 | .rngD a,E=>match E with|.Call (.Name x _) [l,.UnaryOp .USub (.Constant v _ _) _,.UnaryOp .USub (.Constant u _ _) _] [] _=>decide (x=("range":Str))&&ck.gl x&&mE ck a l&&shp l&&decide (v=.int 1)&&decide (u=.int 1)|_=>false
noncomputable def mL (ck:Ck)(k:Nat):DV.L->Expr->Bool
 | .comp tg it e caps,E=>match E with|.ListComp elt [⟨tgt,iter,[],z⟩] scope _=>decide (z=0)&&aK8 ck tg tgt iter caps scope&&mI ck tgt it iter&&mE (ckC ck tgt caps scope) e elt|_=>false
 | .compIf tg it c e caps,E=>match E with|.ListComp elt [⟨tgt,iter,[i],z⟩] scope _=>decide (z=0)&&aK8 ck tg tgt iter caps scope&&mI ck tgt it iter&&mE (ckC ck tgt caps scope) c i&&mE (ckC ck tgt caps scope) e elt|_=>false
 | .disp es,E=>match E with|.List xs _=>decide (1<=k)&&mEs ck es xs&&decide (xs.length<=1000)|_=>false
 | .seq e,x=>decide (k=2)&&mE ck e x
 | .itm e,E=>match cl4 E with|some q=>decide (1<=k)&&ck4 ck q&&mE ck e q.ob|none=>false
end
def ff {p:Prop}(h:false=true):p:=mG h
mutual
noncomputable def mS (ck:Ck):DV.S->Stmt->Bool
 | .A tg e,S=>match S with
  | .Assign [t] v _=>mTg ck tg t&&mE ck e v&&(match tg with|.Y _=>true|.tp _=>ca3 v&&ax7 v)
  | _=>false
 | .setIx o i e,S=>match S with|.Assign [.Subscript ob ix _] v _=>mE ck o ob&&mE ck i ix&&mE ck e v&&ax7 v|_=>false
 | .ex e,S=>match S with|.Expr v _=>mE ck e v&&ax7 v|_=>false
 | .ret e,S=>match S with|.Return (some v) _=>mE ck e v|_=>false
 | .ite c a b,S=>match S with|.If t l r _=>mE ck c t&&mSs ck a l&&mSs ck b r|_=>false
 | .whl c b,S=>match S with|.While t l [] _=>mE ck c t&&mSs ck b l|_=>false
 | .fo tg it b,S=>match S with|.For tgt iter l [] _=>mTg ck tg tgt&&mI ck tgt it iter&&mSs ck b l|_=>false
 | .raise,_=>true
noncomputable def mSs (ck:Ck):rL->List Stmt->Bool
 | .nil,xs=>match xs with|[]=>true|_=>false
 | .cons s ss,xs=>match xs with|x::xs=>(mS ck s x&&mSs ck ss xs)|_=>false
end
def aH9 (h:mE z e E=true):shp E=true:=by
 cases E<;>first|rfl|(exfalso;cases e<;>exact ff h)
def ce7 (h:mI F z e E=true):shp E=true:=by
 cases e with
 | seq e=>have h:(mE F e E&&shp E)=true:=h;rw[aj]at h;exact h.2
 | _=>cases E<;>first|rfl|exact ff h
def zb {es:yK}(h:shp e=true):bB (e::es) env=(false,eval e env)::bB es env:=by
 cases e<;>first|rfl|cases h
theorem zJ :∀ {es:yK},(∀ e∈es,shp e=true)->(eZ pos (bB es env)).any (·.1)=false/\(eZ pos (bB es env)).all (λ x=>!x.1)=true
 | [],_=>⟨rfl,rfl⟩
 | e::es,h=>by
  have G:=zb (es:=es) (env:=env) (h e (ax ..));obtain⟨F,z⟩:=zJ (env:=env) (pos:=pos) λ x hx=>h x (ak _ hx);rw[G];unfold eZ at F z ⊢;simp only[av,iR,cz,F,z];exact⟨rfl,rfl⟩
def aK7 (h:shp e=true) x :eW e env x=pure x:=by
 cases e<;>first|rfl|cases h
def behind_ok (h:shp e=true):dS op e=false:=by
 cases e<;>first|rfl|cases h
def am3 (h:ax7 e=true):f7 e t l env=pure false:=by
 cases e<;>first|rfl|cases h
def au2 (h:bA5 e=true):dW e f env (eval e env)=eval e env:=by
 cases e with
 | Call g a k p =>
  cases g with
  | Name x p' =>
   cases a with
   | nil=>cases k with
    | nil=>cases h
    | cons _ _=>rfl
   | cons _ _=>rfl
  | _=>rfl
 | _=>rfl
def aU4 {es:yK}(h:ca3 e=true):iO [.Tuple es k p] e env=pure none:=by
 cases e<;>first|rfl|cases h
def aU9 :iO [.Subscript o i p] e env=pure none:=by
 cases e<;>rfl
def aw8 (h:shp e=true):bm6 e:=by
 intro o i;cases e<;>first|rfl|cases h
def spV (Γ:Gm)(c:List oD->oC->oH oD):Sp:=λ vs H Q _=>rCl Γ c vs H Q
noncomputable def bNames:List Str:=["len", "abs", "min", "max", "int", "isinstance", "bool", "str", "tuple", "list", "range", "sum", "all", "any", "sorted", "zip", "enumerate", "ord"]
noncomputable def LamI.own (J:LamI):Str:=match J.nm with|none => "<lambda>" | some p=>p.1
noncomputable def strD (kvs:List (List Nat×List Nat)):List (PyData×PyData):=kvs.map λ p=>(.str ⟨p.1.toArray⟩,.str ⟨p.2.toArray⟩)
structure CG (Γ:Gm)(F:oQ)(n:Nat)(X:Cx)(ck:Ck):Prop where
 K:X.K=Γ.K
 N:X.N=ck.N
 nd:ck.N.Nodup
 xe:X.xe=λ _ _=>False
 calm:X.calm=true
 deep:oW+1<=n
 room:Room n X.A
 sc:∀ x k,ck.sc.names.lookup x=some k->X.env.scope.names.lookup x=some k\/(k=.free/\X.env.scope.names.lookup x=some .cell)
 fn:∀ x,ck.sc.names.lookup x=some .cell->X.fn x=true
 bi:∀ x∈bNames,X.mg x=none
 call:∀ f:String,(∀ l s,F.call f l s=.B)\/∃ a fd ps,FnOk X.prog X.w X.K X.mg X.base CX0 n a fd ps (spV Γ (F.call f))/\X.mg (f:Str)=some (.ref a)/\c6 X.K (.ref a)=true/\Binds X.K fd ps []
 con:∀ x d,F.con x=some d->∃ v u,X.mg (x:Str)=some u/\RelV v u/\(∀ m,d.bnd m=true)/\∀ C H,RV Γ C H d v
 lam:∀ id caps E,ck.lk id caps E=true->False
 cl:True
 fa:∀(f:String) (a:Addr),Γ.fa f=some a->X.mg (f:Str)=some (.ref a)/\∃ oc od fd sl,X.K.lookup a=some ⟨oc,od,.func fd,sl⟩
 fk:DV.FK F
 cdc:∀ c kvs,F.cdc c=some kvs->∃ a,X.mg (c:Str)=some (.ref a)/\∀ h:Heap,X.K.In h->StrTab X.prog X.w h a (strD kvs)
section
variable {Γ:Gm} {F:oQ} {n:Nat} {X:Cx} {ck:Ck}
theorem CG.vis (G:CG Γ F n X ck)(h:ck.vis x=true):Vis X.env.scope x:=by
 unfold Ck.vis at h;split at h
 .rename_i e;rcases G.sc _ _ e with z|⟨z,_⟩
  .exact .inl z
  .cases z
 .rename_i e;rcases G.sc _ _ e with z|⟨z,_⟩
  .exact .inr (.inl z)
  .cases z
 .rename_i e;rcases G.sc _ _ e with z|⟨_,z⟩
  .exact .inr (.inr z)
  .exact .inr (.inl z)
 .cases h
theorem CG.loc (G:CG Γ F n X ck)(h:ck.loc x=true):Loc X.env.scope x/\(X.fn x=true\/X.env.scope.names.lookup x=some .local):=by
 unfold Ck.loc at h;split at h
 .rename_i e;rcases G.sc _ _ e with z|⟨z,_⟩
  .exact⟨.inl z,.inr z⟩
  .cases z
 .rename_i e;rcases G.sc _ _ e with z|⟨z,_⟩
  .exact⟨.inr z,.inl (G.fn _ e)⟩
  .cases z
 .cases h
theorem CG.gl (G:CG Γ F n X ck)(h:ck.gl x=true):Gl X x/\(x==("__debug__"))=false/\x ≠ "__name__":=by
 unfold Ck.gl at h;simp only[aj,eU]at h;obtain⟨⟨J,Z⟩,Y⟩:=h;refine⟨?_,Z,of_decide_eq_false Y⟩;split at J
 .rename_i e;rcases G.sc _ _ e with z|⟨z,_⟩
  .exact z
  .cases z
 .cases J
theorem bC2 (G:CG Γ F n X ck):∀ {is} {es:yK},ck8 ck is es=true->PGs X es (ck6 is)/\(dB es X.env).length=is.length/\(dB es X.env).findIdx? (·.1)=none
 | [],[],_=>⟨bi6,rfl,rfl⟩
 | [],_::_,h=>by cases h
 | i::is,[],h=>by cases h
 | i::is,e::es,h=>by
  cases e with
  | Name x p =>
   unfold ck8 at h;simp only[aj,decide_eq_true_eq]at h;obtain⟨⟨Z,J⟩,z⟩:=h;obtain⟨l1,Y⟩:=G.loc J;obtain⟨a,b,c⟩:=bC2 G z;have hs:dB (.Name x p::es) X.env=(false,js (.Name x p) X.env)::dB es X.env:=rfl;refine⟨ay1 (az4 (by rw[G.N];exact G.nd) (by rw[G.N];exact Z) l1 Y) a (by rw[hs];rfl),by rw[hs,aR,aR,b],?_⟩;rw[hs,List.findIdx?_cons];simp[c]
  | _=>cases h
def bL4 (G:CG Γ F n X ck)(h:mTg ck tg e=true):PG X e (gOf Γ.K tg):=by
 unfold mTg at h;split at h
 .simp only[aj,decide_eq_true_eq]at h;obtain⟨l1,z⟩:=G.loc h.2;exact az4 (by rw[G.N];exact G.nd) (by rw[G.N];exact h.1) l1 z
 .obtain⟨a,b,c⟩:=bC2 G h;exact bI0 G.K G.calm a b c
 .cases h
def CG.comp (G:CG Γ F n X ck)(h:aK8 ck tg Y iter J scope=true) :
  zU (ckC ck Y J scope).N J scope X.N X.env.scope=true/\shp iter=true /\
  ∀(Cc:Addr) (cells:yB) (s:ag) (H:Hp) (ex:List Addr),CG Γ F n (zM X (ckC ck Y J scope).N scope Cc cells s H ex) (ckC ck Y J scope)/\PG (zM X (ckC ck Y J scope).N scope Cc cells s H ex) Y (gOf Γ.K tg):=by
 unfold aK8 at h;simp only[aj,decide_eq_true_eq]at h;obtain⟨⟨⟨Z,h2⟩,h3⟩,h4⟩:=h;refine⟨?_,h4,λ Cc cells s H ex=>?_⟩
 .rw[G.N];unfold zU at Z ⊢;simp only[aj]at Z ⊢;obtain⟨⟨⟨⟨⟨a1,a2⟩,a3⟩,a4⟩,a5⟩,a6⟩:=Z;refine⟨⟨⟨⟨⟨a1,?_⟩,a3⟩,a4⟩,a5⟩,a6⟩;rw[aU]at a2 ⊢;intro y hy;have:=a2 y hy;rw[cH]at this ⊢;rcases this with q|q
  .exact .inl q
  .right
   rw[cH]at q ⊢;rcases q with q|q
   .rcases G.sc _ _ (eq_of_beq q)with z|⟨z,_⟩
    .left;rw[z];exact beq_self_eq_true _
    .cases z
   .rcases G.sc _ _ (eq_of_beq q)with z|⟨_,z⟩
    .right;rw[z];exact beq_self_eq_true _
    .left;rw[z];exact beq_self_eq_true _
 .have G':CG Γ F n (zM X (ckC ck Y J scope).N scope Cc cells s H ex) (ckC ck Y J scope):=by
   refine⟨G.K,rfl,h2,rfl,G.calm,G.deep,G.room,λ x k e=>?_,λ x e=>?_,G.bi,G.call,G.con,λ _ _ _ h=>(by cases h),G.cl,G.fa,G.fk,G.cdc⟩
   .have q:=zY (env:=X.env) e;have q':(eX scope X.env).names.lookup x=some (if(k==NameKind.free&&X.env.scope.kind==.function&&X.env.kindOf x==some .cell)then NameKind.cell else k):=q;show(eX scope X.env).names.lookup x=some k\/_;rw[q'];split
    .rename_i hc;simp only[aj]at hc;exact .inr ⟨eq_of_beq hc.1.1,rfl⟩
    .exact .inl rfl
   .show(scope.names.lookup x==some .cell)=true;rw[show scope.names.lookup x=some .cell from e];rfl
  exact⟨G',bL4 G' h3⟩
end
section
variable {Γ:Gm} {F:oQ} {n:Nat} {X:Cx} {ck:Ck} {W:St} {H:Hp} {Q:VK}
def TEv.eq (e:∀ U s,m U s=m' U s)(q:TEv Γ m W H Q):TEv Γ m' W H Q:=by
 have:=funext λ U=>funext λ s=>e U s;subst this;exact q
def TTv.eq {Q}(e:∀ U s,m U s=m' U s)(q:TTv Γ m W H Q):TTv Γ m' W H Q:=by
 have:=funext λ U=>funext λ s=>e U s;subst this;exact q
def TAv.eq {Q}(e:∀ U s,m U s=m' U s)(q:TAv Γ m W H Q):TAv Γ m' W H Q:=by
 have:=funext λ U=>funext λ s=>e U s;subst this;exact q
def TFv.eq (e:∀ U s,m U s=m' U s)(q:TFv Γ m W H Q):TFv Γ m' W H Q:=by
 have:=funext λ U=>funext λ s=>e U s;subst this;exact q
def TIv.eq (e:∀ U s,m U s=m' U s)(q:TIv Γ m W H R):TIv Γ m' W H R:=by
 have:=funext λ U=>funext λ s=>e U s;subst this;exact q
def TSv.eq (e:∀ U s,m U s=m' U s)(q:TSv Γ m D W H):TSv Γ m' D W H:=by
 have:=funext λ U=>funext λ s=>e U s;subst this;exact q
def EvT (Γ:Gm)(X:Cx)(E:Expr)(m:oE->oC->oH oD):Prop:=PE X E (TEv Γ m)/\PT X E (TTv Γ m)
def EvT.val (h:PE X E (TEv Γ m))(F:autoParam (∀ z,iM E X.env z=(do let v <- z;standAt E.pos;kF [v] (truthy v))) Zq3._auto_1):EvT Γ X E m :=
 ⟨h,(bi2 h F).imp λ W H Q q=>aO7 q⟩
def bv4 (hc:PT X c Y)(ha:PT X a tb)(hb:PT X b tc):PT X (.IfExp c a b pos) (λ W H Q=>Y W H λ k F=>if k=true then tb W F Q else tc W F Q):=by
 intro z s W H Q I h;have e:iM (.IfExp c a b pos) X.env (eval (.IfExp c a b pos) X.env)=(do if <- iM c X.env (eval c X.env)then iM a X.env (eval a X.env)else iM b X.env (eval b X.env)):=rfl;rw[e];refine ac (thn (hc z s W H _ I h) λ k s1 ⟨F,J,G⟩=>?_);cases k with
 | true=>exact ha z s1 W F Q J G
 | false=>exact hb z s1 W F Q J G
def cd2 {Q}(h:TTv Γ (λ U s=>oS (mc U s) λ k s=>if k then m1 U s else m2 U s) W H Q):TTv Γ mc W H λ k z=>if k=true then TTv Γ m1 W z Q else TTv Γ m2 W z Q:=by
 obtain⟨C,U,s,d,s',E,R,hm,q⟩:=h;obtain⟨c,s1,e1,hm⟩:=zL hm;refine⟨C,U,s,c,s1,E,R,e1,λ C1 z g1 l1 R1=>?_⟩;cases c with
 | true =>
  rw[if_pos rfl]at hm ⊢;exact⟨C1,U,s1,d,s',E.mono g1 l1,R1,hm,q.trans g1 l1⟩
 | false =>
  rw[if_neg aH]at hm ⊢;exact⟨C1,U,s1,d,s',E.mono g1 l1,R1,hm,q.trans g1 l1⟩
section
variable {a b c:pJ} {l r t:Expr} {pos:Pos}
def bP9 (G:CG Γ F n X ck) op (ha:EvT Γ X l (oG F a))(hb:EvT Γ X r (oG F b)):EvT Γ X (.BinOp l (cs8 op) r pos) (oG F (.G op a b)) :=
 .val ((bR8 (bX4 G.K op) ha.1 hb.1).imp λ W H Q q=>bt6 (TEv.eq (λ U s=>rfl) q))
def bL0 (ha:EvT Γ X l (oG F a)):EvT Γ X (.UnaryOp .USub l pos) (oG F (.neg a)) :=
 .val ((bY6 bA4 ha.1).imp λ W H Q q=>cm6 (TEv.eq (λ U s=>rfl) q) λ C s x d s' v H' R r z hm k=>by
  cases x with
  | int i =>
   cases hm;exact⟨i,r.intE,k.here R rfl RV.intI⟩
  | _=>cases hm)
def bJ8 (ha:EvT Γ X l (oG F a)):EvT Γ X (.UnaryOp .Not l pos) (oG F (.not a)) :=
 ⟨(bE3 ha.1).imp λ W H Q q=>ch0 (TEv.eq (λ U s=>rfl) q),(bB8 ha.2).imp λ W H Q q=>cc0 (TTv.eq (λ U s=>rfl) q)⟩
def bQ0 (G:CG Γ F n X ck) op (hs:shp r=true)(ha:EvT Γ X l (oG F a))(hb:EvT Γ X r (oG F b)):EvT Γ X (.Compare l [av3 op] [r] pos) (oG F (.Z op a b)):=by
 have ho:=bm4 G.K (G.room.mono G.deep) op;refine⟨(bS6 ho ha.1 hb.1 (behind_ok hs)).imp λ W H Q q=>bt6 (TEv.eq (λ U s=>rfl) q),(be8 ho ha.1 hb.1 (behind_ok hs)).imp λ W H Q q=>?_⟩;have q:=bh9 q;exact bt6 (TEv.eq (λ U s=>rfl) q)
def bc8 (G:CG Γ F n X ck) o p (z:shp t=true)(ha:EvT Γ X l (oG F a))(hb:EvT Γ X r (oG F b))(hc:EvT Γ X t (oG F c)):EvT Γ X (.Compare l [av3 o,av3 p] [r,t] pos) (oG F (.chain o p a b c)):=by
 have ho:=bm4 G.K (G.room.mono G.deep) o;have hp:=bm4 G.K (G.room.mono G.deep) p;have hm:=by
  show dS (av3 p) t=false;exact behind_ok z
 refine⟨(bo2 ho hp ha.1 hb.1 hc.1 hm).imp λ W H Q q=>aS2 (TEv.eq (λ U s=>rfl) q),(bq4 ho hp ha.1 hb.1 hc.1 hm).imp λ W H Q q=>?_⟩;have q:=bh9 q;exact aS2 (TEv.eq (λ U s=>rfl) q)
def RV.nonIff (r:RV Γ C H x v):decide (v=.N)=decide (x=.N):=by
 cases x with
 | N=>rw[r.nonE];rfl
 | T b=>rw[r.blE];rfl
 | int i=>rw[r.intE];rfl
 | str z=>rw[r.strE];rfl
 | tp l=>obtain⟨a,F,rfl,_⟩:=r.tupE;rfl
 | ref k=>rw[r.refE];rfl
 | fn f=>unfold RV at r;obtain⟨a,_,rfl⟩:=r;rfl
 | clo f cs=>unfold RV at r;obtain⟨f,_,_,_,rfl,_⟩:=r;rfl
def bF1 (ha:EvT Γ X l (oG F a)):EvT Γ X (.Compare l [.Is] [.Constant .none j pos'] pos) (oG F (.isN a)):=by
 have key:∀ W H Q,TEv Γ (oG F (.isN a)) W H Q->cu5 (TEv Γ (oG F a)) W H Q:=λ W H Q q=>by
  obtain⟨C,U,s,d,s',E,R,hm,k⟩:=q;obtain⟨x,s1,e1,hm⟩:=aa1 hm;cases hm;refine⟨C,U,s,x,_,E,R,e1,λ v C1 z g1 l1 b1 r1 R1=>?_⟩;show Q (.T (decide (v=.N))) z;rw[r1.nonIff];exact k _ C1 z g1 l1 rfl RV.blI R1
 exact⟨(bx9 (bD1 ha.1)).imp key,(bD0 (bD1 ha.1)).imp λ W H Q q=>key _ _ _ (aO7 q)⟩
def br1 (ha:EvT Γ X l (oG F a)):EvT Γ X (.Compare l [.IsNot] [.Constant .none j pos'] pos) (oG F (.notN a)):=by
 have key:∀ W H Q,TEv Γ (oG F (.notN a)) W H Q->cc9 (TEv Γ (oG F a)) W H Q:=λ W H Q q=>by
  obtain⟨C,U,s,d,s',E,R,hm,k⟩:=q;obtain⟨x,s1,e1,hm⟩:=aa1 hm;cases hm;refine⟨C,U,s,x,_,E,R,e1,λ v C1 z g1 l1 b1 r1 R1=>?_⟩;show Q (.T (!decide (v=.N))) z;rw[r1.nonIff];exact k _ C1 z g1 l1 rfl RV.blI R1
 exact⟨(bx9 (bi4 ha.1)).imp key,(bD0 (bi4 ha.1)).imp λ W H Q q=>key _ _ _ (aO7 q)⟩
def be9 {es:yK}{t}(h:PT X (.BoolOp op es pos) t):PW X (.BoolOp op es pos) t:=by
 intro F z s W H Q I q;have:=h z s W H Q I q;have e:∀ w,iM (.BoolOp op es pos) X.env w=allTrue op es X.env:=λ w=>rfl;rw[e]at this ⊢;exact this
def bE8 (ha:EvT Γ X l (oG F a))(hb:EvT Γ X r (oG F b)):EvT Γ X (.BoolOp .And [l,r] pos) (oG F (.and a b)) :=
 ⟨(by6 ha.1 (bB3 hb.1)).imp λ W H Q q=>by0 (TEv.eq (λ U s=>rfl) q),(bB7 ha.2 (bQ3 hb.2)).pt.imp λ W H Q q=>bC9 (TTv.eq (λ U s=>rfl) q)⟩
def bJ0 {es:yK}(ha:EvT Γ X l (oG F a))(hb:EvT Γ X (.BoolOp .And (r::es) pos) (oG F b)):EvT Γ X (.BoolOp .And (l::r::es) pos) (oG F (.and a b)) :=
 ⟨(by6 ha.1 hb.1).imp λ W H Q q=>by0 (TEv.eq (λ U s=>rfl) q),(bB7 ha.2 (be9 hb.2)).pt.imp λ W H Q q=>bC9 (TTv.eq (λ U s=>rfl) q)⟩
def cc2 (ha:EvT Γ X l (oG F a))(hb:EvT Γ X r (oG F b)):EvT Γ X (.BoolOp .Or [l,r] pos) (oG F (.or a b)) :=
 ⟨(cd8 ha.1 (bB3 hb.1)).imp λ W H Q q=>bV0 (TEv.eq (λ U s=>rfl) q),(ce4 ha.2 (cd7 hb.2)).pt.imp λ W H Q q=>ca7 (TTv.eq (λ U s=>rfl) q)⟩
def ca5 {es:yK}(ha:EvT Γ X l (oG F a))(hb:EvT Γ X (.BoolOp .Or (r::es) pos) (oG F b)):EvT Γ X (.BoolOp .Or (l::r::es) pos) (oG F (.or a b)) :=
 ⟨(cd8 ha.1 hb.1).imp λ W H Q q=>bV0 (TEv.eq (λ U s=>rfl) q),(ce4 ha.2 (be9 hb.2)).pt.imp λ W H Q q=>ca7 (TTv.eq (λ U s=>rfl) q)⟩
def bH1 (hc:EvT Γ X t (oG F c))(ha:EvT Γ X l (oG F a))(hb:EvT Γ X r (oG F b)):EvT Γ X (.IfExp t l r pos) (oG F (.ite c a b)) :=
 ⟨(bq8 hc.2 ha.1 hb.1).imp λ W H Q q=>ch7 (TEv.eq (λ U s=>rfl) q),(bv4 hc.2 ha.2 hb.2).imp λ W H Q q=>cd2 (TTv.eq (λ U s=>rfl) q)⟩
def cg7 (G:CG Γ F n X ck)(hs:shp r=true)(ha:EvT Γ X l (oG F a))(hb:EvT Γ X r (oG F b)):EvT Γ X (.Subscript l r pos) (oG F (.ix a b)) :=
 .val ((cc5 (cs0 G.K (aw3 G.room)) ha.1 hb.1 (aw8 hs)).imp λ W H Q q=>bt6 (TEv.eq (λ U s=>rfl) q))
def bI7 (G:CG Γ F n X ck)(ha:EvT Γ X l (oG F a))(hb:EvT Γ X r (oG F b)):EvT Γ X (.Subscript l (.Slice none (some r) none z) pos) (oG F (.slU a b)) :=
 .val ((bw5 (cq3 G.K) ha.1 bE9 (bN9 hb.1)).imp λ W H Q q=>(cn8 (ml:=oG F b)).2.1 (TEv.eq (λ U s=>rfl) q))
end
end
section
variable {Γ:Gm} {F:oQ} {n:Nat} {X:Cx} {ck:Ck} {W:St} {H:Hp} {Q:VK}
theorem az2:∀ {es} {U} {s s'} {l} {z:yK} {G},pf F es U s=.ok l s'->mEs G es z=true->l.length=z.length
 | .nil,U,s,s',l,z,G,h,m=>by
  cases h;cases z with
  | nil=>rfl
  | cons _ _=>rw[mEs]at m<;>first|cases m|(intros;simp_all)
 | .cons e es,U,s,s',l,z,G,h,m=>by
  obtain⟨d,s1,e1,h⟩:=aa1 h;obtain⟨r,s2,e2,h⟩:=aa1 h;cases h;cases z with
  | nil=>rw[mEs]at m<;>first|cases m|(intros;simp_all)
  | cons x z =>
   rw[mEs,aj]at m;rw[aR,aR,az2 e2 m.2]
theorem aM0:∀ {es} {z:yK},mEs ck es z=true->∀ x∈z,shp x=true
 | .nil,[],_,x,hx=>by cases hx
 | .nil,_::_,m,_,_=>by rw[mEs]at m<;>first|cases m|(intros;simp_all)
 | .cons e es,[],m,x,hx=>by cases hx
 | .cons e es,y::z,m,x,hx=>by
  rw[mEs,aj,aj]at m;rcases az.mp hx with h|h
  .rw[h];exact m.1.2
  .exact aM0 m.2 x h
theorem aL3:∀ {es} {z:yK},mAs ck es z=true->∀ x∈z,shp x=true
 | .nil,[],_,x,hx=>by cases hx
 | .nil,_::_,m,_,_=>by rw[mAs]at m<;>first|cases m|(intros;simp_all)
 | .ex e es,[],m,x,hx=>by cases hx
 | .fn _ _,_,m,_,_=>by rw[mAs]at m<;>first|cases m|(intros;simp_all)
 | .ex e es,y::z,m,x,hx=>by
  rw[mAs,aj,aj]at m;rcases az.mp hx with h|h
  .rw[h];exact m.1.2
  .exact aL3 m.2 x h
def aO8 (hs:shp x=true)(Y:PE X x (TEv Γ (oG F e)))(J:PA X z (TAv Γ G)) :
  PA X (x::z) (TAv Γ (λ U s=>(oG F e U s).bind λ d s=>(G U s).bind λ l s=>.ok (d::l) s)) :=
 (zp Y J (zb hs)).imp λ W H Q q=>bQ6 q
def aO0 (h:k<=1000):k<=aV:=by rw[dL];lia
theorem bJ6 {z:yK}(m:mEs ck es z=true)(hz:z.length<=1000)(h:PA X z (TAv Γ (pf F es))):EvT Γ X (.Tuple z k pos) (oG F (.tp es)) :=
 .val ((bD8 h).imp λ W H Q q=>tv_tup' hz m q)
where
 tv_tup' {es} {z} {W} {H} {Q} (hz:z.length<=1000) (m:mEs ck es z=true) (q:TEv Γ (oG F (.tp es)) W H Q):ct8 (TAv Γ (pf F es)) W H Q:=by
  obtain⟨C,U,s,d,s',E,R,hm,q⟩:=q;obtain⟨l,s1,e1,hm⟩:=aa1 hm;cases hm;refine⟨C,U,s,l,_,E,R,e1,λ vs C1 G g1 l1 b1 r1 R1=>⟨by rw[r1.length,az2 e1 m];exact aO0 hz,λ p hp=>?_⟩⟩;exact(q.trans g1 l1).tup R1 r1 b1 hp
def bH6 {z:yK}(m:mEs ck es z=true)(hz:z.length<=1000)(h:PA X z (TAv Γ (pf F es))):EvT Γ X (.List z pos) (oG F (.J es)):=by
 refine .val ((ax3 h).imp λ W H Q q=>?_);obtain⟨C,U,s,d,s',E,R,hm,q⟩:=q;obtain⟨l,s1,e1,hm⟩:=aa1 hm;obtain⟨rfl,rfl⟩:=qj hm;refine⟨C,U,s,l,_,E,R,e1,λ vs C1 G g1 l1 b1 r1 R1=>⟨by rw[r1.length,az2 e1 m];exact aO0 hz,λ p hp=>?_⟩⟩;exact(q.trans g1 l1).alloc R1 r1 b1 hp
def bw8 {f:String}{J:yK}(G:CG Γ F n X ck)(hg:ck.gl (f:Str)=true)(m:mAs ck z J=true)(h:PA X J (TAv Γ (pz F z))):EvT Γ X (.Call (.Name (f) p) J [] pos) (oG F (.call f z)):=by
 refine .val ?_;obtain⟨g1,g2,g3⟩:=G.gl hg;rcases G.call f with hbad|⟨a,fd,ps,hF,Y,hk,hb⟩
 .intro a0 s W H Q I q;obtain⟨C,U,s,d,s',E,R,hm,q⟩:=q;obtain⟨l,s1,e1,hm⟩:=aa1 hm;rw[hbad]at hm;cases hm
 have key:∀ W H Q,TEv Γ (oG F (.call f z)) W H Q->aW9 (spV Γ (F.call f)) [] E0 (TAv Γ (pz F z)) W H Q:=λ W H Q q=>by
  have:=aN4 (TEv.eq (λ U s=>rfl) q);unfold tCB at this;unfold aW9 spV;simpa only[bh]using this
 cases J with
 | nil =>
  have h0:PE X (.Call (.Name (f) p) [] [] pos) (aW9 (spV Γ (F.call f)) [] E0 aW4):=bp8 hF G.room g1 Y hk hb .nil cd5 g2;cases z with
  | nil =>
   refine h0.imp λ W H Q q=>?_;have Z:=key W H Q q;unfold aW9 at Z ⊢;exact aR0 (TAv.eq (λ U s=>rfl) Z)
  | _=>rw[mAs]at m<;>first|cases m|(intros;simp_all)
 | cons x J =>
  have hs:=aL3 m;exact(bg5 hF G.room g1 Y hk hb .nil cd5 h g2 (zb (hs x (ax ..))) (zJ λ e he=>hs e (ak _ he)).1).imp key
def BiC (Γ:Gm)(X:Cx)(b:ph)(x:Str):Prop:=(∃ id,bC x=some (.builtin id)/\ad8 X (.builtin id) (rCl Γ (rh b)))\/∃ T,bC x=some (.type T)/\ad8 X (.type T) (rCl Γ (rh b))
def ch6 (G:CG Γ F n X ck)(h:biT b=some x):x∈bNames/\BiC Γ X b x:=by
 cases b<;>first|cases h|skip
 .exact⟨by decide,.inl ⟨_,cu3,bL2 G.K G.calm (k:=1) rfl⟩⟩
 .exact⟨by decide,.inl ⟨_,co4,bL2 G.K G.calm (k:=1) rfl⟩⟩
 .exact⟨by decide,.inr ⟨_,cf6,cf8⟩⟩
 .exact⟨by decide,.inr ⟨_,bY8,cg5⟩⟩
 .exact⟨by decide,.inl ⟨_,bM9,bL2 G.K G.calm (k:=2) rfl⟩⟩
def bZ6 {z:yK}(G:CG Γ F n X ck)(hb:biT b=some x)(hg:ck.gl x=true)(m:mEs ck es (y::z)=true)(h:PA X (y::z) (TAv Γ (pf F es))) :
  EvT Γ X (.Call (.Name x p) (y::z) [] pos) (oG F (.bi b es)):=by
 refine .val ?_;obtain⟨g1,Z,g3⟩:=G.gl hg;obtain⟨hm,hc⟩:=ch6 G hb;have hs:=aM0 m;have s1:=zb (es:=z) (env:=X.env) (hs y (ax ..));have s2:=(zJ (env:=X.env) (pos:=pos) λ e he=>hs e (ak _ he)).1;rcases hc with⟨id,Y,J⟩|⟨T,Y,J⟩
 .exact(ak6 J g1 (G.bi _ hm) Y h g3 Z s1 s2).imp λ W H Q q=>aN4 (TEv.eq (λ U s=>rfl) q)
 .exact(at2 J g1 (G.bi _ hm) Y h g3 Z s1 s2).imp λ W H Q q=>aN4 (TEv.eq (λ U s=>rfl) q)
def ce2 (h:biK b=some (k,t)):(1<=k/\k<=5)/\t∈bNames/\bC t=some (.type (av2 k))/\rh b=rq (rJ k):=by
 cases b<;>cases h
 .exact⟨by lia,by decide,cf6,rfl⟩
 .exact⟨by lia,by decide,bX7,rfl⟩
 .exact⟨by lia,by decide,bY8,rfl⟩
 .exact⟨by lia,by decide,bm3,rfl⟩
 .exact⟨by lia,by decide,by2,rfl⟩
def PEs (Γ:Gm)(F:oQ)(X:Cx):o7->List Expr->Prop
 | .nil,[]=>True
 | .cons e es,x::xs=>(shp x=true/\EvT Γ X x (oG F e))/\PEs Γ F X es xs
 | _,_=>False
theorem aw0:∀ {es} {z:yK},PEs Γ F X es z->PA X z (TAv Γ (pf F es))
 | .nil,[],_=>ad2.imp λ W H Q q=>aR0 (TAv.eq (λ U s=>rfl) q)
 | .nil,_::_,h=>h.elim
 | .cons _ _,[],h=>h.elim
 | .cons e es,x::z,h=>(aO8 h.1.1 h.1.2.1 (aw0 h.2)).imp λ W H Q q=>TAv.eq (λ U s=>rfl) q
def bG0 (G:CG Γ F n X ck)(hb:biK b=some (k,t))(hg:ck.gl "isinstance"=true)(J:ck.gl t=true)(h:PEs Γ F X es [a]) :
  EvT Γ X (.Call (.Name "isinstance" p) [a,.Name t Y] [] pos) (oG F (.bi b es)):=by
 refine .val ?_;obtain⟨g1,g2,g3⟩:=G.gl hg;obtain⟨t1,t2,t3⟩:=G.gl J;obtain⟨hk,hm,hv,z⟩:=ce2 hb;have Z:PE X (.Name t Y) (tC (.ty (av2 k))):=bh0 t1 (G.bi _ hm) hv rfl t3 t2;cases es with
 | nil=>exact h.elim
 | cons e es =>
  cases es with
  | cons _ _=>exact h.2.elim
  | nil =>
   obtain⟨⟨hs,ha,_⟩,_⟩:=h;have hA:=zp ha (zp Z ad2 (zb rfl)) (zb hs);refine(ak6 (cf7 G.K hk) g1 (G.bi _ (by decide)) qP hA g3 g2 (zb hs) (zJ λ e he=>by rw[bA.mp he];rfl).1).imp λ W H Q q=>?_;obtain⟨C,U,s,d,s',E,R,hm,q⟩:=q;obtain⟨l,s1,e1,hm⟩:=aa1 hm;obtain⟨x,s2,e2,e1⟩:=aa1 e1;obtain⟨l2,s3,e3,e1⟩:=aa1 e1;cases e3;cases e1;rw[z]at hm;refine⟨C,U,s,x,_,E,R,e2,λ v C1 H1 g1 l1 b1 r1 R1=>?_⟩;exact⟨v,rfl,C1,_,[x],d,s',R1,.cons r1 .nil,by unfold oF;rw[b1];rfl,hm,q.trans g1 l1⟩
end
section
variable {Γ:Gm} {F:oQ} {n:Nat} {X:Cx} {ck:Ck} {W:St} {H:Hp}
def TAp (Γ:Gm)(cells:yB)(N:yH)(m:oE->oC->oH (List oD)):TA:=λ W H Q=>∃ C U s l s',RE Γ C H s.length U W/\Rp Γ C H s/\m U s=.ok l s' /\
 ∀ vs C' H',Gr C s H C' s' H'->s.length<=s'.length->oF s'.length l=true->PVL Γ cells N W C' H' l vs->Rp Γ C' H' s'->Q vs H'
def TAp.eq (e:∀ U s,m U s=m' U s)(q:TAp Γ cells N m W H Q):TAp Γ cells N m' W H Q:=by
 obtain⟨C,U,s,l,s',E,R,hm,q⟩:=q;exact⟨C,U,s,l,s',E,R,by rw[<-e];exact hm,q⟩
def bF0 (h:TAp Γ cells N (λ U s=>.ok [] s) W H Q):aW4 W H Q:=by
 obtain⟨C,U,s,l,s',E,R,hm,q⟩:=h;cases hm;exact q [] C H (Gr.refl _ _ _) (au _) rfl .nil R
def bV7 (h:TAp Γ cells N (λ U s=>(m U s).bind λ d s=>(z U s).bind λ l s=>.ok (d::l) s) W H Q):aj4 (TEv Γ m) (TAp Γ cells N z) W H Q:=by
 obtain⟨C,U,s,l,s',E,R,hm,q⟩:=h;obtain⟨x,s1,e1,hm⟩:=aa1 hm;obtain⟨y,s2,e2,hm⟩:=aa1 hm;cases hm;refine⟨C,U,s,x,s1,E,R,e1,λ v C1 Y g1 l1 b1 r1 R1=>?_⟩;refine⟨C1,U,s1,y,s',E.mono g1 l1,R1,e2,λ vs C2 J F G b2 r2 R2=>?_⟩;exact q (v::vs) C2 J (g1.trans F l1) (ar l1 G) (by unfold oF;rw[zn G x b1,b2];rfl) (.cons (PVp.mono F b1 (.inl r1)) r2) R2
end
section
variable {Γ:Gm} {F:oQ} {n:Nat} {X:Cx} {ck:Ck} {W:St} {H:Hp} {Q:VK}
def cy8 (K:af)(H:Hp)(v:V)(ys:List V)(z:Bool):Prop:=(∃ a,v=.ref a/\(SqL K H a ys\/(SqT K H a ys/\(z=true->H a=some (.tp ys)))))\/∃ x,v=.str ⟨x.toArray⟩/\x.length<=oN/\ys=sgV x
def TLv (Γ:Gm)(m:oE->oC->oH (List oD)):TE:=λ W H Q=>∃ C U s l s',RE Γ C H s.length U W/\Rp Γ C H s/\m U s=.ok l s' /\
 ∀ v ys C' H',Gr C s H C' s' H'->s.length<=s'.length->oF s'.length l=true->cy8 Γ.K H' v ys (oO l)->RVL Γ C' H' l ys->Rp Γ C' H' s'->Q v H'
def aP3 (h:TLv Γ m W H Q):TFv Γ m W H Q:=by
 obtain⟨C,U,s,l,s',E,R,hm,q⟩:=h;exact⟨C,U,s,l,s',E,R,hm,λ p ys C' H' g hl hb hp h0 ho r z=>q (.ref p) ys C' H' g hl hb (.inl ⟨p,rfl,.inl (SqL.of hp)⟩) r z⟩
theorem aF4 :∀ x:List Nat,RVL Γ C H (x.map λ c=>.str [c]) (sgV x)
 | []=>.nil
 | c::x=>.cons (RV.strI (by unfold oN;simp)) (aF4 x)
theorem aw9 :∀ x:List Nat,oF k (x.map λ c=>.str [c])=true
 | []=>rfl
 | c::x=>by rw[av];unfold oF;rw[aw9 x];rfl
def ci0 (h:TLv Γ (λ U s=>(m U s).bind λ d s=>DV.bt0 d s) W H Q):TEv Γ m W H Q:=by
 obtain⟨C,U,s,l,s',E,R,hm,q⟩:=h;obtain⟨d,s1,e1,hm⟩:=aa1 hm;refine⟨C,U,s,d,s1,E,R,e1,λ v C1 J g1 l1 b1 r1 R1=>?_⟩;cases d with
 | tp l' =>
  cases hm;obtain⟨a,z,⟨rfl,z1⟩,G,F⟩:=r1.tupZ;unfold oI at b1;exact q _ z C1 J g1 l1 b1 (.inl ⟨a,rfl,.inr ⟨G,z1⟩⟩) F R1
 | str x =>
  cases hm;exact q v (sgV x) C1 J g1 l1 (aw9 x) (.inr ⟨x,r1.strE,r1.strL,rfl⟩) (aF4 x) R1
 | ref k =>
  have hm:(match s1[k]? with
   | some (.J l)=>DV.R.ok l s1
   | some (.ro l)=>.ok l s1
   | _=>.B)=.ok l s':=hm
  rw[r1.refE];cases e:s1[k]? with
  | none=>rw[e]at hm;exact fb hm
  | some ob =>
   rw[e]at hm;cases ob with
   | J l' =>
    cases hm;obtain⟨z,G,F⟩:=R1.addr e;have:=R1.wf k _ e;unfold oK at this;exact q _ z C1 J g1 l1 this (.inl ⟨_,rfl,.inl (SqL.of G)⟩) F R1
   | ro l' =>
    cases hm;obtain⟨z,G,F⟩:=R1.obj k _ e;have:=R1.wf k _ e;unfold oK at this;exact q _ z C1 J g1 l1 this (.inl ⟨_,rfl,.inl G.1⟩) F R1
   | _=>exact fb hm
 | _=>exact fb hm
def TLv.eq (e:∀ U s,m U s=m' U s)(q:TLv Γ m W H Q):TLv Γ m' W H Q:=by
 have:=funext λ U=>funext λ s=>e U s;subst this;exact q
def aX1 (G:CG Γ F n X ck)(hg:ck.gl "tuple"=true)(hs:shp a=true)(h:PE X a (TLv Γ m)) :
  PE X (.Call (.Name "tuple" p) [a] [] pos) (TEv Γ (λ U s=>(m U s).bind λ l s=>pR .tuple l s)):=by
 obtain⟨g1,J,Y⟩:=G.gl hg;refine(at2 ((aN7 G.K).or (aL7 G.calm)) g1 (G.bi _ (by decide)) bm3 (zp h ad2 (zb hs)) Y J (zb hs) rfl).imp λ W H Q q=>?_;obtain⟨C,U,s,d,s',E,R,hm,q⟩:=q;obtain⟨l,s1,e1,hm⟩:=aa1 hm;cases hm;refine⟨C,U,s,l,_,E,R,e1,λ v ys C1 z g1 l1 b1 hq r1 R1=>?_⟩;rcases hq with⟨a,rfl,hq|hq⟩|⟨x,rfl,hx,rfl⟩
 .exact .inl ⟨a,ys,rfl,.inl ⟨hq,λ p hp=>(q.trans g1 l1).tup R1 r1 b1 hp⟩⟩
 .exact .inl ⟨a,ys,rfl,.inr ⟨hq.1,q _ C1 z g1 l1 (by unfold oI;exact b1) (RV.tupC hq.1 hq.2 r1) R1⟩⟩
 .exact .inr ⟨x,rfl,hx,λ p hp=>(q.trans g1 l1).tup R1 r1 b1 hp⟩
def bl5 (G:CG Γ F n X ck)(hg:ck.gl "list"=true)(hs:shp a=true)(h:PE X a (TLv Γ m)) :
  PE X (.Call (.Name "list" p) [a] [] pos) (TEv Γ (λ U s=>(m U s).bind λ l s=>pR .list l s)):=by
 obtain⟨g1,z,J⟩:=G.gl hg;refine(at2 ((aY8 G.K).or (aX6 G.calm)) g1 (G.bi _ (by decide)) by2 (zp h ad2 (zb hs)) J z (zb hs) rfl).imp λ W H Q q=>?_;obtain⟨C,U,s,d,s',E,R,hm,q⟩:=q;obtain⟨l,s1,e1,hm⟩:=aa1 hm;obtain⟨rfl,rfl⟩:=qj hm;refine⟨C,U,s,l,_,E,R,e1,λ v ys C1 Y g1 l1 b1 hq r1 R1=>?_⟩;rcases hq with⟨a,rfl,hq⟩|⟨x,rfl,hx,rfl⟩
 .exact .inl ⟨a,ys,rfl,hq.imp id (·.1),λ p hp=>(q.trans g1 l1).alloc R1 r1 b1 hp⟩
 .exact .inr ⟨x,rfl,hx,λ p hp=>(q.trans g1 l1).alloc R1 r1 b1 hp⟩
def cb4 (G:CG Γ F n X ck)(hk:mkT k=some x)(hg:ck.gl x=true)(hs:shp a=true)(h:PE X a (TLv Γ m)) :
  PE X (.Call (.Name x p) [a] [] pos) (TEv Γ (λ U s=>(m U s).bind λ l s=>pR k l s)):=by
 cases k<;>cases hk
 .exact aX1 G hg hs h
 .exact bl5 G hg hs h
def FrC (Γ:Gm)(X:Cx)(x:Str)(k:rj):Prop:=∃ id r,bC x=some (.builtin id)/\x∈bNames/\ad8 X (.builtin id) r/\∀ C H s l ys p d s' Q,Rp Γ C H s->RVL Γ C H l ys->H p=some (.J ys)->pR k l s=.ok d s'->ah0 Γ C s H d s' Q->r [.ref p] H Q
theorem aQ7:∀(l:List Int) a ,(l.foldl min a=a\/l.foldl min a∈l)/\l.foldl min a<=a/\∀ y∈l,l.foldl min a<=y
 | [],a=>⟨.inl rfl,dP _,λ y hy=>by cases hy⟩
 | b::l,a=>by
  obtain⟨G,J,F⟩:=aQ7 l (min a b);rw[cE];refine⟨?_,by lia,λ y hy=>?_⟩
  .rcases G with h|h
   .rw[h];rcases lS a b with z|z
    .left;lia
    .right;rw[show min a b=b by lia];exact ax ..
   .exact .inr (ak _ h)
  .rcases az.mp hy with z|z
   .rw[z];lia
   .exact F y z
def aO2 (h:pK l=some m):m∈l/\∀ y∈l,m<=y:=by
 cases l with
 | nil=>cases h
 | cons a l =>
  cases h;obtain⟨J,G,F⟩:=aQ7 l a;refine⟨?_,λ y hy=>?_⟩
  .rcases J with h|h
   .rw[h];exact ax ..
   .exact ak _ h
  .rcases az.mp hy with z|z
   .rw[z];exact G
   .exact F y z
theorem aR9:∀(l:List Int) a ,(l.foldl max a=a\/l.foldl max a∈l)/\a<=l.foldl max a/\∀ y∈l,y<=l.foldl max a
 | [],a=>⟨.inl rfl,dP _,λ y hy=>by cases hy⟩
 | b::l,a=>by
  obtain⟨G,J,F⟩:=aR9 l (max a b);rw[cE];refine⟨?_,by lia,λ y hy=>?_⟩
  .rcases G with h|h
   .rw[h];rcases lS a b with z|z
    .right;rw[show max a b=b by lia];exact ax ..
    .left;lia
   .exact .inr (ak _ h)
  .rcases az.mp hy with z|z
   .rw[z];lia
   .exact F y z
def bn6 (h:rM l=some m):m∈l/\∀ y∈l,y<=m:=by
 cases l with
 | nil=>cases h
 | cons a l =>
  cases h;obtain⟨J,G,F⟩:=aR9 l a;refine⟨?_,λ y hy=>?_⟩
  .rcases J with h|h
   .rw[h];exact ax ..
   .exact ak _ h
  .rcases az.mp hy with z|z
   .rw[z];exact G
   .exact F y z
def bP5 (G:CG Γ F n X ck)(hk:mkF k=some x):FrC Γ X x k:=by
 cases k<;>cases hk
 .refine⟨_,_,cs4,by decide,bh2 G.calm G.K,λ C H s l ys p d s' Q R r hp hm q=>?_⟩;unfold pR at hm;dsimp only at hm;cases e:pF l with
  | none=>rw[e]at hm;exact fb hm
  | some bs =>
   rw[e]at hm;cases hm;have:=ak4 e;subst this;exact⟨p,bs,rfl,SqL.of (by rw[<-r.bls];exact hp),q.here R rfl RV.blI⟩
 .refine⟨_,_,co0,by decide,aZ9 G.calm G.K,λ C H s l ys p d s' Q R r hp hm q=>?_⟩;unfold pR at hm;dsimp only at hm;cases e:pF l with
  | none=>rw[e]at hm;exact fb hm
  | some bs =>
   rw[e]at hm;cases hm;have:=ak4 e;subst this;exact⟨p,bs,rfl,SqL.of (by rw[<-r.bls];exact hp),q.here R rfl RV.blI⟩
 .refine⟨_,_,bM9,by decide,bk5 G.calm G.K,λ C H s l ys p d s' Q R r hp hm q=>?_⟩;unfold pR at hm;dsimp only at hm;cases e:pG l with
  | none=>rw[e]at hm;exact fb hm
  | some is =>
   rw[e]at hm;have hm:(match pK is with|some m=>DV.R.ok (DV.D.int m) s|none=>.B)=.ok d s':=hm;cases e2:pK is with
   | none=>rw[e2]at hm;exact fb hm
   | some mm =>
    rw[e2]at hm;cases hm;have:=qf e;subst this;refine⟨p,is,rfl,SqL.of (by rw[<-r.ints];exact hp),(λ(z)=>by rw[z]at e2;cases e2),λ m hm J=>?_⟩;obtain⟨a,b⟩:=aO2 e2;have:=jM (J mm a) (b m hm);rw[this];exact q.here R rfl RV.intI
def cb7 (G:CG Γ F n X ck)(hk:mkF k=some x)(hg:ck.gl x=true)(hs:shp a=true)(h:PE X a (TFv Γ m)) :
  PE X (.Call (.Name x p) [a] [] pos) (TEv Γ (λ U s=>(m U s).bind λ l s=>pR k l s)):=by
 obtain⟨g1,J,Y⟩:=G.gl hg;obtain⟨id,r,hb,hx,hc,hr⟩:=bP5 G hk;refine(ak6 hc g1 (G.bi _ hx) hb (zp h ad2 (zb hs)) Y J (zb hs) rfl).imp λ W H Q q=>?_;obtain⟨C,U,s,d,s',E,R,hm,q⟩:=q;obtain⟨l,s1,e1,hm⟩:=aa1 hm;exact⟨C,U,s,l,_,E,R,e1,λ p ys C1 z g1 l1 b1 hp h0 ho r1 R1=>hr C1 z s1 l ys p d s' Q R1 r1 hp hm (q.trans g1 l1)⟩
def bY5 (G:CG Γ F n X ck)(hg:ck.gl "min"=true)(hs:shp a=true)(h:PE X a (TFv Γ ml))(hd:PE X de (TEv Γ md)) :
  PE X (.Call (.Name "min" p) [a] [⟨some "default",de,kp⟩] pos) (TEv Γ (λ U s=>(ml U s).bind λ l s=>(md U s).bind λ d s=>rB .min l d s)):=by
 obtain⟨g1,g2,g3⟩:=G.gl hg;refine(bJ9 rfl G.calm g1 (G.bi _ (by decide)) h hd (zb hs)).imp λ W H Q q=>?_;obtain⟨C,U,s,d,s',E,R,hm,q⟩:=q;obtain⟨l,s1,e1,hm⟩:=aa1 hm;obtain⟨d0,s2,e2,hm⟩:=aa1 hm;refine⟨C,U,s,l,s1,E,R,e1,λ p ys C1 H1 g1 l1 b1 hp h0 ho r1 R1=>?_⟩;refine⟨C1,U,s1,d0,s2,E.mono g1 l1,R1,e2,λ v C2 H2 g2 l2 b2 r2 R2=>?_⟩;have a0:=g2.fr p _ hp (by nofun) (λ i ob e mu=>ho i ob e mu);unfold rB at hm;cases e:pG l with
 | none=>rw[e]at hm;exact fb hm
 | some is =>
  rw[e]at hm;have J:(match pK is with|some m=>DV.R.ok (DV.D.int m) s2|none=>DV.R.ok d0 s2)=.ok d s':=hm;have:=qf e;subst this;have hq:=q.trans (g1.trans g2 l1) (ar l1 l2);refine⟨p,is,rfl,SqL.of (by rw[<-r1.ints];exact a0),λ z=>?_,λ m Y Z=>?_⟩
  .subst z;cases J;exact hq.here R2 b2 r2
  .clear e2;cases e2:pK is with
   | none =>
    cases is with
    | nil=>cases Y
    | cons _ _=>cases e2
   | some mm =>
    rw[e2]at J;cases J;obtain⟨x,y⟩:=aO2 e2;have:=jM (Z mm x) (y m Y);rw[this];exact hq.here R2 rfl RV.intI
def bI5 (G:CG Γ F n X ck)(hg:ck.gl "max"=true)(hs:shp a=true)(h:PE X a (TFv Γ ml))(hd:PE X de (TEv Γ md)) :
  PE X (.Call (.Name "max" p) [a] [⟨some "default",de,kp⟩] pos) (TEv Γ (λ U s=>(ml U s).bind λ l s=>(md U s).bind λ d s=>rB .max l d s)):=by
 obtain⟨g1,g2,g3⟩:=G.gl hg;refine(bR5 rfl G.calm g1 (G.bi _ (by decide)) h hd (zb hs)).imp λ W H Q q=>?_;obtain⟨C,U,s,d,s',E,R,hm,q⟩:=q;obtain⟨l,s1,e1,hm⟩:=aa1 hm;obtain⟨d0,s2,e2,hm⟩:=aa1 hm;refine⟨C,U,s,l,s1,E,R,e1,λ p ys C1 H1 g1 l1 b1 hp h0 ho r1 R1=>?_⟩;refine⟨C1,U,s1,d0,s2,E.mono g1 l1,R1,e2,λ v C2 H2 g2 l2 b2 r2 R2=>?_⟩;have a0:=g2.fr p _ hp (by nofun) (λ i ob e mu=>ho i ob e mu);unfold rB at hm;cases e:pG l with
 | none=>rw[e]at hm;exact fb hm
 | some is =>
  rw[e]at hm;have J:(match rM is with|some m=>DV.R.ok (DV.D.int m) s2|none=>DV.R.ok d0 s2)=.ok d s':=hm;have:=qf e;subst this;have hq:=q.trans (g1.trans g2 l1) (ar l1 l2);refine⟨p,is,rfl,SqL.of (by rw[<-r1.ints];exact a0),λ z=>?_,λ m Y Z=>?_⟩
  .subst z;cases J;exact hq.here R2 b2 r2
  .clear e2;cases e2:rM is with
   | none =>
    cases is with
    | nil=>cases Y
    | cons _ _=>cases e2
   | some mm =>
    rw[e2]at J;cases J;obtain⟨x,y⟩:=bn6 e2;have:=jM (y m Y) (Z mm x);rw[this];exact hq.here R2 rfl RV.intI
def bp6 (R:Rp Γ C H s)(g:Gr C s H C' s' H')(hb:r<s.length)(e:s'[r]?=some (.J l)):tyV Γ.K "list" (.ref (C r)) H:=by
 obtain⟨z,F⟩:∃ z,s[r]?=some z:=⟨s[r],ai hb⟩
 have hm:=g.mu r z _ F e rfl;have ho:=R.obj r z F;cases z with
 | J l0 =>
  obtain⟨G,J,_⟩:=ho;exact .inl ⟨rfl,G,SqL.of J⟩
 | ro _=>cases hm
 | dit _=>have:=g.kd r _ _ F e;cases this
 | ins _ _=>exact ho.elim
def mtR (Γ:Gm)(m:rk):V->List V->Hp->VK->Prop:=λ x vs H Q=>∃ C s a l d s',Rp Γ C H s/\RV Γ C H a x/\RVL Γ C H l vs/\a.bnd s.length=true/\oF s.length l=true/\rF m a l s=.ok d s'/\ah0 Γ C s H d s' Q
def by4:oN<aV:=by rw[dL];decide
def aT1 (hm:mtT m=some (x,k))(h:rF m a l s=.ok d s'):∃ r l0,a=.ref r/\s[r]?=some (.J l0):=by
 have go:∀ {r:Nat} {f:List oD->oH oD},(match s[r]? with|some (.J l)=>f l|_=>.B)=.ok d s'->∃ l0,s[r]?=some (.J l0):=λ {r f} h=>by
  cases e:s[r]? with
  | none=>rw[e]at h;exact fb h
  | some ob =>
   cases ob with
   | J l0=>exact⟨l0,rfl⟩
   | _=>rw[e]at h;exact fb h
 cases a with
 | ref r =>
  have z:∀ {f:List oD->oH oD},(match s[r]? with|some (.J l)=>f l|_=>.B)=.ok d s'->∃ F l0,DV.D.ref r=.ref F/\s[F]?=some (.J l0):=λ h=>by obtain⟨l0,e⟩:=go h;exact⟨_,l0,rfl,e⟩
  cases m with
  | append=>match l with
   | [d]=>exact z h
   | []=>exact fb h
   | _::_::_=>exact fb h
  | _=>exact fb h
 | _=>cases m<;>exact fb h
def bq9:MtR X "list.append" (mtR Γ .append):=by
 intro F sh W H x vs v us Q I rx Y h;obtain⟨C,s,a,l,d,s',R,ra,rl,ba,bl,hm,q⟩:=h;obtain⟨r,l0,rfl,e⟩:=aT1 rfl hm;cases l with
 | nil=>exact fb hm
 | cons y t =>
  cases t with
  | cons _ _=>exact fb hm
  | nil =>
   simp only[rF,e]at hm;split at hm
   case isFalse=>exact fb hm
   rename_i hlt;cases hm;obtain⟨z,rfl,rz⟩:=rl.one;obtain⟨Z,h1,J⟩:=R.addr e;have G:=by have:=R.wf r _ e;unfold oK at this;exact this
   refine aq3 F sh W H x [z] v us Q I rx Y ⟨C r,Z,z,ra.refE,rfl,h1,by rw[J.length];have:=by4;lia,?_⟩;exact q.put R e (J.append (.cons rz .nil)) (zQ G bl) rfl RV.nonI
structure MtOk (Γ:Gm)(X:Cx)(m:rk)(x:Str):Prop where
 ex:∃ id,PySem.Slot "list" x id/\lp (.builtin id)=pure (.type "method_descriptor")/\MtR X id (mtR Γ m)
def cc8 (F:X.K=Γ.K)(z:Room (oW+1) X.A)(h:mtT m=some (x,k)):MtOk Γ X m x:=by
 cases m<;>cases h
 .exact⟨_,fO,iW,bq9⟩
def bn4 {J:yK}(G:CG Γ F n X ck)(hm:mtT m=some (x,J.length))(hab:bA5 ob=true)(hl:(ap.endLine==cp.line)=true)(ho:PE X ob (TEv Γ (oG F o)))
  (a1:mEs ck es J=true) (h:PEs Γ F X es J):EvT Γ X (.Call (.Attribute ob x ap) J [] cp) (oG F (.me m o es)):=by
 refine .val ?_;obtain⟨id,slot,a0,hr⟩:=(cc8 (Γ:=Γ) (X:=X) G.K (G.room.mono G.deep) hm).ex;have hs:=aM0 a1;have key:∀ W H Q,TEv Γ (oG F (.me m o es)) W H Q->tBM Γ.K "list" (mtR Γ m) (TEv Γ (oG F o)) (TAv Γ (pf F es)) W H Q:=λ W H Q q=>by
  obtain⟨C,U,s,d,s',E,R,z,q⟩:=q;obtain⟨a,s1,e1,z⟩:=aa1 z;obtain⟨l,s2,e2,z⟩:=aa1 z;refine⟨C,U,s,a,s1,E,R,e1,λ v C1 H1 g1 l1 b1 r1 R1=>?_⟩;obtain⟨r,l0,rfl,er⟩:=aT1 hm z;rw[r1.refE];have hk:∀ C2 H2,Gr C1 s1 H1 C2 s2 H2->tyV Γ.K "list" (.ref (C1 r)) H1:=λ C2 H2 g2=>bp6 R1 g2 (by unfold oI at b1;exact of_decide_eq_true b1) er;have Z:TAv Γ (pf F es) W H1 λ J H2=>mtR Γ m (.ref (C1 r)) J H2 Q:=by
   refine⟨C1,U,s1,l,s2,E.mono g1 l1,R1,e2,λ vs C2 H2 g2 l2 b2 r2 R2=>?_⟩;refine⟨C2,s2,.ref r,l,d,s',R2,?_,r2,zn l2 _ b1,b2,z,q.trans (g1.trans g2 l1) (ar l1 l2)⟩;have:=RV.mono g2 _ _ b1 r1;rw[r1.refE]at this;exact this
  refine⟨?_,Z⟩;have hlt:r<s1.length:=by unfold oI at b1;exact of_decide_eq_true b1
  obtain⟨o0,e0⟩:∃ o0,s1[r]?=some o0:=⟨s1[r],ai hlt⟩
  have Y:=R1.obj r o0 e0;cases o0 with
  | J l0 =>
   obtain⟨J,h1,_⟩:=Y;exact .inl ⟨rfl,J,SqL.of h1⟩
  | ro l0 =>
   obtain⟨J,h1,_⟩:=Y;exact .inl ⟨rfl,J,h1.1⟩
  | dit _ =>
   obtain⟨o',eo,ek⟩:=DV.ap7 G.fk es U s1 _ _ e2 r _ e0;rw[er]at eo;cases eo;cases ek
  | ins _ _=>exact Y.elim
 cases J with
 | nil =>
  have p0:PE X (.Call (.Attribute ob x ap) [] [] cp) (cq2 X.K "list" (mtR Γ m) (TEv Γ (oG F o))):=bA6 cJ slot a0 hr ho (au2 hab) hl;rw[G.K]at p0;refine p0.imp λ W H Q q=>?_;cases es with
  | cons _ _=>exact h.elim
  | nil =>
   obtain⟨C,U,s,d,s',E,R,z,k⟩:=key W H Q q;refine⟨C,U,s,d,s',E,R,z,λ v C1 H1 g1 l1 b1 r1 R1=>?_⟩;obtain⟨h1,h2⟩:=k v C1 H1 g1 l1 b1 r1 R1;exact⟨h1,aR0 (TAv.eq (λ U s=>rfl) h2)⟩
 | cons y ys =>
  refine(bD4 G.K cJ slot a0 hr ho (aw0 h) (au2 hab) ?_ hl (zb (hs y (ax ..))) (zJ λ e he=>hs e (ak _ he)).1).imp key;rw[(zJ hs).2];have:(y::ys).length<=1:=by
   unfold mtT at hm;split at hm<;>first|(have:=aC hm;have:=congrArg Prod.snd this;simp at this;simp;omega)|cases hm
  simp only[iX,fy,ol];show(true&&decide ((y::ys).length+0+0<30))=true;rw[iX];exact decide_eq_true (by lia)
end
section
variable {Γ:Gm} {F:oQ} {n:Nat} {X:Cx} {ck:Ck} {W:St} {H:Hp} {Q:VK}
def bH9 (G:CG Γ F n X ck)(hab:bA5 ob=true)(hl:(ap.endLine==cp.line)=true)(ho:PE X ob (TEv Γ (oG F o)))(hs:shp a=true)(h:PE X a (TFv Γ m))(a1:∀ U s,DV.KR s (m U s)) :
  PE X (.Call (.Attribute ob "extend" ap) [a] [] cp) (TEv Γ (λ U s=>(oG F o U s).bind λ x s=>(m U s).bind λ q s=>DV.bM2 x q s)):=by
 refine(bD4 G.K cJ jS PySem.F.type_list_extend bc9 ho (zp h ad2 (zb hs)) (au2 hab) ?_ hl (zb hs) rfl).imp λ W H Q q=>?_
 .rw[(zJ λ e he=>by rw[bA.mp he];exact hs).2];rfl
 .obtain⟨C,U,s,d,s',E,R,z,q⟩:=q;obtain⟨x,s1,e1,z⟩:=aa1 z;obtain⟨l,s2,e2,z⟩:=aa1 z;refine⟨C,U,s,x,s1,E,R,e1,λ v C1 H1 g1 l1 b1 r1 R1=>?_⟩;cases x with
  | ref r =>
   have z:(match s2[r]? with
    | some (.J m)=>if m.length+l.length<=oN then DV.R.ok DV.D.N (s2.set r (.J (m++l)))else .B
    | _=>.B)=.ok d s':=z
   cases e:s2[r]? with
   | none=>rw[e]at z;exact fb z
   | some ob' =>
    rw[e]at z;cases ob' with
    | J l0 =>
     have z:(if l0.length+l.length<=oN then DV.R.ok DV.D.N (s2.set r (.J (l0++l)))else .B)=.ok d s':=z;split at z
     case isFalse=>exact fb z
     rename_i a3;cases z;have hlt:=by unfold oI at b1;exact of_decide_eq_true b1
     have a2:tyV Γ.K "list" (.ref (C1 r)) H1:=by
      obtain⟨o0,e0⟩:∃ o0,s1[r]?=some o0:=⟨s1[r],ai hlt⟩
      have J:=R1.obj r o0 e0;cases o0 with
      | J l0 =>
       obtain⟨Y,Z,_⟩:=J;exact .inl ⟨rfl,Y,SqL.of Z⟩
      | ro l0 =>
       obtain⟨Y,Z,_⟩:=J;exact .inl ⟨rfl,Y,Z.1⟩
      | dit _ =>
       obtain⟨o',eo,ek⟩:=a1 U s1 _ _ e2 r _ e0;rw[e]at eo;cases eo;cases ek
      | ins _ _=>exact J.elim
     rw[r1.refE];refine⟨a2,C1,U,s1,l,s2,E.mono g1 l1,R1,e2,λ p ys C2 H2 g2 l2 b2 hp h0 ho r2 R2=>?_⟩;obtain⟨Y,Z,h2⟩:=R2.addr e;have a0:=by have:=R2.wf r _ e;unfold oK at this;exact this
     refine⟨C1 r,p,Y,ys,rfl,rfl,by rw[<-g2.w.map r hlt];exact Z,hp,by rw[h2.length,r2.length];have:=by4;lia,?_⟩;rw[<-g2.w.map r hlt];exact(q.trans (g1.trans g2 l1) (ar l1 l2)).put R2 e (h2.append r2) (zQ a0 b2) rfl RV.nonI
    | _=>exact fb z
  | _=>exact fb z
def PIf.imp (h:PIf X e t)(i:∀ W H Q,t' W H Q->t W H Q):PIf X e t':=λ z s W H Q I q=>h z s W H Q I (i W H Q q)
structure CompF (Γ:Gm)(X:Cx)(m:oE->oC->oH (List oD))(E:Expr):Prop where
 ex:∃ elt tgt iter ifs scope pos N' caps wi g tc te,E=.ListComp elt [⟨tgt,iter,ifs,0⟩] scope pos/\zU N' caps scope X.N X.env.scope=true/\PI X tgt iter wi /\
  (∀(Cc:Addr) (cells:yB) (s:ag) (H:Hp) (ex:List Addr),PG (zM X N' scope Cc cells s H ex) tgt g/\PIf (zM X N' scope Cc cells s H ex) ifs tc/\PE (zM X N' scope Cc cells s H ex) elt te) /\
  (∀ x,eW iter X.env x=pure x)/\∀ W H Q,TFv Γ m W H Q->tComp caps wi g tc te W H Q
def CompF.pe (h:CompF Γ X m E)(hc:X.calm=true):PE X E (TFv Γ m):=by
 obtain⟨elt,F,iter,ifs,scope,pos,Z,z,wi,g,tc,te,rfl,h1,Y,J,G,h5⟩:=h.ex;exact(aK4 Z z h1 Y hc J G).imp h5
def bS0 {mI}(G:CG Γ F n X ck)(hm:aK8 ck tg J iter z scope=true)
  (hi:PI X J iter (TIv Γ mI)) (hc:∀ Cc cells s H ex,PT (zM X (ckC ck J z scope).N scope Cc cells s H ex) i (TTv Γ mc)) (he:∀ Cc cells s H ex,PE (zM X (ckC ck J z scope).N scope Cc cells s H ex) elt (TEv Γ Y)) :
  CompF Γ X (λ U s=>(mI U s).bind λ q s0=>if q.its.length<=oN then pQ (λ s=>pw s0 s q.src) (λ d U s=>match o6 U tg d with
   | some U=>oS (mc U s) λ k s=>if k then(Y U s).bind λ v s=>.ok (some v,U) s else .ok (none,U) s
   | none=>.B) q.its (pV U z) s0 else .B) (.ListComp elt [⟨J,iter,[i],0⟩] scope pos):=by
 obtain⟨c1,c2,Z⟩:=G.comp hm;exact⟨elt,J,iter,[i],scope,pos,_,z,_,_,_,_,rfl,c1,hi,λ Cc cells s H ex=>⟨(Z Cc cells s H ex).2,bN3 (hc Cc cells s H ex),he Cc cells s H ex⟩,aK7 c2,λ W H Q q=>aZ2 q⟩
def bx0 {mI}(G:CG Γ F n X ck)(hm:aK8 ck tg J iter z scope=true)
  (hi:PI X J iter (TIv Γ mI)) (he:∀ Cc cells s H ex,PE (zM X (ckC ck J z scope).N scope Cc cells s H ex) elt (TEv Γ Y)) :
  CompF Γ X (λ U s=>(mI U s).bind λ q s0=>if q.its.length<=oN then pQ (λ s=>pw s0 s q.src) (λ d U s=>match o6 U tg d with
   | some U=>(Y U s).bind λ v s=>.ok (some v,U) s
   | none=>.B) q.its (pV U z) s0 else .B) (.ListComp elt [⟨J,iter,[],0⟩] scope pos):=by
 obtain⟨c1,c2,Z⟩:=G.comp hm;refine⟨elt,J,iter,[],scope,pos,_,z,_,_,TTv Γ (λ U s=>.ok (.T true) s),_,rfl,c1,hi,λ Cc cells s H ex=>⟨(Z Cc cells s H ex).2,bb5.imp λ W H Q q=>?_,he Cc cells s H ex⟩,aK7 c2,λ W H Q q=>aZ2 (TFv.eq (λ U s=>?_) q)⟩
 .obtain⟨C,U,s,b,s',E,R,hm,q⟩:=q;cases hm;exact q C H (Gr.refl _ _ _) (au _) R
 .congr 1
def bQ4 (G:CG Γ F n X ck)(h:PE X E (TEv Γ (oG F e))):PI X tg E (TIv Γ (rC F (.seq e))):=by
 refine(PI.or (bK8 G.K h) (PI.or (bn9 G.K h) (bW3 h))).imp λ W H R q=>bW6 (TIv.eq (λ U s=>rfl) q)
def bq1 (G:CG Γ F n X ck)(hg:ck.gl "range"=true)(hs:shp l=true)(h:PE X l (TEv Γ (oG F a))):PI X tg (.Call (.Name "range" p) [l] [] pos) (TIv Γ (rC F (.rg a))) :=
 (bh1 (G.gl hg).1 (G.bi _ (by decide)) (zp h ad2 (zb hs)) (zb hs)).imp λ W H R q=>bI4 (TIv.eq (λ U s=>rfl) q)
def bv5 {ck0 :Nat}(G:CG Γ F n X ck)(hg:ck.gl "range"=true)(hs:shp l=true)(h:PE X l (TEv Γ (oG F a))):PI X tg (.Call (.Name "range" p) [l,.UnaryOp .USub (.Constant (.int 1) ck0 cp) J,.UnaryOp .USub (.Constant (.int 1) Y z) Z] [] pos) (TIv Γ (rC F (.rngD a))) :=
 (bh6 (G.gl hg).1 (G.bi _ (by decide)) (zp h (zp aG3 (zp aG3 ad2 rfl) rfl) (zb hs)) (zb hs) rfl).imp λ W H R q=>bG9 (TIv.eq (λ U s=>rfl) q)
def bO3 (h:TEv Γ (λ U s=>pB (.dit []) s) W H Q):bE1 W H Q:=by
 obtain⟨C,U,s,d,s',E,R,hm,q⟩:=h;obtain⟨rfl,rfl⟩:=qj hm;intro p hp;obtain⟨g,z⟩:=R.new (o:=.dit []) hp rfl λ C' H' g e=>⟨[],e,rfl⟩
 exact q (.ref p) _ _ g (by simp) (by unfold oI;simp) (by unfold RV;simp) z
def bK7 (h:TEv Γ (λ U s=>(mk U (s++[.dit []])).bind λ kd s1=>(mv U s1).bind λ F s2=>if kd.keyT=true/\s2[s.length]?=some (.dit [])then .ok (.ref s.length) (s2.set s.length (.dit [(kd,F)]))else .B) W H Q):bD5 (TEv Γ mk) (TEv Γ mv) W H Q:=by
 obtain⟨C,U,s,d,s',E,R,hm,q⟩:=h;obtain⟨kd,s1,e1,hm⟩:=aa1 hm;obtain⟨F,s2,e2,hm⟩:=aa1 hm;split at hm
 case isFalse=>exact fb hm
 rename_i hc;cases hm;intro p hp;obtain⟨g0,R0⟩:=R.new (o:=.dit []) hp rfl λ C' H' g e=>⟨[],e,rfl⟩
 have l0:s.length<=(s++[DV.O.dit []]).length:=by simp
 refine⟨_,U,s++[DV.O.dit []],kd,s1,E.mono g0 l0,R0,e1,λ v1 C1 H1 g1 l1 b1 r1 R1=>?_⟩;refine⟨C1,U,s1,F,s2,(E.mono g0 l0).mono g1 l1,R1,e2,λ Z C2 H2 J Y b2 r2 R2=>?_⟩;have z:C2 s.length=p:=by
  rw[J.w.map s.length (aL (by simp) l1),g1.w.map s.length (by simp)];simp
 obtain⟨k,hk⟩:=qO hc.1;obtain⟨kb,ek,nk⟩:=aq5 hk (RV.mono J kd v1 b1 r1);obtain⟨G,z1,z2⟩:=R2.obj s.length _ hc.2;have z2:=z2;subst z2;rw[z]at z1;refine⟨z1,kb,k,ek,nk,?_⟩;have hb:(DV.O.dit [(kd,F)]).bnd s2.length=true:=by
  unfold oK;simp only[av,aP,oF,iV,aj];exact⟨zn Y _ b1,b2⟩
 obtain⟨g3,R3⟩:=R2.set hc.2 rfl hb λ H' g e=>⟨_,e,k,Z,[],rfl,hk,RV.monoW g _ _ b2 r2,rfl⟩
 rw[z]at g3 R3;have L:=ar l0 (ar l1 Y);have lt:s.length<s2.length:=aL (by simp) (ar l1 Y);exact q (.ref p) _ _ (((g0.trans g1 l0).trans J (ar l0 l1)).trans g3 L) (by rw[bf];exact L) (by unfold oI;rw[bf];exact decide_eq_true lt) (by unfold RV;rw[z]) R3
def bw4 (h:DV.bE5 x y z s=.ok d s'):∃ r l,x=.ref r/\s[r]?=some (.dit l)/\y.keyT=true/\d=(pb y l).getD z/\s'=s:=by
 unfold DV.bE5 at h;split at h
 .split at h
  .split at h
   .cases h;exact⟨_,_,rfl,by assumption,by assumption,rfl,rfl⟩
   .exact fb h
  .exact fb h
 .exact fb h
def ci9 {o:o9}(h:o.kd=4):∃ l,o=.dit l:=by
 cases o with
 | dit l=>exact⟨l,rfl⟩
 | _=>cases h
def bu2 (G:CG Γ F n X ck)(hab:bA5 ob=true)(hl:(ap.endLine==cp.line)=true)(s1:shp a=true)(s2:shp b=true)(ho:PE X ob (TEv Γ (oG F o)))(hk:PE X a (TEv Γ (oG F k)))(he:PE X b (TEv Γ (oG F e))) :
  EvT Γ X (.Call (.Attribute ob "get" ap) [a,b] [] cp) (oG F (.get2 o k e)):=by
 have a7:∀ x∈[a,b],shp x=true:=λ x hx=>by
  rcases az.mp hx with z|z
  .rw[z];exact s1
  .rw[bA.mp z];exact s2
 refine .val ((bw7 (aw3 G.room) ho hk he ⟨au2 hab,by rw[(zJ a7).2];rfl,hl,by rw[zb s1,zb s2];rfl⟩).imp λ W H Q q=>?_);obtain⟨C,U,s,d,s',E,R,hm,q⟩:=q;obtain⟨x,J,e1,a0⟩:=aa1 hm;obtain⟨y,t2,e2,Y⟩:=aa1 a0;obtain⟨z,t3,e3,a2⟩:=aa1 Y;clear hm a0 Y;obtain⟨r,l,rfl,er,hy,rfl,rfl⟩:=bw4 a2;refine⟨C,U,s,_,J,E,R,e1,λ v1 C1 H1 g1 l1 b1 r1 R1=>?_⟩;have hlt:r<J.length:=by unfold oI at b1;exact of_decide_eq_true b1
 obtain⟨o1,f1⟩:∃ o1,J[r]?=some o1:=⟨J[r],ai hlt⟩
 obtain⟨o2,f2,k2⟩:=DV.zq G.fk k U J _ _ e2 r _ f1;obtain⟨o3,f3,k3⟩:=DV.zq G.fk e U t2 _ _ e3 r _ f2;rw[er]at f3;cases f3;obtain⟨l0,rfl⟩:=ci9 (k2.symm.trans k3.symm);obtain⟨a6,a1,_⟩:=R1.obj r _ f1;refine⟨C1 r,r1.refE,.inr ⟨a6,.inl a1⟩,C1,U,J,y,t2,E.mono g1 l1,R1,e2,λ v2 C2 H2 g2 l2 b2 r2 R2=>?_⟩;have G2:=g1.trans g2 l1;have L2:=ar l1 l2;refine⟨C2,U,t2,z,_,E.mono G2 L2,R2,e3,λ v3 C3 H3 g3 l3 b3 r3 R3=>?_⟩;obtain⟨kk,Z⟩:=qO hy;obtain⟨kb,ey,a4⟩:=aq5 Z (RV.mono g3 y v2 b2 r2);subst ey;obtain⟨a3,c1,c2⟩:=R3.obj r _ er;have a5:C3 r=C1 r:=by rw[g3.w.map r (aL hlt l2),g2.w.map r hlt]
 rw[a5]at c1;refine⟨aQ5 a3 kk,aY1.t c1 a4,?_⟩;have hq:=q.trans (G2.trans g3 L2) (ar L2 l3);rcases c2.val keyT_inj Z with⟨q1,q2⟩|⟨e',v',q1,q2,q3,q4⟩
 .rw[q1]at hq;rw[q2];exact hq.here R3 b3 r3
 .rw[q1]at hq;rw[q2];have wf:=R3.wf _ _ er;unfold oK at wf;rw[aj]at wf;exact hq.here R3 (ab0.mp wf.2 _ q4) q3
section
variable {c:String} {kvs:List (List Nat×List Nat)} {a:Addr}
end
theorem RVL.ofGet :∀ {l} {ys},ys.length=l.length->(∀(i:Nat) d ,l[i]?=some d->∃ x,ys[i]?=some x/\RV Γ C H d x)->RVL Γ C H l ys
 | [],ys,h,_=>by rw[bM.mp h];exact .nil
 | d::l,[],h,_=>by cases h
 | d::l,y::ys,h,k=>by
  obtain⟨x,e,r⟩:=k 0 d rfl;cases e;exact .cons r (RVL.ofGet (by simpa using h) λ i d e=>k (i+1) d e)
def bx4 (h:DV.by1 x s=.ok l s'):∃ r l0,x=.ref r/\s[r]?=some (.dit l0)/\l0.length<=oN/\l=l0.map DV.cr8/\s'=s:=by
 unfold DV.by1 at h;split at h
 .split at h
  .split at h
   .cases h;exact⟨_,_,rfl,by assumption,by assumption,rfl,rfl⟩
   .exact fb h
  .exact fb h
 .exact fb h
def ca0 (G:CG Γ F n X ck)(hc:ck4 ck q=true)(he:PE X q.ob (TEv Γ (oG F e))):PE X q.text (TFv Γ (rN F (.itm e))):=by
 unfold ck4 at hc;simp only[aj,eU,decide_eq_true_eq]at hc;obtain⟨⟨⟨⟨⟨⟨h1,h2⟩,h3⟩,h4⟩,h5⟩,h6⟩,⟨⟨h7,h8⟩,h9⟩,a6⟩:=hc;refine(bV2 h2 (G.comp h1).1 G.calm h3 h4 he (au2 h5) h6 h7 h8 h9 a6).imp λ W H Q h=>?_;obtain⟨C,U,s,l,s',E,R,hm,k⟩:=h;obtain⟨d,s1,e1,hm⟩:=aa1 hm;obtain⟨r,l0,rfl,er,hl,rfl,rfl⟩:=bx4 hm;refine⟨C,U,s,.ref r,_,E,R,e1,λ v C1 H1 g1 l1 b1 r1 R1=>?_⟩;have ev:=r1.refE;subst ev;obtain⟨J,a1,a2⟩:=R1.obj r _ er;have Z:=a2.length;refine cc3 (Q:=λ v H'=>∃ a o J,H' a=some (.frz o (.dT J))/\(∀ o u,H a≠some (.frz o u))/\Q v (upd H' a (.dT J))) a1 (λ kv a7=>by obtain⟨d,hd⟩:=a2.keys kv a7;exact bo9 hd) (by rw[Z];exact hl) λ D ys H2 o sm hD a5 hy ha Y a4=>?_;obtain⟨g2,R2⟩:=R1.same sm;refine⟨C1 r,o,J,ha,λ o u z=>?_,k D ys C1 _ (g1.trans g2 l1) l1 ?_ (by rw[zc a5];exact hy) ?_ (Off.new R1 hD) (.ofGet (by rw[Y,Z,aq]) λ i d hi=>?_) R2⟩
 .have:=g1.w.kp _ _ z rfl;rw[a1]at this;cases this
 .have wf:=R1.wf r _ er;unfold oK at wf;rw[aj]at wf;refine ab0.mpr λ d hd=>?_;obtain⟨p,hp,rfl⟩:=ay.mp hd;have c1:=ab0.mp wf.1 _ (aX hp);have c2:=ab0.mp wf.2 _ (aX hp);obtain⟨pk,pv⟩:=p;cases pk with
  | tp ks =>
   unfold oI at c1 ⊢;exact zQ c1 (by unfold oF;rw[c2];rfl)
  | _=>rfl
 .cases z:H D with
  | none=>rfl
  | some o=>exact absurd hD (g1.st D (by rw[z];simp))
 .rw[aQ]at hi;cases q0:l0[i]? with
  | none=>rw[q0]at hi;cases hi
  | some p =>
   rw[q0]at hi;cases hi;obtain⟨pk,pv⟩:=p;obtain⟨kk,v,c1,c2,c3⟩:=a2.get q0;have a0:i<ys.length:=by rw[Y,Z];exact(ae.mp q0).1
   obtain⟨t,t1,t2,tx,t3,t4⟩:=a4 i kk v a0 c1;obtain⟨ks,rfl,z,a3⟩:=aj7 c2;have wf:=R1.wf r _ er;unfold oK at wf;rw[aj]at wf;have hv:=ab0.mp wf.2 _ (aX (aE q0));refine⟨.ref t,t2,?_⟩;exact RV.tupI (by rw[zc (aN8 t3 ha (by nofun))];exact t3) ((bl7 a3 z.2.1 (iA (λ _ _ q=>q.mono λ c ys r=>by rw[zc (aN8 r ha (by nofun))];exact r) t4)).append (.cons (RV.mono g2 _ _ hv c3) .nil))
end
section
variable {Γ:Gm} {F:oQ} {n:Nat} {X:Cx} {ck:Ck}
end
section
variable {Γ:Gm} {F:oQ} {n:Nat} {X:Cx} {ck:Ck}
def TJv (Γ:Gm)(m:oE->oC->oH (List oD))(out:List Nat):TE:=λ W H Q=>∃ C U s l s' ws,RE Γ C H s.length U W/\Rp Γ C H s/\m U s=.ok l s'/\rf l=some ws/\(out++ws.flatten).length<=oN /\
 ∀ C' H',Gr C s H C' s' H'->s.length<=s'.length->Rp Γ C' H' s'->Q (.str ⟨(out++ws.flatten).toArray⟩) H'
def PF (Γ:Gm)(X:Cx)(vs:yK)(m:oE->oC->oH (List oD)):Prop :=
 ∀ out pins s (W:St) H Q ,Inv X pins W H s->TJv Γ m out W H Q->wpAny (model X.prog X.w) X.A (joinParts ⟨out.toArray⟩ (evalEach vs X.env)) (EP X pins W Q) X.xe s
def PF.eq (e:∀ U s,m U s=m' U s)(h:PF Γ X vs m):PF Γ X vs m':=λ out z s W H Q I q=>by
 obtain⟨C,U,s0,l,s',ws,E,R,hm,q⟩:=q;exact h out z s W H Q I ⟨C,U,s0,l,s',ws,E,R,by rw[e];exact hm,q⟩
def aN6 (w:List Nat):(⟨w.toArray⟩:Str).length=w.length:=by simp[Str.length]
def ca9:PF Γ X [] (λ _ s=>.ok [] s):=λ out z s W H Q I q=>by
 obtain⟨C,U,s0,l,s',ws,E,R,hm,hw,hl,q⟩:=q;cases hm;cases hw;rw[List.flatten_nil,bh]at q hl;exact joinParts_nilE (joinParts_nil ⟨.str ⟨out.toArray⟩,H,I.tok _,⟨_,rfl⟩,q C H (Gr.refl _ _ _) (au _) R⟩ (by rw[aN6];exact ar hl z7))
def bj2 (h:rf (d::l)=some ws):∃ w z,d=.str w/\rf l=some z/\ws=w::z:=by
 cases d with
 | str w =>
  have h:(rf l).map (w::·)=some ws:=h;cases e:rf l with
  | none=>rw[e]at h;cases h
  | some z=>rw[e]at h;cases h;exact⟨w,z,rfl,rfl,rfl⟩
 | _=>cases h
def bg0 (h2:PF Γ X vs m2)
  (h1:∀(z:yA) (s:ag) (W:St) (H:Hp) (w:List Nat) (Q:VK),w.length<=oN->Inv X z W H s->TEv Γ m1 W H (λ x F=>x=.str ⟨w.toArray⟩/\Q x F) ->
   wpAny (model X.prog X.w) X.A (eval v X.env) (λ u s1=>∃ t F,u=.str ⟨w.toArray⟩ t/\Inv X z W F s1/\Q (.str ⟨w.toArray⟩) F) X.xe s) :
  PF Γ X (v::vs) (λ U s=>(m1 U s).bind λ d s=>(m2 U s).bind λ l s=>.ok (d::l) s):=λ out z s W H Q I q=>by
 obtain⟨C,U,s0,l,s',ws,E,R,hm,hw,hl,q⟩:=q;obtain⟨d,s1,e1,hm⟩:=aa1 hm;obtain⟨l2,s2,e2,hm⟩:=aa1 hm;cases hm;obtain⟨w,Y,rfl,a0,rfl⟩:=bj2 hw;rw[dM,<-dh]at hl q;have J:(out++w).length<=oN:=by rw[aA]at hl;lia
 have G:w.length<=oN:=by rw[aA]at J;lia
 refine joinParts_consE (joinParts_cons (bw (h1 z s W H w (λ x F=>∃ C1,Gr C s0 H C1 s1 F/\s0.length<=s1.length/\Rp Γ C1 F s1) G I ⟨C,U,s0,.str w,s1,E,R,e1,λ v C1 F g1 l1 b1 r1 R1=>⟨r1.strE,C1,g1,l1,R1⟩⟩) (λ u Z hu=>?_) λ _ _ x=>x));obtain⟨t,F,rfl,I1,C1,g1,l1,R1⟩:=hu;show(_++_:Str).length<=aV/\_;rw[bb8];refine⟨by rw[aN6];exact ar J z7,h2 (out++w) z Z W F Q I1 ⟨C1,U,s1,l2,s',Y,E.mono g1 l1,R1,e2,a0,hl,λ C2 H2 g2 l2 R2=>q C2 H2 (g1.trans g2 l1) (ar l1 l2) R2⟩⟩
def bC7 (hv:PE X v (TEv Γ m1)) z s (W:St) H (w:List Nat)(Q:VK)(I:Inv X z W H s)(q:TEv Γ m1 W H (λ x F=>x=.str ⟨w.toArray⟩/\Q x F)) :
  wpAny (model X.prog X.w) X.A (eval v X.env) (λ u s1=>∃ t F,u=.str ⟨w.toArray⟩ t/\Inv X z W F s1/\Q (.str ⟨w.toArray⟩) F) X.xe s :=
 bw (hv z s W H _ I q) (λ u s1 hu=>by
  obtain⟨x,F,J,G,ex,Y⟩:=hu;subst ex;obtain⟨t,rfl⟩:=(G)
  exact⟨t,F,rfl,J,Y⟩) λ _ _ x=>x
def cj8 (hv:PE X v (TEv Γ m1))(J:PF Γ X vs m2) :
  PF Γ X (.FormattedValue v (-1) none p::vs) (λ U s=>(m1 U s).bind λ d s=>(m2 U s).bind λ l s=>.ok (d::l) s) :=
 bg0 J λ z s W H w Q hw I q=>FormattedValue_plain (bw (bC7 hv z s W H w Q I q) (λ u s1 hu=>by
  obtain⟨t,F,rfl,G,Y⟩:=hu;exact formatField_str (λ t' tk=>⟨t',F,rfl,G.tok tk,Y⟩) (by rw[aN6];exact ar hw z7)) λ _ _ x=>x)
def cb8 (hv:PE X v (TEv Γ m1))(F:PF Γ X vs m2) :
  PF Γ X (v::vs) (λ U s=>(m1 U s).bind λ d s=>(m2 U s).bind λ l s=>.ok (d::l) s) :=
 bg0 F λ z s W H w Q hw I q=>bC7 hv z s W H w Q I q
end
section
variable {Γ:Gm} {F:oQ} {n:Nat}
def ci8 (h:mC c v=true):EvT Γ X (.Constant v k pos) (oG F (.K c)):=by
 refine .val ?_;unfold mC at h;split at h
 .exact cf5.imp λ W H Q q=>aG9 (λ _=>rfl) (λ _ _=>RV.nonI) (TEv.eq (λ U s=>rfl) q)
 .rename_i b c;have e:=eq_of_beq h;subst e;exact bK3.imp λ W H Q q=>aG9 (λ _=>rfl) (λ _ _=>RV.blI) (TEv.eq (λ U s=>rfl) q)
 .rename_i i j;have e:=of_decide_eq_true h;subst e;exact bb9.imp λ W H Q q=>aG9 (λ _=>rfl) (λ _ _=>RV.intI) (TEv.eq (λ U s=>rfl) q)
 .rename_i x y;rw[aj]at h;have e:=of_decide_eq_true h.1;have e2:=of_decide_eq_true h.2;subst e;exact aD7.imp λ W H Q q=>aG9 (λ _=>rfl) (λ _ _=>RV.strI (by unfold oN;lia)) (TEv.eq (λ U s=>rfl) q)
 .cases h
def bN0 {z:yK}(m:mEs Y es z=true)(hz:z.length<=1000)(h:PA X z (TAv Γ (pf F es))):PE X (.List z pos) (TFv Γ (rN F (.disp es))):=by
 refine(ax3 h).imp λ W H Q q=>?_;obtain⟨C,U,s,l,s',E,R,hm,q⟩:=q;refine⟨C,U,s,l,s',E,R,hm,λ vs C1 G g1 l1 b1 r1 R1=>⟨by rw[r1.length,az2 hm m];exact aO0 hz,λ p hp=>?_⟩⟩;obtain⟨J,R2⟩:=R1.same ((af0.refl G).new hp);refine q p vs C1 _ (g1.trans J l1) l1 b1 zg ?_ (Off.new R1 hp) (RVL.mono J _ _ b1 r1) R2;cases e:H p with
 | none=>rfl
 | some o=>exact absurd hp (g1.st p (by rw[e];simp))
def CompF.eq (c:CompF Γ X m E)(e:∀ U s,m' U s=m U s):CompF Γ X m' E:=by
 have:=funext λ U=>funext λ s=>e U s;subst this;exact c
def ze (h:(a&&b)=true):a=true/\b=true:=by rw[aj]at h;exact h
def bM1 {g:String}(G:CG Γ F n X J)(h:J.gl (g:Str)=true):EvT Γ X (.Name (g) p) (oG F (.gl g)):=by
 refine .val ?_;obtain⟨g1,Z,g3⟩:=G.gl h;cases e:F.con g with
 | none =>
  intro z s W H Q I q;obtain⟨C,U,s,d,s',E,R,hm,q⟩:=q;have hm:(match F.con g with|some d=>DV.R.ok d s|none=>.B)=.ok d s':=hm;rw[e]at hm;cases hm
 | some d =>
  obtain⟨v,u,h1,h2,h3,Y⟩:=G.con g d e;exact(aB4 g1 h1 h2 Z).imp λ W H Q q=>aG9 h3 Y (TEv.eq (λ U s=>by show(match F.con g with|some d=>DV.R.ok d s|none=>.B)=DV.R.ok d s;rw[e]) q)
def bW7 (G:CG Γ F n X z)(h:z.var i x=true):EvT Γ X (.Name x p) (oG F (.X i)):=by
 refine .val ?_;unfold Ck.var at h;obtain⟨h,J⟩:=ze h;obtain⟨h,Y⟩:=ze h;obtain⟨h1,Z⟩:=ze h;have e1:(x==("__debug__"))=false:=by simpa using Y
 have e2:(x==("__classdict__"))=false:=by simpa using J
 exact(am8 (by rw[G.N];exact of_decide_eq_true h1) (G.vis Z) e1 e2).imp λ W H Q q=>bX8 i (TEv.eq (λ U s=>rfl) q)
inductive LK (Γ:Gm)(X:Cx)(m:oE->oC->oH (List oD))(E:Expr)(k:Nat):Prop where
 | c (h:CompF Γ X m E):LK Γ X m E k
 | f (hk:1<=k) (h:PE X E (TFv Γ m)):LK Γ X m E k
 | s (hk:k=2) (h:PE X E (TLv Γ m)):LK Γ X m E k
def bY9 (h:LK Γ X m E 0):CompF Γ X m E:=by
 cases h with
 | c h=>exact h
 | f hk h=>lia
 | s hk h=>lia
def bs7 (G:CG Γ F n X z)(h:LK Γ X m E 1):PE X E (TFv Γ m):=by
 cases h with
 | c h=>exact h.pe G.calm
 | f hk h=>exact h
 | s hk h=>lia
def cn1 (G:CG Γ F n X z)(h:LK Γ X m E 2):PE X E (TLv Γ m):=by
 cases h with
 | c h=>exact(h.pe G.calm).imp λ W H Q q=>aP3 q
 | f hk h=>exact h.imp λ W H Q q=>aP3 q
 | s hk h=>exact h
def biOk_inv {F}(h:cm0 z b x F (mEs z es F) (mEs z es (F.take 1))=true) :
  (∃ k t a y G,biK b=some (k,t)/\F=[a,.Name y G]/\x=("isinstance")/\y=t/\z.gl x=true/\z.gl y=true/\mEs z es [a]=true)\/∃ a ys,F=a::ys/\biT b=some x/\z.gl x=true/\mEs z es (a::ys)=true:=by
 unfold cm0 at h;cases hk:biK b with
 | none =>
  rw[hk]at h;cases F with
  | nil=>exact ff h
  | cons a ys =>
   obtain⟨h,J⟩:=ze h;obtain⟨Z,Y⟩:=ze h;exact .inr ⟨a,ys,rfl,of_decide_eq_true Z,Y,J⟩
 | some p =>
  rw[hk]at h;cases F with
  | nil=>exact ff h
  | cons a ys=>cases ys with
   | nil=>exact ff h
   | cons b ys=>cases b with
    | Name y G=>cases ys with
     | nil =>
      obtain⟨h,h5⟩:=ze h;obtain⟨h,h4⟩:=ze h;obtain⟨h,J⟩:=ze h;obtain⟨Z,Y⟩:=ze h;exact .inl ⟨p.1,p.2,a,y,G,rfl,rfl,of_decide_eq_true Z,of_decide_eq_true J,Y,h4,h5⟩
     | cons _ _=>exact ff h
    | _=>exact ff h
def bu6 (h:cl4 E=some q):E=q.text:=by
 have F:∀ {p},(none)=some q->p:=λ h=>nomatch h;cases E with
 | ListComp elt gs sc pos =>
  cases elt with
  | BinOp l op r p4 =>
   cases l with
   | Name x p1 =>
    cases op with
    | Add =>
     cases r with
     | Tuple ts k1 p3 =>
      cases ts with
      | cons t0 ts1 =>
       cases t0 with
       | Name y p2 =>
        cases ts1 with
        | nil =>
         cases gs with
         | cons g gs1 =>
          cases g with
          | mk tgt iter ifs z =>
           cases tgt with
           | Tuple us k2 p7 =>
            cases us with
            | cons u0 us1 =>
             cases u0 with
             | Name x2 p5 =>
              cases us1 with
              | cons u1 us2 =>
               cases u1 with
               | Name y2 p6 =>
                cases us2 with
                | nil =>
                 cases iter with
                 | Call f as kw cp =>
                  cases f with
                  | Attribute ob it ap =>
                   cases as with
                   | nil =>
                    cases kw with
                    | nil =>
                     cases ifs with
                     | nil =>
                      cases gs1 with
                      | nil =>
                       have h:(if x2=x/\y2=y/\it=("items")/\z=0 then some (⟨x,y,ob,sc,p1,p2,p3,p4,p5,p6,p7,k1,k2,ap,cp,pos⟩)else none)=some q:=h;by_cases e:x2=x/\y2=y/\it=("items")/\z=0
                       .rw[if_pos e]at h;cases h;obtain⟨rfl,rfl,rfl,rfl⟩:=e;rfl
                       .rw[if_neg e]at h;exact F h
                      | _=>exact F h
                     | _=>exact F h
                    | _=>exact F h
                   | _=>exact F h
                  | _=>exact F h
                 | _=>exact F h
                | _=>exact F h
               | _=>exact F h
              | _=>exact F h
             | _=>exact F h
            | _=>exact F h
           | _=>exact F h
         | _=>exact F h
        | _=>exact F h
       | _=>exact F h
      | _=>exact F h
     | _=>exact F h
    | _=>exact F h
   | _=>exact F h
  | _=>exact F h
 | _=>exact F h
mutual
theorem sE:∀(e:pJ) (E:Expr) (X:Cx) (z:Ck),CG Γ F n X z->mE z e E=true->EvT Γ X E (oG F e)
 | .X i,E,X,z,G,h=>by
  cases E with
  | Name x p =>
   exact bW7 G h
  | _=>exact ff h
 | .K c,E,X,z,G,h=>by
  cases E with
  | Constant v k p =>
   exact ci8 h
  | _=>exact ff h
 | .gl g,E,X,z,G,h=>by
  cases E with
  | Name x p =>
   obtain⟨Y,J⟩:=ze h;have e:=of_decide_eq_true Y;subst e;exact bM1 G J
  | _=>exact ff h
 | .G op a b,E,X,z,G,h=>by
  cases E with
  | BinOp l o r pE =>
   obtain⟨h,Z⟩:=ze h;obtain⟨Y,J⟩:=ze h;have e:=of_decide_eq_true Y;subst e;exact bP9 G op (sE a _ X z G J) (sE b _ X z G Z)
  | _=>exact ff h
 | .neg a,E,X,z,G,h=>by
  cases E with
  | UnaryOp o l p =>
   cases o with
   | USub =>
    exact bL0 (sE a _ X z G h)
   | _=>exact ff h
  | _=>exact ff h
 | .not a,E,X,z,G,h=>by
  cases E with
  | UnaryOp o l p =>
   cases o with
   | Not =>
    exact bJ8 (sE a _ X z G h)
   | _=>exact ff h
  | _=>exact ff h
 | .Z op a b,E,X,z,G,h=>by
  cases E with
  | Compare l os rs pE =>
   cases os with
   | cons o os_0 =>
    cases os_0 with
    | nil =>
     cases rs with
     | cons r rs_0 =>
      cases rs_0 with
      | nil =>
       obtain⟨h,Z⟩:=ze h;obtain⟨Y,J⟩:=ze h;have e:=of_decide_eq_true Y;subst e;exact bQ0 G op (aH9 Z) (sE a _ X z G J) (sE b _ X z G Z)
      | _=>exact ff h
     | _=>exact ff h
    | _=>exact ff h
   | _=>exact ff h
  | _=>exact ff h
 | .chain o p a b c,E,X,z,G,h=>by
  cases E with
  | Compare l os rs pE =>
   cases os with
   | cons o1 os_0 =>
    cases os_0 with
    | cons o2 os_1 =>
     cases os_1 with
     | nil =>
      cases rs with
      | cons m rs_0 =>
       cases rs_0 with
       | cons r rs_1 =>
        cases rs_1 with
        | nil =>
         obtain⟨h,h5⟩:=ze h;obtain⟨h,h4⟩:=ze h;obtain⟨h,Z⟩:=ze h;obtain⟨Y,J⟩:=ze h;have e:=of_decide_eq_true Y;have e':=of_decide_eq_true J;subst e;subst e';exact bc8 G o p (aH9 h5) (sE a _ X z G Z) (sE b _ X z G h4) (sE c _ X z G h5)
        | _=>exact ff h
       | _=>exact ff h
      | _=>exact ff h
     | _=>exact ff h
    | _=>exact ff h
   | _=>exact ff h
  | _=>exact ff h
 | .isN a,E,X,z,G,h=>by
  cases E with
  | Compare l os rs pE =>
   cases os with
   | cons o os1 =>
    cases o with
    | Is =>
     cases os1 with
     | nil =>
      cases rs with
      | cons r rs1 =>
       cases r with
       | Constant v k p1 =>
        cases v with
        | none =>
         cases rs1 with
         | nil =>
          exact bF1 (sE a _ X z G h)
         | _=>exact ff h
        | _=>exact ff h
       | _=>exact ff h
      | _=>exact ff h
     | _=>exact ff h
    | _=>exact ff h
   | _=>exact ff h
  | _=>exact ff h
 | .notN a,E,X,z,G,h=>by
  cases E with
  | Compare l os rs pE =>
   cases os with
   | cons o os1 =>
    cases o with
    | IsNot =>
     cases os1 with
     | nil =>
      cases rs with
      | cons r rs1 =>
       cases r with
       | Constant v k p1 =>
        cases v with
        | none =>
         cases rs1 with
         | nil =>
          exact br1 (sE a _ X z G h)
         | _=>exact ff h
        | _=>exact ff h
       | _=>exact ff h
      | _=>exact ff h
     | _=>exact ff h
    | _=>exact ff h
   | _=>exact ff h
  | _=>exact ff h
 | .and a b,E,X,z,G,h=>by
  cases E with
  | BoolOp op vs p=>cases op with
   | And =>
    cases vs with
    | nil=>exact ff h
    | cons l vs=>cases vs with
     | nil=>exact ff h
     | cons r vs=>cases vs with
      | nil =>
       obtain⟨Y,J⟩:=ze h;exact bE8 (sE a _ X z G Y) (sE b _ X z G J)
      | cons r2 vs =>
       obtain⟨Y,J⟩:=ze h;exact bJ0 (sE a _ X z G Y) (sE b _ X z G J)
   | _=>exact ff h
  | _=>exact ff h
 | .or a b,E,X,z,G,h=>by
  cases E with
  | BoolOp op vs p=>cases op with
   | Or =>
    cases vs with
    | nil=>exact ff h
    | cons l vs=>cases vs with
     | nil=>exact ff h
     | cons r vs=>cases vs with
      | nil =>
       obtain⟨Y,J⟩:=ze h;exact cc2 (sE a _ X z G Y) (sE b _ X z G J)
      | cons r2 vs =>
       obtain⟨Y,J⟩:=ze h;exact ca5 (sE a _ X z G Y) (sE b _ X z G J)
   | _=>exact ff h
  | _=>exact ff h
 | .ite c a b,E,X,z,G,h=>by
  cases E with
  | IfExp tE l r pE =>
   obtain⟨h,Z⟩:=ze h;obtain⟨Y,J⟩:=ze h;exact bH1 (sE c _ X z G Y) (sE a _ X z G J) (sE b _ X z G Z)
  | _=>exact ff h
 | .tp es,E,X,z,G,h=>by
  cases E with
  | Tuple xs k p =>
   obtain⟨Y,J⟩:=ze h;exact bJ6 Y (of_decide_eq_true J) (aw0 (sEs es _ X z G Y))
  | _=>exact ff h
 | .J es,E,X,z,G,h=>by
  cases E with
  | List xs p =>
   obtain⟨Y,J⟩:=ze h;exact bH6 Y (of_decide_eq_true J) (aw0 (sEs es _ X z G Y))
  | _=>exact ff h
 | .dicU k v,E,X,z,G,h=>by
  cases E with
  | Dict a b p=>cases a with
   | nil=>exact ff h
   | cons x a=>cases x with
    | none=>cases a with|nil=>exact ff h|_=>exact ff h
    | some x=>cases a with
     | nil=>cases b with
      | nil=>exact ff h
      | cons y b=>cases b with
       | nil =>
        obtain⟨Y,J⟩:=ze h;exact .val ((bq5 (Nat.lt_of_succ_lt (aw3 G.room)) (sE k _ X z G Y).1 (sE v _ X z G J).1).imp λ W H Q q=>bK7 (TEv.eq (λ U s=>rfl) q))
       | _=>exact ff h
     | _=>exact ff h
  | _=>exact ff h
 | .dicT,E,X,z,G,h=>by
  cases E with
  | Dict a b p=>cases a with
   | nil=>cases b with
    | nil=>exact .val (bp3.imp λ W H Q q=>bO3 (TEv.eq (λ U s=>rfl) q))
    | _=>exact ff h
   | _=>exact ff h
  | _=>exact ff h
 | .get2 o k d,E,X,z,G,h=>by
  cases E with
  | Call fE xs kw cp =>
   cases fE with
   | Attribute ob x ap =>
    cases xs with
    | cons a xs_0 =>
     cases xs_0 with
     | cons b xs_1 =>
      cases xs_1 with
      | nil =>
       cases kw with
       | nil =>
        obtain⟨h,h8⟩:=ze h;obtain⟨h,h7⟩:=ze h;obtain⟨h,h6⟩:=ze h;obtain⟨h,h5⟩:=ze h;obtain⟨h,h4⟩:=ze h;obtain⟨h,Z⟩:=ze h;obtain⟨Y,J⟩:=ze h;have e:=of_decide_eq_true Y;subst e;exact bu2 G J Z h7 h8 (sE o _ X z G h4).1 (sE k _ X z G h5).1 (sE d _ X z G h6).1
       | _=>exact ff h
      | _=>exact ff h
     | _=>exact ff h
    | _=>exact ff h
   | _=>exact ff h
  | _=>exact ff h
 | .ix a b,E,X,z,G,h=>by
  cases E with
  | Subscript o i p =>
   obtain⟨Y,J⟩:=ze h;exact cg7 G (aH9 J) (sE a _ X z G Y) (sE b _ X z G J)
  | _=>exact ff h
 | .slU a hi,E,X,z,G,h=>by
  cases E with
  | Subscript o i p =>
   cases i with
   | Slice lo hi st p2 =>
    cases lo with
    | none =>
     cases hi with
     | some l =>
      cases st with
      | none =>
       obtain⟨Y,J⟩:=ze h;exact bI7 G (sE a _ X z G Y) (sE hi _ X z G J)
      | _=>exact ff h
     | _=>exact ff h
    | _=>exact ff h
   | _=>exact ff h
  | _=>exact ff h
 | .call f as,E,X,z,G,h=>by
  cases E with
  | Call fE xs kw p =>
   cases fE with
   | Name x pN =>
    cases kw with
    | nil =>
     obtain⟨h,Z⟩:=ze h;obtain⟨Y,J⟩:=ze h;have e:=of_decide_eq_true Y;subst e;exact bw8 G J Z (sAs as _ X z G Z)
    | _=>exact ff h
   | _=>exact ff h
  | _=>exact ff h
 | .bi b es,E,X,z,G,h=>by
  cases E with
  | Call fE xs kw p =>
   cases fE with
   | Name x pN =>
    cases kw with
    | nil =>
     have h:cm0 z b x xs (mEs z es xs) (mEs z es (xs.take 1))=true:=h;rcases biOk_inv h with⟨k,t,a,y,py,hk,rfl,rfl,rfl,J,h4,h5⟩|⟨a,ys,rfl,Y,J,Z⟩
     .exact bG0 G hk J h4 (sEs es _ X z G h5)
     .exact bZ6 G Y J Z (aw0 (sEs es _ X z G Z))
    | _=>exact ff h
   | _=>exact ff h
  | _=>exact ff h
 | .mk k l,E,X,z,G,h=>by
  cases E with
  | ListComp e gs sc p =>
   obtain⟨Y,J⟩:=ze h;have e:=of_decide_eq_true Y;subst e;exact .val (((bY9 (sL l _ X z G 0 J)).pe G.calm).imp λ W H Q q=>bk2 (TEv.eq (λ U s=>rfl) q))
  | Call fE xs kw p =>
   cases fE with
   | Name x pN =>
    cases xs with
    | cons a xs_0 =>
     cases xs_0 with
     | nil =>
      cases kw with
      | nil =>
       obtain⟨h,h4⟩:=ze h;obtain⟨J,Z⟩:=ze h;rw[cH]at h4;rcases h4 with h4|h4
       .obtain⟨h5,h6⟩:=ze h4;exact .val ((cb4 G (of_decide_eq_true h5) J Z (cn1 G (sL l _ X z G 2 h6))).imp λ W H Q q=>TEv.eq (λ U s=>rfl) q)
       .obtain⟨h5,h6⟩:=ze h4;exact .val ((cb7 G (of_decide_eq_true h5) J Z (bs7 G (sL l _ X z G 1 h6))).imp λ W H Q q=>TEv.eq (λ U s=>rfl) q)
      | _=>exact ff h
     | _=>exact ff h
    | _=>exact ff h
   | _=>exact ff h
  | _=>exact ff h
 | .mkD k l d,E,X,z,G,h=>by
  cases E with
  | Call fE xs kw p =>
   cases fE with
   | Name x pN =>
    cases xs with
    | cons a xs_0 =>
     cases xs_0 with
     | nil =>
      cases kw with
      | cons kk kw1 =>
       cases kk with
       | mk ky de kp =>
        cases ky with
        | some y =>
         cases kw1 with
         | nil =>
          obtain⟨h,h7⟩:=ze h;obtain⟨h,h6⟩:=ze h;obtain⟨h,h5⟩:=ze h;obtain⟨h,Z⟩:=ze h;obtain⟨Y,J⟩:=ze h;have e3:=of_decide_eq_true J;subst e3;rcases cH _ _ |>.mp Y with h|h
          .obtain⟨e,e2⟩:=ze h;have e:=of_decide_eq_true e;have e2:=of_decide_eq_true e2;subst e e2;exact .val ((bI5 G Z h5 (bs7 G (sL l _ X z G 1 h6)) (sE d _ X z G h7).1).imp λ W H Q q=>TEv.eq (λ U s=>rfl) q)
          obtain⟨e,e2⟩:=ze h;have e:=of_decide_eq_true e;have e2:=of_decide_eq_true e2;subst e e2;exact .val ((bY5 G Z h5 (bs7 G (sL l _ X z G 1 h6)) (sE d _ X z G h7).1).imp λ W H Q q=>TEv.eq (λ U s=>rfl) q)
         | _=>exact ff h
        | _=>exact ff h
      | _=>exact ff h
     | _=>exact ff h
    | _=>exact ff h
   | _=>exact ff h
  | _=>exact ff h
 | .me m o es,E,X,z,G,h=>by
  cases E with
  | Call fE xs kw p =>
   cases fE with
   | Attribute ob x ap =>
    cases kw with
    | nil =>
     obtain⟨h,h5⟩:=ze h;obtain⟨h,h4⟩:=ze h;obtain⟨h,Z⟩:=ze h;obtain⟨Y,J⟩:=ze h;exact bn4 G (of_decide_eq_true Y) J Z (sE o _ X z G h4).1 h5 (sEs es _ X z G h5)
    | _=>exact ff h
   | _=>exact ff h
  | _=>exact ff h
 | .ext o l,E,X,z,G,h=>by
  cases E with
  | Call fE xs kw p =>
   cases fE with
   | Attribute ob x ap =>
    cases xs with
    | cons a xs_0 =>
     cases xs_0 with
     | nil =>
      cases kw with
      | nil =>
       obtain⟨h,h6⟩:=ze h;obtain⟨h,h5⟩:=ze h;obtain⟨h,h4⟩:=ze h;obtain⟨h,Z⟩:=ze h;obtain⟨Y,J⟩:=ze h;have e:=of_decide_eq_true Y;subst e;exact .val ((bH9 G J Z (sE o _ X z G h4).1 h6 (bs7 G (sL l _ X z G 1 h5)) (DV.aN9 G.fk l)).imp λ W H Q q=>TEv.eq (λ U s=>rfl) q)
      | _=>exact ff h
     | _=>exact ff h
    | _=>exact ff h
   | _=>exact ff h
  | _=>exact ff h
theorem sEs:∀(es:o7) (z:yK) (X:Cx) (J:Ck),CG Γ F n X J->mEs J es z=true->PEs Γ F X es z
 | .nil,z,X,J,G,h=>by
  cases z with
  | nil =>
   exact trivial
  | _=>exact ff h
 | .cons e es,z,X,J,G,h=>by
  cases z with
  | cons x z =>
   obtain⟨h,Y⟩:=ze h;obtain⟨h1,Z⟩:=ze h;exact⟨⟨Z,sE e _ X J G h1⟩,sEs es _ X J G Y⟩
  | _=>exact ff h
theorem sFs:∀(es:o7) (J:yK) (X:Cx) (z:Ck),CG Γ F n X z->mFs z es J=true->PF Γ X J (pf F es)
 | .nil,J,X,z,G,h=>by
  cases J with
  | nil=>exact(ca9).eq λ _ _=>rfl
  | _=>exact ff h
 | .cons e es,J,X,z,G,h=>by
  cases J with
  | cons x J =>
   cases x with
   | FormattedValue v c sp p =>
    cases sp with
    | none =>
     obtain⟨h,h3⟩:=ze h;obtain⟨Z,Y⟩:=ze h;have e1:=of_decide_eq_true Z;subst e1;exact(cj8 (sE e _ X z G Y).1 (sFs es _ X z G h3)).eq λ _ _=>rfl
    | _=>exact ff h
   | Constant v j p =>
    obtain⟨Z,Y⟩:=ze h;exact(cb8 (sE e _ X z G Z).1 (sFs es _ X z G Y)).eq λ _ _=>rfl
   | _=>exact ff h
  | _=>exact ff h
theorem sAs:∀(es:pW) (z:yK) (X:Cx) (J:Ck),CG Γ F n X J->mAs J es z=true->PA X z (TAv Γ (pz F es))
 | .nil,z,X,J,G,h=>by
  cases z with
  | nil =>
   exact ad2.imp λ W H Q q=>aR0 (TAv.eq (λ U s=>rfl) q)
  | _=>exact ff h
 | .ex e es,z,X,J,G,h=>by
  cases z with
  | cons x z =>
   obtain⟨h,Y⟩:=ze h;obtain⟨h1,Z⟩:=ze h;exact(aO8 Z (sE e _ X J G h1).1 (sAs es _ X J G Y)).imp λ W H Q q=>TAv.eq (λ U s=>rfl) q
  | _=>exact ff h
 | .fn _ _,z,X,J,G,h=>ff h
theorem cy3:∀(es:pW) (z:yK) (X:Cx) (J:Ck),CG Γ F n X J->cx1 J es z=true->PA X z (TAp Γ X.env.cells X.N (pz F es))
 | .nil,z,X,J,G,h=>by
  cases z with
  | nil =>
   exact ad2.imp λ W H Q q=>bF0 (TAp.eq (λ U s=>rfl) q)
  | _=>exact ff h
 | .ex e es,z,X,J,G,h=>by
  cases z with
  | cons x z =>
   obtain⟨h,Y⟩:=ze h;obtain⟨h1,Z⟩:=ze h;exact(zp (sE e _ X J G h1).1 (cy3 es _ X J G Y) (zb Z)).imp λ W H Q q=>bV7 (TAp.eq (λ U s=>rfl) q)
  | _=>exact ff h
 | .fn _ _,z,X,J,G,h=>ff h
theorem sI:∀(i:DV.I) (E tg:Expr) (X:Cx) (z:Ck),CG Γ F n X z->mI z tg i E=true->PI X tg E (TIv Γ (rC F i))
 | .seq e,E,tg,X,z,G,h=>by
  obtain⟨J,Y⟩:=ze h;exact bQ4 G (sE e _ X z G J).1
 | .rg a,E,tg,X,z,G,h=>by
  cases E with
  | Call fE xs kw p =>
   cases fE with
   | Name x pN =>
    cases xs with
    | cons l xs_0 =>
     cases xs_0 with
     | nil =>
      cases kw with
      | nil =>
       obtain⟨h,Z⟩:=ze h;obtain⟨h,h3⟩:=ze h;obtain⟨J,Y⟩:=ze h;have e:=of_decide_eq_true J;subst e;exact bq1 G Y Z (sE a _ X z G h3).1
      | _=>exact ff h
     | _=>exact ff h
    | _=>exact ff h
   | _=>exact ff h
  | _=>exact ff h
 | .rngD a,E,tg,X,z,G,h=>by
  cases E with
  | Call fE xs kw p =>
   cases fE with
   | Name x pN =>
    cases xs with
    | cons l xs1 =>
     cases xs1 with
     | cons r xs2 =>
      cases r with
      | UnaryOp o1 c1 p1 =>
       cases o1 with
       | USub =>
        cases c1 with
        | Constant v k1 p2 =>
         cases xs2 with
         | cons cc xs3 =>
          cases cc with
          | UnaryOp o2 c2 p3 =>
           cases o2 with
           | USub =>
            cases c2 with
            | Constant u k2 p4 =>
             cases xs3 with
             | nil =>
              cases kw with
              | nil =>
               obtain⟨h,h6⟩:=ze h;obtain⟨h,h5⟩:=ze h;obtain⟨h,Z⟩:=ze h;obtain⟨h,h3⟩:=ze h;obtain⟨J,Y⟩:=ze h;have e:=of_decide_eq_true J;have e2:=of_decide_eq_true h5;have e3:=of_decide_eq_true h6;subst e e2 e3;exact bv5 G Y Z (sE a _ X z G h3).1
              | _=>exact ff h
             | _=>exact ff h
            | _=>exact ff h
           | _=>exact ff h
          | _=>exact ff h
         | _=>exact ff h
        | _=>exact ff h
       | _=>exact ff h
      | _=>exact ff h
     | _=>exact ff h
    | _=>exact ff h
   | _=>exact ff h
  | _=>exact ff h
theorem sL:∀(l:DV.L) (E:Expr) (X:Cx) (J:Ck),CG Γ F n X J->∀ k,mL J k l E=true->LK Γ X (rN F l) E k
 | .comp tg it e caps,E,X,J,G,k,h=>by
  cases E with
  | ListComp elt gs scope p =>
   cases gs with
   | cons g gs1 =>
    cases g with
    | mk tgt iter ifs z =>
     cases ifs with
     | nil =>
      cases gs1 with
      | nil =>
       obtain⟨h,h3⟩:=ze h;obtain⟨h,Z⟩:=ze h;obtain⟨h0,Y⟩:=ze h;have e0:=of_decide_eq_true h0;subst e0;have c:=bx0 (pos:=p) G Y (sI it _ _ X J G Z) λ Cc cells s H ex=>(sE e _ _ _ ((G.comp Y).2.2 Cc cells s H ex).1 h3).1;exact .c (c.eq λ U s=>rfl)
      | _=>exact ff h
     | _=>exact ff h
   | _=>exact ff h
  | _=>exact ff h
 | .compIf tg it i e caps,E,X,J,G,k,h=>by
  cases E with
  | ListComp elt gs scope p =>
   cases gs with
   | cons g gs1 =>
    cases g with
    | mk tgt iter ifs z =>
     cases ifs with
     | cons i1 ifs1 =>
      cases ifs1 with
      | nil =>
       cases gs1 with
       | nil =>
        obtain⟨h,h4⟩:=ze h;obtain⟨h,h3⟩:=ze h;obtain⟨h,Z⟩:=ze h;obtain⟨h0,Y⟩:=ze h;have e0:=of_decide_eq_true h0;subst e0;have c:=bS0 (pos:=p) G Y (sI it _ _ X J G Z) (λ Cc cells s H ex=>(sE i _ _ _ ((G.comp Y).2.2 Cc cells s H ex).1 h3).2) λ Cc cells s H ex=>(sE e _ _ _ ((G.comp Y).2.2 Cc cells s H ex).1 h4).1;exact .c (c.eq λ U s=>rfl)
       | _=>exact ff h
      | _=>exact ff h
     | _=>exact ff h
   | _=>exact ff h
  | _=>exact ff h
 | .disp es,E,X,J,G,k,h=>by
  cases E with
  | List xs p =>
   obtain⟨h,Z⟩:=ze h;obtain⟨h0,Y⟩:=ze h;exact .f (of_decide_eq_true h0) (bN0 Y (of_decide_eq_true Z) (aw0 (sEs es _ X J G Y)))
  | _=>exact ff h
 | .seq e,E,X,J,G,k,h=>by
  obtain⟨h0,Y⟩:=ze h;exact .s (of_decide_eq_true h0) ((sE e _ X J G Y).1.imp λ W H Q q=>ci0 (TLv.eq (λ U s=>rfl) q))
 | .itm e,E,X,J,G,k,h=>by
  have h:(match cl4 E with|some q=>decide (1<=k)&&ck4 J q&&mE J e q.ob|none=>false)=true:=h;cases hq:cl4 E with
  | none=>rw[hq]at h;exact ff h
  | some q =>
   rw[hq]at h;obtain⟨h,h3⟩:=ze h;obtain⟨Y,Z⟩:=ze h;rw[bu6 hq];exact .f (of_decide_eq_true Y) (ca0 G Z (sE e _ X J G h3).1)
end
end
section
variable {Γ:Gm} {F:oQ} {n:Nat}
def bo3 (G:CG Γ F n X ck)(c:CompF Γ X m E)(hi:ck.N[i]?=some x)(hl:ck.loc x=true) :
  PS X (.Assign [.Name x px] E pos) (bx7 (TFv Γ m) (au5 i)):=by
 obtain⟨elt,Z,iter,ifs,scope,p2,N',z,wi,g,tc,te,rfl,h1,h2,h3,h4,h5⟩:=c.ex;obtain⟨l1,l2⟩:=G.loc hl;have nd:X.N.Nodup:=by rw[G.N];exact G.nd
 have J:X.N[i]?=some x:=by rw[G.N];exact hi
 generalize hb:((X.env.blockKind==.function&&X.env.kindOf x==some .local&&px.line==(Expr.ListComp elt [⟨Z,iter,ifs,0⟩] scope p2).pos.line&&!(scope.names.any λ(n,k)=>n==x&&(k==.local||k==.cell))))=b;have a0:f7 (.ListComp elt [⟨Z,iter,ifs,0⟩] scope p2) (some (.Name x px)) pos.line X.env=pure b:=by rw[<-hb];rfl
 have imp:∀ D W H,bx7 (TFv Γ m) (au5 i) D W H->bx7 (tComp z wi g tc te) (au5 i) D W H:=λ D W H q=>h5 _ _ _ q;cases b with
 | true =>
  have Y:=by
   simp only[aj]at hb;exact eq_of_beq hb.1.1.2
  exact(aW5 N' z nd J Y h1 h2 G.calm h3 h4 a0).imp imp
 | false=>exact(aT9 nd J l1 (aK4 N' z h1 h2 G.calm h3 h4) a0 l2).imp imp
def bR3 (G:CG Γ F n X z)(Y:z.N[i]?=some x)(hl:z.loc x=true)(h:mE z e v=true) :
  PS X (.Assign [.Name x px] v pos) (TSv Γ (DV.ex F (.A (.Y i) e))):=by
 obtain⟨l1,Z⟩:=G.loc hl;have nd:X.N.Nodup:=by rw[G.N];exact G.nd
 have J:X.N[i]?=some x:=by rw[G.N];exact Y
 by_cases hc:ax7 v=true
 .exact(aT9 nd J l1 (sE e v X z G h).1 (am3 hc) Z).imp λ D W H q=>bi3 (TSv.eq (λ U s=>rfl) q)
 .have hs:=aH9 h;cases v with
  | ListComp elt gs sc p =>
   cases e with
   | mk k l =>
    obtain⟨h1,h2⟩:=ze h;have e:=of_decide_eq_true h1;subst e;exact(bo3 G (bY9 (sL l _ X z G 0 h2)) Y hl).imp λ D W H q=>br0 (TSv.eq (λ U s=>rfl) q)
   | _=>exact ff h
  | SetComp _ _ _ _=>cases hs
  | DictComp _ _ _ _ _=>cases hs
  | _=>exact absurd rfl hc
mutual
theorem sS:∀(st:DV.S) (S:Stmt) (X:Cx) (z:Ck),CG Γ F n X z->mS z st S=true->PS X S (TSv Γ (DV.ex F st))
 | .A tg e,S,X,z,G,h=>by
  cases S with
  | Assign ts v p =>
   cases ts with
   | cons t ts1 =>
    cases ts1 with
    | nil =>
     obtain⟨h,Z⟩:=ze h;obtain⟨Y,J⟩:=ze h;cases tg with
     | Y i =>
      have h:=Y;cases t with
      | Name x px =>
       obtain⟨a1,a2⟩:=ze h;exact bR3 G (of_decide_eq_true a1) a2 J
      | _=>exact ff h
     | tp is =>
      obtain⟨a1,a2⟩:=ze Z;have h:=Y;cases t with
      | Tuple te tk tp=>exact(ba6 (sE e _ X z G J).1 (bL4 G Y) (show f7 v (some (.Tuple te tk tp)) p.line X.env=pure false from am3 a2) (aU4 a1) rfl).imp λ D W H q=>bi3 (TSv.eq (λ U s=>rfl) q)
      | _=>exact ff h
    | _=>exact ff h
   | _=>exact ff h
  | _=>exact ff h
 | .setIx o i e,S,X,z,G,h=>by
  cases S with
  | Assign ts v p2 =>
   cases ts with
   | cons tt ts1 =>
    cases tt with
    | Subscript ob ix p1 =>
     cases ts1 with
     | nil =>
      obtain⟨h,h4⟩:=ze h;obtain⟨h,Z⟩:=ze h;obtain⟨Y,J⟩:=ze h;have a0:=aH9 J;refine(ba6 (sE e _ X z G Z).1 (cg9 (sE o _ X z G Y).1 (sE i _ X z G J).1 (bV4 (aw3 G.room)) ?_) (show f7 v (some (.Subscript ob ix p1)) p2.line X.env=pure false from am3 h4) aU9 ?_).imp λ D W H q=>bs3 (TSv.eq (λ U s=>rfl) q)
      .intro w;cases ix<;>first|rfl|cases a0
      .rfl
     | _=>exact ff h
    | _=>exact ff h
   | _=>exact ff h
  | _=>exact ff h
 | .ex e,S,X,z,G,h=>by
  cases S with
  | Expr v p =>
   obtain⟨Y,J⟩:=ze h;exact(aM4 (sE e _ X z G Y).1 (am3 J)).imp λ D W H q=>bO5 (TSv.eq (λ U s=>rfl) q)
  | _=>exact ff h
 | .ret e,S,X,z,G,h=>by
  cases S with
  | Return vo p =>
   cases vo with
   | some v =>
    exact(ar0 (sE e _ X z G h).1).imp λ D W H q=>cd9 (TSv.eq (λ U s=>rfl) q)
   | _=>exact ff h
  | _=>exact ff h
 | .ite c a b,S,X,z,G,h=>by
  cases S with
  | If t l r p =>
   obtain⟨h,Z⟩:=ze h;obtain⟨Y,J⟩:=ze h;exact(bp4 (sE c _ X z G Y).2 (sSs a _ X z G J) (sSs b _ X z G Z)).imp λ D W H q=>cn4 (TSv.eq (λ U s=>rfl) q)
  | _=>exact ff h
 | .whl c b,S,X,z,G,h=>by
  cases S with
  | While t l o p =>
   cases o with
   | nil =>
    obtain⟨Y,J⟩:=ze h;exact(bv2 (by rw[G.xe];exact mV) (sE c _ X z G Y).2 (sSs b _ X z G J)).imp λ D W H q=>bq2 (TSv.eq (λ U s=>rfl) q)
   | _=>exact ff h
  | _=>exact ff h
 | .fo tg it b,S,X,z,G,h=>by
  cases S with
  | For tgt iter l o p =>
   cases o with
   | nil =>
    obtain⟨h,Z⟩:=ze h;obtain⟨Y,J⟩:=ze h;exact(ch5 (by rw[G.xe];exact mV) G.calm (sI it _ _ X z G J) (bL4 G Y) (sSs b _ X z G Z) (aK7 (ce7 J))).imp λ D W H q=>bV5 (TSv.eq (λ U s=>rfl) q)
   | _=>exact ff h
  | _=>exact ff h
 | .raise,S,X,z,G,h=>bq7.imp λ D W H q=>by
  obtain⟨C,U,s,c,s',E,R,hm,q⟩:=q;cases hm
theorem sSs:∀(st:rL) (S:yL) (X:Cx) (z:Ck),CG Γ F n X z->mSs z st S=true->PSs X S (TSv Γ (rg F st))
 | .nil,S,X,z,G,h=>by
  cases S with
  | nil =>
   exact aA7.imp λ D W H q=>bM8 (m:=rg F .nil) (λ U s=>rfl) q
  | _=>exact ff h
 | .cons s ss,S,X,z,G,h=>by
  cases S with
  | cons x xs =>
   obtain⟨Y,J⟩:=ze h;exact(zA (sS s _ X z G Y) (sSs ss _ X z G J)).imp λ D W H q=>bD7 (TSv.eq (λ U s=>rfl) q)
  | _=>exact ff h
end
end
noncomputable def mHT (ck:Ck)(n:Str):DV.HT->Expr->Bool
 | .isi _,_=>false
 | .Y c,E=>match E with|.Call (.Name g _) [.Name x _,.Name d _] [] _=>decide (g=("isinstance"))&&ck.gl g&&decide (x=n)&&decide (d=(c))&&ck.gl d|_=>false
 | .not t,E=>match E with|.UnaryOp .Not e _=>mHT ck n t e|_=>false
 | .ve,E=>match E with|.Call (.Name g _) [.Name x _,.Name d _] [] _=>decide (g=("isinstance"))&&ck.gl g&&decide (x=n)&&decide (d=("ValueError"))&&ck.gl d|_=>false
 | .or _ _,_=>false
noncomputable def mHd (ck:Ck)(n:Str):pH->List Stmt->Bool
 | .ret _,_=>false
 | .iff _ _ _,_=>false
 | .nob _,_=>false
 | .noe,_=>false
 | .iffN _ _,_=>false
 | .aoN _ _,_=>false
 | .sup _ h,S=>mHd ck n h S
 | .kin _ _,_=>false
structure CH (X:Cx)(ck:Ck):Prop where
 N:X.N=ck.N
 gl:∀ {x:Str},ck.gl x=true->Gl X x/\(x==("__debug__":Str))=false/\x ≠ "__name__"
 bi:∀ x∈bNames,X.mg x=none
def CG.ch (G:CG Γ F n X z):CH X z:=⟨G.N,G.gl,G.bi⟩
structure XC (F:oQ)(K:af)(mg:yC):Prop where
 at_:∀ c:String,F.xc c=true->∃ Cc,mg (c:Str)=some (.ref Cc)/\ExcCls K Cc/\excI K Cc=true
 cls:∀ c:String,F.xt c=true->∃ Cc,mg (c:Str)=some (.ref Cc)
 sub:∀(c d:String) (Cc D:Addr),F.xc c=true->F.xt d=true->mg (c:Str)=some (.ref Cc)->mg (d:Str)=some (.ref D)->bo K (.ref Cc) (.ref D)=some (oM c d)
 exm:∀(c d:String) (Cc D:Addr),F.xc c=true->F.xt d=true->mg (c:Str)=some (.ref Cc)->mg (d:Str)=some (.ref D)->bW K (.ref Cc) (.ref D)=some (oM c d)
 ve0:∀ c:String,F.xc c=true->mg ("ValueError":Str)=none
 ve1:∀(c:String) (Cc:Addr),F.xc c=true->mg (c:Str)=some (.ref Cc)->bo K (.ref Cc) (.type "ValueError")=some true
theorem aH8:∀ {ds:List Addr} {us:yG},Vals (ds.map V.ref) us->us=ds.map Value.ref
 | [],_,.nil=>rfl
 | d::ds,_,.cons r t=>by
  have e:=aH8 t;subst e;cases(r);rfl
def cy1 (K:af)(a Cc:Addr):List V->Hp->VK->Prop:=λ xs H Q=>(∃ y b,xs=[.ref a,y]/\((∃ D,y=.ref D/\bo K (.ref Cc) (.ref D)=some b)\/∃(p:Addr) (ds:List Addr),y=.ref p/\H p=some (.tp (ds.map V.ref))/\PySem.W.kitAny K (.ref Cc) (ds.map Value.ref)=some b)/\Q (.T b) H)\/xs=[.ref a,.ty "ValueError"]/\bo K (.ref Cc) (.type "ValueError")=some true/\Q (.T true) H
section
variable {Γ:Gm} {F:oQ} {n:Nat} {X:Cx} {ck:Ck} {a Cc:Addr} {oe:Obj}
def aT6 (F:dn X.K (.ref a) (.ref Cc) (λ h=>XAt h a Cc))(hcl:oe.cls=.ref Cc):ad8 (X.hnd a oe) (.builtin "isinstance") (cy1 X.K a Cc):=by
 intro G s W H xs us Q I r h;rcases h with h|⟨rfl,hv,q⟩
 case inr =>
  obtain⟨u,w',rfl,r1,r2⟩:=br4 r;cases(r1);cases(r2);have hx:XAt s.heap a Cc:=⟨oe,(I.pin (a,oe) (ax ..)).1,hcl⟩
  exact bV F I.kIn hx hv (λ z=>nomatch z) λ tk=>⟨.T true,H,I.tok _,rfl,q⟩
 obtain⟨y,b,rfl,hc,q⟩:=h;obtain⟨u,w',rfl,r1,r2⟩:=br4 r;cases(r1);have hx:XAt s.heap a Cc:=⟨oe,(I.pin (a,oe) (ax ..)).1,hcl⟩
 rcases hc with⟨D,rfl,e⟩|⟨p,ds,rfl,hp,e⟩
 .cases(r2);exact bV F I.kIn hx e (λ z=>nomatch z) λ tk=>⟨.T b,H,I.tok _,rfl,q⟩
 .cases(r2);obtain⟨z,its,Y,ob,e1,e2,nn,Z⟩:=(I.hok p _ hp)
  have J:=aH8 Y;subst J;obtain⟨c0,dd,dt,sl⟩:=ob;cases e2;cases Z;exact PySem.W.kia_tup F I.kIn hx e1 e (λ z=>nomatch z) λ tk=>⟨.T b,H,I.tok _,rfl,q⟩
def tHv (i:Nat)(a:Addr)(b:Bool):TE:=λ W H Q=>W[i]?=some (some (.ref a))/\∀ H',af0 H H'->Q (.T b) H'
def tHt (i:Nat)(a:Addr)(b:Bool):TT:=λ W H Q=>W[i]?=some (some (.ref a))/\∀ H',af0 H H'->Q b H'
theorem bN6 (G:CH X ck)(xc:XC F X.K X.mg)(Y:F.xc c=true)(Z:X.mg (c:Str)=some (.ref Cc))(kx:dn X.K (.ref a) (.ref Cc) (λ h=>XAt h a Cc))(hcl:oe.cls=.ref Cc)(hi:ck.N[i]?=some nm)(hv:Vis X.env.scope nm)(hd:(nm==("__debug__":Str))=false)(a0:(nm==("__classdict__":Str))=false) :
  ∀ {t:DV.HT} {E:Expr},mHT ck nm t E=true->t.ok F.xt=true->PE (X.hnd a oe) E (tHv i a (t.val c))/\PT (X.hnd a oe) E (tHt i a (t.val c))
 | .isi _,E,h,ho=>ff h
 | .Y d,E,h,ho=>by
  cases E with
  | Call g xs kw p =>
   cases g with
   | Name g pg =>
    cases xs with
    | nil=>exact ff h
    | cons x xs=>cases x with
     | Name x px =>
      cases xs with
      | nil=>exact ff h
      | cons y xs=>cases y with
       | Name y py =>
        cases xs with
        | cons _ _=>exact ff h
        | nil=>cases kw with
         | cons _ _=>exact ff h
         | nil =>
          obtain⟨h,h5⟩:=ze h;obtain⟨h,h4⟩:=ze h;obtain⟨h,h3⟩:=ze h;obtain⟨h1,h2⟩:=ze h;have e1:=of_decide_eq_true h1;have e3:=of_decide_eq_true h3;have e4:=of_decide_eq_true h4;subst e1 e3 e4;obtain⟨g1,g2,g3⟩:=G.gl h2;obtain⟨k1,k2,k3⟩:=G.gl h5;obtain⟨D,hD⟩:=xc.cls d ho;have J:PE (X.hnd a oe) (.Name x px) (be3 i):=am8 (X:=X.hnd a oe) (by show X.N[i]?=_;rw[G.N];exact hi) hv hd a0;have z:PE (X.hnd a oe) (.Name (d:Str) py) (tC (.ref D)):=aB4 (X:=X.hnd a oe) k1 hD rfl k2;have pa:PA (X.hnd a oe) [.Name x px,.Name (d:Str) py] _:=zp J (zp z ad2 rfl) rfl;have main:PE (X.hnd a oe) (.Call (.Name "isinstance" pg) [.Name x px,.Name (d:Str) py] [] p) (tHv i a (oM c d)):=by
           refine(ak6 (aT6 kx hcl) (show Gl (X.hnd a oe) "isinstance" from g1) (G.bi _ (by decide)) qP pa g3 g2 rfl rfl).imp λ W H Q q=>?_;exact⟨.ref a,q.1,.inl ⟨.ref D,_,rfl,.inl ⟨D,rfl,xc.sub c d Cc D Y ho Z hD⟩,q.2 _ (af0.refl _)⟩⟩
          refine⟨main,(bi2 main).imp λ W H Q q=>?_⟩;exact⟨q.1,λ H' s=>⟨_,rfl,q.2 H' s⟩⟩
       | _=>exact ff h
     | _=>exact ff h
   | _=>exact ff h
  | _=>exact ff h
 | .ve,E,h,ho=>by
  cases E with
  | Call g xs kw p =>
   cases g with
   | Name g pg =>
    cases xs with
    | nil=>exact ff h
    | cons x xs=>cases x with
     | Name x px =>
      cases xs with
      | nil=>exact ff h
      | cons y xs=>cases y with
       | Name y py =>
        cases xs with
        | cons _ _=>exact ff h
        | nil=>cases kw with
         | cons _ _=>exact ff h
         | nil =>
          obtain⟨h,h5⟩:=ze h;obtain⟨h,h4⟩:=ze h;obtain⟨h,h3⟩:=ze h;obtain⟨h1,h2⟩:=ze h;have e1:=of_decide_eq_true h1;have e3:=of_decide_eq_true h3;have e4:=of_decide_eq_true h4;subst e1 e3 e4;obtain⟨g1,g2,g3⟩:=G.gl h2;obtain⟨k1,k2,k3⟩:=G.gl h5;have J:PE (X.hnd a oe) (.Name x px) (be3 i):=am8 (X:=X.hnd a oe) (by show X.N[i]?=_;rw[G.N];exact hi) hv hd a0;have z:PE (X.hnd a oe) (.Name "ValueError" py) (tC (.ty "ValueError")):=bh0 (X:=X.hnd a oe) k1 (xc.ve0 c Y) (by rfl) rfl;have pa:PA (X.hnd a oe) [.Name x px,.Name "ValueError" py] _:=zp J (zp z ad2 rfl) rfl;have main:PE (X.hnd a oe) (.Call (.Name "isinstance" pg) [.Name x px,.Name "ValueError" py] [] p) (tHv i a true):=by
           refine(ak6 (aT6 kx hcl) (show Gl (X.hnd a oe) "isinstance" from g1) (G.bi _ (by decide)) qP pa g3 g2 rfl rfl).imp λ W H Q q=>?_;exact⟨.ref a,q.1,.inr ⟨rfl,xc.ve1 c Cc Y Z,q.2 _ (af0.refl _)⟩⟩
          refine⟨main,(bi2 main).imp λ W H Q q=>?_⟩;exact⟨q.1,λ H' s=>⟨_,rfl,q.2 H' s⟩⟩
       | _=>exact ff h
     | _=>exact ff h
   | _=>exact ff h
  | _=>exact ff h
 | .not t,E,h,ho=>by
  cases E with
  | UnaryOp o l p=>cases o with
   | Not =>
    obtain⟨h1,h2⟩:=bN6 G xc Y Z kx hcl hi hv hd a0 (t:=t) (E:=l) h ho;exact⟨(bE3 h1).imp λ W H Q q=>⟨q.1,λ H' s=>⟨_,rfl,q.2 H' s⟩⟩,(bB8 h2).imp λ W H Q q=>⟨q.1,λ H' s=>q.2 H' s⟩⟩
   | _=>exact ff h
  | _=>exact ff h
 | .or _ _,E,h,ho=>ff h
end
def tHd (i:Nat)(a:Addr)(o:VK->Hp->Prop):TS:=λ D W H=>W[i]?=some (some (.ref a))/\∀ H',af0 H H'->o D.rt H'
noncomputable def vV:oD->V
 | .T b=>.T b
 | _=>.N
def cf1 (ck:Ck)(nm:Str):List String->List Expr->Bool
 | [],es=>match es with|[]=>true|_=>false
 | c::cs,es=>match es with|e::es=>mHT ck nm (.Y c) e&&cf1 ck nm cs es|_=>false
noncomputable def bO9:List (List Nat)->List Expr->Bool
 | [],es=>match es with|[]=>true|_=>false
 | t::ts,es=>match es with|.Constant (.str y) _ _::es=>decide (y=⟨t.toArray⟩)&&bO9 ts es|_=>false
def kndB (ck:Ck)(nm ks:Str)(e1 e4:Expr)(y1 y5 m4 m5 m6:Str)(es2 es3 es6:yK)(l4 l5 l6:Bool):Bool :=
 (ck.sc.names.lookup nm==some .local)&&((ck.sc.names.lookup ks==some .local)&&(!(nm==("__debug__"))&&(!(nm==("__classdict__"))&&(!(ks==("__debug__"))&&(!(ks==("__classdict__"))&&(mHT ck nm (.not .ve) e1&&(decide (y1=⟨DV.ap3.toArray⟩)&&(decide (y5=⟨DV.ap3.toArray⟩)&&(decide (m4=("append"))&&(decide (m5=("count"))&&(decide (m6=("index"))&&(l4&&(l5&&(l6&&(cf1 ck nm (DV.ac9.take 4) es2&&(cf1 ck nm ((DV.ac9.drop 4).take 4) es3&&(mHT ck nm (.Y "NoName") e4&&bO9 rD es6)))))))))))))))))
inductive KindS (ck:Ck)(S:yL):Prop
 | mk (nm ks:Str) (e1 e4:Expr) (y1 y5 m4 m5 m6:Str) (es2 es3 es6:yK) (j1 j5 i5 k5 j6:Nat) (p1 q1 r1 a2 b2 c2 a3 b3 c3 d3 f3 a4 ap4 cp4 p4 a5 ap5 pj5 cp5 pi5 pc5 pk5 q5 p5 pl6 a6 ap6 pj6 cp6 ps6 p6:Pos)
 (_:S=[.If e1 [.Return (some (.Constant (.str y1) j1 p1)) q1] [] r1,.Assign [.Name ks a2] (.List es2 b2) c2,.Assign [.Name ks a3] (.BinOp (.Name ks b3) .Add (.List es3 c3) d3) f3,.Expr (.Call (.Attribute (.Name ks a4) m4 ap4) [e4] [] cp4) p4,
  .If (.Compare (.Call (.Attribute (.Name ks a5) m5 ap5) [.Constant (.bool true) j5 pj5] [] cp5) [.NotEq] [.Constant (.int 1) i5 pi5] pc5) [.Return (some (.Constant (.str y5) k5 pk5)) q5] [] p5,.Return (some (.Subscript (.List es6 pl6) (.Call (.Attribute (.Name ks a6) m6 ap6) [.Constant (.bool true) j6 pj6] [] cp6) ps6)) p6])
 (_:ck.N=[nm,ks]) (_:kndB ck nm ks e1 e4 y1 y5 m4 m5 m6 es2 es3 es6 (ap4.endLine==cp4.line) (ap5.endLine==cp5.line) (ap6.endLine==cp6.line)=true):KindS ck S
def mX (ck:Ck):rO->List Stmt->Bool
 | .no,_=>true
 | .kind,S=>@decide (KindS ck S) (di _)
 | .alt a b,S=>mX ck a S&&mX ck b S
 | .rais c,S=>match S with|.Raise (some (.Call (.Name x _) [.Constant (.str _) _ _] [] _)) none _::_=>decide (x=(c))&&ck.gl x|_=>false
 | .call f as,S=>match S with
  | .Return (some (.Call (.Name x _) (e::es) [] _)) _::_=>decide (x=(f))&&ck.gl x&&mAs ck as (e::es)
  | .Expr (.Call (.Name x _) (e::es) [] _) _::_=>decide (x=(f))&&ck.gl x&&mAs ck as (e::es)
  | .Assign [.Name _ _] (.Call (.Name x _) (e::es) [] _) _::_=>decide (x=(f))&&ck.gl x&&mAs ck as (e::es)
  | _=>false
 | .iteT c a r,S=>match S with|.If t l [] _::rest=>mE ck c t&&mX ck a l&&mX ck r rest|_=>false
 | .iteE _ _ _,_=>false
 | .seq s b,S=>match S with|x::rest=>mS ck s x&&mX ck b rest|_=>false
 | .forX _ _ _ _,_=>false
 | .whlX _ _ _,_=>false
noncomputable def noL:rO->Bool
 | .alt a b=>noL a&&noL b
 | .iteT _ a r=>noL a&&noL r
 | .iteE _ a r=>noL a&&noL r
 | .seq _ b=>noL b
 | .forX _ _ _ _=>false
 | .whlX _ _ _=>false
 | _=>true
noncomputable def noR:rO->Bool
 | .alt a b=>noR a&&noR b
 | .rais _=>false
 | .iteT _ a r=>noR a&&noR r
 | .iteE _ a r=>noR a&&noR r
 | .seq _ b=>noR b
 | .forX _ _ _ x=>noR x
 | .whlX _ _ x=>noR x
 | _=>true
def aD3 (Γ:Gm)(mg:yC)(C:Nat->Addr)(s:oC)(H:Hp)(c:String)(s':oC)(E:XK):Prop :=
 ∀ C' H' a Cc,Gr C s H C' s' H'->s.length<=s'.length->Rp Γ C' H' s'->mg (c)=some (.ref Cc)->E (.ref a) (some Cc) H'
def TXv (Γ:Gm)(mg:yC)(m:oE->oC->Option (String×oC))(E:XK):TS:=λ _ W H=>∃ C U s c s',RE Γ C H s.length U W/\Rp Γ C H s/\m U s=some (c,s')/\aD3 Γ mg C s H c s' E
def spX (Γ:Gm)(mg:yC)(x:List oD->oC->Option (String×oC)):Sp:=λ vs H _ E=>∃ C s l c s',Rp Γ C H s/\RVL Γ C H l vs/\oF s.length l=true/\x l s=some (c,s')/\aD3 Γ mg C s H c s' E
theorem aD3.trans (h:aD3 Γ F C s H c s' E)(g:Gr C s H C1 s1 z)(l:s.length<=s1.length):aD3 Γ F C1 s1 z c s' E :=
 λ C' H' a Cc g' G p m=>h C' H' a Cc (g.trans g' l) (ar l G) p m
theorem PA.nox (h:PA X.nox e t):PA X e t:=λ pos F s W H Q I hw =>
 bw (h pos F s W H Q (I.wish _) hw) (λ _ _ ⟨v,H',G,r,q⟩=>⟨v,H',G.unwish,r,q⟩) λ _ _ z=>bD z
theorem PS.nox {st}(h:PS X.nox st t):PS X st t:=λ F s W H D I hw =>
 bw (h F s W H D (I.wish _) hw) (λ _ _ q=>q.unwish) λ _ _ z=>bD z
def XOk (Γ:Gm)(prog:aM)(w:World)(K:af)(mg:yC)(base:Heap)(F:oQ)(n:Nat):Prop:=∀ f:String,(∀ l s,F.xcall f l s=none) \/
 ∃ a fd ps,FnOk prog w K mg base (CX1 prog w) n a fd ps (spX Γ mg (F.xcall f))/\mg (f)=some (.ref a)/\c6 K (.ref a)=true/\Binds K fd ps []
section
variable {Γ:Gm} {F:oQ} {n:Nat} {X:Cx} {ck:Ck} {a Cc:Addr} {oe:Obj}
theorem cc6 (G:CG Γ F n X ck)(xc:XC F X.K X.mg)(z:F.xc c=true)(J:X.mg (c:Str)=some (.ref Cc))(kx:dn X.K (.ref a) (.ref Cc) (λ h=>XAt h a Cc))(hcl:oe.cls=.ref Cc)(Z:ck.N[i]?=some nm)(hv:Vis X.env.scope nm)(hd:(nm==("__debug__":Str))=false)(Y:(nm==("__classdict__":Str))=false) :
  ∀ {t} {S:yL},mHd ck nm t S=true->t.ok F.xt=true->PSs (X.hnd a oe) S (tHd i a (λ R H=>R (vV (t.vD c)) H))
 | .ret _,S,h,ho=>ff h
 | .iff _ _ _,S,h,ho=>ff h
 | .sup _ g,S,h,ho=>cc6 G xc z J kx hcl Z hv hd Y (t:=g) h (ze ho).2
 | .aoN _ _,S,h,ho=>ff h
 | .iffN _ _,S,h,ho=>ff h
 | .nob _,S,h,ho=>ff h
 | .noe,S,h,ho=>ff h
def bN4 {F }(G:PE X e te)(hn:ax7 e=true)(hw:iO [.Name y F] e X.env=pure none):PS X (.Assign [.Name y F] e pos) (λ D W H=>te W H λ _ _=>False):=by
 intro z s W H D I h;exact ba6 G bv0 (am3 hn) hw rfl z s W H D I h
def bm7 (G:CG Γ F n X.nox ck)(XO:XOk Γ X.prog X.w X.K X.mg X.base F n)(hp:aj1 (CX1 X.prog X.w) X E){f:String}{es:yK}(hg:ck.gl (f:Str)=true)(m:mAs ck J (e::es)=true) :
  ∃ t,PE X (.Call (.Name (f) p) (e::es) [] pos) t/\∀ D W H Q,TXv Γ X.mg (pI F (.call f J)) E D W H->t W H Q:=by
 obtain⟨g1,g2,g3⟩:=G.gl hg;rcases XO f with hbad|⟨a,fd,ps,hF,Y,hk,hb⟩
 .refine⟨λ _ _ _=>False,λ _ _ _ _ _ _ z=>z.elim,λ D W H Q q=>?_⟩;obtain⟨C,U,s,c,s',Z,R,hm,q⟩:=q;change(match pz F J U s with|.ok l s1=>F.xcall f l s1|_=>none)=_ at hm;split at hm
  .rw[hbad]at hm;cases hm
  .cases hm
 .have hs:=aL3 m;have pa:=(sAs J _ X.nox ck G m).nox;refine⟨_,bg5 hF G.room g1 Y hk hb .nil hp pa g2 (zb (hs e (ax ..))) (zJ λ x hx=>hs x (ak _ hx)).1,λ D W H Q q=>?_⟩;obtain⟨C,U,s,c,s',Z,R,hm,q⟩:=q;change(match pz F J U s with|.ok l s1=>F.xcall f l s1|_=>none)=_ at hm;split at hm
  .rename_i l s1 e1;refine⟨C,U,s,l,s1,Z,R,e1,λ vs C1 H1 g1 l1 b1 r1 R1=>?_⟩;show spX Γ X.mg (F.xcall f) (vs++[]) H1 Q E;rw[bh];exact⟨C1,s1,l,c,s',R1,r1,b1,hm,q.trans g1 l1⟩
  .cases hm
theorem aM1 (G:CG Γ F n X.nox ck)(xc:XC F X.K X.mg)(XO:XOk Γ X.prog X.w X.K X.mg X.base F n)(hp:aj1 (CX1 X.prog X.w) X E):∀(b:rO) (S:yL),(noR b=true\/aU7 X E)->(noL b=true\/nX (model X.prog X.w) X.A X.env X.xe)->mX ck b S=true->PSs X S (TXv Γ X.mg (pI F b) E)
 | .no,S,_,_,h=>λ J s W H D I q=>by
  obtain⟨_,_,_,_,_,_,_,z,_⟩:=q;cases z
 | .kind,S,_,_,h=>λ J s W H D I q=>by
  obtain⟨_,_,_,_,_,_,_,z,_⟩:=q;cases z
 | .alt a b,S,hT,hL,h=>λ J s W H D I q=>by
  obtain⟨Z,Y⟩:=ze h;obtain⟨C,U,s0,c,s',Ev,R,z,q⟩:=q;have z:(match pI F a U s0 with|some r=>some r|none=>pI F b U s0)=some (c,s'):=z;cases e:pI F a U s0 with
  | some r =>
   rw[e]at z;exact aM1 G xc XO hp a S (hT.imp_left λ z=>(ze z).1) (hL.imp_left λ z=>(ze z).1) Z J s W H D I ⟨C,U,s0,c,s',Ev,R,e.trans z,q⟩
  | none =>
   rw[e]at z;exact aM1 G xc XO hp b S (hT.imp_left λ z=>(ze z).2) (hL.imp_left λ z=>(ze z).2) Y J s W H D I ⟨C,U,s0,c,s',Ev,R,z,q⟩
 | .rais c,S,hT,_,h=>by
  have hT:aU7 X E:=hT.elim (λ z=>by cases z) id;cases hx:F.xc c with
  | false =>
   intro J s W H D I q;obtain⟨_,_,s,_,_,_,_,z,_⟩:=q;change(if F.xc c=true then some (c,s)else none)=_ at z;rw[hx]at z;cases z
  | true =>
   cases S with
   | nil=>exact ff h
   | cons st S=>cases st with
    | Raise v k p=>cases v with
     | none=>exact ff h
     | some v=>cases v with
      | Call g xs kw pc=>cases g with
       | Name x pn=>cases xs with
        | nil=>exact ff h
        | cons y xs=>cases y with
         | Constant cv j py=>cases cv with
          | str t=>cases xs with
           | cons _ _=>exact ff h
           | nil=>cases kw with
            | cons _ _=>exact ff h
            | nil=>cases k with
             | some _=>exact ff h
             | none =>
              obtain⟨Z,Y⟩:=ze h;have e:=of_decide_eq_true Z;subst e;obtain⟨g1,g2,g3⟩:=G.gl Y;obtain⟨Cc,hC,hE,_⟩:=xc.at_ c hx;refine(zA (bo5 hT hE g1 hC G.room.hd g2) qU).imp λ D W H q a=>?_;obtain⟨C,U,s,c',s',Ev,R,hm,q⟩:=q;change(if F.xc c=true then some (c,s)else none)=_ at hm;rw[hx,if_pos rfl]at hm;cases hm;exact q C H a Cc (Gr.refl C s H) (au _) R hC
          | _=>exact ff h
         | _=>exact ff h
       | _=>exact ff h
      | _=>exact ff h
    | _=>exact ff h
 | .call f as,S,_,_,h=>by
  cases S with
  | nil=>exact ff h
  | cons st S=>cases st with
   | Return v p=>cases v with
    | none=>exact ff h
    | some v=>cases v with
     | Call g xs kw pc=>cases g with
      | Name x pn=>cases xs with
       | nil=>exact ff h
       | cons y xs=>cases kw with
        | cons _ _=>exact ff h
        | nil =>
         obtain⟨h,h3⟩:=ze h;obtain⟨Z,Y⟩:=ze h;have e:=of_decide_eq_true Z;subst e;obtain⟨t,ht,hq⟩:=bm7 G XO hp Y h3;exact(zA (ar0 ht) qU).imp λ D W H q=>hq D W H _ q
      | _=>exact ff h
     | _=>exact ff h
   | Assign ts v p=>cases ts with
    | nil=>exact ff h
    | cons t0 ts=>cases t0 with
     | Name y py=>cases ts with
      | cons _ _=>exact ff h
      | nil=>cases v with
       | Call g xs kw pc=>cases g with
        | Name x pn=>cases xs with
         | nil=>exact ff h
         | cons y xs=>cases kw with
          | cons _ _=>exact ff h
          | nil =>
           obtain⟨h,h3⟩:=ze h;obtain⟨Z,Y⟩:=ze h;have e:=of_decide_eq_true Z;subst e;obtain⟨t,ht,hq⟩:=bm7 G XO hp Y h3;exact(zA (bN4 ht rfl rfl) qU).imp λ D W H q=>hq D W H _ q
        | _=>exact ff h
       | _=>exact ff h
     | _=>exact ff h
   | Expr v p=>cases v with
    | Call g xs kw pc=>cases g with
     | Name x pn=>cases xs with
      | nil=>exact ff h
      | cons y xs=>cases kw with
       | cons _ _=>exact ff h
       | nil =>
        obtain⟨h,h3⟩:=ze h;obtain⟨Z,Y⟩:=ze h;have e:=of_decide_eq_true Z;subst e;obtain⟨t,ht,hq⟩:=bm7 G XO hp Y h3;exact(zA (aM4 ht (am3 rfl)) qU).imp λ D W H q=>hq D W H _ q
     | _=>exact ff h
    | _=>exact ff h
   | _=>exact ff h
 | .iteT c a r,S,hT,hL,h=>by
  cases S with
  | nil=>exact ff h
  | cons st S=>cases st with
   | If t l o p=>cases o with
    | cons _ _=>exact ff h
    | nil =>
     obtain⟨h,h3⟩:=ze h;obtain⟨Z,Y⟩:=ze h;have a0:noR a=true\/aU7 X E:=hT.elim (λ z=>.inl (ze z).1) .inr;have a2:noR r=true\/aU7 X E:=hT.elim (λ z=>.inl (ze z).2) .inr;have a4:noL a=true\/_:=hL.elim (λ z=>.inl (ze z).1) .inr;have a3:noL r=true\/_:=hL.elim (λ z=>.inl (ze z).2) .inr;refine(zA (bp4 (sE c _ X.nox ck G Z).2.nox (aM1 G xc XO hp a _ a0 a4 Y) aA7) (aM1 G xc XO hp r _ a2 a3 h3)).imp λ D W H q=>?_;obtain⟨C,U,s,c',s',Ev,R,hm,q⟩:=q;change(match oG F c U s with|.ok (.T b) s1=>if b then pI F a U s1 else pI F r U s1|_=>none)=_ at hm;split at hm
     .rename_i b s1 e1;refine⟨C,U,s,b,s1,Ev,R,e1,λ C1 H1 g1 l1 R1=>?_⟩;cases b with
      | true=>exact⟨C1,U,s1,c',s',Ev.mono g1 l1,R1,hm,q.trans g1 l1⟩
      | false=>exact⟨C1,U,s1,c',s',Ev.mono g1 l1,R1,hm,q.trans g1 l1⟩
     .cases hm
   | _=>exact ff h
 | .iteE _ _ _,S,_,_,h=>ff h
 | .seq st b,S,hT,hL,h=>by
  cases S with
  | nil=>exact ff h
  | cons x S =>
   obtain⟨Z,Y⟩:=ze h;refine(zA (sS st _ X.nox ck G Z).nox (aM1 G xc XO hp b _ hT hL Y)).imp λ D W H q=>?_;obtain⟨C,U,s,c',s',Ev,R,hm,q⟩:=q;change(match DV.ex F st U s with|.ok (.next U1) s1=>pI F b U1 s1|_=>none)=_ at hm;split at hm
   .rename_i U1 s1 e1;exact⟨C,U,s,.next U1,s1,Ev,R,e1,λ C1 H1 g1 l1 R1 W1 a1=>⟨C1,U1,s1,c',s',a1,R1,hm,q.trans g1 l1⟩⟩
   .cases hm
 | .forX _ _ _ _,S,_,_,h=>ff h
 | .whlX _ _ _,S,_,_,h=>ff h
def bJ2 (hx:X.xe=λ _ _=>False)(h:PSs X tb t):PS X (.Try tb (h₀::hs) [] [] p) t:=by
 intro F s W H D I q;refine mJ (bw (h F s W H D I q) (λ f s1 z=>?_) (λ e s1 z=>?_))
 .cases f with
  | next=>exact eK z
  | _=>exact z
 .rw[hx]at z;exact z.elim
def EH (Cc:Addr)(v:VK->Hp->Prop)(D:Ends):XK:=λ _ o H'=>o=some Cc/\∀ H'',af0 H' H''->v D.rt H''
def bG1 {Y:yL}(a3:X.ex=[])(a5:X.stack=X.env::X.outer)(a4:X.env.frame=some X.env.locals)
  (hc:bW X.K (.ref Cc) (.ref D')=some true) (hg:Gl X x) (hm:X.mg x=some (.ref D')) (hd:(x==("__debug__":Str))=false) (hN:X.N.Nodup) (hi:X.N[i]?=some nm) (hl:X.env.scope.names.lookup nm=some .local)
  (a2:∀(pn:yA) (Ww:Value->ag->Prop) (E:XK),aj1 (CX1 X.prog X.w) { X with pn:=pn,xe:=Ww } E->PSs { X with pn:=pn,xe:=Ww } tb (TXv Γ X.mg m E)) (a7:∀ a oe,oe.cls=.ref Cc->PSs (X.hnd a oe) (b₀::Y) (tHd i a b)) :
  PS X (.Try tb (.ExceptHandler (some (.Name x np)) (some nm) (b₀::Y) a1::hs) [] [] p) (λ D W H=>TXv Γ X.mg m (EH Cc b D) D W H):=by
 intro F s W H D I q
 let Ww:Value->ag->Prop:=λ e s₁=>wpAny (model X.prog X.w) X.A (mq e X.env) (λ _ s₂=>wpAny (model X.prog X.w) X.A (mH e none) (λ _ s₃=>wpAny (model X.prog X.w) X.A (handleBy e X.env (.ExceptHandler (some (.Name x np)) (some nm) (b₀::Y) a1::hs)) (SP X F D) X.xe s₃) X.xe s₂) X.xe s₁
 have a8:({ X with pn:=X.pn++F,xe:=Ww }:Cx).Ok:=⟨I.ok.mod,I.ok.kind,I.ok.glob,I.ok.blt,I.ok.above,I.ok.inj,I.ok.has,I.ok.cab,I.ok.hd,I.ok.frames,I.ok.stk,I.ok.exf,I.ok.bs,I.ok.bsz,I.ok.noex,I.ok.exfs,I.ok.funs,I.ok.frf⟩
 have I':Inv { X with pn:=X.pn++F,xe:=Ww } [] W H s:=⟨a8,I.os,I.bare,I.base,I.loc,I.cell,I.free,I.freeC,λ p hp=>I.pin p (by rw[bh]at hp;exact hp),I.hok,I.len⟩
 have G:∀ {Z:yA} {W':St} {H':Hp} {s':ag},Inv { X with pn:=X.pn++F,xe:=Ww } Z W' H' s'->Inv X F W' H' s':=λ J=>⟨I.ok,J.os,J.bare,J.base,J.loc,J.cell,J.free,J.freeC,λ p hp=>J.pin p (aY _ hp),J.hok,J.len⟩
 have hp:aj1 (CX1 X.prog X.w) { X with pn:=X.pn++F,xe:=Ww } (EH Cc b D):=λ Z W' H' s' e a9 J h=>by
  obtain⟨a,Cc',b0,rfl,T,eC,hq⟩:=CX1.tr J a3 h;cases eC;obtain⟨a0,oe,vs,T0,oT,ts,h1,h2,h3,h4,h5,h6,a6,h7⟩:=T.tr;have hn:i < W'.length:=by rw[J.len];exact(ae.mp hi).1
  exact aV1 ⟨G T.inv,T.n0,T.nH,λ p hp=>T.np p (aY _ hp),a0,oe,vs,T0,oT,ts,h1,h2,h3,h4,h5,h6,λ p hp=>a6 p (aY _ hp),h7⟩ a3 a5 a4 hc hg hm hd hN hi hl (a7 a) ⟨by rw[bj hn],hq⟩
 refine mJ (bw (a2 _ Ww _ hp [] s W H D I' q) (λ f s1 z=>?_) (λ e s1 z=>z));cases f with
 | next=>obtain⟨W1,H1,J,z⟩:=z;exact eK ⟨W1,H1,G J,z⟩
 | brk=>obtain⟨W1,H1,J,z⟩:=z;exact⟨W1,H1,G J,z⟩
 | cont=>obtain⟨W1,H1,J,z⟩:=z;exact⟨W1,H1,G J,z⟩
 | ret u=>obtain⟨v,W1,H1,J,r,z⟩:=z;exact⟨v,W1,H1,G J,r,z⟩
end
section
variable {X:Cx} {a:Addr} {oe:Obj}
def br6 {st:Stmt}{t0:Hp->VK->Prop}(F:Fun X.K nm nm st f fd)(S:FnScope N [p] (defScope st))(hb:Binds X.K fd [p] [])(hr:Room (k+1) X.A)(hg:Gl X nm)(hm:X.mg nm=some (.ref f))
  (a2:(nm==("__debug__":Str))=false) (ha:PE (X.hnd a oe) (.Name x px) (be3 i))
  (a0:∀(G:Value),fd.code=G->∀(s:ag) (H:Hp) (Q:VK),Room k (X.A.deeper (gR nm (defScope st) s.heap.objs.size f G))->t0 H Q ->
   ∃ t,PSs ((ao0 CX0 X.prog X.w X.K X.mg X.base N nm (defScope st) f G X.A X.stack s H (λ _ _ _=>False)).hnd a oe) (zB st) t/\t { nx:=λ _ H'=>Q .N H',rt:=Q } (ag9 N [.ref a]) H) :
  PE (X.hnd a oe) (.Call (.Name nm pn) [.Name x px] [] pos) (λ W H Q=>W[i]?=some (some (.ref a))/\t0 H Q):=by
 obtain⟨oc,od,kV,a6,pm,an,G,ct,a5,rfl,lk,a4⟩:=F.ex;intro a1 s W H Q I h;have pa:PA (X.hnd a oe) [.Name x px] (aj4 (be3 i) aW4):=zp ha ad2;refine cW (ay8 (X:=X.hnd a oe) I hg hm ?_ a2);refine li (h₀:=X.base) I.ok.mod.kin F.kp (thn (pa pos a1 s W H (λ vs Y=>vs=[.ref a]/\t0 Y Q) I ⟨.ref a,h.1,rfl,h.2⟩) λ us s1 ⟨vs,Y,I1,r,q0,q⟩=>⟨I1.kIn,?_⟩) rfl rfl;subst q0;obtain⟨u,rfl,ru⟩:=r.one;cases(show u=Value.ref a from ru);have e1:=I1.env0;have e0:Env0 X.prog X.w X.K X.mg X.base X.A X.stack s1 Y:=⟨e1.frames,e1.mod,e1.bs,e1.bsz,e1.funs,e1.frf,e1.hok,e1.bare⟩
 obtain⟨p1,p2,p3,p4,p5⟩:=I1.pin (a,oe) (ax ..);refine lh (jw (R:=CR CX0 X.stack X.prog X.w Y s1 Q (λ _ _ _=>False)) ?_ λ r s' hq=>?_)
 .have KX:X.K.In s1.heap:=I1.kIn;have a3:s1.heap.NoLimit:=I1.nolimit;have Z:∀ y∈[p].zip [Value.ref a],(defScope st).names.lookup y.1=some .local\/((defScope st).names.lookup y.1=some .cell/\((bO (s1.heap.objs.size+1) (defScope st).names []).lookup y.1).isSome=true):=λ⟨n,v⟩ hy=>by
   rcases S.par n (gQ hy).1 with q|q
   .exact .inl q
   .exact .inr ⟨q,fL _ _ _ (.inl q)⟩
  refine jR (show(X.A.mark (some (.ref a))).depth<_ from hr.depth) (KX _ _ lk) rfl S.co S.gen rfl (lj KX a4) (hb s1 [.ref a] KX rfl _ _ _ _ ?_);refine ii S.kind Z λ env he s2 x=>?_;subst he;refine⟨a3.keeps x.toInCall.keep,codeAny_func ?_⟩;obtain⟨t,ht,hq⟩:=a0 G rfl s1 Y Q (hr.deeper _) q;have J:Inv (ao0 CX0 X.prog X.w X.K X.mg X.base N nm (defScope st) f G X.A X.stack s1 Y (λ _ _ _=>False)) [] (ag9 N [.ref a]) Y s2:=aD6 S hr.hd e0 rfl (.cons rfl .nil) x;have J2:Inv ((ao0 CX0 X.prog X.w X.K X.mg X.base N nm (defScope st) f G X.A X.stack s1 Y (λ _ _ _=>False)).hnd a oe) [] (ag9 N [.ref a]) Y s2 :=
   ⟨J.ok.hnd a oe,J.os,J.bare,J.base,J.loc,J.cell,J.free,J.freeC,λ y hy=>by
    rcases az.mp hy with z|z
    .subst z;refine⟨x.toInCall.keep _ _ p1,p2,aK (aJ p1),λ z=>?_,p5⟩;rcases az.mp (I1.stkSub a z)with q|q
     .exact p3 q
     .exact p4 q
    .exact J.pin y z,J.hok,J.len⟩
  refine bw (ht [] s2 (ag9 N [.ref a]) Y _ J2 hq) (λ fl s' hs=>?_) λ e s' hs=>hs.elim;have fin:∀ {W':St} {H':Hp} {v:V} {u:Value},Inv ((ao0 CX0 X.prog X.w X.K X.mg X.base N nm (defScope st) f G X.A X.stack s1 Y (λ _ _ _=>False)).hnd a oe) [] W' H' s'->RelV v u->Q v H'->CE X.stack X.prog X.w Y s1 Q u s' :=
   λ {W' H' v u} J rv q=>⟨v,H',J.os,J.bare,J.base,J.hok,rv,q⟩
  cases fl with
  | ret u =>
   obtain⟨v,W',H',J,rv,q⟩:=hs;exact fin J rv q
  | next =>
   obtain⟨W',H',J,q⟩:=hs;exact fin (v:=V.N) (u:=Value.none) J rfl q
  | brk =>
   obtain⟨_,_,_,q⟩:=hs;exact bD q
  | cont =>
   obtain⟨_,_,_,q⟩:=hs;exact bD q
 .cases r with
  | error e=>exact hq.elim
  | ok fl =>
   cases fl with
   | ret u=>exact I1.after hq
   | next=>exact bD hq
   | brk=>exact bD hq
   | cont=>exact bD hq
noncomputable def isT:Value->Bool
 | .bool b=>b
 | _=>false
theorem aC1:∀ {bs:List Bool} {us:yG},Vals (bs.map V.T) us->us=bs.map Value.bool
 | [],_,.nil=>rfl
 | b::bs,_,.cons r t=>by
  have e:=aC1 t;subst e;cases(r);rfl
def bz5 {s}{bs:List Bool}:∀ y,y∈(bs.map Value.bool).toArray->iu A s y (.bool true) (isT y):=λ y hy=>by
 obtain⟨b,_,rfl⟩:=ay.mp (List.mem_toArray.mp hy);have:=ku (A:=A) (s:=s) b true;have e:(b==true)=isT (.bool b):=by cases b<;>rfl
 rwa [e]at this
def be2:MtR X "list.count" (λ x vs H Q=>∃(l:Addr) (bs:List Bool),x=.ref l/\vs=[.T true]/\H l=some (.J (bs.map V.T))/\Q (.int (bs.countP id)) H):=by
 intro G s W H x vs v us Q I Z Y h;obtain⟨l,bs,rfl,rfl,J,q⟩:=h;cases Z;obtain⟨u,rfl,ru⟩:=Y.one;cases(ru);obtain⟨z,its,n,r,hl,e⟩:=I.lstM J;have ei:=aC1 r;subst ei;refine gd kA ⟨_,e,rfl⟩ F.entry_list_count (F.args_list_count_2 _ _) (SeqAt.list_countAt l _ n none #[] (.bool true) isT) ⟨e,bz5,?_⟩;have ec:(bs.map Value.bool).toArray.toList.countP isT=bs.countP id:=by
  rw[List.toList_toArray,List.countP_map];rfl
 rw[ec];exact⟨.int (bs.countP id),H,I.tok _,⟨_,rfl⟩,q⟩
def bc4:MtR X "list.index" (λ x vs H Q=>∃(l:Addr) (bs:List Bool) (j:Nat),x=.ref l/\vs=[.T true]/\H l=some (.J (bs.map V.T))/\bs[j]?=some true/\(∀ i:Nat,i<j->bs[i]?=some false)/\Q (.int (j)) H):=by
 intro G s W H x vs v us Q I rx Z h;obtain⟨l,bs,j,rfl,rfl,Y,J,h2,q⟩:=h;cases rx;obtain⟨u,rfl,ru⟩:=Z.one;cases(ru);obtain⟨z,its,n,r,hl,e⟩:=I.lstM Y;have ei:=aC1 r;subst ei;have hj:=(ae.mp J).1;have hz:=by rw[aq]at z;exact z
 rw[dL]at hz;refine gd kB ⟨_,e,rfl⟩ F.entry_list_index (F.args_list_index_2 _ _) (SeqAt.list_indexAt l _ n none #[] (.bool true) isT j (by simp;omega) (by lia) ?_ ?_) ⟨e,bz5,?_⟩
 .have:=(ae.mp J).2;simp[isT,this]
 .intro m hm hlt;have a0:=by simpa using hm
  have:=(ae.mp (h2 m hlt)).2;simp[isT,this]
 .exact⟨.int (j),H,I.tok _,⟨_,rfl⟩,q⟩
end
section
variable {F:oQ} {X:Cx} {ck:Ck} {a Cc:Addr} {oe:Obj}
def aP2 (h:mHT ck nm (.Y c) E=true):shp E=true:=by
 cases E<;>first|rfl|exact ff h
def cz0 (h:shp e=true):((eZ cp (bB [e] env)).all (λ x=>!x.1)&&(lO cp (iB [] env)).all (λ x=>x.1.isSome)&&decide ([e].length+([]:List gB).length+(if([]:List gB).isEmpty then 0 else 1)<30))=true:=by
 cases e<;>first|rfl|cases h
theorem bB1 (G:CH X ck)(xc:XC F X.K X.mg)(z:F.xc c=true)(J:X.mg (c:Str)=some (.ref Cc))(kx:dn X.K (.ref a) (.ref Cc) (λ h=>XAt h a Cc))(hcl:oe.cls=.ref Cc){i:Nat}(hi:ck.N[i]?=some nm)(hv:Vis X.env.scope nm)(hd:(nm==("__debug__":Str))=false)(Y:(nm==("__classdict__":Str))=false) :
  ∀ {Z} {es:yK},cf1 ck nm Z es=true->Z.all F.xt=true->PA (X.hnd a oe) es (λ W H Q=>W[i]?=some (some (.ref a))/\∀ H',af0 H H'->Q ((Z.map (oM c)).map V.T) H')
 | [],[],_,_=>ad2.imp λ W H Q q=>q.2 H (af0.refl _)
 | [],_::_,h,_=>ff h
 | _::_,[],h,_=>ff h
 | d::Z,e::es,h,ho=>by
  obtain⟨h1,h2⟩:=ze h;rw[cz,aj]at ho;have q1:=(bN6 G xc z J kx hcl hi hv hd Y h1 ho.1).1;have q2:=bB1 G xc z J kx hcl hi hv hd Y h2 ho.2;refine(zp q1 q2 (zb (aP2 h1))).imp λ W H Q q=>⟨q.1,λ H1 s1=>⟨q.1,λ H2 s2=>q.2 H2 (s1.trans s2)⟩⟩
theorem bf5:∀ {ts} {es:yK},bO9 ts es=true->PA X es (λ W H Q=>Q (ts.map λ t=>V.str ⟨t.toArray⟩) H)
 | [],[],_=>ad2.imp λ W H Q q=>q
 | [],_::_,h=>ff h
 | _::_,[],h=>ff h
 | t::ts,e::es,h=>by
  cases e with
  | Constant k j p=>cases k with
   | str y =>
    obtain⟨F,z⟩:=ze h;have e:=of_decide_eq_true F;subst e;exact(zp aD7 (bf5 z) rfl).imp λ W H Q q=>q
   | _=>exact ff h
  | _=>exact ff h
def ch3 (h:KindS ck S):mX ck .kind S=true:=@decide_eq_true _ (di _) h
def bN5 (hl:bs.length=9)(h:bs.countP id=1):∃ j,j<9/\bs[j]?=some true/\(∀ i:Nat,i<j->bs[i]?=some false)/\rD[j]?=some (rE bs):=by
 have hx:=by
  have:0<bs.countP id:=by lia
  exact List.countP_pos_iff.mp this
 have hj:=List.findIdx_lt_length_of_exists hx;have J:DV.ag7.length=9:=rfl;refine⟨bs.findIdx id,by lia,?_,λ i F=>?_,?_⟩
 .rw[ai hj];have:=List.findIdx_getElem (w:=hj);exact congrArg some this
 .have G:i<bs.length:=by lia
  rw[ai G];have:=List.not_of_lt_findIdx F;simpa using this
 .unfold rE;rw[if_pos h];have z:bs.findIdx id<DV.ag7.length:=by lia
  rw[ai z,aO,ai z];rfl
def bJ7 (G:CH X ck)(xc:XC F X.K X.mg)(b1:F.xc c=true)(b0:X.mg (c:Str)=some (.ref Cc))(kx:dn X.K (.ref a) (.ref Cc) (λ h=>XAt h a Cc))(hcl:oe.cls=.ref Cc)(nd:X.N.Nodup)(a7:X.env.scope=ck.sc)(hx:DV.ac9.all F.xt=true)
  (h:KindS ck S):PSs (X.hnd a oe) S (λ D W H=>W=[some (.ref a),none]/\∀ H',af0 H H'->D.rt (.str ⟨(oV c).toArray⟩) H'):=by
 obtain⟨nm,ks,e1,e4,y1,y5,m4,m5,m6,h0,f1,g2,j1,j5,i5,k5,j6,p1,q1,r1,a2,b2,c2,a3,b3,c3,d3,f3,a4,f5,h1,p4,a5,e6,h2,g1,f0,g5,h7,q5,p5,g0,a6,g3,f4,g4,f2,p6,rfl,eN,hh⟩:=h;unfold kndB at hh;obtain⟨l1,hh⟩:=ze hh;obtain⟨Z,hh⟩:=ze hh;obtain⟨d1,hh⟩:=ze hh;obtain⟨d2,hh⟩:=ze hh;obtain⟨b6,hh⟩:=ze hh;obtain⟨d4,hh⟩:=ze hh;obtain⟨c4,hh⟩:=ze hh;obtain⟨z1,hh⟩:=ze hh;obtain⟨z5,hh⟩:=ze hh;obtain⟨z2,hh⟩:=ze hh;obtain⟨z3,hh⟩:=ze hh;obtain⟨z4,hh⟩:=ze hh;obtain⟨e0,hh⟩:=ze hh;obtain⟨c0,hh⟩:=ze hh;obtain⟨b5,hh⟩:=ze hh;obtain⟨d0,hh⟩:=ze hh;obtain⟨e5,hh⟩:=ze hh;obtain⟨Y,c1⟩:=ze hh;have z:=of_decide_eq_true z1;subst z;have z:=of_decide_eq_true z5;subst z;have z:=of_decide_eq_true z2;subst z;have z:=of_decide_eq_true z3;subst z;have z:=of_decide_eq_true z4;subst z;have l1:X.env.scope.names.lookup nm=some .local:=by rw[a7];exact eq_of_beq l1
 have Z:X.env.scope.names.lookup ks=some .local:=by rw[a7];exact eq_of_beq Z
 have d1:(nm==("__debug__":Str))=false:=by simpa using d1
 have d2:(nm==("__classdict__":Str))=false:=by simpa using d2
 have d3:(ks==("__debug__":Str))=false:=by simpa using b6
 have d4:(ks==("__classdict__":Str))=false:=by simpa using d4
 have b4:ck.N[0]?=some nm:=by rw[eN];rfl
 have a0:(X.hnd a oe).N[1]?=some ks:=by show X.N[1]?=_;rw[G.N,eN];rfl
 have hT:=λ {t:DV.HT} {E:Expr} (m:mHT ck nm t E=true) (o:t.ok F.xt=true)=>bN6 (a:=a) (oe:=oe) G xc b1 b0 kx hcl b4 (.inl l1) d1 d2 m o;have a9:=λ {cs:List String} {es:yK} (m:cf1 ck nm cs es=true) (o:cs.all F.xt=true)=>bB1 (a:=a) (oe:=oe) G xc b1 b0 kx hcl b4 (.inl l1) d1 d2 m o;have vk:∀ {p:Pos},PE (X.hnd a oe) (.Name ks p) (be3 1):=am8 a0 (.inl Z) d3 d4;have x4:(DV.ac9.take 4).all F.xt=true:=aU.mpr λ y hy=>aU.mp hx y (gL hy);have x5:((DV.ac9.drop 4).take 4).all F.xt=true:=aU.mpr λ y hy=>aU.mp hx y (kz (gL hy));have x9:(DV.HT.Y "NoName").ok F.xt=true:=aU.mp hx "NoName" (by decide);refine(zA (bp4 (hT c4 rfl).2 (at8 (ar0 aD7)) aA7) (zA (aT9 nd a0 (.inl Z) (ax3 (a9 d0 x4)) rfl (.inr Z)) (zA (aT9 nd a0 (.inl Z) (bR8 bC5 vk (ax3 (a9 e5 x5))) rfl (.inr Z)) (zA (aM4 (bu4 cJ fO iW aq3 vk (zp (hT Y x9).1 ad2 (zb (aP2 Y))) rfl (cz0 (aP2 Y)) e0 (zb (aP2 Y)) rfl) rfl) (zA (bp4 (be8 cn7 (bu4 cJ kA PySem.F.type_list_count be2 vk (zp bK3 ad2) rfl rfl c0) bb9 rfl) (at8 (ar0 aD7)) aA7)
  (at8 (ar0 (cc5 aZ3 (ax3 (bf5 c1)) (bu4 cJ kB PySem.F.type_list_index bc4 vk (zp bK3 ad2) rfl rfl b5) (aw8 rfl))))))))).imp λ D W H q=>?_
 obtain⟨rfl,q⟩:=q;have J:∀ {k:Nat},k<=1000->k<=aV:=λ h=>g9 (at1 h);refine⟨rfl,λ H1 s1=>?_⟩;show(if(!true)=true then _ else _);rw[if_neg (by decide)];refine⟨rfl,λ H2 s2=>⟨J (by show 4<=1000;decide),λ p hp=>?_⟩⟩;refine⟨.ref p,rfl,rfl,λ H3 s3=>⟨J (by show 4<=1000;decide),λ p' a8=>?_⟩⟩;have h3:H3 p=some (.J (((DV.ac9.take 4).map (oM c)).map V.T)):=s3 _ _ (by rw[zg]);have n1:p≠p':=zf h3 a8;refine⟨p,p',_,_,rfl,rfl,by rw[zc n1];exact h3,zg,J (by show 8<=1000;decide),λ r hr=>?_⟩;refine⟨.ref r,rfl,.inl ⟨rfl,_,SqL.of zg⟩,rfl,λ H4 s4=>?_⟩;have h4:=s4 _ _ zg;refine⟨r,_,_,rfl,rfl,h4,at1 (by show 8<=1000;decide),?_⟩;have h5:(upd H4 r (.J ((((DV.ac9.take 4).map (oM c)).map V.T++(((DV.ac9.drop 4).take 4).map (oM c)).map V.T)++[.T ((DV.HT.Y "NoName").val c)]))) r=some (.J ((DV.ac9.map (oM c)).map V.T)):=by
  rw[zg];rfl
 have s5:af0 H (upd H4 r (.J ((((DV.ac9.take 4).map (oM c)).map V.T++(((DV.ac9.drop 4).take 4).map (oM c)).map V.T)++[.T ((DV.HT.Y "NoName").val c)]))):=λ b o e=>by
  have e1:=s1 b o e;have e2:=s2 b o e1;have e3:=s3 b o (by rw[zc (zf e2 hp)];exact e2);have a1:(upd H3 p' (.J ((((DV.ac9.drop 4).take 4).map (oM c)).map V.T))) b=some o:=by rw[zc (zf e3 a8)];exact e3
  have e4:=s4 b o (by rw[zc (zf a1 hr)];exact a1);have n:b≠r:=zf a1 hr;rw[zc n];exact e4
 generalize hU:upd H4 r (.J ((((DV.ac9.take 4).map (oM c)).map V.T++(((DV.ac9.drop 4).take 4).map (oM c)).map V.T)++[.T ((DV.HT.Y "NoName").val c)]))=Uu at h5 s5;refine⟨.ref r,rfl,.inl ⟨rfl,_,SqL.of h5⟩,r,DV.ac9.map (oM c),rfl,rfl,h5,rfl,_,rfl,?_⟩;have key:(!decide (V.int ((DV.ac9.map (oM c)).countP id:Nat)=V.int 1))=!decide ((DV.ac9.map (oM c)).countP id=1):=by
  congr 1
  rw[bj4];rw[cD,beq_iff_eq,decide_eq_true_eq];lia
 rw[key];by_cases hc:(DV.ac9.map (oM c)).countP id=1
 .rw[decide_eq_true hc];show(if(!true)=true then _ else _);rw[if_neg (by decide)];obtain⟨j,j1,j2,j3,j4⟩:=bN5 (bs:=DV.ac9.map (oM c)) rfl hc;refine⟨J (by show 9<=1000;decide),λ t ht=>?_⟩;have h6:(upd Uu t (.J (DV.ag7.map λ t=>V.str ⟨t.toArray⟩))) r=some (.J ((DV.ac9.map (oM c)).map V.T)):=by rw[zc (zf h5 ht)];exact h5
  refine⟨.ref r,rfl,.inl ⟨rfl,_,SqL.of h6⟩,r,_,j,rfl,rfl,h6,j2,j3,t,DV.ag7.map (λ t=>V.str ⟨t.toArray⟩),(j:Int),V.str ⟨(oV c).toArray⟩,rfl,rfl,SqL.of zg,?_,q _ (λ b o e=>?_)⟩
  .unfold atI;have e1:ixN (DV.ag7.map λ t=>V.str ⟨t.toArray⟩).length (j:Int)=some j:=by
    unfold ixN;rw[if_pos (by lia),if_pos (by rw[aq,show DV.ag7.length=9 from rfl];lia)];simp
   rw[e1];show(DV.ag7.map λ t=>V.str ⟨t.toArray⟩)[j]?=_;rw[aQ,j4];rfl
  .have e1:=s5 b o e;rw[zc (zf e1 ht)];exact e1
 .rw[decide_eq_false hc];show(if(!false)=true then _ else _);rw[if_pos (by decide)];have e1:oV c=DV.ap3:=by unfold oV rE;rw[if_neg hc]
  have q':=q Uu s5;rw[e1]at q';exact q'
end
section
variable {Γ:Gm}
def aM8 (R:Rp Γ C H s)(g:Gr C s H C1 s1 F)(ho:rP s s1=true)(z:i<s.length)(e:s1[i]?=some o):o.bnd s.length=true:=by
 unfold rP at ho;have:=aU.mp ho i (bR.mpr z);rw[e,cH]at this;rcases this with h|h
 .exact R.wf i o (of_decide_eq_true h).symm
 .exact h
def qG {s1:oC}(e:(s1.take k)[i]?=some o):i<k/\s1[i]?=some o:=by
 rw[lz]at e;split at e
 .exact⟨‹_›,e⟩
 .cases e
def aU8 (R:Rp Γ C H s)(g:Gr C s H C1 s1 F)(R1:Rp Γ C1 F s1)(ho:rP s s1=true):Gr C s H C1 (s1.take s.length) F/\Rp Γ C1 F (s1.take s.length):=by
 have hl:(s1.take s.length).length=s.length:=by rw[bP];have:=g.le;lia
 refine⟨⟨g.w,by rw[hl];exact au _,λ i Y J=>by rw[hl]at J;lia,λ i o G e e'=>g.kd i o G e (qG e').2,g.st,g.fr⟩,λ i j o G e e' m m' z=>R1.inj i j o G (qG e).2 (qG e').2 m m' z,λ i o e=>R1.obj i o (qG e).2,λ i o e=>?_,R1.tab⟩;rw[hl];exact aM8 R g ho (qG e).1 (qG e).2
def qy (R:Rp Γ C H s)(g:Gr C s H C1 s1 G)(R1:Rp Γ C1 G s1)(hb:v0.bnd s1.length=true)(r:RV Γ C1 G v0 v)(h:pS s v0 s1=.ok d s') :
  ∃ C',Gr C s H C' s' G/\s.length<=s'.length/\d.bnd s'.length=true/\RV Γ C' G d v/\Rp Γ C' G s':=by
 have all:d=v0->s'=s1->∃ C',Gr C s H C' s' G/\s.length<=s'.length/\d.bnd s'.length=true/\RV Γ C' G d v/\Rp Γ C' G s':=λ e1 e2=>by
  subst e1;subst e2;exact⟨C1,g,g.le,hb,r,R1⟩
 unfold pS at h;split at h
 case isFalse=>cases h;exact all rfl rfl
 rename_i ho;obtain⟨gt,Rt⟩:=aU8 R g R1 ho;have hl:(s1.take s.length).length=s.length:=by rw[bP];have:=g.le;omega
 have tk:d=v0->s'=s1.take s.length->v0.bnd s.length=true->∃ C',Gr C s H C' s' G/\s.length<=s'.length/\d.bnd s'.length=true/\RV Γ C' G d v/\Rp Γ C' G s':=λ e1 e2 b=>by
  subst e1;subst e2;exact⟨C1,gt,by rw[hl];exact au _,by rw[hl];exact b,r,Rt⟩
 split at h
 .rename_i k;split at h
  .cases h;exact tk rfl rfl (by unfold oI;exact decide_eq_true ‹_›)
  .rename_i hk;split at h
   .rename_i o Z;split at h
    .rename_i Y;cases h;have gw:Gw C1 s.length G (λ i=>if i=s.length then C1 k else C1 i) G:=⟨λ i z=>if_neg (aK z),Kp.refl _⟩
     have key:∀ i J ,(s1.take s.length++[o])[i]?=some J->(i<s.length/\s1[i]?=some J)\/(i=s.length/\J=o):=λ i J e=>by
      rcases fT i s.length with h|h|h
      .rw[aS (by rw[hl];exact h)]at e;exact .inl (qG e)
      .subst h;rw[aN (by rw[hl];exact au _),hl,eF]at e;exact .inr ⟨rfl,(aC e).symm⟩
      .rw[cV (by rw[aA,hl];simp;lia)]at e;cases e
     have F:(s1.take s.length++[o]).length=s.length+1:=by rw[aA,hl];rfl
     refine⟨λ i=>if i=s.length then C1 k else C1 i,⟨⟨λ i z=>?_,g.w.kp⟩,by rw[F];lia,λ i h1 h2=>?_,λ i oo J e e'=>?_,g.st,g.fr⟩,by rw[F];omega,by unfold oI;rw[F];exact decide_eq_true (gi _),?_,⟨λ i j oi oj a1 a0 mi mj e=>?_,λ i J e=>?_,λ i J e=>?_,R1.tab⟩⟩
     .skip
      rw[if_neg (aK z)];exact g.w.map i z
     .rw[F]at h2;rw[if_pos (by lia)];exact g.new k (by lia) (ae.mp Z).1
     .rcases key i J e' with⟨_,e2⟩|⟨z,_⟩
      .exact g.kd i oo J e e2
      .have:=(ae.mp e).1;lia
     .rw[r.refE];unfold RV;rw[if_pos rfl]
     .rcases key i oi a1 with⟨z,ei⟩|⟨z,zi⟩<;>rcases key j oj a0 with⟨hj,ej⟩|⟨hj,zj⟩
      .rw[if_neg (aK z),if_neg (aK hj)]at e;exact R1.inj i j oi oj ei ej mi mj e
      .rw[if_neg (aK z),if_pos hj]at e;subst zj;have:=R1.inj i k oi _ ei Z mi mj e;lia
      .rw[if_neg (aK hj),if_pos z]at e;subst zi;have:=R1.inj k j _ oj Z ej mi mj e;lia
      .rw[z,hj]
     .rcases key i J e with⟨z,e⟩|⟨z,rfl⟩
      .skip
       rw[if_neg (aK z)];exact(R1.obj i J e).mono gw (aM8 R g ho z e) λ _ u hu=>hu
      .skip
       rw[if_pos z];exact(R1.obj k _ Z).mono gw Y λ _ u hu=>hu
     .rw[F];rcases key i J e with⟨z,e⟩|⟨_,rfl⟩
      .exact qe (dQ _) _ (aM8 R g ho z e)
      .exact qe (dQ _) _ Y
    .cases h;exact all rfl rfl
   .exact fb h
 .split at h
  .cases h;exact tk rfl rfl ‹_›
  .cases h;exact all rfl rfl
def bT5 (Γ:Gm)(cds:yF)(f:Str)(sc:Scope)(N:yH)(fd:cw)(lk:String->List Nat->Expr->Bool):Prop :=
 ∀ id caps E,lk id caps E=true->False
def GoodB (Γ:Gm)(cds:yF)(mg:yC)(f:String)(pc vc:Nat)(m:Ck->List Stmt->Bool):Prop:=∃ st N ps a fd lk,DefAt Γ.K mg (f) st ps a fd/\FnScope N ps (defScope st)/\ps.length=pc/\N.length=pc+vc/\m ⟨N,defScope st,lk⟩ (zB st)=true/\bT5 Γ cds (f) (defScope st) N fd lk
def Good (Γ:Gm)(cds:yF)(mg:yC)(f:String)(d:pX):Prop:=GoodB Γ cds mg f d.ps d.vs λ ck S=>mSs ck d.body S
noncomputable def mKc (ck:Ck)(nm:Str)(f:String)(E:Expr):Bool:=match E with|.Call (.Name g _) [.Name x _] [] _=>decide (g=(f))&&(ck.gl g&&decide (x=nm))|_=>false
def cr9 (ck:Ck)(nm:Str)(f:String)(l:Bool)(S:yL):Bool:=match S with
 | [.Return (some e) _]=>(match l with|true=>(match e with|.List [c] _=>mKc ck nm f c|_=>false)|false=>mKc ck nm f e)
 | _=>false
def mHk (ck:Ck)(nm:Str)(h:pH)(S:yL):Bool:=match h.kn with|some (f,l)=>cr9 ck nm f l S|none=>mHd ck nm h S
def bZ0 (h:pH)(c:String):VK->Hp->Prop:=match h.kn with
 | some (_,true)=>λ R H=>∀ p,H p=none->R (.ref p) (upd H p (.J [.str ⟨(oV c).toArray⟩]))
 | some (_,false)=>λ R H=>R (.str ⟨(oV c).toArray⟩) H
 | none=>λ R H=>R (vV (h.vD c)) H
def mT0 (ck:Ck)(d:rQ)(S:yL):Bool:=match S with
 | st::rest=>(match st with|.Try tb hs [] [] _=>(match hs with|[eh]=>(match eh with|.ExceptHandler (some en) (some nm) hb _=>(match en,hb with|.Name x _,b::su=>mSs ck d.body tb&&(mX ck d.xb tb&&(noR d.xb&&(noL d.xb&&(d.h.supOk d.c&&(decide (x=((d.h.cls d.c:String):Str))&&(ck.gl x&&(decide (ck.N[d.i]?=some nm)&&((ck.sc.names.lookup nm==some .local)&&(!(nm==("__debug__":Str))&&(!(nm==("__classdict__":Str))&&(mHk ck nm d.h (b::su)&&mSs ck d.tl rest)))))))))))|_,_=>false)|.ExceptHandler (some en) none hb _=>false|_=>false)|_=>false)|_=>false)
 | _=>false
def cl0 (ck:Ck):rL->List Stmt->Option (List Stmt)
 | .nil,S=>some S
 | .cons s ss,S=>match S with|x::xs=>(match mS ck s x with|true=>cl0 ck ss xs|false=>none)|[]=>none
def mT (ck:Ck)(d:rQ)(S:yL):Bool:=match cl0 ck d.pre S with
 | some S1=>mT0 ck d S1
 | none=>false
structure PrOk (Γ:Gm)(cds:yF)(P:oU)(mg:yC)(w:World):Prop where
 df:∀ f d,P.df f=some d->Good Γ cds mg f d
 con:∀ x d,P.con x=some d->∃ v u,mg (x:Str)=some u/\RelV v u/\(∀ m,d.bnd m=true)/\∀ C H,RV Γ C H d v
 bi:∀ x∈bNames,mg x=none
 fa:∀(f:String) (a:Addr),Γ.fa f=some a->mg (f:Str)=some (.ref a)/\∃ oc od fd sl,Γ.K.lookup a=some ⟨oc,od,.func fd,sl⟩
 lg:True
 nd:(Γ.T.map (·.1)).Nodup
 xf:∀ f d,P.xf f=some d->GoodB Γ cds mg f d.ps d.vs λ ck S=>mX ck d.body S
 tf:∀ f d,P.tf f=some d->GoodB Γ cds mg f d.ps d.vs λ ck S=>mT ck d S
 xc:∀ c:String,P.xc c=true->∃ Cc,mg (c:Str)=some (.ref Cc)/\ExcCls Γ.K Cc/\excI Γ.K Cc=true
 xt:∀ c:String,P.xt c=true->∃ Cc,mg (c:Str)=some (.ref Cc)
 xs:∀(c d:String) (Cc D:Addr),P.xc c=true->P.xt d=true->mg (c:Str)=some (.ref Cc)->mg (d:Str)=some (.ref D)->bo Γ.K (.ref Cc) (.ref D)=some (oM c d)
 xm:∀(c d:String) (Cc D:Addr),P.xc c=true->P.xt d=true->mg (c:Str)=some (.ref Cc)->mg (d:Str)=some (.ref D)->bW Γ.K (.ref Cc) (.ref D)=some (oM c d)
 xe:∀(c:String) (Cc:Addr),P.xc c=true->mg (c:Str)=some (.ref Cc)->bW Γ.K (.ref Cc) (.ref Cc)=some true
 v0:∀ c:String,P.xc c=true->mg ("ValueError":Str)=none
 v1:∀(c:String) (Cc:Addr),P.xc c=true->mg (c:Str)=some (.ref Cc)->bo Γ.K (.ref Cc) (.type "ValueError")=some true
 cdc:∀(c:String) kvs,P.cdc c=some kvs->∃ a,mg (c:Str)=some (.ref a)/\∀(prog:aM) (h:Heap),Γ.K.In h->StrTab prog w h a (strD kvs)
def ax0 (Γ:Gm)(prog:aM)(w:World)(mg:yC)(base:Heap)(F:oQ)(n:Nat):Prop:=(∀ f:String,(∀ l s,F.call f l s=.B) \/
  ∃ a fd ps,FnOk prog w Γ.K mg base CX0 n a fd ps (spV Γ (F.call f))/\mg (f)=some (.ref a)/\c6 Γ.K (.ref a)=true/\Binds Γ.K fd ps []) /\
 True
def az9 (r:RVL Γ C H l vs)(b:oF n l=true)(hN:N.length=l.length+k):RE Γ C H n (l.map some++ah k none) (ag9 N vs):=by
 have hl:=r.length;refine⟨?_,λ i d e=>?_⟩
 .unfold ag9;simp[hl,hN]
 .by_cases hi:i<l.length
  .rw[aS (by simpa using hi),aQ]at e;have e':l[i]?=some d:=by
    rw[ai hi]at e ⊢;exact aC e
   obtain⟨v,e1,e2⟩:=r.get e';refine⟨az6 b e',v,?_,e2⟩;unfold ag9;rw[aS (by rw[aq,hl];exact hi),aQ,e1];rfl
  .rw[aN (by simpa using mf hi)]at e;rw[i6]at e;split at e<;>cases e
def bU3 (J:PrOk Γ F P G w) n :∀ c z,(oJ P n).cdc c=some z->∃ a,G (c)=some (.ref a)/\∀ h:Heap,Γ.K.In h->StrTab prog w h a (strD z):=by
 have:(oJ P n).cdc=P.cdc:=by cases n<;>rfl
 rw[this];intro c z e;obtain⟨a,Z,Y⟩:=J.cdc c z e;exact⟨a,Z,Y prog⟩
def ba8 (Z:PrOk Γ F P mg w)(hb:∀ y∈F,cQ base y.1 y.2/\BM mg base) n (z:ax0 Γ prog w mg base (oJ P n) (n+31))
  {f:String} {st} (hS:FnScope N ps (defScope st)) (hL:bT5 Γ F (f:Str) (defScope st) N fd lk) G (a0:∀ id Y E,lk id Y E=true->fd.code=G) A J sh H E (hr:Room (n+31) (A.deeper (gR (f:Str) (defScope st) sh.heap.objs.size a G))) :
  CG Γ (oJ P n) (n+31) (ao0 CX0 prog w Γ.K mg base N (f:Str) (defScope st) a G A J sh H E).nox ⟨N,defScope st,lk⟩:=by
 refine⟨rfl,rfl,hS.nd,rfl,rfl,?_,hr,λ x k e=>.inl e,λ _ _=>rfl,Z.bi,z.1,?_,hL,z.2,Z.fa,DV.ak7 P n,bU3 Z n⟩
 .show oW+1<=n+31;unfold oW;lia
 .have:(oJ P n).con=P.con:=by cases n<;>rfl
  rw[this];exact Z.con
def bU1 {a0:yF}{P:oU}{prog:aM}{w:World}{mg:yC}{base:Heap}(hP:PrOk Γ a0 P mg w)(hb:∀ y∈a0,cQ base y.1 y.2/\BM mg base)(n:Nat)(Z:ax0 Γ prog w mg base (oJ P n) (n+31))
  {f:String} {d:pX} (e:P.df f=some d) {st:Stmt} {N ps:yH} {a:Addr} {fd:cw} {lk:String->List Nat->Expr->Bool} (hD:DefAt Γ.K mg (f:Str) st ps a fd) (hS:FnScope N ps (defScope st)) (h1:ps.length=d.ps) (h2:N.length=d.ps+d.vs) (hm:mSs ⟨N,defScope st,lk⟩ d.body (zB st)=true) (hL:bT5 Γ a0 (f:Str) (defScope st) N fd lk) :
  FnOk prog w Γ.K mg base CX0 (n+1+31) a fd ps (spV Γ ((oJ P (n+1)).call f)):=by
 have Y:∀ vs H Q E,spV Γ ((oJ P (n+1)).call f) vs H Q E->vs.length=ps.length:=λ vs H Q E q=>by
  obtain⟨C,s,l,d',s',R,r,b,hc,k⟩:=q;simp only[oJ,e]at hc;split at hc
  .rw[r.length,h1];assumption
  .exact fb hc
 have body:∀(z:Value),(∀ id J E,lk id J E=true->fd.code=z)->∀(A:be) (F:List Env) (sh:ag) (H:Hp) (vs:List V) (Q:VK) (E:XK),Room (n+31) (A.deeper (gR (f:Str) (defScope st) sh.heap.objs.size a z))->spV Γ ((oJ P (n+1)).call f) vs H Q E ->
   ∃ t,PSs (ao0 CX0 prog w Γ.K mg base N (f:Str) (defScope st) a z A F sh H E).nox (zB st) t/\t { nx:=λ _ H'=>Q .N H',rt:=Q } (ag9 N vs) H:=by
  intro z a1 A F sh H vs Q E hr q;have G:=ba8 hP hb n Z hS hL (a:=a) z a1 A F sh H E hr;refine⟨_,sSs d.body (zB st) _ ⟨N,defScope st,lk⟩ G hm,?_⟩;obtain⟨C,s,l,d',s',R,r,b,hc,k⟩:=q;simp only[oJ,e]at hc;split at hc
  case isFalse=>exact fb hc
  rename_i Y;obtain⟨c,s1,e1,hc⟩:=aa1 hc;refine⟨C,l.map some++ah d.vs none,s,c,s1,az9 r b (by rw[h2,Y]),R,e1,λ C1 H1 g1 l1 R1=>?_⟩;cases c with
  | ret v0 =>
   intro v hb rv;obtain⟨C',g',l',b',r',R'⟩:=qy R g1 R1 hb rv hc;exact k v C' H1 g' l' b' r' R'
  | next U =>
   intro W' _;obtain⟨C',g',l',b',r',R'⟩:=qy (v0:=.N) R g1 R1 rfl RV.nonI hc;exact k .N C' H1 g' l' b' r' R'
  | cont U=>exact fb hc
  | brk U=>exact fb hc
 exact hD.fn.ok hS Y (λ z=>body z λ id J E h=>(hL id J E h).elim)
def Fun.okX {K}{st}(F:Fun K x qual st f Z)(S:FnScope N ps (defScope st))(len:∀ vs H Q E,sp vs H Q E->vs.length=ps.length)
  (J:∀(G:Value),Z.code=G->∀(A:be) (z:List Env) (s:ag) (H:Hp) (vs:List V) (Q:VK) (E:XK),Room k (A.deeper (gR qual (defScope st) s.heap.objs.size f G))->sp vs H Q E ->
   ∃ t,PSs (ao0 CX P w K mg base N qual (defScope st) f G A z s H E) (zB st) t/\t { nx:=λ _ H'=>Q .N H',rt:=Q } (ag9 N vs) H):FnOk P w K mg base CX (k+1) f Z ps sp:=by
 obtain⟨oc,od,kV,a1,pm,an,G,ct,a0,rfl,lk,hc⟩:=F.ex;exact ch4 lk hc S len λ A z s H vs Q E hr Y=>J G rfl A z s H vs Q E hr Y
def bW1 (z:PrOk Γ J P Y w) n :XC (oJ P n) Γ.K Y:=by
 have e:(oJ P n).xc=P.xc:=by cases n<;>rfl
 have e':(oJ P n).xt=P.xt:=by cases n<;>rfl
 exact⟨λ c h=>z.xc c (by rw[e]at h;exact h),λ c h=>z.xt c (by rw[e']at h;exact h),λ c d Cc D G F=>z.xs c d Cc D (by rw[e]at G;exact G) (by rw[e']at F;exact F),λ c d Cc D G F=>z.xm c d Cc D (by rw[e]at G;exact G) (by rw[e']at F;exact F),λ c h=>z.v0 c (by rw[e]at h;exact h),λ c Cc h=>z.v1 c Cc (by rw[e]at h;exact h)⟩
def ca2 (hP:PrOk Γ Y P F w)(hb:∀ y∈Y,cQ base y.1 y.2/\BM F base) n (J:ax0 Γ prog w F base (oJ P n) (n+31))(XO:XOk Γ prog w Γ.K F base (oJ P n) (n+31))
  (e:P.xf f=some d) {st:Stmt} {N ps:yH} {a:Addr} {fd:cw} {lk:String->List Nat->Expr->Bool} (hD:DefAt Γ.K F (f:Str) st ps a fd) (hS:FnScope N ps (defScope st)) (h1:ps.length=d.ps) (h2:N.length=d.ps+d.vs) (hm:mX ⟨N,defScope st,lk⟩ d.body (zB st)=true) (hL:bT5 Γ Y (f:Str) (defScope st) N fd lk) :
  FnOk prog w Γ.K F base (CX1 prog w) (n+1+31) a fd ps (spX Γ F ((oJ P (n+1)).xcall f)):=by
 refine hD.fn.okX hS (λ vs H Q E q=>?_) λ a0 a1 A z sh H vs Q E hr q=>?_
 .obtain⟨C,s,l,c,s',R,r,b,hc,k⟩:=q;simp only[oJ,e]at hc;split at hc
  .rw[r.length,h1];assumption
  .cases hc
 .have G:=ba8 hP hb n J hS hL (a:=a) a0 (λ _ _ _ _=>a1) A z sh H E hr;obtain⟨C,s,l,c,s',R,r,b,hc,k⟩:=q;simp only[oJ,e]at hc;split at hc
  case isFalse=>cases hc
  rename_i Z;exact⟨_,aM1 (X:=ao0 (CX1 prog w) prog w Γ.K F base N (f:Str) (defScope st) a a0 A z sh H E) G (bW1 hP n) XO cr5 d.body (zB st) (.inr cs9) (.inr PassesOwn.leaving) hm,C,l.map some++ah d.vs none,s,c,s',az9 r b (by rw[h2,Z]),R,hc,k⟩
def ch9 {S:yL}(k:h.kn=none)(m:mHd z nm h S=true):h.out c s s'=pS s (h.vD c) s':=by
 cases h with
 | noe=>exact ff m
 | _=>simp only[rG,k]
def bZ7 {h:pH}{f:String}(k:h.kn=some (f,l)):h.out c s s'=match l with|true=>pS s (.ref s'.length) (s'++[.J [.str (oV c)]])|false=>pS s (.str (oV c)) s':=by
 cases h with
 | noe=>cases k
 | _=>cases l<;>simp only[rG,k]
def cr3 (h:(oJ P n).kd f=true):∃ d,P.xf f=some d/\d.ps=1/\d.vs=1/\d.body=.kind:=by
 have e:(oJ P n).kd=DV.bT6 P:=by cases n<;>rfl
 rw[e]at h;unfold DV.bT6 at h;split at h
 .rename_i d hd;simp only[aj,beq_iff_eq]at h;refine⟨d,hd,h.1,h.2.1,?_⟩;have:=h.2.2;cases q:d.body<;>rw[q]at this<;>first|rfl|cases this
 .cases h
def bj1 c :(oV c).length<=1000:=by
 unfold oV rE;split
 .rw[aO];cases e:rD[List.findIdx id (DV.ac9.map (oM c))]? with
  | none=>exact b9 _
  | some x =>
   have hm:=aE e;exact(by decide:∀ x∈rD,x.length<=1000) x hm
 .decide
def bB2 (hP:PrOk Γ a1 P X.mg w)(hK:X.K=Γ.K)(G:CH X ck)(hr:Room (n+31) X.A)(xc:XC (oJ P n) X.K X.mg)(J:(oJ P n).xc c=true)(a3:X.mg (c:Str)=some (.ref Cc))(kx:dn X.K (.ref a) (.ref Cc) (λ h=>XAt h a Cc))(hcl:oe.cls=.ref Cc){i:Nat}(hi:ck.N[i]?=some nm)(hv:Vis X.env.scope nm)(hd:(nm==("__debug__":Str))=false)(a4:(nm==("__classdict__":Str))=false)
  (hk:(oJ P n).kd f=true) (hx:DV.ac9.all (oJ P n).xt=true) (h:mKc ck nm f E=true):PE (X.hnd a oe) E (λ W H Q=>W[i]?=some (some (.ref a))/\∀ H',af0 H H'->Q (.str ⟨(oV c).toArray⟩) H')/\shp E=true:=by
 unfold mKc at h;split at h
 case h_2=>cases h
 refine⟨?_,rfl⟩;obtain⟨F,h⟩:=ze h;obtain⟨h2,h3⟩:=ze h;have e1:=of_decide_eq_true F;subst e1;have z:∀ {px:Pos},PE (X.hnd a oe) (.Name nm px) (be3 i):=am8 (X:=X.hnd a oe) (by show X.N[i]?=_;rw[G.N];exact hi) hv hd a4;have e3:=of_decide_eq_true h3;subst e3;obtain⟨d,Y,Z,a5,a0⟩:=cr3 hk;obtain⟨st,N,ps,f',fd,lk,hD,hS,l1,l2,hm,hL⟩:=hP.xf _ d Y;rw[a0]at hm;have hm:KindS ⟨N,defScope st,lk⟩ (zB st):=@of_decide_eq_true _ (di _) hm;rw[Z]at l1 l2;obtain⟨p,rfl⟩:∃ p,ps=[p]:=by
  match ps,l1 with
  | [p],_=>exact⟨p,rfl⟩
 obtain⟨g1,g2,g3⟩:=G.gl h2;rw[<-hK]at hD;refine br6 (k:=n+30) (t0:=λ H Q=>∀ H',af0 H H'->Q (.str ⟨(oV c).toArray⟩) H') hD.fn hS hD.bi hr g1 hD.mg g2 z λ a2 _ s H Q _ q=>?_;have ch:CH (ao0 CX0 X.prog X.w X.K X.mg X.base N (f:Str) (defScope st) f' a2 X.A X.stack s H (λ _ _ _=>False)) ⟨N,defScope st,lk⟩:=by
  refine⟨rfl,λ {x} hx=>?_,G.bi⟩;unfold Ck.gl at hx;simp only[aj,eU]at hx;obtain⟨⟨F,h2⟩,h3⟩:=hx;refine⟨?_,h2,of_decide_eq_false h3⟩;split at F
  .rename_i e;exact e
  .cases F
 refine⟨_,bJ7 ch xc J a3 kx hcl hS.nd rfl hx hm,?_,λ H' s'=>q H' s'⟩;unfold ag9;have:N.length=2:=by lia
 show _++ah (N.length - 1) none=_;rw[this];rfl
def cr7 (hP:PrOk Γ a1 P X.mg w)(G:CG Γ (oJ P n) (n+31) X Z)(xc:XC (oJ P n) X.K X.mg)(F:(oJ P n).xc c=true)(J:X.mg (c:Str)=some (.ref Cc))(kx:dn X.K (.ref a) (.ref Cc) (λ h=>XAt h a Cc))(hcl:oe.cls=.ref Cc)(hi:Z.N[i]?=some nm)(hv:Vis X.env.scope nm)(hd:(nm==("__debug__":Str))=false)(Y:(nm==("__classdict__":Str))=false)
  {t:pH} {S:yL} (m:mHk Z nm t S=true) (o:t.ok (oJ P n).xt=true) (k:t.kok (oJ P n).kd=true):PSs (X.hnd a oe) S (tHd i a (bZ0 t c)):=by
 unfold mHk at m;unfold DV.Hd.kok at k;have a0:∀ {h:pH} {f:String} {l:Bool},h.kn=some (f,l)->h.ok (oJ P n).xt=true->DV.ac9.all (oJ P n).xt=true:=λ {h}=>by
  induction h with
  | kin f l=>exact λ _ z=>z
  | sup x h ih=>exact λ e z=>ih e (ze z).2
  | _=>exact λ e=>by cases e
 cases q:t.kn with
 | none =>
  rw[q]at m;have:=cc6 G xc F J kx hcl hi hv hd Y m o;unfold bZ0;rw[q];exact this
 | some y =>
  obtain⟨f,l⟩:=y;rw[q]at m k;have m:cr9 Z nm f l S=true:=m;have hx:=a0 q o;unfold cr9 at m;split at m
  case h_2=>cases m
  unfold bZ0;rw[q];cases l with
  | false =>
   exact(at8 (ar0 (bB2 hP G.K G.ch G.room xc F J kx hcl hi hv hd Y k hx m).1)).imp λ D W H q=>q
  | true =>
   dsimp only at m;split at m
   case h_2=>cases m
   obtain⟨k1,k2⟩:=bB2 (a:=a) (oe:=oe) hP G.K G.ch G.room xc F J kx hcl hi hv hd Y k hx m;exact(at8 (ar0 (ax3 (zp k1 ad2 (zb k2))))).imp λ D W H q=>⟨q.1,λ H1 s1=>⟨g9 (at1 (by show 1<=1000;decide)),λ p hp=>q.2 H1 s1 p hp⟩⟩
theorem bX1 :∀ {h} {S:yL},mHd z nm h S=true->(h.vD c).bnd n=true/\RV Γ C H (h.vD c) (vV (h.vD c))
 | .ret _,S,m=>ff m
 | .iff _ _ _,S,m=>ff m
 | .nob b,S,_=>⟨rfl,RV.blI⟩
 | .noe,S,_=>⟨rfl,RV.nonI⟩
 | .iffN _ _,S,m=>ff m
 | .aoN _ _,S,m=>ff m
 | .sup x h,S,m=>bX1 (h:=h) m
 | .kin _ _,S,m=>ff m
theorem by8 (G:CG Γ F n X z):∀ {pre} {S J:yL},cl0 z pre S=some J->PSs X J t->PSs X S (co7 (TSv Γ (rg F pre)) t)
 | .nil,S,J,h,h1=>by
  cases h;refine h1.imp λ D W H q=>?_;obtain⟨C,U,s,c,s',E,R,e,q⟩:=q;cases e;exact q.here R W E
 | .cons s ss,S,J,h,h1=>by
  cases S with
  | nil=>exact absurd h (by nofun)
  | cons x xs =>
   have h:(match mS z s x with|true=>cl0 z ss xs|false=>none)=some J:=h;cases hm:mS z s x with
   | false=>rw[hm]at h;exact absurd h (by nofun)
   | true =>
    rw[hm]at h;exact(zA (sS s _ X z G hm) (by8 G h h1)).imp λ D W H q=>bD7 (TSv.eq (λ U s=>rfl) q)
def bU0 (hP:PrOk Γ a8 P J w)(hb:∀ y∈a8,cQ base y.1 y.2/\BM J base) n (a6:ax0 Γ prog w J base (oJ P n) (n+31))(XO:XOk Γ prog w Γ.K J base (oJ P n) (n+31))
  (e0:P.df f=none) (e:P.tf f=some d) {st:Stmt} {N ps:yH} {a:Addr} {fd:cw} {lk:String->List Nat->Expr->Bool} (hD:DefAt Γ.K J (f:Str) st ps a fd) (hS:FnScope N ps (defScope st)) (h1:ps.length=d.ps) (h2:N.length=d.ps+d.vs) (hm:mT ⟨N,defScope st,lk⟩ d (zB st)=true) (hL:bT5 Γ a8 (f:Str) (defScope st) N fd lk) :
  FnOk prog w Γ.K J base CX0 (n+1+31) a fd ps (spV Γ ((oJ P (n+1)).call f)):=by
 refine hD.fn.okX hS (λ vs H Q E q=>?_) λ F c0 A z sh H vs Q E hr q=>?_
 .obtain⟨C,s,l,d',s',R,r,b,hc,k⟩:=q;simp only[oJ,e0,e]at hc;split at hc
  .rw[r.length,h1];assumption
  .exact fb hc
 have G:=ba8 hP hb n a6 hS hL (a:=a) F (λ _ _ _ _=>c0) A z sh H E hr;have xc:=bW1 hP n;obtain⟨C,s,l,d',s',R,r,b,hc,k⟩:=q;simp only[oJ,e0,e]at hc;split at hc
 case isFalse=>exact fb hc
 rename_i Z;have E0:=az9 r b (k:=d.vs) (N:=N) (by rw[h2,Z]);unfold mT at hm;split at hm
 case h_2=>exact ff hm
 rename_i S1 b4;unfold DV.bo7 at hc;split at hc
 case h_2=>exact fb hc
 rename_i U0 s0 ep
 suffices key:∃ t,PSs (ao0 CX0 prog w Γ.K J base N (f:Str) (defScope st) a F A z sh H E).nox S1 t/\∀ C0 W0 H0,Gr C s H C0 s0 H0->s.length<=s0.length->Rp Γ C0 H0 s0->RE Γ C0 H0 s0.length U0 W0->t { nx:=λ _ H'=>Q .N H',rt:=Q } W0 H0 by
  obtain⟨t,ht,kt⟩:=key;refine⟨_,(by8 (X:=(ao0 CX0 prog w Γ.K J base N (f:Str) (defScope st) a F A z sh H E).nox) G b4 ht).nox,?_⟩;exact⟨C,l.map some++ah d.vs none,s,.next U0,s0,E0,R,ep,λ C1 H1 g1 l1 R1 W1 E1=>kt C1 W1 H1 g1 l1 R1 E1⟩
 unfold mT0 at hm;split at hm
 case h_2=>exact ff hm
 rename_i d1 rest;split at hm
 case h_2=>exact ff hm
 rename_i tb hs tp;split at hm
 case h_2=>exact ff hm
 rename_i eh;have run:mSs ⟨N,defScope st,lk⟩ d.body tb=true->mSs ⟨N,defScope st,lk⟩ d.tl rest=true->((rg (oJ P n) d.body U0 s0).bind λ c s1=>match c with
  | .ret v=>pS s v s1
  | .next U=>(rg (oJ P n) d.tl U s1).bind λ c s2=>match c with
   | .ret v=>pS s v s2
   | .next _=>pS s .N s2
   | _=>.B
  | _=>.B)=.ok d' s'->∃ t,PSs (ao0 CX0 prog w Γ.K J base N (f:Str) (defScope st) a F A z sh H E).nox (.Try tb [eh] [] [] tp::rest) t/\∀ C0 W0 H0,Gr C s H C0 s0 H0->s.length<=s0.length->Rp Γ C0 H0 s0->RE Γ C0 H0 s0.length U0 W0->t { nx:=λ _ H'=>Q .N H',rt:=Q } W0 H0:=λ m1 a9 hc=>by
  refine⟨_,(zA (bJ2 (X:=(ao0 CX0 prog w Γ.K J base N (f:Str) (defScope st) a F A z sh H E).nox) rfl (sSs d.body tb _ ⟨N,defScope st,lk⟩ G m1)) (sSs d.tl rest _ ⟨N,defScope st,lk⟩ G a9)),λ C0 W0 H0 g0 l0 R0 Ea=>?_⟩;obtain⟨c,s1,e1,hc⟩:=aa1 hc;refine⟨C0,U0,s0,c,s1,Ea,R0,e1,λ C1 H1 g1 l1 R1=>?_⟩
  replace g1:=g0.trans g1 l0
  replace l1:=ar l0 l1
  cases c with
  | ret v0 =>
   intro v hb rv;obtain⟨C',g',l',b',r',R'⟩:=qy R g1 R1 hb rv hc;exact k v C' H1 g' l' b' r' R'
  | next U =>
   intro W' E1;obtain⟨c,s2,e2,hc⟩:=aa1 hc;refine⟨C1,U,s1,c,s2,E1,R1,e2,λ C2 H2 g2 l2 R2=>?_⟩;cases c with
   | ret v0 =>
    intro v hb rv;obtain⟨C',g',l',b',r',R'⟩:=qy R (g1.trans g2 l1) R2 hb rv hc;exact k v C' H2 g' l' b' r' R'
   | next U =>
    intro W' _;obtain⟨C',g',l',b',r',R'⟩:=qy (v0:=.N) R (g1.trans g2 l1) R2 rfl RV.nonI hc;exact k .N C' H2 g' l' b' r' R'
   | cont U=>exact fb hc
   | brk U=>exact fb hc
  | cont U=>exact fb hc
  | brk U=>exact fb hc
 split at hm
 .rename_i en nm d0 hp;split at hm
  case h_2=>exact ff hm
  rename_i x np b0 su;obtain⟨m1,hm⟩:=ze hm;obtain⟨m2,hm⟩:=ze hm;obtain⟨m3,hm⟩:=ze hm;obtain⟨c3,hm⟩:=ze hm;obtain⟨d2,hm⟩:=ze hm;obtain⟨m4,hm⟩:=ze hm;obtain⟨m5,hm⟩:=ze hm;obtain⟨m6,hm⟩:=ze hm;obtain⟨m7,hm⟩:=ze hm;obtain⟨m8,hm⟩:=ze hm;obtain⟨m9,hm⟩:=ze hm;obtain⟨Y,a9⟩:=ze hm;have ex:=of_decide_eq_true m4;have ei:=of_decide_eq_true m6;subst ex;unfold DV.aX0 at hc;split at hc
  .rename_i c s1 hx;split at hc
   case isFalse=>exact fb hc
   rename_i a7;obtain⟨a2,a1,hok,b6⟩:=a7;unfold DV.Tf.tk at a2;obtain⟨Cc,hC,hE,hI⟩:=xc.at_ _ a1;obtain⟨g1,g2,g3⟩:=G.gl m5;have a5:(defScope st).names.lookup nm=some .local:=eq_of_beq m7;have c4:(nm==("__debug__":Str))=false:=by simpa using m8
   have c1:(nm==("__classdict__":Str))=false:=by simpa using m9
   have kx:∀ a',dn Γ.K (.ref a') (.ref Cc) (λ h=>XAt h a' Cc):=λ a'=>bK2 hE hI;obtain⟨D',a4,hexm⟩:∃ D',J ((d.h.cls d.c:String):Str)=some (.ref D')/\bW Γ.K (.ref Cc) (.ref D')=some true:=by
    have c2:(oJ P n).xc=P.xc:=by cases n<;>rfl
    cases hh:d.h with
    | sup x' h' =>
     rw[hh]at hok a2;have b3:(oJ P n).xt x'=true:=(ze hok).1;obtain⟨D',a4⟩:=xc.cls x' b3;refine⟨D',a4,?_⟩;rw[xc.exm c x' Cc D' a1 b3 hC a4];exact congrArg some a2
    | _ =>
     rw[hh]at a2;have ec:c=d.c:=eq_of_beq a2;subst ec;exact⟨Cc,hC,hP.xe _ Cc (by rw[c2]at a1;exact a1) hC⟩
   refine⟨_,(zA (bG1 (X:=(ao0 CX0 prog w Γ.K J base N (f:Str) (defScope st) a F A z sh H E).nox) (Γ:=Γ) (Cc:=Cc) (m:=pI (oJ P n) d.xb) (b:=bZ0 d.h c) (D':=D') (i:=d.i) rfl rfl rfl hexm g1 a4 g2 hS.nd ei a5 (λ pn Ww E1 b5=>?_) λ a' oe hcl=>cr7 hP G xc a1 hC (kx a') hcl ei (.inl a5) c4 c1 Y hok b6) qU),λ C0 W0 H0 g0 l0 R0 Ea=>?_⟩
   .have G':CG Γ (oJ P n) (n+31) ({ (ao0 CX0 prog w Γ.K J base N (f:Str) (defScope st) a F A z sh H E).nox with pn:=pn,xe:=Ww }:Cx).nox ⟨N,defScope st,lk⟩:=⟨G.K,G.N,G.nd,rfl,G.calm,G.deep,G.room,G.sc,G.fn,G.bi,G.call,G.con,G.lam,G.cl,G.fa,G.fk,G.cdc⟩
    exact aM1 (X:={ (ao0 CX0 prog w Γ.K J base N (f:Str) (defScope st) a F A z sh H E).nox with pn:=pn,xe:=Ww }) G' xc XO b5 d.xb tb (.inl m3) (.inl c3) m2
   .refine⟨C0,U0,s0,c,s1,Ea,R0,hx,λ C' H' a' Cc' g' l' R' a3=>?_⟩
    replace g':=g0.trans g' l0
    replace l':=ar l0 l'
    have a3:J (c:Str)=some (.ref Cc'):=a3;rw[hC]at a3;cases a3;refine⟨rfl,λ b1 same=>?_⟩;obtain⟨gs,Rs⟩:=R'.same same;have Z:(oV c).length<=oN:=ar (bj1 c) (by decide);unfold bZ0;cases hq:d.h.kn with
    | none =>
     unfold mHk at Y;rw[hq]at Y;have Y:mHd ⟨N,defScope st,lk⟩ nm d.h (b0::su)=true:=Y;rw[ch9 hq Y]at hc;have vr:=bX1 (Γ:=Γ) (c:=c) (C:=C') (H:=b1) (n:=s1.length) Y;obtain⟨C2,a0,l2,b2,r2,R2⟩:=qy (v0:=d.h.vD c) R (g'.trans gs l') Rs vr.1 vr.2 hc;exact k _ C2 b1 a0 l2 b2 r2 R2
    | some y =>
     obtain⟨fk,l⟩:=y;rw[bZ7 hq]at hc;cases l with
     | false =>
      obtain⟨C2,a0,l2,b2,r2,R2⟩:=qy (v0:=.str (oV c)) R (g'.trans gs l') Rs rfl (RV.strI Z) hc;exact k _ C2 b1 a0 l2 b2 r2 R2
     | true =>
      intro p hp;obtain⟨gn,Rn⟩:=Rs.new (o:=.J [.str (oV c)]) (u:=.J [.str ⟨(oV c).toArray⟩]) hp rfl λ C' H' g e=>⟨[_],e,.cons (RV.strI Z) .nil⟩
      obtain⟨C2,a0,l2,b2,r2,R2⟩:=qy (v0:=.ref s1.length) R ((g'.trans gs l').trans gn l') Rn (by unfold oI;simp) (v:=.ref p) (by unfold RV;simp) hc;exact k _ C2 _ a0 l2 b2 r2 R2
  .exact run m1 a9 hc
 .exact ff hm
 .exact ff hm
theorem aQ2 (z:PrOk Γ G P mg w)(hb:∀ y∈G,cQ base y.1 y.2/\BM mg base):∀ n:Nat,ax0 Γ prog w mg base (oJ P n) (n+31)/\XOk Γ prog w Γ.K mg base (oJ P n) (n+31)
 | 0=>⟨⟨λ f=>.inl λ l s=>rfl,trivial⟩,λ f=>.inl λ l s=>rfl⟩
 | n+1=>by
  obtain⟨ih,XO⟩:=aQ2 z hb n;refine⟨⟨λ f=>?_,trivial⟩,λ f=>?_⟩
  .cases e:P.df f with
   | none =>
    cases e2:P.tf f with
    | none=>exact .inl λ l s=>by simp only[oJ,e,e2]
    | some d =>
     obtain⟨st,N,ps,a,Y,lk,hD,F,Z,J,hm,hL⟩:=z.tf f d e2;exact .inr ⟨a,Y,ps,bU0 z hb n ih XO e e2 hD F Z J hm hL,hD.mg,hD.fn.kp,hD.bi⟩
   | some d =>
    obtain⟨st,N,ps,a,Y,lk,hD,F,Z,J,hm,hL⟩:=z.df f d e;exact .inr ⟨a,Y,ps,bU1 z hb n ih e hD F Z J hm hL,hD.mg,hD.fn.kp,hD.bi⟩
  .cases e:P.xf f with
   | none=>exact .inl λ l s=>by simp only[oJ,e]
   | some d =>
    obtain⟨st,N,ps,a,Y,lk,hD,F,Z,J,hm,hL⟩:=z.xf f d e;exact .inr ⟨a,Y,ps,ca2 z hb n ih XO e hD F Z J hm hL,hD.mg,hD.fn.kp,hD.bi⟩
def bG6 (G:PrOk Γ z P F w)(hb:∀ y∈z,cQ base y.1 y.2/\BM F base) n :ax0 Γ prog w F base (oJ P n) (n+31):=(aQ2 G hb n).1
def spT (Γ:Gm):Sp:=λ vs H Q _=>∃(a:Addr) (ns:List Int),vs=[.ref a]/\SqF Γ.K H a (ns.map V.int)/\ns.length<=63/\TabsH Γ.T H/\∀ H',Q (.T true) H'
theorem aR1 :∀ ns:List Int,RVL Γ C H (ns.map DV.D.int) (ns.map V.int)
 | []=>.nil
 | n::ns=>.cons RV.intI (aR1 ns)
theorem aD0 :∀ ns:List Int,oF m (ns.map DV.D.int)=true
 | []=>rfl
 | n::ns=>by rw[av];unfold oF;rw[aD0 ns];rfl
def bY0 (h:∀ ns:List Int,ns.length<=63->∃ s',(oJ P k).call "law" [.ref 0] [.ro (ns.map DV.D.int)]=.ok (.T true) s') vs  H  Q  E (q:spT Γ vs H Q E):spV Γ ((oJ P k).call "law") vs H Q E:=by
 obtain⟨a,ns,rfl,F,hl,hT,z⟩:=q;obtain⟨s',hs⟩:=h ns hl;refine⟨λ _=>a,[.ro (ns.map DV.D.int)],[.ref 0],.T true,s',⟨λ i j o G e e' m m' _=>?_,λ i o e=>?_,λ i o e=>?_,hT⟩,.cons RV.refI .nil,?_,hs,λ v C' H' g l b r R=>?_⟩
 .cases i with
  | zero=>cases e;cases m
  | succ i=>cases e
 .cases i with
  | zero=>cases e;exact⟨_,F,aR1 ns⟩
  | succ i=>cases e
 .cases i with
  | zero=>cases e;unfold oK;exact aD0 ns
  | succ i=>cases e
 .unfold oF oI oF;rfl
 .rw[r.blE];exact z H'
theorem aT2 :∀ {tbl:List (String×pX)},(∀ p∈tbl,Good Γ z F p.1 p.2)->∀ f d,tbl.lookup f=some d->Good Γ z F f d
 | [],_,f,d,h=>by cases h
 | (g,e)::tbl,H,f,d,h=>by
  rw[bz]at h;cases q:f==g with
  | true =>
   rw[q]at h;cases h;rw[eq_of_beq q];exact H (g,_) (ax ..)
  | false =>
   rw[q]at h;exact aT2 (λ p hp=>H p (ak _ hp)) f d h
def bv8 (Γ:Gm)(mg:yC)(x:String)(d:oD):Prop:=∃ v u,mg (x)=some u/\RelV v u/\(∀ m,d.bnd m=true)/\∀ C H,RV Γ C H d v
theorem bm0 :∀ {tbl:List (String×oD)},(∀ p∈tbl,bv8 Γ z p.1 p.2)->∀ f d,tbl.lookup f=some d->bv8 Γ z f d
 | [],_,f,d,h=>by cases h
 | (g,e)::tbl,H,f,d,h=>by
  rw[bz]at h;cases q:f==g with
  | true =>
   rw[q]at h;cases h;rw[eq_of_beq q];exact H (g,_) (ax ..)
  | false =>
   rw[q]at h;exact bm0 (λ p hp=>H p (ak _ hp)) f d h
def bj9 (h:z (x:Str)=some (.int i t)):bv8 Γ z x (.int i):=⟨.int i,_,h,⟨t,rfl⟩,λ _=>rfl,λ _ _=>RV.intI⟩
inductive ConV (Γ:Gm):oD->Value->Prop where
 | int (i:Int) (t:Tok):ConV Γ (.int i) (.int i t)
 | str (x:List Nat) (t:Tok) (h:x.length<=1000):ConV Γ (.str x) (.str ⟨x.toArray⟩ t)
inductive ConL (Γ:Gm):List oD->List Value->Prop where
 | nil:ConL Γ [] []
 | cons {d v l vs} (a:ConV Γ d v) (b:ConL Γ l vs):ConL Γ (d::l) (v::vs)
def bL5 {its:yG}(h:mg (x:Str)=some (.ref a))(hk:Γ.K.lookup a=some o)(hc:o.cls=.type "tuple")(hd:o.data=.seq its.toArray n)(hz:its.length<=1000)
  (hl:ConL Γ l its) (Z:autoParam (oO l=false) Zq4._auto_1):bv8 Γ mg x (.tp l):=by
 have key:∃ F,Vals F its/\(∀ m,oF m l=true)/\∀ C H,RVL Γ C H l F:=by
  clear hd hz Z
  induction hl with
  | nil=>exact⟨[],.nil,λ _=>rfl,λ _ _=>.nil⟩
  | cons a b ih =>
   obtain⟨F,Y,J,G⟩:=ih;cases a with
   | int i t=>exact⟨.int i::F,.cons ⟨t,rfl⟩ Y,λ m=>by unfold oF;rw[J];rfl,λ C H=>.cons RV.intI (G C H)⟩
   | str x t h=>exact⟨.str ⟨x.toArray⟩::F,.cons ⟨t,rfl⟩ Y,λ m=>by unfold oF;rw[J];rfl,λ C H=>.cons (RV.strI (by unfold oN;omega)) (G C H)⟩
 obtain⟨F,Y,J,G⟩:=key;refine⟨.ref a,_,h,rfl,λ m=>by unfold oI;exact J m,λ C H=>RV.tupC (.inr ⟨o,its.toArray,n,hk,hc,hd,?_,Y⟩) (λ z=>by rw[Z]at z;cases z) (G C H)⟩;rw[aw];exact aO0 hz
end
def aX4 {K:af}{mg mb:yC}{vs:yG}{tabs:yF}
  (KX:K.In G.heap) (b0:G.heap.Ns bu mg) (hb:G.heap.Ns fB mb) (d1:∀ x:Str,x ≠ "__name__"->mb x=bC x) (a6:G.heap.NoLimit) (hg:G.gens=#[]) (c3:BM mg G.heap) (hT:nB tabs G.heap) (c4:nD K=true)
  (ha:G.heap.get? a=some { cls:=.type "list",data:=.seq vs.toArray }) (hi:mZ vs ns) (hl:ns.length<=aV) (hr:Room k kG)
  (F:∀ base:Heap,K.In base->base.Ns bu mg->BM mg base->(∀ q∈tabs,cQ base q.1 q.2)->FnOk P w K mg base CX0 k fa fd [x] sp) (a5:∀(s:ag) (u:Value),mY s fd ⟨[u],[]⟩ [(x,u)])
  (d2:∀ H:Hp,(∀ q∈tabs,H q.2=some (.tbl #[]))->SqL K H a (ns.map V.int)->(∀ u,H a=some u->(∃ o xs,u=.frz o (.J xs))\/∃ ps,u=.tbl ps)->sp [.ref a] H (λ v _=>v=.T true) E0) :
  gA (model P w) kG (.call (.ref fa) ⟨[.ref a],[]⟩) (λ r s'=>r=.ok (.ret (.bool true))/\OldK G.heap s'.heap/\s'.os=G.os/\g8 s'.gens) G:=by
 have rv:=aG2 hi;have a7:=hi.length;have J:∀ b,b∈tabs.map (·.2)->G.heap.get? b=some (kC #[]):=λ b h=>by
  obtain⟨q,hq,rfl⟩:=ay.mp h;exact(hT q hq).2
 have a2:∀ H:Hp,(∀ b u,H b=some u->(b=a/\∃ o xs,u=.frz o (.J xs))\/(b∈tabs.map (·.2)/\u=.tbl #[]))->(∀ q∈tabs,H q.2=some (.tbl #[]))->SqL K H a (ns.map V.int)->HOk P w H G.heap->(H a≠none->K.lookup a=none) ->
   gA (model P w) kG (.call (.ref fa) ⟨[.ref a],[]⟩) (λ r s'=>r=.ok (.ret (.bool true))/\OldK G.heap s'.heap/\s'.os=G.os/\g8 s'.gens) G:=by
  intro H hO d3 hS hok hK;have un:∀ b o,G.heap.get? b=some o->o.cls≠.type "list"->(∀ vs,o.data≠.fields vs)->H b=none:=λ b o e n1 n2=>by
   cases q:H b with
   | none=>rfl
   | some u =>
    rcases hO b u q with⟨z,_⟩|⟨z,_⟩
    .rw[z,ha]at e;cases e;exact absurd rfl n1
    .rw[J b z]at e;cases e;exact absurd rfl (n2 #[])
  have Z:∀ {b:Addr} {m:yC},G.heap.Ns b m->(bm8 G.heap H).Ns b m:=λ {b m} ⟨o,es,ep,e,d,r⟩=>by
   refine⟨o,es,ep,ao1 e ?_,d,r⟩;cases q:H b with
   | none=>rfl
   | some u =>
    rcases hO b u q with⟨z,_⟩|⟨z,_⟩
    .rw[z,ha]at e;cases e;cases d
    .rw[J b z]at e;cases e;cases d
  have a9:K.In (bm8 G.heap H):=λ b o e=>ao1 (KX b o e) (by
   cases q:H b with
   | none=>rfl
   | some u =>
    rcases hO b u q with⟨z,_⟩|⟨z,_⟩
    .subst z;rw[hK (by rw[q];simp)]at e;cases e
    .have e2:=KX b o e;rw[J b z]at e2;have h2:=aU.mp c4 (b,o) (PySem.W.mem_of_lookupK e);have e3:o=kC #[]:=(aC e2).symm;subst e3;exact absurd (show false=true from h2) aH)
  have hM:Mod K mg (bm8 G.heap H):=⟨a9,Z b0,⟨mb,Z hb,d1⟩,let⟨mc,h1,h2⟩:=a6;⟨mc,Z h1,h2⟩⟩
  have c2:BM mg (bm8 G.heap H):=by
   obtain⟨bm,ob,b1,b2,b3,b4,b5,b6⟩:=c3;exact⟨bm,ob,b1,b2,ao1 b3 (un bm ob b3 (by rw[b4];nofun) (by rw[b6];nofun)),b4,b5,b6⟩
  have d0:∀ q∈tabs,cQ (bm8 G.heap H) q.1 q.2:=λ q hq=>by
   obtain⟨o,c0,a8,tf,a4,tg,c1,text,tt,e1,r1,r2⟩:=(hT q hq).1;refine⟨o,c0,a8,tf,a4,tg,c1,text,tt,ao1 e1 ?_,r1,r2⟩;cases q2:H q.1 with
   | none=>rfl
   | some u =>
    rcases hO _ u q2 with⟨z,_⟩|⟨z,_⟩
    .rw[z,ha]at e1;cases e1;exact absurd r1 (by simp)
    .rw[J _ z]at e1;cases e1;exact absurd r1 (by simp)
  have e0:Env0 P w K mg (bm8 G.heap H) kG [] G H:=⟨rfl,hM,λ b o e=>bR7 e,Nat.le_of_eq (bl3 _ _),trivial,λ b hb=>absurd (show b∈([]:List Addr)from hb) (by simp),hok,.of_eq hg⟩
  refine jw ((F _ a9 (Z b0) c2 d0).run kG [] G H ⟨[.ref a],[]⟩ [.ref a] [.ref a] _ _ hr e0 (a5 G (.ref a)) (.cons rfl .nil) (d2 H d3 hS (λ u e=>(hO a u e).elim (λ z=>.inl z.2) (λ z=>.inr ⟨_,z.2⟩)))) λ r s' h=>?_;cases r with
  | error e=>exact bD h
  | ok fl =>
   cases fl with
   | next=>exact bD h
   | brk=>exact bD h
   | cont=>exact bD h
   | ret u =>
    obtain⟨v,H',os,bare,a3,a0,r',q⟩:=h;have q':v=.T true:=q;subst q';obtain rfl:u=Value.bool true:=r';have key:∀ b o,G.heap.get? b=some o->asItWas G.heap s'.heap b o/\∃ o',s'.heap.get? b=some o':=λ b o e=>by
     cases q:H b with
     | none =>
      have z:=a3.keep b o e q (by intro z;exact absurd (show b∈([]:List Addr)from z) (by simp)) (by simp);exact⟨.inl z,o,z⟩
     | some u =>
      rcases hO b u q with⟨_,ob,xs,z⟩|⟨z,z2⟩
      .subst z;have z2:=a3.frzs b ob _ q;obtain⟨e1,_⟩:=hok b _ q;obtain⟨e2,_⟩:=a0 b _ z2;rw[e]at e1;cases e1;exact⟨.inl e2,_,e2⟩
      .subst z2;obtain⟨a1,z3⟩:=a3.tbls b _ q;have g:s'.heap.get? b=some { cls:=.none,data:=.fields (#[]++a1) }:=a0 b _ z3;have e1:=J b z;rw[e]at e1;cases e1;obtain⟨p,hp,ep⟩:=ay.mp z;refine⟨.inr (.inl ⟨?_,rfl,#[],a1,rfl,g⟩),_,g⟩;have t:=((hT p hp).1.tab (hT p hp).2).isCodeTable;rw[ep]at t;exact t
    exact⟨rfl,⟨λ b o e=>(key b o e).1,λ b o e=>(key b o e).2⟩,os,bare⟩
 have tbl:∀ b,b∈tabs.map (·.2)->b≠a:=λ b h z=>by
  have e:=J b h;rw[z,ha]at e;cases e
 cases hk:K.lookup a with
 | some o =>
  have e:=KX a o hk;rw[ha]at e;cases e;refine a2 (λ b=>if b∈tabs.map (·.2)then some (.tbl #[])else none) (λ b u z=>?_) (λ q hq=>if_pos (aX hq)) (.inr ⟨_,vs.toArray,_,hk,rfl,rfl,rfl,by rw[aw,a7];exact hl,by simpa using rv⟩) (λ b u z=>?_) λ z=>?_
  .by_cases hb:b∈tabs.map (·.2)
   .have Y:=(if_pos hb).symm.trans z;cases Y;exact .inr ⟨hb,rfl⟩
   .have Y:=(if_neg hb).symm.trans z;cases Y
  .by_cases hb:b∈tabs.map (·.2)
   .have Y:=(if_pos hb).symm.trans z;cases Y;exact J b hb
   .have Y:=(if_neg hb).symm.trans z;cases Y
  .exact absurd (if_neg λ y=>tbl a y rfl) z
 | none =>
  refine a2 (λ b=>if b=a then some (.frz { cls:=.type "list",data:=.seq vs.toArray } (.J (ns.map V.int)))else if b∈tabs.map (·.2)then some (.tbl #[])else none) (λ b u z=>?_) (λ q hq=>?_) (.inl (.inr ⟨{ cls:=.type "list",data:=.seq vs.toArray },if_pos rfl⟩)) (λ b u z=>?_) λ _=>hk
  .by_cases hb:b=a
   .have Y:=(if_pos hb).symm.trans z;cases Y;exact .inl ⟨hb,_,_,rfl⟩
   .have Y:=(if_neg hb).symm.trans z;by_cases hc:b∈tabs.map (·.2)
    .rw[if_pos hc]at Y;cases Y;exact .inr ⟨hc,rfl⟩
    .rw[if_neg hc]at Y;cases Y
  .have hm:q.2∈tabs.map (·.2):=aX hq;show(if _ then _ else if _ then _ else _)=_;rw[if_neg (tbl _ hm),if_pos hm]
  .by_cases hb:b=a
   .have Y:=(if_pos hb).symm.trans z;cases Y;subst hb;exact⟨ha,by rw[aq];exact hl,vs,_,rv,ha⟩
   .have Y:=(if_neg hb).symm.trans z;by_cases hc:b∈tabs.map (·.2)
    .rw[if_pos hc]at Y;cases Y;exact J b hc
    .rw[if_neg hc]at Y;cases Y
def bk4 {l:eG}{loose:yH}{K:Params->af}{sp:af->Sp} names 
  (hn:l.most=some n) (a5:n<=aV) (a2:d.params.defaults=[]) (hr:Room k kG)
  (hY:∀(w:World) (h:Heap),YP w h->(K w.params).In h/\∀ P∈ts,h.get? P=some (kC #[])) (a1:∀ w:World,cg0 (K w.params) names ts=true) (a7:∀ w:World,nD (K w.params)=true)
  (F:∀(w:World) (mg:yC) (fa:Addr) (h:Heap),(K w.params).In h->h.Ns bu mg->mg d.name=some (.ref fa) ->
   ∃ fd:cw,(∀(s:ag) (u:Value),mY s fd ⟨[u],[]⟩ [(x,u)]) /\
    ∀ base:Heap,(K w.params).In base->base.Ns bu mg->BM mg base->bO2 (K w.params) names base->FnOk l.prog w (K w.params) mg base CX0 k fa fd [x] (sp (K w.params)))
  (a4:∀(K:af) (H:Hp) (a:Addr) (ns:List Int),ns.length<=n->bS4 K names H->SqL K H a (ns.map V.int)->(∀ u,H a=some u->(∃ o xs,u=.frz o (.J xs))\/∃ ps,u=.tbl ps)->sp K [.ref a] H (λ v _=>v=.T true) E0) :
  nM q loose XP YP l.row.toRowW d [] (λ f vs=>ni f vs):=by
 refine Att.attach_call hn a2 λ w s₀ s₁ mg mb fa o pm cd a9 a vs ns G Y ho hd a8 a6 a0 Z J hg=>?_;obtain⟨KX,a3⟩:=hY w _ Y;obtain⟨fd,hb,hF⟩:=F w mg fa _ KX G.T.g a6;have hT:nB ((aE4 (K w.params) names).map (·.2)) s₁.heap:=λ p hp=>by
  obtain⟨y,hy,rfl⟩:=ay.mp hp;obtain⟨h1,h2⟩:=aw6.mp hy;have z:=aU.mp (a1 w) y.1 h1;rw[h2]at z;have z':(my (K w.params) y.2.1 y.2.2&&ts.contains y.2.2)=true:=z;rw[aj]at z';exact⟨PySem.W.codeHd_of_K KX z'.1,a3 _ (by simpa using z'.2)⟩
 have hm:∀ x∈names,∀ c P,bN (K w.params) x=some (c,P)->(c,P)∈(aE4 (K w.params) names).map (·.2):=λ x hx c P e=>ay.mpr ⟨(x,c,P),aw6.mpr ⟨hx,e⟩,rfl⟩;refine aX4 (tabs:=(aE4 (K w.params) names).map (·.2)) KX G.T.g G.T.b G.T.builtins G.T.nolimit hg ?_ hT (a7 w) a0 Z (ar J a5) hr (λ base k1 k2 k3 k4=>hF base k1 k2 k3 λ x hx c P e=>k4 _ (hm x hx c P e)) hb λ H hO hS hF=>a4 (K w.params) H a ns J (λ x hx c P e=>hO _ (hm x hx c P e)) hS hF;obtain⟨bm,ob,h1,h2,h3,h4,h5,h6⟩:=G.T.bmain;exact⟨bm,ob,h1,h2,h3,h4,h5,h6⟩
def spB (names:yH)(K:af):Sp:=λ vs H Q _=>∃(a:Addr) (ns:List Int),vs=[.ref a]/\SqF K H a (ns.map V.int)/\ns.length<=63/\bS4 K names H/\∀ H',Q (.T true) H'
def cd4 {K}{ns:List Int}(hl:ns.length<=63)(hB:bS4 K names H)(F:SqL K H a (ns.map V.int))(J:∀ u,H a=some u->(∃ o G,u=.frz o (.J G))\/∃ ps,u=.tbl ps):spB names K [.ref a] H (λ v _=>v=.T true) E0:=by
 refine⟨a,ns,rfl,⟨F,λ H' k=>?_⟩,hl,hB,λ _=>rfl⟩;rcases F with(h|⟨o,h⟩)|h
 .rcases J _ h with⟨_,_,z⟩|⟨_,z⟩<;>cases z
 .exact .inl (.inr ⟨o,k _ _ h rfl⟩)
 .exact .inr h
def cz2 (P:oU):String->LamI->Prop:=λ _ _=>False
noncomputable def sfx (x:Str):Str:=if x = "letter_table" then "least_fee" else "<lambda>"
def bR2 (names:yH)(K:af):List (Addr×Str):=names.map λ x=>(((bN K x).getD (0,0)).2,x ++ ".<locals>."++sfx x)
noncomputable def ci5 (names:yH)(K:af):List (Addr×Addr):=names.map λ x=>(bN K x).getD (0,0)
noncomputable def cn6 (K:af)(f:String):Option Addr:=match cR K bu (f)with
 | some (some (.ref a))=>(match K.lookup a with
  | some ⟨_,_,.func _,_⟩=>some a
  | _=>none)
 | _=>none
def aS4 {K}(h:cn6 K f=some a):cR K bu (f)=some (some (.ref a))/\∃ oc od z sl,K.lookup a=some ⟨oc,od,.func z,sl⟩:=by
 unfold cn6 at h;split at h
 .rename_i F e;split at h
  .rename_i oc od z sl e2;cases h;exact⟨e,_,_,_,_,e2⟩
  .cases h
 .cases h
abbrev bP1 (names:yH)(P:oU)(K:af):Gm:=⟨K,cn6 K,cz2 P,bR2 names K⟩
def ct6 {K}{z:yC}(X:K.In h)(G:h.Ns bu z):∀ f a ,(bP1 names P K).fa f=some a->z (f)=some (.ref a)/\∃ oc od F sl,(bP1 names P K).K.lookup a=some ⟨oc,od,.func F,sl⟩:=λ f a e=>⟨cL X G (aS4 e).1,(aS4 e).2⟩
def bq3 {K}(F:∀ x∈names,(bN K x).isSome=true)(q:spB names K vs H Q E):spT (bP1 names P K) vs H Q E:=by
 obtain⟨a,ns,e,G,hl,hB,z⟩:=q;refine⟨a,ns,e,G,hl,TabsH.init λ p hp=>?_,z⟩;simp only[bR2,bU]at hp;obtain⟨x,hx,rfl⟩:=ay.mp hp;exact hB x hx _ _ (aR8 (F x hx))
def by7 {K}(F:∀ x∈names,(bN K x).isSome=true)(G:BM z base)(hc:bO2 K names base):∀ y∈ci5 names K,cQ base y.1 y.2/\BM z base:=λ y hy=>by
 obtain⟨x,hx,rfl⟩:=ay.mp hy;exact⟨hc x hx _ _ (aR8 (F x hx)),G⟩
def bk9 {K}:bT5 (bP1 names P K) (ci5 names K) f sc N z (λ _ _ _=>false):=λ _ _ _ h=>by cases h
def cm1 (K:af)(n:Str)(st:Stmt):Prop:=∃(f:Addr) (od an:yI) (sl:yE) (oc kV dc pm cd ct:Value),cR K bu n=some (some (.ref f)) /\
 K.lookup f=some ⟨oc,od,.func (et n n (defArgs st) (zB st) (defScope st) .none kV dc pm an cd ct),sl⟩/\ig K cd n=true/\c6 K (.ref f)=true
def cx3 (n:Str)(st:Stmt)(ps:yH):Prop:=∀ kV doc pm (an:yI) cdv ct (us:yG),us.length=ps.length->bindArgs (et n n (defArgs st) (zB st) (defScope st) .none kV doc pm an cdv ct) ⟨us,[]⟩=pure (ps.zip us)
def bd0 {Q:List Value->Prop}(h:Q [])(us:yG)(hl:us.length=0):Q us:=by
 cases us with
 | nil=>exact h
 | cons _ _=>cases hl
def bdS {Q:List Value->Prop}(h:∀ a us,us.length=k->Q (a::us))(us:yG)(hl:us.length=k+1):Q us:=by
 cases us with
 | nil=>cases hl
 | cons a us=>exact h a us (Nat.succ.inj hl)
def bd1 {Q:List Value->Prop}(h:∀ a,Q [a]):∀ us:List Value,us.length=1->Q us:=bdS λ a=>bd0 (h a)
def bd2 {Q:List Value->Prop}(h:∀ a b,Q [a,b]):∀ us:List Value,us.length=2->Q us:=bdS λ a=>bd1 (h a)
def bd3 {Q:List Value->Prop}(h:∀ a b c,Q [a,b,c]):∀ us:List Value,us.length=3->Q us:=bdS λ a=>bd2 (h a)
def bd4 {Q:List Value->Prop}(h:∀ a b c d,Q [a,b,c,d]):∀ us:List Value,us.length=4->Q us:=bdS λ a=>bd3 (h a)
def bd5 {Q:List Value->Prop}(h:∀ a b c d e,Q [a,b,c,d,e]):∀ us:List Value,us.length=5->Q us:=bdS λ a=>bd4 (h a)
def DTB (names:yH)(P:oU)(n:String)(pc vc:Nat)(m:Ck->List Stmt->Bool)(st:Stmt):Prop:=∃ N ps,FnScope N ps (defScope st)/\ps.length=pc/\N.length=pc+vc/\cx3 n st ps/\(m ⟨N,defScope st,λ _ _ _=>false⟩ (zB st)=true \/
 False)
def DT (names:yH)(P:oU)(n:String)(d:pX)(st:Stmt):Prop:=DTB names P n d.ps d.vs (λ ck S=>mSs ck d.body S) st
def ae1 {names:yH}{P:oU}{K:af}{h:Heap}{J:yC}{n:String}{Z Y:Nat}{m:Ck->List Stmt->Bool}{st:Stmt}(X:K.In h)(G:h.Ns bu J)(hT:∀ x∈names,(bN K x).isSome=true)(hD:cm1 K n st)(hd:DTB names P n Z Y m st):GoodB (bP1 names P K) (ci5 names K) J n Z Y m:=by
 obtain⟨f,od,an,sl,oc,kV,dc,pm,cd,ct,a,l,c,k⟩:=hD;obtain⟨N,ps,h1,h2,h3,h4,z⟩:=hd;have F:=bA2 (st:=st) l c k;have D:DefAt K J n st ps f _:=⟨F,cL X G a,F.binds h4⟩
 rcases z with z|z
 .exact⟨_,_,_,_,_,_,D,h1,h2,h3,z,bk9⟩
 .exact z.elim
def good_of {K}{z}{n:String}{st}(X:K.In h)(G:h.Ns bu z)(hT:∀ x∈names,(bN K x).isSome=true)(hD:cm1 K n st)(hd:DT names P n d st):Good (bP1 names P K) (ci5 names K) z n d:=ae1 X G hT hD hd
theorem aL1 {α:Type}{Q:String->α->Prop}:∀ {tbl:List (String×α)},(∀ p∈tbl,Q p.1 p.2)->∀ f d,tbl.lookup f=some d->Q f d
 | [],_,f,d,h=>by cases h
 | (g,e)::tbl,H,f,d,h=>by
  rw[bz]at h;cases q:f==g with
  | true =>
   rw[q]at h;cases h;rw[eq_of_beq q];exact H (g,_) (ax ..)
  | false =>
   rw[q]at h;exact aL1 (λ p hp=>H p (ak _ hp)) f d h
def cw2 (K:af)(c:String):Bool:=match cR K bu (c)with|some (some (.ref Cc))=>cn3 K Cc&&(excI K Cc&&(bW K (.ref Cc) (.ref Cc)==some true&&(bo K (.ref Cc) (.type "ValueError")==some true&&cR K bu ("ValueError")==some none)))|_=>false
noncomputable def cv6 (K:af)(c:String):Bool:=match cR K bu (c)with|some (some (.ref _))=>true|_=>false
noncomputable def cv7 (K:af)(c d:String):Bool:=match cR K bu (c),cR K bu (d)with|some (some (.ref Cc)),some (some (.ref D))=>bo K (.ref Cc) (.ref D)==some (oM c d)&&bW K (.ref Cc) (.ref D)==some (oM c d)|_,_=>false
def bN2 (K:af)(cs ts:List String):Bool:=cs.all (cw2 K)&&(ts.all (cv6 K)&&cs.all λ c=>ts.all λ d=>cv7 K c d)
def ar8 {K:af}{z:yC}(X:K.In h)(G:h.Ns bu z)(hx:bN2 K F ts=true) :
  (∀ c:String,F.contains c=true->∃ Cc,z (c:Str)=some (.ref Cc)/\ExcCls K Cc/\excI K Cc=true)/\(∀ c:String,ts.contains c=true->∃ Cc,z (c:Str)=some (.ref Cc)) /\
  (∀(c d:String) (Cc D:Addr),F.contains c=true->ts.contains d=true->z (c:Str)=some (.ref Cc)->z (d:Str)=some (.ref D)->bo K (.ref Cc) (.ref D)=some (oM c d)) /\
  (∀(c d:String) (Cc D:Addr),F.contains c=true->ts.contains d=true->z (c:Str)=some (.ref Cc)->z (d:Str)=some (.ref D)->bW K (.ref Cc) (.ref D)=some (oM c d)) /\
  (∀(c:String) (Cc:Addr),F.contains c=true->z (c:Str)=some (.ref Cc)->bW K (.ref Cc) (.ref Cc)=some true)/\(∀ c:String,F.contains c=true->z ("ValueError":Str)=none) /\
  ∀(c:String) (Cc:Addr),F.contains c=true->z (c:Str)=some (.ref Cc)->bo K (.ref Cc) (.type "ValueError")=some true:=by
 unfold bN2 at hx;simp only[aj]at hx;obtain⟨Z,h2,h3⟩:=hx;have one:∀ c:String,F.contains c=true->∃ Cc,z (c:Str)=some (.ref Cc)/\ExcCls K Cc/\excI K Cc=true/\bW K (.ref Cc) (.ref Cc)=some true/\bo K (.ref Cc) (.type "ValueError")=some true/\z ("ValueError":Str)=none:=λ c hc=>by
  have q:=aU.mp Z c (eS.mp hc);unfold cw2 at q;split at q
  .rename_i Cc e;rw[aj,aj,aj,aj]at q;exact⟨Cc,cL X G e,bI2 q.1,q.2.1,eq_of_beq q.2.2.1,eq_of_beq q.2.2.2.1,lC X G (eq_of_beq q.2.2.2.2)⟩
  .cases q
 have two:∀(c d:String) (Cc D:Addr),F.contains c=true->ts.contains d=true->z (c:Str)=some (.ref Cc)->z (d:Str)=some (.ref D)->bo K (.ref Cc) (.ref D)=some (oM c d)/\bW K (.ref Cc) (.ref D)=some (oM c d):=λ c d Cc D hc hd mc Y=>by
  have q:=aU.mp (aU.mp h3 c (eS.mp hc)) d (eS.mp hd);unfold cv7 at q;split at q
  .rename_i J D' e1 e2;have m1:=cL X G e1;have m2:=cL X G e2;rw[mc]at m1;cases m1;rw[Y]at m2;cases m2;rw[aj]at q;exact⟨eq_of_beq q.1,eq_of_beq q.2⟩
  .cases q
 refine⟨λ c hc=>?_,λ c hc=>?_,λ c d Cc D a b e f=>(two c d Cc D a b e f).1,λ c d Cc D a b e f=>(two c d Cc D a b e f).2,λ c Cc hc hm=>?_,λ c hc=>?_,λ c Cc hc hm=>?_⟩
 .obtain⟨Cc,a,b,e,_⟩:=one c hc;exact⟨Cc,a,b,e⟩
 .have q:=aU.mp h2 c (eS.mp hc);unfold cv6 at q;split at q
  .rename_i Cc e;exact⟨Cc,cL X G e⟩
  .cases q
 .obtain⟨J,a,_,_,b,_⟩:=one c hc;rw[hm]at a;cases a;exact b
 .obtain⟨J,_,_,_,_,_,b⟩:=one c hc;exact b
 .obtain⟨J,a,_,_,_,b,_⟩:=one c hc;rw[hm]at a;cases a;exact b
end L2
end
noncomputable section
namespace DV
noncomputable def aG6:Df:=⟨"_law_bag",2,3,(.cons (.A (.Y 2) (.K (.int 0))) (.cons (.ite (.Z .lt (.X 1) (.bi .len (.cons (.X 0) .nil))) (.cons (.A (.Y 2) (.bi .abs (.cons (.ix (.X 0) (.X 1)) .nil))) .nil) .nil) (.cons (.A (.Y 3) (.G .add (.G .mul (.K (.int 7919)) (.X 1)) (.K (.int 17)))) (.cons (.fo (.Y 4) (.rg (.bi .min2 (.cons (.bi .len (.cons (.X 0) .nil)) (.cons (.K (.int 60)) .nil)))) (.cons (.A (.Y 3) (.G .mod (.G .add (.G .add (.G .mul (.X 3) (.K (.int 48271))) (.G .mod (.ix (.X 0) (.X 4)) (.K (.int 2147483647)))) (.X 4)) (.K (.int 2147483629)))) .nil)) (.cons (.ite (.Z .lt (.X 2) (.G .pow (.K (.int 10)) (.K (.int 18)))) (.cons (.A (.Y 2) (.K (.int 0))) .nil) .nil) (.cons (.ret (.J (.cons (.X 2) (.cons (.X 3) .nil)))) .nil))))))⟩
noncomputable def af8:Df:=⟨"_law_take",2,3,(.cons (.ite (.Z .gt (.ix (.X 0) (.K (.int 0))) (.K (.int 0))) (.cons (.A (.Y 2) (.G .mod (.ix (.X 0) (.K (.int 0))) (.X 1))) (.cons (.setIx (.X 0) (.K (.int 0)) (.G .fdiv (.ix (.X 0) (.K (.int 0))) (.X 1))) (.cons (.ret (.X 2)) .nil))) .nil) (.cons (.A (.Y 3) (.K (.int 0))) (.cons (.A (.Y 4) (.K (.int 1))) (.cons (.whl (.Z .lt (.X 4) (.X 1)) (.cons (.setIx (.X 0) (.K (.int 1)) (.G .mod (.G .add (.G .mul (.ix (.X 0) (.K (.int 1))) (.K (.int 48271))) (.K (.int 7919))) (.K (.int 2147483647)))) (.cons (.A (.Y 3) (.G .add (.G .mul (.X 3) (.K (.int 1073741789))) (.G .mod (.G .mul (.G .fdiv (.ix (.X 0) (.K (.int 1))) (.K (.int 8))) (.K (.int 69621))) (.K (.int 1073741789))))) (.cons (.A (.Y 4) (.G .mul (.X 4) (.K (.int 1073741789)))) .nil)))) (.cons (.ret (.G .mod (.X 3) (.X 1))) .nil)))))⟩
noncomputable def ag6:Df:=⟨"_law_rooms",2,1,(.cons (.A (.Y 2) (.call "_law_take" (.ex (.X 0) (.ex (.G .shl (.K (.int 1)) (.X 1)) .nil)))) (.cons (.ret (.mk .tuple (.compIf (.Y 0) (.rg (.X 1)) (.Z .eq (.G .mod (.G .fdiv (.X 1) (.G .shl (.K (.int 1)) (.X 0))) (.K (.int 2))) (.K (.int 1))) (.X 0) [none,some 2]))) .nil))⟩
noncomputable def aa4:Df:=⟨"letters_of",1,0,(.cons (.ret (.slU (.gl "LETTERS") (.ix (.X 0) (.K (.int 0))))) .nil)⟩
noncomputable def aa6:Df:=⟨"rooms_of",1,0,(.cons (.ret (.ix (.X 0) (.K (.int 1)))) .nil)⟩
noncomputable def ab1:Df:=⟨"begins_of",1,0,(.cons (.ret (.ix (.X 0) (.K (.int 2)))) .nil)⟩
noncomputable def ac1:Df:=⟨"ends_of",1,0,(.cons (.ret (.ix (.X 0) (.K (.int 3)))) .nil)⟩
noncomputable def aa5:Df:=⟨"doors_of",1,0,(.cons (.ret (.ix (.X 0) (.K (.int 4)))) .nil)⟩
noncomputable def bC1:Df:=⟨"grid",2,2,.nil⟩
noncomputable def ae3:Df:=⟨"least",1,0,(.cons (.ret (.mkD .min (.compIf (.Y 0) (.seq (.X 0)) (.notN (.X 0)) (.X 0) [none]) (.K .N))) .nil)⟩
noncomputable def ae4:Df:=⟨"added",2,0,(.cons (.ite (.or (.isN (.X 0)) (.isN (.X 1))) (.cons (.ret (.K .N)) .nil) .nil) (.cons (.ret (.G .add (.X 0) (.X 1))) .nil))⟩
noncomputable def an9:Df:=⟨"cut",2,0,(.cons (.ite (.or (.isN (.X 0)) (.Z .le (.X 0) (.X 1))) (.cons (.ret (.X 0)) .nil) .nil) (.cons (.ret (.G .add (.X 1) (.K (.int 1)))) .nil))⟩
noncomputable def ac7:Df:=⟨"first_row",1,1,(.cons (.A (.Y 1) (.call "begins_of" (.ex (.X 0) .nil))) (.cons (.ret (.mk .tuple (.comp (.Y 0) (.rg (.call "rooms_of" (.ex (.X 0) .nil))) (.ite (.Z .isin (.X 0) (.X 1)) (.K (.int 0)) (.K .N)) [none,some 1]))) .nil))⟩
noncomputable def ab6:Df:=⟨"least_into",4,0,(.cons (.ret (.call "least" (.ex (.mk .list (.compIf (.tp [0,1,2,3]) (.seq (.call "doors_of" (.ex (.X 0) .nil))) (.and (.Z .eq (.X 1) (.X 4)) (.Z .eq (.X 2) (.X 5))) (.call "added" (.ex (.ix (.X 6) (.X 0)) (.ex (.X 3) .nil))) [none,none,none,none,some 2,some 3,some 1])) .nil))) .nil)⟩
noncomputable def aq9:Df:=⟨"led",4,0,(.cons (.ret (.mk .tuple (.comp (.Y 0) (.rg (.call "rooms_of" (.ex (.X 0) .nil))) (.call "cut" (.ex (.call "least_into" (.ex (.X 1) (.ex (.X 2) (.ex (.X 3) (.ex (.X 0) .nil))))) (.ex (.X 4) .nil))) [none,some 0,some 2,some 3,some 1]))) .nil)⟩
noncomputable def ae7:Df:=⟨"end_of",2,0,(.cons (.ret (.call "least" (.ex (.mk .list (.comp (.Y 0) (.seq (.call "ends_of" (.ex (.X 0) .nil))) (.ix (.X 1) (.X 0)) [none,some 1])) .nil))) .nil)⟩
noncomputable def av4:Df:=⟨"sign_product",2,1,.nil⟩
noncomputable def al7:Lm:=⟨"sign_product.0",2,3,(.mk .min (.comp (.Y 0) (.rg (.X 2)) (.bi .max2 (.cons (.ix (.ix (.X 1) (.X 2)) (.X 0)) (.cons (.ix (.ix (.X 3) (.X 0)) (.X 4)) .nil))) [none,some 3,some 0,some 4,some 1]))⟩
noncomputable def ad4:Df:=⟨"_law_whole",3,0,(.cons (.ret (.and (.bi .isInt (.cons (.X 0) .nil)) (.and (.not (.bi .isBool (.cons (.X 0) .nil))) (.chain .le .le (.X 1) (.X 0) (.X 2))))) .nil)⟩
noncomputable def aa7:Df:=⟨"check_pair",2,0,(.cons (.ite (.Z .ne (.call "letters_of" (.ex (.X 0) .nil)) (.call "letters_of" (.ex (.X 1) .nil))) (.cons .raise .nil) .nil) .nil)⟩
noncomputable def aa8:Df:=⟨"check_rooms",1,0,(.cons (.ite (.Z .gt (.X 0) (.gl "MOST_ROOMS")) (.cons .raise .nil) .nil) .nil)⟩
noncomputable def ab9:Df:=⟨"check_tolls",2,0,(.cons (.ite (.Z .gt (.G .add (.call "greatest_toll" (.ex (.X 0) .nil)) (.call "greatest_toll" (.ex (.X 1) .nil))) (.gl "MOST_TOLL")) (.cons .raise .nil) .nil) .nil)⟩
noncomputable def aa3:Df:=⟨"greatest_toll",1,0,(.cons (.ret (.mkD .max (.comp (.Y 0) (.seq (.call "doors_of" (.ex (.X 0) .nil))) (.ix (.X 0) (.K (.int 3))) [none]) (.K (.int 0)))) .nil)⟩
noncomputable def ad3:Df:=⟨"brought",5,6,(.cons (.A (.Y 5) .dicT) (.cons (.fo (.tp [6,7,8,9]) (.seq (.X 4)) (.cons (.A (.Y 10) (.tp (.cons (.X 6) (.cons (.X 7) (.cons (.X 8) .nil))))) (.cons (.setIx (.X 5) (.X 10) (.bi .min2 (.cons (.X 9) (.cons (.get2 (.X 5) (.X 10) (.X 9)) .nil)))) .nil))) (.cons (.ret (.tp (.cons (.bi .len (.cons (.call "letters_of" (.ex (.X 0) .nil)) .nil)) (.cons (.X 1) (.cons (.X 2) (.cons (.X 3) (.cons (.mk .tuple (.itm (.X 5))) .nil))))))) .nil)))⟩
noncomputable def af6:Df:=⟨"summed",2,3,(.cons (.ex (.call "check_pair" (.ex (.X 0) (.ex (.X 1) .nil)))) (.cons (.A (.Y 2) (.call "rooms_of" (.ex (.X 1) .nil))) (.cons (.ex (.call "check_rooms" (.ex (.G .mul (.call "rooms_of" (.ex (.X 0) .nil)) (.X 2)) .nil))) (.cons (.ex (.call "check_tolls" (.ex (.X 0) (.ex (.X 1) .nil)))) (.cons (.A (.Y 3) (.call "both_rooms" (.ex (.call "begins_of" (.ex (.X 0) .nil)) (.ex (.call "begins_of" (.ex (.X 1) .nil)) (.ex (.X 2) .nil))))) (.cons (.A (.Y 4) (.call "both_rooms" (.ex (.call "ends_of" (.ex (.X 0) .nil)) (.ex (.call "ends_of" (.ex (.X 1) .nil)) (.ex (.X 2) .nil))))) (.cons (.ret (.call "brought" (.ex (.X 0) (.ex (.G .mul (.call "rooms_of" (.ex (.X 0) .nil)) (.X 2)) (.ex (.X 3) (.ex (.X 4) (.ex (.call "both_doors" (.ex (.X 0) (.ex (.X 1) (.ex (.X 2) .nil)))) .nil))))))) .nil)))))))⟩
noncomputable def ac4:Df:=⟨"both_rooms",3,2,(.cons (.A (.Y 3) (.J .nil)) (.cons (.fo (.Y 4) (.seq (.X 0)) (.cons (.ex (.ext (.X 3) (.comp (.Y 0) (.seq (.X 1)) (.G .add (.G .mul (.X 1) (.X 2)) (.X 0)) [none,some 4,some 2]))) .nil)) (.cons (.ret (.mk .tuple (.seq (.X 3)))) .nil)))⟩
noncomputable def ac3:Df:=⟨"both_doors",3,5,(.cons (.A (.Y 3) (.J .nil)) (.cons (.fo (.tp [4,5,6,7]) (.seq (.call "doors_of" (.ex (.X 0) .nil))) (.cons (.ex (.ext (.X 3) (.compIf (.Y 0) (.seq (.call "doors_of" (.ex (.X 1) .nil))) (.Z .eq (.ix (.X 0) (.K (.int 1))) (.X 1)) (.tp (.cons (.G .add (.G .mul (.X 2) (.X 3)) (.ix (.X 0) (.K (.int 0)))) (.cons (.X 1) (.cons (.G .add (.G .mul (.X 4) (.X 3)) (.ix (.X 0) (.K (.int 2)))) (.cons (.G .add (.X 5) (.ix (.X 0) (.K (.int 3)))) .nil))))) [none,some 5,some 4,some 2,some 6,some 7]))) .nil)) (.cons (.ret (.X 3)) .nil)))⟩
noncomputable def ai1:Df:=⟨"_law_sized",4,5,(.cons (.A (.Y 4) (.call "_law_take" (.ex (.X 0) (.ex (.K (.int 13)) .nil)))) (.cons (.ite (.Z .eq (.call "_law_take" (.ex (.X 0) (.ex (.K (.int 8)) .nil))) (.K (.int 7))) (.cons (.A (.Y 4) (.call "_law_take" (.ex (.X 0) (.ex (.K (.int 76)) .nil)))) .nil) .nil) (.cons (.A (.Y 5) (.J .nil)) (.cons (.fo (.Y 6) (.rg (.X 4)) (.cons (.A (.Y 7) (.call "_law_take" (.ex (.X 0) (.ex (.X 2) .nil)))) (.cons (.A (.Y 8) (.ix (.K (.str [97,98,99])) (.call "_law_take" (.ex (.X 0) (.ex (.X 1) .nil))))) (.cons (.ex (.me .append (.X 5) (.cons (.tp (.cons (.X 7) (.cons (.X 8) (.cons (.call "_law_take" (.ex (.X 0) (.ex (.X 2) .nil))) (.cons (.call "_law_take" (.ex (.X 0) (.ex (.G .add (.X 3) (.K (.int 1))) .nil))) .nil))))) .nil))) .nil)))) (.cons (.ret (.tp (.cons (.X 1) (.cons (.X 2) (.cons (.call "_law_rooms" (.ex (.X 0) (.ex (.X 2) .nil))) (.cons (.call "_law_rooms" (.ex (.X 0) (.ex (.X 2) .nil))) (.cons (.mk .tuple (.seq (.X 5))) .nil))))))) .nil)))))⟩
noncomputable def ad1:Df:=⟨"_law_are_rooms",2,2,(.cons (.ite (.not (.bi .isTup (.cons (.X 0) .nil))) (.cons (.ret (.K (.T false))) .nil) .nil) (.cons (.A (.Y 2) (.neg (.K (.int 1)))) (.cons (.fo (.Y 3) (.seq (.X 0)) (.cons (.ite (.not (.call "_law_whole" (.ex (.X 3) (.ex (.G .add (.X 2) (.K (.int 1))) (.ex (.G .sub (.X 1) (.K (.int 1))) .nil))))) (.cons (.ret (.K (.T false))) .nil) .nil) (.cons (.A (.Y 2) (.X 3)) .nil))) (.cons (.ret (.K (.T true))) .nil))))⟩
noncomputable def ad0:Df:=⟨"_law_is_door",3,0,(.cons (.ite (.or (.not (.bi .isTup (.cons (.X 0) .nil))) (.or (.Z .ne (.bi .len (.cons (.X 0) .nil)) (.K (.int 4))) (.or (.not (.bi .isStr (.cons (.ix (.X 0) (.K (.int 1))) .nil))) (.Z .ne (.bi .len (.cons (.ix (.X 0) (.K (.int 1))) .nil)) (.K (.int 1)))))) (.cons (.ret (.K (.T false))) .nil) .nil) (.cons (.ite (.or (.not (.call "_law_whole" (.ex (.ix (.X 0) (.K (.int 0))) (.ex (.K (.int 0)) (.ex (.G .sub (.X 2) (.K (.int 1))) .nil))))) (.not (.call "_law_whole" (.ex (.ix (.X 0) (.K (.int 2))) (.ex (.K (.int 0)) (.ex (.G .sub (.X 2) (.K (.int 1))) .nil)))))) (.cons (.ret (.K (.T false))) .nil) .nil) (.cons (.ret (.and (.Z .isin (.ix (.X 0) (.K (.int 1))) (.slU (.K (.str [97,98,99])) (.X 1))) (.call "_law_whole" (.ex (.ix (.X 0) (.K (.int 3))) (.ex (.K (.int 0)) (.ex (.K (.int 3)) .nil)))))) .nil)))⟩
noncomputable def ac0:Df:=⟨"_law_is_machine",2,0,(.cons (.ite (.or (.not (.bi .isTup (.cons (.X 0) .nil))) (.or (.Z .ne (.bi .len (.cons (.X 0) .nil)) (.K (.int 5))) (.not (.call "_law_whole" (.ex (.ix (.X 0) (.K (.int 0))) (.ex (.X 1) (.ex (.X 1) .nil))))))) (.cons (.ret (.K (.T false))) .nil) .nil) (.cons (.ite (.or (.not (.call "_law_whole" (.ex (.ix (.X 0) (.K (.int 1))) (.ex (.K (.int 1)) (.ex (.K (.int 5)) .nil))))) (.or (.not (.bi .isTup (.cons (.ix (.X 0) (.K (.int 4))) .nil))) (.Z .gt (.bi .len (.cons (.ix (.X 0) (.K (.int 4))) .nil)) (.K (.int 75))))) (.cons (.ret (.K (.T false))) .nil) .nil) (.cons (.ite (.or (.not (.call "_law_are_rooms" (.ex (.ix (.X 0) (.K (.int 2))) (.ex (.ix (.X 0) (.K (.int 1))) .nil)))) (.not (.call "_law_are_rooms" (.ex (.ix (.X 0) (.K (.int 3))) (.ex (.ix (.X 0) (.K (.int 1))) .nil))))) (.cons (.ret (.K (.T false))) .nil) .nil) (.cons (.ret (.mk .all (.comp (.Y 0) (.seq (.ix (.X 0) (.K (.int 4)))) (.call "_law_is_door" (.ex (.X 0) (.ex (.X 1) (.ex (.ix (.X 2) (.K (.int 1))) .nil)))) [none,some 1,some 0]))) .nil))))⟩
noncomputable def ag2:Df:=⟨"moved",2,0,(.cons (.ret (.mk .tuple (.comp (.Y 0) (.seq (.X 0)) (.G .add (.X 0) (.X 1)) [none,some 1]))) .nil)⟩
noncomputable def ab4:Df:=⟨"doors_beside",2,2,(.cons (.A (.Y 2) (.call "rooms_of" (.ex (.X 0) .nil))) (.cons (.A (.Y 3) (.mk .list (.comp (.tp [0,1,2,3]) (.seq (.call "doors_of" (.ex (.X 1) .nil))) (.tp (.cons (.G .add (.X 0) (.X 4)) (.cons (.X 1) (.cons (.G .add (.X 2) (.X 4)) (.cons (.X 3) .nil))))) [none,none,none,none,some 2]))) (.cons (.ret (.G .add (.mk .list (.seq (.call "doors_of" (.ex (.X 0) .nil)))) (.X 3))) .nil)))⟩
noncomputable def af5:Df:=⟨"lesser",2,3,(.cons (.ex (.call "check_pair" (.ex (.X 0) (.ex (.X 1) .nil)))) (.cons (.A (.Y 2) (.call "rooms_of" (.ex (.X 0) .nil))) (.cons (.ex (.call "check_rooms" (.ex (.G .add (.X 2) (.call "rooms_of" (.ex (.X 1) .nil))) .nil))) (.cons (.A (.Y 3) (.G .add (.call "begins_of" (.ex (.X 0) .nil)) (.call "moved" (.ex (.call "begins_of" (.ex (.X 1) .nil)) (.ex (.X 2) .nil))))) (.cons (.A (.Y 4) (.G .add (.call "ends_of" (.ex (.X 0) .nil)) (.call "moved" (.ex (.call "ends_of" (.ex (.X 1) .nil)) (.ex (.X 2) .nil))))) (.cons (.ret (.call "brought" (.ex (.X 0) (.ex (.G .add (.X 2) (.call "rooms_of" (.ex (.X 1) .nil))) (.ex (.X 3) (.ex (.X 4) (.ex (.call "doors_beside" (.ex (.X 0) (.ex (.X 1) .nil))) .nil))))))) .nil))))))⟩
noncomputable def af1:Df:=⟨"behind",2,3,(.cons (.ex (.call "check_pair" (.ex (.X 0) (.ex (.X 1) .nil)))) (.cons (.A (.Y 2) (.call "rooms_of" (.ex (.X 0) .nil))) (.cons (.ex (.call "check_rooms" (.ex (.G .add (.X 2) (.call "rooms_of" (.ex (.X 1) .nil))) .nil))) (.cons (.A (.Y 3) (.call "moved" (.ex (.call "ends_of" (.ex (.X 1) .nil)) (.ex (.X 2) .nil)))) (.cons (.ite (.call "lets_the_empty_word_by" (.ex (.X 1) .nil)) (.cons (.A (.Y 3) (.G .add (.call "ends_of" (.ex (.X 0) .nil)) (.X 3))) .nil) .nil) (.cons (.A (.Y 4) (.G .add (.call "doors_beside" (.ex (.X 0) (.ex (.X 1) .nil))) (.call "doors_across" (.ex (.X 0) (.ex (.X 1) .nil))))) (.cons (.ret (.call "brought" (.ex (.X 0) (.ex (.G .add (.X 2) (.call "rooms_of" (.ex (.X 1) .nil))) (.ex (.call "begins_of" (.ex (.X 0) .nil)) (.ex (.X 3) (.ex (.X 4) .nil))))))) .nil)))))))⟩
noncomputable def aa2:Df:=⟨"lets_the_empty_word_by",1,0,(.cons (.ret (.mk .any (.comp (.Y 0) (.seq (.call "begins_of" (.ex (.X 0) .nil))) (.Z .isin (.X 0) (.call "ends_of" (.ex (.X 1) .nil))) [none,some 0]))) .nil)⟩
noncomputable def ab8:Df:=⟨"doors_across",2,6,(.cons (.A (.Y 2) (.call "rooms_of" (.ex (.X 0) .nil))) (.cons (.A (.Y 3) (.J .nil)) (.cons (.fo (.tp [4,5,6,7]) (.seq (.call "doors_of" (.ex (.X 1) .nil))) (.cons (.ite (.Z .isin (.X 4) (.call "begins_of" (.ex (.X 1) .nil))) (.cons (.ex (.ext (.X 3) (.comp (.Y 0) (.seq (.call "ends_of" (.ex (.X 0) .nil))) (.tp (.cons (.X 0) (.cons (.X 1) (.cons (.G .add (.X 2) (.X 3)) (.cons (.X 4) .nil))))) [none,some 5,some 6,some 2,some 7]))) .nil) .nil) .nil)) (.cons (.ret (.X 3)) .nil))))⟩
noncomputable def af3:Df:=⟨"dearer",4,7,(.cons (.ex (.call "check_pair" (.ex (.X 0) (.ex (.X 1) .nil)))) (.cons (.A (.Y 4) (.G .mul (.gl "MOST_TOLL") (.X 3))) (.cons (.A (.Y 5) (.tp (.cons (.call "first_row" (.ex (.X 0) .nil)) (.cons (.call "first_row" (.ex (.X 1) .nil)) .nil)))) (.cons (.A (.Y 6) (.J (.cons (.tp (.cons (.K (.str [])) (.cons (.X 5) .nil))) .nil))) (.cons (.A (.Y 7) (.dicU (.X 5) (.K (.T true)))) (.cons (.fo (.Y 8) (.rngD (.X 3)) (.cons (.fo (.tp [9,10]) (.seq (.X 6)) (.cons (.ite (.call "is_dearer" (.ex (.call "end_of" (.ex (.X 0) (.ex (.ix (.X 10) (.K (.int 0))) .nil))) (.ex (.call "end_of" (.ex (.X 1) (.ex (.ix (.X 10) (.K (.int 1))) .nil))) (.ex (.X 2) .nil)))) (.cons (.ret (.X 9)) .nil) .nil) .nil)) (.cons (.ite (.Z .gt (.X 8) (.K (.int 0))) (.cons (.A (.Y 6) (.call "level_behind" (.ex (.X 0) (.ex (.X 1) (.ex (.X 4) (.ex (.X 6) (.ex (.X 7) .nil))))))) .nil) .nil) .nil))) (.cons (.ret (.K .N)) .nil)))))))⟩
noncomputable def ac6:Df:=⟨"is_dearer",3,0,(.cons (.ite (.isN (.X 1)) (.cons (.ret (.K (.T false))) .nil) .nil) (.cons (.ret (.or (.isN (.X 0)) (.Z .gt (.X 0) (.G .mul (.X 2) (.X 1))))) .nil))⟩
noncomputable def ab3:Df:=⟨"level_behind",5,5,(.cons (.A (.Y 5) (.J .nil)) (.cons (.fo (.tp [6,7]) (.seq (.X 3)) (.cons (.fo (.Y 8) (.seq (.call "letters_of" (.ex (.X 0) .nil))) (.cons (.A (.Y 9) (.tp (.cons (.call "led" (.ex (.X 0) (.ex (.X 2) (.ex (.ix (.X 7) (.K (.int 0))) (.ex (.X 8) .nil))))) (.cons (.call "led" (.ex (.X 1) (.ex (.X 2) (.ex (.ix (.X 7) (.K (.int 1))) (.ex (.X 8) .nil))))) .nil)))) (.cons (.ite (.Z .notin (.X 9) (.X 4)) (.cons (.setIx (.X 4) (.X 9) (.K (.T true))) (.cons (.ex (.me .append (.X 5) (.cons (.tp (.cons (.G .add (.X 6) (.X 8)) (.cons (.X 9) .nil))) .nil))) .nil)) .nil) .nil))) .nil)) (.cons (.ret (.X 5)) .nil)))⟩
noncomputable def af2:Df:=⟨"_law_made",3,0,(.cons (.ite (.Z .eq (.X 0) (.K (.int 0))) (.cons (.ret (.call "summed" (.ex (.X 1) (.ex (.X 2) .nil)))) .nil) .nil) (.cons (.ite (.Z .eq (.X 0) (.K (.int 1))) (.cons (.ret (.call "lesser" (.ex (.X 1) (.ex (.X 2) .nil)))) .nil) .nil) (.cons (.ret (.call "behind" (.ex (.X 1) (.ex (.X 2) .nil)))) .nil)))⟩
noncomputable def ad6:Df:=⟨"_law_greatest",1,0,(.cons (.ret (.mkD .max (.comp (.Y 0) (.seq (.ix (.X 0) (.K (.int 4)))) (.ix (.X 0) (.K (.int 3))) [none]) (.K (.int 0)))) .nil)⟩
noncomputable def ac8:Df:=⟨"_law_due",3,0,(.cons (.ite (.Z .ne (.ix (.X 1) (.K (.int 0))) (.ix (.X 2) (.K (.int 0)))) (.cons (.ret (.K (.str [112,97,105,114]))) .nil) .nil) (.cons (.ite (.and (.Z .eq (.X 0) (.K (.int 0))) (.or (.Z .gt (.G .mul (.ix (.X 1) (.K (.int 1))) (.ix (.X 2) (.K (.int 1)))) (.K (.int 5))) (.Z .gt (.G .add (.call "_law_greatest" (.ex (.X 1) .nil)) (.call "_law_greatest" (.ex (.X 2) .nil))) (.K (.int 3))))) (.cons (.ret (.K (.str [109,117,99,104]))) .nil) .nil) (.cons (.ite (.and (.or (.Z .eq (.X 0) (.K (.int 1))) (.Z .eq (.X 0) (.K (.int 2)))) (.Z .gt (.G .add (.ix (.X 1) (.K (.int 1))) (.ix (.X 2) (.K (.int 1)))) (.K (.int 5)))) (.cons (.ret (.K (.str [109,117,99,104]))) .nil) .nil) (.cons (.ret (.K (.str [109,97,100,101]))) .nil))))⟩
noncomputable def ae0:Df:=⟨"law",1,7,(.cons (.A (.Y 1) (.call "_law_bag" (.ex (.X 0) (.ex (.K (.int 0)) .nil)))) (.cons (.A (.Y 2) (.G .add (.K (.int 1)) (.call "_law_take" (.ex (.X 1) (.ex (.K (.int 3)) .nil))))) (.cons (.A (.Y 3) (.call "_law_sized" (.ex (.X 1) (.ex (.X 2) (.ex (.G .add (.K (.int 1)) (.call "_law_take" (.ex (.X 1) (.ex (.K (.int 5)) .nil)))) (.ex (.call "_law_take" (.ex (.X 1) (.ex (.K (.int 4)) .nil))) .nil)))))) (.cons (.A (.Y 1) (.call "_law_bag" (.ex (.X 0) (.ex (.K (.int 1)) .nil)))) (.cons (.ite (.Z .eq (.call "_law_take" (.ex (.X 1) (.ex (.K (.int 3)) .nil))) (.K (.int 0))) (.cons (.A (.Y 2) (.G .add (.K (.int 1)) (.call "_law_take" (.ex (.X 1) (.ex (.K (.int 3)) .nil))))) .nil) .nil) (.cons (.A (.Y 4) (.call "_law_sized" (.ex (.X 1) (.ex (.X 2) (.ex (.G .add (.K (.int 1)) (.call "_law_take" (.ex (.X 1) (.ex (.K (.int 5)) .nil)))) (.ex (.call "_law_take" (.ex (.X 1) (.ex (.K (.int 4)) .nil))) .nil)))))) (.cons (.fo (.tp [5,6]) (.seq (.J (.cons (.tp (.cons (.X 3) (.cons (.X 4) .nil))) (.cons (.tp (.cons (.X 4) (.cons (.X 3) .nil))) (.cons (.tp (.cons (.X 3) (.cons (.X 3) .nil))) (.cons (.tp (.cons (.X 4) (.cons (.X 4) .nil))) (.cons (.tp (.cons (.X 3) (.cons (.X 4) .nil))) .nil))))))) (.cons (.fo (.Y 7) (.rg (.K (.int 4))) (.cons (.ite (.Z .ne (.call "_law_outcome" (.ex (.X 7) (.ex (.X 5) (.ex (.X 6) .nil)))) (.call "_law_due" (.ex (.X 7) (.ex (.X 5) (.ex (.X 6) .nil))))) (.cons (.ret (.K (.T false))) .nil) .nil) .nil)) .nil)) (.cons (.ret (.K (.T true))) .nil))))))))⟩
noncomputable def cx8:Df:=⟨"_law_on",3,5,(.cons (.A (.Y 3) (.mk .list (.comp (.Y 0) (.seq (.X 2)) (.K .N) [none]))) (.cons (.fo (.tp [4,5,6,7]) (.seq (.ix (.X 0) (.K (.int 4)))) (.cons (.ite (.and (.Z .eq (.X 5) (.X 1)) (.notN (.ix (.X 2) (.X 4)))) (.cons (.ite (.or (.isN (.ix (.X 3) (.X 6))) (.Z .lt (.G .add (.ix (.X 2) (.X 4)) (.X 7)) (.ix (.X 3) (.X 6)))) (.cons (.setIx (.X 3) (.X 6) (.G .add (.ix (.X 2) (.X 4)) (.X 7))) .nil) .nil) .nil) .nil) .nil)) (.cons (.ret (.X 3)) .nil)))⟩
class Has (P:Pr)(d:Df):Prop where
 eq:P.df d.name=some d
class HasL (P:Pr)(d:Lm):Prop where
 eq:P.lm d.id=some d
class HasC (P:Pr)(x:String)(v:D):Prop where
 eq:P.con x=some v
def fin (s:Sto)(c:Ct)(s':Sto):R D:=match c with
 | .ret v=>zt s v s'
 | .next _=>zt s .N s'
 | _=>.B
@[simp] theorem fin_ret s v s' :fin s (.ret v) s'=zt s v s':=rfl
@[simp] theorem fin_next s U s' :fin s (.next U) s'=zt s .N s':=rfl
def za d [h:Has P d](hl:l.length=d.ps) :
  (aa0 P (n+1)).call d.name l s=(exs (aa0 P n) d.body (l.map some++ah d.vs none) s).bind (fin s):=by
 simp only[aa0,h.eq,hl];rfl
def aJ9 [h:HasC P x v]:(aa0 P n).con x=some v:=by
 cases n<;>exact h.eq
def aI0 s t :aA2 s (s++t)=true:=by
 unfold aA2;rw[aU];intro i z;rw[bR]at z;rw[aS z];simp
def aH1 s t r o (h:o.bnd s.length=true):aA2 s (s.set r o++t)=true:=by
 unfold aA2;rw[aU];intro i z;rw[bR]at z;rw[aS (by rw[bf];exact z)];by_cases e:r=i
 .subst e;rw[bj z];simp[h]
 .rw[bH e];simp
def zF (h:∀ n,d.bnd n=true)(hr:∀ r,d≠.ref r):zt s d (s++t)=.ok d s:=by
 unfold zt;rw[aI0,if_pos rfl];cases d with
 | ref r=>exact absurd rfl (hr r)
 | _=>simp[h]
def zo (h:∀ n,d.bnd n=true)(hr:∀ r,d≠.ref r):zt s d s=.ok d s:=by
 have:=zF (s:=s) (t:=[]) h hr
 rwa [bh]at this
def aF1 (h:∀ n,d.bnd n=true)(hr:∀ r,d≠.ref r)(ho:o.bnd s.length=true):zt s d (s.set r o++t)=.ok d (s.set r o):=by
 unfold zt;rw[aH1 s t r o ho,if_pos rfl];have e:(s.set r o++t).take s.length=s.set r o:=by rw[gM (by simp),fS (by simp)]
 cases d with
 | ref r=>exact absurd rfl (hr r)
 | _=>simp only[h,if_true,e]
def al8 (h:∀ n,d.bnd n=true)(hr:∀ r,d≠.ref r)(ho:o.bnd s.length=true):zt s d (s.set r o)=.ok d (s.set r o):=by
 have:=aF1 (t:=[]) (r:=r) h hr ho
 rwa [bh]at this
def aj5 { u:Sto}(ho:o.bnd s.length=true):zt s (.ref (s.length+t.length)) (s++(t++o::u))=.ok (.ref s.length) (s++[o]):=by
 unfold zt;rw[aI0,if_pos rfl];simp[ho]
@[simp] theorem bg9 :zt s (.int i) s=.ok (.int i) s:=zo (λ _=>rfl) (by nofun)
@[simp] theorem ai8 :zt s (.T i) s=.ok (.T i) s:=zo (λ _=>rfl) (by nofun)
@[simp] theorem qX :zt s .N s=.ok .N s:=zo (λ _=>rfl) (by nofun)
@[simp] theorem zG :zt s (.str x) s=.ok (.str x) s:=zo (λ _=>rfl) (by nofun)
theorem ja :∀ {n} {U} {s},jk c g n U s≠.B->jk c g (n+1) U s=jk c g n U s
 | 0,_,_,h=>absurd rfl h
 | n+1,U,s,h=>by
  rw[show jk c g (n+1+1) U s=tru (c U s) (λ b s=>if b then(g U s).bind λ z s=>match z with
   | .next U=>jk c g (n+1) U s|.cont U=>jk c g (n+1) U s|.brk U=>.ok (.next U) s|.ret d=>.ok (.ret d) s else .ok (.next U) s)from rfl]
  have e:jk c g (n+1) U s=tru (c U s) (λ b s=>if b then(g U s).bind λ z s=>match z with
   | .next U=>jk c g n U s|.cont U=>jk c g n U s|.brk U=>.ok (.next U) s|.ret d=>.ok (.ret d) s else .ok (.next U) s):=rfl
  rw[e]at h ⊢;unfold tru at h ⊢;cases hc:c U s with
  | exc _ _=>rfl
  | B=>rfl
  | ok d s1 =>
   rw[hc]at h;cases d with
   | T b =>
    cases b with
    | false=>rfl
    | true =>
     simp only[R.bind_ok]at h ⊢;cases hg:g U s1 with
     | exc _ _=>rfl
     | B=>rfl
     | ok z s2 =>
      rw[hg]at h;simp only[R.bind_ok]at h ⊢;cases z with
      | next U'=>exact ja h
      | cont U'=>exact ja h
      | _=>rfl
   | _=>rfl
theorem qr (h:jk c g n U s≠.B):∀ k,jk c g (n+k) U s=jk c g n U s
 | 0=>rfl
 | k+1=>by
  have e:=qr h k;rw[<-eP,ja (by rw[e];exact h),e]
def cj1 (h:jk c g n U s=.ok r t):whl c g U s=.ok r t:=by
 have hb:jk c g n U s≠.B:=by rw[h];nofun
 have hx:∃ n,jk c g n U s≠.B:=⟨n,hb⟩
 unfold whl;rw[dif_pos hx];have F:=qr hx.choose_spec n;have z:=qr hb hx.choose;rw[<-F,jC,z,h]
def bn3 (hc:c U s=.ok (.T true) s1)(hg:g U s1=.ok (.next U') s'):whl c g U s=whl c g U' s':=by
 have key:∀ n,jk c g (n+1) U s=jk c g n U' s':=λ n=>by
  show tru (c U s) _=_;rw[hc,tru_bl,if_pos rfl,hg];rfl
 unfold whl;by_cases hx:∃ n,jk c g n U' s'≠.B
 .have hy:∃ n,jk c g n U s≠.B:=⟨hx.choose+1,by rw[key];exact hx.choose_spec⟩
  rw[dif_pos hx,dif_pos hy];have F:=qr hy.choose_spec (hx.choose+1);have z:=qr (by rw[key];exact hx.choose_spec) hy.choose;rw[<-F,jC,z,key]
 .have hy:¬ ∃ n,jk c g n U s≠.B:=λ⟨n,hn⟩=>by
   cases n with
   | zero=>exact hn rfl
   | succ n=>exact hx ⟨n,by rw[<-key];exact hn⟩
  rw[dif_neg hx,dif_neg hy]
def bQ1 (hc:c U s=.ok (.T false) s1):whl c g U s=.ok (.next U) s1 :=
 cj1 (n:=1) (by show tru (c U s) _=_;rw[hc,tru_bl];rfl)
theorem am0 (P:Nat->Env->Sto->Prop):∀ l k U s ,
  P k U s->(∀ j U s ,j<=l.length->P (k+j) U s->ok s=true)->(∀ j d U s ,l[j]?=some d->P (k+j) U s->∃ U' s',(g d U s=.ok (.next U') s'\/g d U s=.ok (.cont U') s')/\P (k+j+1) U' s') ->
  ∃ U' s',at6 ok g l U s=.ok (.next U') s'/\P (k+l.length) U' s'
 | [],k,U,s,h,o,_=>⟨U,s,by show(if ok s then _ else _)=_;rw[if_pos (o 0 U s (au _) h)],h⟩
 | d::l,k,U,s,h,o,t=>by
  have ho:=o 0 U s (b9 _) h;obtain⟨U1,s1,hg,z⟩:=t 0 d U s rfl h;obtain⟨U2,s2,e,F⟩:=am0 P l (k+1) U1 s1 z (λ j U' s' hj hp=>o (j+1) U' s' (by simpa using hj) (by rwa [show k+(j+1)=k+1+j by lia])) λ j d' U' s' hj hp=>by
   have:=t (j+1) d' U' s' (by simpa using hj) (by rwa [show k+(j+1)=k+1+j by lia])
   rwa [show k+(j+1)+1=k+1+j+1 by lia]at this
  refine⟨U2,s2,?_,by rwa [aR,show k+(l.length+1)=k+1+l.length by lia]⟩;show(if ok s then _ else _)=_;rw[if_pos ho];rcases hg with hg|hg<;>(rw[hg];exact e)
noncomputable def Nx (Q:Env->Sto->Prop):R Ct->Prop
 | .ok (.next U) s=>Q U s
 | .ok (.cont U) s=>Q U s
 | _=>False
@[simp] theorem cm7 Q U s :Nx Q (.ok (.next U) s)=Q U s:=rfl
@[simp] theorem cu1 Q U s :Nx Q (.ok (.cont U) s)=Q U s:=rfl
def aA3 (e:r=.ok (.next U) s)(h:Q U s):Nx Q r:=by rw[e];exact h
def Nx.out :∀ {r},Nx Q r->∃ U s,(r=.ok (.next U) s\/r=.ok (.cont U) s)/\Q U s
 | .ok (.next U) s,h=>⟨U,s,.inl rfl,h⟩
 | .ok (.cont U) s,h=>⟨U,s,.inr rfl,h⟩
 | .ok (.ret _) _,h=>h.elim
 | .ok (.brk _) _,h=>h.elim
 | .exc _ _,h=>h.elim
 | .B,h=>h.elim
noncomputable def Tst (A B:Sto->Prop):R D->Prop
 | .ok (.T false) s=>A s
 | .ok (.T true) s=>B s
 | _=>False
@[simp] theorem bA9 A B b s :Tst A B (.ok (.T b) s)=if b then B s else A s:=by cases b<;>rfl
def Tst.out :∀ {r},Tst A B r->(∃ s,r=.ok (.T false) s/\A s)\/∃ s,r=.ok (.T true) s/\B s
 | .ok (.T false) s,h=>.inl ⟨s,rfl,h⟩
 | .ok (.T true) s,h=>.inr ⟨s,rfl,h⟩
 | .ok .N _,h=>h.elim
 | .ok (.int _) _,h=>h.elim
 | .ok (.str _) _,h=>h.elim
 | .ok (.tp _) _,h=>h.elim
 | .ok (.ref _) _,h=>h.elim
 | .ok (.fn _) _,h=>h.elim
 | .ok (.clo _ _) _,h=>h.elim
 | .exc _ _,h=>h.elim
 | .B,h=>h.elim
def bv1 (hc:c U s=.ok (.T true) s1)(hg:g U s1=.ok (.cont U') s'):whl c g U s=whl c g U' s':=by
 have key:∀ n,jk c g (n+1) U s=jk c g n U' s':=λ n=>by
  show tru (c U s) _=_;rw[hc,tru_bl,if_pos rfl,hg];rfl
 unfold whl;by_cases hx:∃ n,jk c g n U' s'≠.B
 .have hy:∃ n,jk c g n U s≠.B:=⟨hx.choose+1,by rw[key];exact hx.choose_spec⟩
  rw[dif_pos hx,dif_pos hy];have F:=qr hy.choose_spec (hx.choose+1);have z:=qr (by rw[key];exact hx.choose_spec) hy.choose;rw[<-F,jC,z,key]
 .have hy:¬ ∃ n,jk c g n U s≠.B:=λ⟨n,hn⟩=>by
   cases n with
   | zero=>exact hn rfl
   | succ n=>exact hx ⟨n,by rw[<-key];exact hn⟩
  rw[dif_neg hx,dif_neg hy]
def ch8 (P:Nat->Env->Sto->Prop)(Q:Env->Sto->Prop)
  (step:∀ k U s,P k U s->Tst (λ s1=>Q U s1) (λ s1=>Nx (λ U' s'=>∃ z,z<k/\P z U' s') (g U s1)) (c U s)) :
  ∀ k U s ,P k U s->∃ U' s',whl c g U s=.ok (.next U') s'/\Q U' s':=by
 intro k
 induction k using Nat.strongRecOn with
 | _ k ih =>
  intro U s h;rcases(step k U s h).out with⟨s1,hc,hq⟩|⟨s1,hc,hn⟩
  .exact⟨U,s1,bQ1 hc,hq⟩
  .obtain⟨U',s',hg,z,hk,hp⟩:=hn.out;rcases hg with hg|hg
   .rw[bn3 hc hg];exact ih z hk U' s' hp
   .rw[bv1 hc hg];exact ih z hk U' s' hp
def bn8 {Ww:R α->Prop}(P:Nat->Env->Sto->Prop)(Q:Env->Sto->Prop) k (h:P k U s)
  (step:∀ k U s,P k U s->Tst (λ s1=>Q U s1) (λ s1=>Nx (λ U' s'=>∃ z,z<k/\P z U' s') (g U s1)) (c U s))
  (hf:∀ U' s',Q U' s'->Ww (f (.next U') s')):Ww ((whl c g U s).bind f):=by
 obtain⟨U',s',e,q⟩:=ch8 P Q step k U s h;rw[e];exact hf U' s' q
def bs1 {x:R α}(P:Nat->Env->Sto->Prop)(Q:Env->Sto->Prop) k (h:P k U s)
  (step:∀ k U s,P k U s->Tst (λ s1=>Q U s1) (λ s1=>Nx (λ U' s'=>∃ z,z<k/\P z U' s') (g U s1)) (c U s))
  (hf:∀ U' s',Q U' s'->f (.next U') s'=x):(whl c g U s).bind f=x:=bn8 (Ww:=(·=x)) P Q k h step hf
def jg {Ww:R α->Prop}(P:Nat->Env->Sto->Prop)(h:P 0 U s)
  (o:∀(j:Nat) (U:Env) (s:Sto),j<=l.length->P j U s->ok s=true) (step:∀(j:Nat) (d:D) (U:Env) (s:Sto),l[j]?=some d->P j U s->Nx (P (j+1)) (g d U s))
  (hf:∀ U' s',P l.length U' s'->Ww (f (.next U') s')):Ww ((at6 ok g l U s).bind f):=by
 obtain⟨U',s',e,q⟩:=am0 P l 0 U s h (λ j U s hj hp=>o j U s hj (by rwa [cG]at hp)) (λ j d U s hj hp=>by
  rw[cG]at hp ⊢;exact(step j d U s hj hp).out)
 rw[e];rw[cG]at q;exact hf U' s' q
def aT3 {x:R α}(P:Nat->Env->Sto->Prop)(h:P 0 U s)
  (o:∀(j:Nat) (U:Env) (s:Sto),j<=l.length->P j U s->ok s=true) (step:∀(j:Nat) (d:D) (U:Env) (s:Sto),l[j]?=some d->P j U s->Nx (P (j+1)) (g d U s))
  (hf:∀ U' s',P l.length U' s'->f (.next U') s'=x):(at6 ok g l U s).bind f=x:=jg (Ww:=(·=x)) P h o step hf
section
variable {F:Fns} {U:Env} {s:Sto}
@[simp] theorem ev_var i :ev F (.X i) U s=bn1 U i s:=rfl
@[simp] theorem ev_cst c :ev F (.K c) U s=.ok c.d s:=rfl
@[simp] theorem ev_bin op a b :ev F (.G op a b) U s=(ev F a U s).bind λ x s=>(ev F b U s).bind λ y s=>qH op x y s:=rfl
@[simp] theorem ev_not a :ev F (.not a) U s=tru (ev F a U s) λ b s=>.ok (.T (!b)) s:=rfl
@[simp] theorem ev_cmp op a b :ev F (.Z op a b) U s=(ev F a U s).bind λ x s=>(ev F b U s).bind λ y s=>qC op x y s:=rfl
@[simp] theorem ck9 o p a b c :ev F (.chain o p a b c) U s=(ev F a U s).bind λ x s=>(ev F b U s).bind λ y s=>tru (qC o x y s) λ k s=>if k then(ev F c U s).bind λ z s=>qC p y z s else .ok (.T false) s:=rfl
@[simp] theorem ev_isN a :ev F (.isN a) U s=(ev F a U s).bind λ x s=>.ok (.T (decide (x=.N))) s:=rfl
@[simp] theorem ev_notN a :ev F (.notN a) U s=(ev F a U s).bind λ x s=>.ok (.T (!decide (x=.N))) s:=rfl
@[simp] theorem ev_and a b :ev F (.and a b) U s=tru (ev F a U s) λ c s=>if c then tru (ev F b U s) λ c s=>.ok (.T c) s else .ok (.T false) s:=rfl
@[simp] theorem ev_or a b :ev F (.or a b) U s=tru (ev F a U s) λ c s=>if c then .ok (.T true) s else tru (ev F b U s) λ c s=>.ok (.T c) s:=rfl
@[simp] theorem ev_ite c a b :ev F (.ite c a b) U s=tru (ev F c U s) λ k s=>if k then ev F a U s else ev F b U s:=rfl
@[simp] theorem ev_tup es :ev F (.tp es) U s=(evs F es U s).bind λ l s=>.ok (.tp l) s:=rfl
@[simp] theorem ev_lst es :ev F (.J es) U s=(evs F es U s).bind λ l s=>ag1 (.J l) s:=rfl
@[simp] theorem ev_ix a b :ev F (.ix a b) U s=(ev F a U s).bind λ x s=>(ev F b U s).bind λ y s=>ixM x y s:=rfl
@[simp] theorem ev_call f z :ev F (.call f z) U s=(ai4 F z U s).bind λ l s=>F.call f l s:=rfl
@[simp] theorem ev_bi b es :ev F (.bi b es) U s=(evs F es U s).bind λ l s=>bi b l s:=rfl
@[simp] theorem ev_mk k it :ev F (.mk k it) U s=(evL F it U s).bind λ q s=>mk k q s:=rfl
@[simp] theorem ev_mkD k it d :ev F (.mkD k it d) U s=(evL F it U s).bind λ q s=>(ev F d U s).bind λ d s=>mkD k q d s:=rfl
@[simp] theorem ev_meth m o es :ev F (.me m o es) U s=(ev F o U s).bind λ x s=>(evs F es U s).bind λ l s=>meth m x l s:=rfl
@[simp] theorem bl2 o it :ev F (.ext o it) U s=(ev F o U s).bind λ x s=>(evL F it U s).bind λ q s=>bM2 x q s:=rfl
@[simp] theorem evs_nil:evs F .nil U s=.ok [] s:=rfl
@[simp] theorem evs_cons e es :evs F (.cons e es) U s=(ev F e U s).bind λ d s=>(evs F es U s).bind λ l s=>.ok (d::l) s:=rfl
@[simp] theorem evas_nil:ai4 F .nil U s=.ok [] s:=rfl
@[simp] theorem evas_ex e z :ai4 F (.ex e z) U s=(ev F e U s).bind λ d s=>(ai4 F z U s).bind λ l s=>.ok (d::l) s:=rfl
@[simp] theorem ct2 f z :ai4 F (.fn f z) U s=(ai4 F z U s).bind λ l s=>.ok (.fn f::l) s:=rfl
@[simp] theorem evI_seq e :evI F (.seq e) U s=(ev F e U s).bind λ d s=>ai2 d s:=rfl
@[simp] theorem cl6 es :evL F (.disp es) U s=evs F es U s:=rfl
@[simp] theorem evL_seq e :evL F (.seq e) U s=(ev F e U s).bind λ d s=>bt0 d s:=rfl
def bO4 (x:D):M Sq:=λ s=>match x with|.int i=>if -Ww62<=i/\i<Ww62 then .ok ⟨ah8 0 i,[]⟩ s else .B|_=>.B
@[simp] theorem evI_rng1 a :evI F (.rg a) U s=(ev F a U s).bind λ x s=>bO4 x s:=rfl
def al6 (h0:-Ww62<=i)(h:i<Ww62):bO4 (.int i) s=.ok ⟨ah8 0 i,[]⟩ s:=by unfold bO4;simp only[h0,h,and_self,if_true]
def nxt (F:Fns)(ss:Ss)(c:Ct)(s:Sto):R Ct:=match c with|.next U=>exs F ss U s|c=>.ok c s
@[simp] theorem qv z U s :nxt F z (.next U) s=exs F z U s:=rfl
@[simp] theorem nxt_ret z d s :nxt F z (.ret d) s=.ok (.ret d) s:=rfl
@[simp] theorem nxt_cont z U s :nxt F z (.cont U) s=.ok (.cont U) s:=rfl
@[simp] theorem exs_nil:exs F .nil U s=.ok (.next U) s:=rfl
@[simp] theorem exs_cons st z :exs F (.cons st z) U s=(ex F st U s).bind (nxt F z):=rfl
noncomputable def cx2 (U:Option Env)(s:Sto):R Ct:=match U with|some U=>.ok (.next U) s|none=>.B
@[simp] theorem setC_some U s :cx2 (some U) s=.ok (.next U) s:=rfl
@[simp] theorem ex_asg tg e :ex F (.A tg e) U s=(ev F e U s).bind λ d s=>cx2 (ae8 U tg d) s:=rfl
@[simp] theorem ex_setIx o i e :ex F (.setIx o i e) U s=(ev F e U s).bind λ d s=>(ev F o U s).bind λ x s=>(ev F i U s).bind λ y s=>(setIx x y d s).bind λ _ s=>.ok (.next U) s:=rfl
@[simp] theorem ex_ex e :ex F (.ex e) U s=(ev F e U s).bind λ _ s=>.ok (.next U) s:=rfl
@[simp] theorem ex_ret e :ex F (.ret e) U s=(ev F e U s).bind λ d s=>.ok (.ret d) s:=rfl
@[simp] theorem ex_ite c a b :ex F (.ite c a b) U s=tru (ev F c U s) λ k s=>if k then exs F a U s else exs F b U s:=rfl
@[simp] theorem ex_whl c b :ex F (.whl c b) U s=whl (ev F c) (exs F b) U s:=rfl
def turn (F:Fns)(tg:Tg)(b:Ss)(d:D)(U:Env)(s:Sto):R Ct:=match ae8 U tg d with
 | some U=>exs F b U s
 | none=>.B
@[simp] theorem ex_for tg it b :ex F (.fo tg it b) U s=(evI F it U s).bind λ q s0=>at6 (λ s=>chk s0 s q.src) (turn F tg b) q.its U s0:=rfl
@[simp] theorem bindT_one i d :ae8 U (.Y i) d=aS0 U i d:=rfl
@[simp] theorem bindT_tup is l :ae8 U (.tp is) (.tp l)=ap8 U is l:=rfl
@[simp] theorem setVs_nil:ap8 U [] []=some U:=rfl
@[simp] theorem setVs_cons i is d l :ap8 U (i::is) (d::l)=(aS0 U i d).bind λ U=>ap8 U is l:=rfl
@[simp] theorem getV_0 d (U:Env):bn1 (some d::U) 0 s=.ok d s:=rfl
@[simp] theorem getV_s x (U:Env) i :bn1 (x::U) (i+1) s=bn1 U i s:=by unfold bn1;rw[d9]
@[simp] theorem setV_0 d x (U:Env):aS0 (x::U) 0 d=some (some d::U):=rfl
@[simp] theorem setV_s d x (U:Env) i :aS0 (x::U) (i+1) d=(aS0 U i d).map (x::·):=by
 unfold aS0;by_cases h:i < U.length
 .rw[if_pos (by simpa using h),if_pos h];rfl
 .rw[if_neg (by simpa using h),if_neg h];rfl
@[simp] theorem unsetV_0 x (U:Env):aQ1 (x::U) 0=some (none::U):=rfl
@[simp] theorem unsetV_s x (U:Env) i :aQ1 (x::U) (i+1)=(aQ1 U i).map (x::·):=by
 unfold aQ1;by_cases h:i < U.length
 .rw[if_pos (by simpa using h),if_pos h];rfl
 .rw[if_neg (by simpa using h),if_neg h];rfl
@[simp] theorem Cn_int i :(Cn.int i).d=.int i:=rfl
@[simp] theorem Cn_bl i :(Cn.T i).d=.T i:=rfl
@[simp] theorem Cn_str i :(Cn.str i).d=.str i:=rfl
@[simp] theorem Cn_non:Cn.N.d=.N:=rfl
@[simp] theorem add_int a b :qH .add (.int a) (.int b) s=.ok (.int (a+b)) s:=rfl
@[simp] theorem sub_int a b :qH .sub (.int a) (.int b) s=.ok (.int (a - b)) s:=rfl
def aU0 (F:s[a]?=some (.J l))(z:s[b]?=some (.J m))(h:l.length+m.length<=LIM):qH .add (.ref a) (.ref b) s=.ok (.ref s.length) (s++[.J (l++m)]):=by
 show(match s[a]?,s[b]? with|some (.J l),some (.J m)=>(if l.length+m.length<=LIM then ag1 (.J (l++m)) s else .B)|_,_=>.B)=_;rw[F,z];exact if_pos h
def aT8 (h:l.length+m.length<=LIM):qH .add (.tp l) (.tp m) s=.ok (.tp (l++m)) s:=by
 show(if l.length+m.length<=LIM then pur (.tp (l++m))else bad) s=_;rw[if_pos h];rfl
def ag5 (h:mulOk a b=true):qH .mul (.int a) (.int b) s=.ok (.int (a*b)) s:=by show(if mulOk a b then _ else _:M D) s=_;rw[if_pos h];rfl
def bi7 (h:a.natAbs<2^64):mulOk a b=true:=by unfold mulOk;simp[h]
def am2 (h:b.natAbs<2^64):mulOk a b=true:=by unfold mulOk;simp[h]
def ap9 (h:0<b):qH .mod (.int a) (.int b) s=.ok (.int (a % b)) s:=by show(if 0<b then _ else _:M D) s=_;rw[if_pos h];rfl
def bH3:(10)^200<=(DIVL:Int):=by unfold DIVL;decide +kernel
def ay9 (h:0<b)(z:b<10^200):qH .fdiv (.int a) (.int b) s=.ok (.int (a / b)) s:=by show(if 0<b/\b<(DIVL)then _ else _:M D) s=_;rw[if_pos ⟨h,Int.lt_of_lt_of_le z bH3⟩];rfl
def bf8 (h:0<=b/\b<=1000000/\a.natAbs<2^64):qH .pow (.int a) (.int b) s=.ok (.int (a^b.toNat)) s:=by show(if _ then _ else _:M D) s=_;rw[if_pos h];rfl
@[simp] theorem lt_int a b :qC .lt (.int a) (.int b) s=.ok (.T (decide (a<b))) s:=rfl
@[simp] theorem le_int a b :qC .le (.int a) (.int b) s=.ok (.T (decide (a<=b))) s:=rfl
@[simp] theorem gt_int a b :qC .gt (.int a) (.int b) s=.ok (.T (decide (b<a))) s:=rfl
@[simp] theorem ge_int a b :qC .ge (.int a) (.int b) s=.B:=rfl
@[simp] theorem zV a b :qC .eq (.int a) (.int b) s=.ok (.T (decide (a=b))) s:=rfl
@[simp] theorem ne_int a b :qC .ne (.int a) (.int b) s=.ok (.T (!decide (a=b))) s:=rfl
@[simp] theorem alloc_eq o :ag1 o s=.ok (.ref s.length) (s++[o]):=rfl
@[simp] theorem ba7 l :bi .len [.tp l] s=.ok (.int l.length) s:=rfl
@[simp] theorem bF2 l :bi .len [.str l] s=.ok (.int l.length) s:=rfl
def bY2 (h:s[r]?=some (.ro l)):bi .len [.ref r] s=.ok (.int l.length) s:=by
 show bM6 (.ref r) s=_;unfold bM6;simp only[h]
@[simp] theorem ct4 i :bi .abs [.int i] s=.ok (.int (if i<0 then -i else i)) s:=rfl
@[simp] theorem cl1 a b :bi .min2 [.int a,.int b] s=.ok (.int (if b<a then b else a)) s:=rfl
@[simp] theorem cm2 a b :bi .max2 [.int a,.int b] s=.ok (.int (if b > a then b else a)) s:=rfl
@[simp] theorem ck2 a :bi .isInt [.int a] s=.ok (.T true) s:=rfl
@[simp] theorem bT4 a :bi .isBool [.int a] s=.ok (.T false) s:=rfl
@[simp] theorem bX6 l :bi .isTup [.tp l] s=.ok (.T true) s:=rfl
def cj3 {j:Nat}(h:s[r]?=some (.ro l))(hj:l[j]?=some d):ixM (.ref r) (.int (j)) s=.ok d s:=by
 have hl:=(ae.mp hj).1;have e:=(ae.mp hj).2;simp[ixM,h,ixn,hl,e]
def bU9 {j:Nat}(h:s[r]?=some (.J l))(hj:l[j]?=some d):ixM (.ref r) (.int (j)) s=.ok d s:=by
 have hl:=(ae.mp hj).1;have e:=(ae.mp hj).2;simp[ixM,h,ixn,hl,e]
def ix_tup {j:Nat}(hj:l[j]?=some d):ixM (.tp l) (.int (j)) s=.ok d s:=by
 have hl:=(ae.mp hj).1;have e:=(ae.mp hj).2;simp[ixM,ixn,hl,e]
def av9 (h:s[r]?=some (.J l))(hl:l.length<LIM):meth .append (.ref r) [v] s=.ok .N (s.set r (.J (l++[v]))):=by
 show(match s[r]? with|some (.J l)=>(if l.length<LIM then R.ok D.N (s.set r (.J (l++[v])))else .B)|_=>.B)=_;rw[h];exact if_pos hl
end
def aI5 s t b :∃ s',zt s (.T b) t=.ok (.T b) s':=by
 unfold zt;by_cases h:aA2 s t=true
 .rw[if_pos h];exact⟨_,rfl⟩
 .rw[if_neg h];exact⟨_,rfl⟩
def Yes (r:R D):Prop:=∃ s',r=.ok (.T true) s'
def ba2 s t :Yes (zt s (.T true) t):=aI5 s t true
def ao8 {j:Nat}(h:(ah8 a b)[j]?=some d):(j)<b - a/\d=.int (a+j):=by
 have hj:=(ae.mp h).1;simp only[ah8,aq,fU]at hj;unfold ah8 at h;rw[aQ,dZ hj]at h;exact⟨by omega,(aC h).symm⟩
def cs3 (P:Pr)(k:Nat):Prop:=∀ ns:List Int,ns.length<=63->Yes ((aa0 P k).call "law" [.ref 0] [.ro (ns.map D.int)])
noncomputable def qu:Option Int->D
 | none=>.N
 | some i=>.int i
@[simp] theorem qT:qu none=.N:=rfl
@[simp] theorem qB i :qu (some i)=.int i:=rfl
@[simp] theorem ao2 p n :(qu p).bnd n=true:=by cases p<;>rfl
def az5 p r :qu p≠.ref r:=by cases p<;>nofun
@[simp] theorem aW0 :zt s (qu p) s=.ok (qu p) s:=zo (ao2 p) (az5 p)
noncomputable def cutO (k:Int):Option Int->Option Int
 | none=>none
 | some p=>if p<=k then some p else some (k+1)
def bV1 [Has P an9] n  p  k  s :(aa0 P (n+1)).call "cut" [qu p,.int k] s=.ok (qu (cutO k p)) s:=by
 refine(za an9 rfl).trans ?_;cases p with
 | none=>simp[an9,cutO]
 | some p =>
  by_cases h:p<=k<;>simp[an9,cutO,h]
noncomputable def zw (b:Nat×Nat):O:=.J [.int b.1,.int b.2]
@[simp] theorem cl8 b n :(zw b).bnd n=true:=rfl
noncomputable def tkW (many:Nat):Nat->Nat->Nat->Nat->Nat×Nat
 | 0,mix,num,_=>(num,mix)
 | n+1,mix,num,room=>if room<many then tkW many n ((mix*48271+7919) % 2147483647) (num*1073741789+(mix*48271+7919) % 2147483647 / 8*69621 % 1073741789) (room*1073741789)else(num,mix)
def tk (b:Nat×Nat)(many:Nat):Nat×(Nat×Nat) :=
 if 0<b.1 then(b.1 % many,(b.1 / many,b.2))else let r:=tkW many 12 b.2 0 1;(r.1 % many,(b.1,r.2))
def ct1 b (h:0<many):(tk b many).1<many:=by
 unfold tk;split
 .exact Nat.mod_lt _ h
 .exact Nat.mod_lt _ h
def be5 (h:many<=room):tkW many k z F room=(F,z):=by
 cases k with
 | zero=>rfl
 | succ k=>unfold tkW;rw[if_neg (by lia)]
def bn2 (h:room<many):tkW many (k+1) z F room=tkW many k ((z*48271+7919) % 2147483647) (F*1073741789+(z*48271+7919) % 2147483647 / 8*69621 % 1073741789) (room*1073741789):=by
 conv=>lhs;unfold tkW
 rw[if_pos h]
def bF7 [Has P af8] n b (many:Nat)(h0:0<many)(h:many<=10^90) s r (hs:s[r]?=some (zw b)) :
  (aa0 P (n+1)).call "_law_take" [.ref r,.int many] s=.ok (.int (tk b many).1) (s.set r (zw (tk b many).2)):=by
 refine(za af8 rfl).trans ?_;obtain⟨c,m⟩:=b;have hr:=(ae.mp hs).1;have J:(0:Int)<(many:Int):=by lia
 have a0:(many:Int)<10^200:=by
  have:(10:Int)^90<10^200:=by decide +kernel
  have:=by exact_mod_cast h
  lia
 by_cases hc:0<c
 .have G:s[r]?=some (.J [.int c,.int m]):=hs;simp[af8,ixM,G,ixn,hc,ap9 J,ay9 J a0,setIx,tk];exact al8 (λ _=>rfl) (by nofun) rfl
 .have Z:c=0:=by lia
  subst Z;have G:s[r]?=some (.J [.int 0,.int m]):=hs;simp[af8,ixM,G,ixn];refine bs1 (λ k U t=>∃ z F room:Nat,U=[some (.ref r),some (.int many),none,some (.int F),some (.int room)]/\t=s.set r (zw (0,z))/\many<=room*1073741789^k/\tkW many k z F room=tkW many 12 m 0 1)
   (λ U t=>∃ room:Nat,U=[some (.ref r),some (.int many),none,some (.int (tkW many 12 m 0 1).1),some (.int room)]/\t=s.set r (zw (0,(tkW many 12 m 0 1).2))) 12 ⟨m,0,1,by simp,?_,?_,rfl⟩ ?_ ?_
  .have e:s[r]=zw (0,m):=(ae.mp hs).2;rw[<-e,jX]
  .refine ar h ?_
   decide +kernel
  .rintro k U t ⟨z,F,room,rfl,rfl,Y,he⟩
   by_cases hlt:room<many
   .simp only[ev_cmp,ev_var,getV_0,getV_s,R.bind_ok,lt_int,bA9,lP,hlt,decide_true,if_true];cases k with
    | zero=>simp at Y;omega
    | succ k =>
     have h1:(s.set r (zw (0,z)))[r]?=some (.J [.int 0,.int z]):=by rw[bj hr];rfl
     have m1:∀ a:Int,mulOk a 48271=true:=λ a=>am2 (by decide);have m2:∀ a:Int,mulOk a 1073741789=true:=λ a=>am2 (by decide);have m3:∀ a:Int,mulOk a 69621=true:=λ a=>am2 (by decide);refine aA3 ?_ ⟨k,gi k,(z*48271+7919) % 2147483647,F*1073741789+(z*48271+7919) % 2147483647 / 8*69621 % 1073741789,room*1073741789,rfl,rfl,?_,?_⟩
     .simp[ixM,h1,ixn,ag5 (m1 _),ap9,setIx,hr,ag5 (m2 _),ag5 (m3 _),ay9,zw]
     .rw[lU]at Y;rw[Nat.mul_assoc,n9 1073741789];exact Y
     .rw[<-he,bn2 hlt]
   .simp only[ev_cmp,ev_var,getV_0,getV_s,R.bind_ok,lt_int,bA9,lP,hlt,decide_false,if_false,bE];refine⟨room,?_,?_⟩
    .rw[<-he,be5 (by lia)]
    .rw[<-he,be5 (by omega)]
  .rintro U t ⟨room,rfl,rfl⟩
   simp[ap9 J,tk];exact al8 (λ _=>rfl) (by nofun) rfl
noncomputable def bA8 (at_:Int)(ns:List Int):Nat->Int
 | 0=>7919*at_+17
 | k+1=>(bA8 at_ ns k*48271+(ns.getD k 0) % 2147483647+k) % 2147483629
def bO7 at_ (h:0<=at_) ns :∀ k,0<=bA8 at_ ns k
 | 0=>by unfold bA8;lia
 | k+1=>by unfold bA8;exact Int.emod_nonneg _ (by decide)
noncomputable def cellF (ns:List Int)(at_:Nat):Nat:=if 10^18<=(ns.getD at_ 0).natAbs then(ns.getD at_ 0).natAbs else 0
def bS3 (ns:List Int)(at_:Nat):Nat×Nat:=(cellF ns at_,(bA8 at_ ns (min ns.length 60)).toNat)
def bD6 [Has P aG6] n ns (at_:Nat) s r (hs:s[r]?=some (.ro (ns.map D.int)))(hl:ns.length<=63) :
  (aa0 P (n+1)).call "_law_bag" [.ref r,.int at_] s=.ok (.ref s.length) (s++[zw (bS3 ns at_)]):=by
 refine(za aG6 rfl).trans ?_;have m1:∀ a:Int,mulOk 7919 a=true:=λ a=>bi7 (by decide);have m2:∀ a:Int,mulOk a 48271=true:=λ a=>am2 (by decide);have z:bi .len [.ref r] s=.ok (.int ns.length) s:=by rw[bY2 hs,aq]
 have G:∀(c:Int),(c<10^18->cellF ns at_=0)->(10^18<=c->(cellF ns at_:Int)=c) ->
   (exs (aa0 P n) (.cons (.A (.Y 3) (.G .add (.G .mul (.K (.int 7919)) (.X 1)) (.K (.int 17)))) (.cons (.fo (.Y 4) (.rg (.bi .min2 (.cons (.bi .len (.cons (.X 0) .nil)) (.cons (.K (.int 60)) .nil)))) (.cons (.A (.Y 3) (.G .mod (.G .add (.G .add (.G .mul (.X 3) (.K (.int 48271))) (.G .mod (.ix (.X 0) (.X 4)) (.K (.int 2147483647)))) (.X 4)) (.K (.int 2147483629)))) .nil)) (.cons (.ite (.Z .lt (.X 2) (.G .pow (.K (.int 10)) (.K (.int 18)))) (.cons (.A (.Y 2) (.K (.int 0))) .nil) .nil) (.cons (.ret (.J (.cons (.X 2) (.cons (.X 3) .nil)))) .nil)))) [some (.ref r),some (.int at_),some (.int c),none,none] s).bind (fin s)=.ok (.ref s.length) (s++[zw (bS3 ns at_)]):=by
  intro c h1 h2;simp[ag5 (m1 _),z];have hk:(if(60:Int)<(ns.length:Int)then 60 else(ns.length:Int))=((min ns.length 60:Nat):Int):=by lia
  rw[hk,al6 (by unfold Ww62;lia) (by unfold Ww62;omega)];simp only[R.bind_ok];refine aT3 (λ j U t=>t=s/\∃ x,U=[some (.ref r),some (.int at_),some (.int c),some (.int (bA8 at_ ns j)),x]) ⟨rfl,none,rfl⟩ (λ _ _ _ _ _=>rfl) ?_ ?_
  .rintro j d U t hj ⟨rfl,x,rfl⟩
   have Y:=by have:=(ae.mp hj).1;simpa [ah8]using this
   have hd:=by simpa [ah8,Y]using hj.symm
   subst hd;refine aA3 ?_ ⟨rfl,some (.int (j)),rfl⟩;have hx:ixM (.ref r) (.int (j:Int)) t=.ok (.int (ns.getD j 0)) t:=cj3 hs (by simp[show j<ns.length by lia]);simp[turn,ag5 (m2 _),hx,ap9,bA8]
  .rintro U t ⟨rfl,x,rfl⟩
   have Z:(ah8 0 ((min ns.length 60:Nat):Int)).length=min ns.length 60:=by simp[ah8]
   rw[Z];have a0:=bO7 at_ (by lia) ns (min ns.length 60);have F:∀ J,(J:Int)=cellF ns at_->zt t (.ref t.length) (t++[.J [.int J,.int (bA8 at_ ns (min ns.length 60))]])=.ok (.ref t.length) (t++[zw (bS3 ns at_)]):=by
    intro J a1;have:=aj5 (s:=t) (t:=[]) (u:=[]) (o:=zw (bS3 ns at_)) rfl;simp only[fy,ol,aF]at this;rw[<-this];simp[zw,bS3,a1,gZ a0]
   by_cases h:c<10^18
   .have h':c<1000000000000000000:=h;simp[bf8,h'];exact F 0 (by rw[h1 h];rfl)
   .have h':¬ c<1000000000000000000:=h;simp[bf8,h'];exact F c (h2 (by omega)).symm
 by_cases hat:at_<ns.length
 .have hx:ixM (.ref r) (.int at_) s=.ok (.int (ns.getD at_ 0)) s:=cj3 hs (by simp[hat]);have e:=G (if ns.getD at_ 0<0 then -ns.getD at_ 0 else ns.getD at_ 0) (by unfold cellF;intro h;rw[if_neg (by omega)]) (by unfold cellF;intro h;rw[if_pos (by omega)];omega);rw[<-e];simp[aG6,z,hat,hx]
 .have e:=G 0 (by unfold cellF;intro h;rw[if_neg];rw[aO,cV (by lia)];decide) (by intro h;exact absurd h (by decide));rw[<-e];simp[aG6,z,hat]
def aL8 { t:Sto}(h:r<s.length):(s++t).set r o=s.set r o++t:=by rw[eO,if_pos h]
def qQ { t:Sto}{r:Nat}(h:s[r]?=some o):(s++t)[r]?=some o:=by
 rw[aS (ae.mp h).1];exact h
def ak9 {s:Sto}(h:r<s.length):(s.set r o)[r]?=some o:=bj h
def br7 [Has P af8] n b many (h0:0<many)(h:many<=10^90) s r (hs:s[r]?=some (zw b)) :
  (aa0 P (n+1)).call "_law_take" [.ref r,.int many] s=.ok (.int (tk b many.toNat).1) (s.set r (zw (tk b many.toNat).2)):=by
 have:=bF7 n b many.toNat (P:=P) (by lia) (by have:=(by simpa using h);lia) s r hs
 rwa [show((many.toNat))=many by lia]at this
def bd (b:Nat×Nat):Nat×(Nat×Nat) :=
 let x0:=tk b 3
 let x1:=tk x0.2 13
 let x2:=tk x1.2 1000000000
 let x3:=tk x2.2 1000000000000000000000000000000
 let i:=tk x3.2 4
 ([x0.1,x1.1,x2.1,x3.1].getD i.1 0,i.2)
section
variable {F:Fns} {U:Env} {s:Sto}
def qt (F:Fns)(tg:Tg)(e:E)(d:D)(U:Env)(s:Sto):R (Option D×Env):=match ae8 U tg d with
 | some U=>(ev F e U s).bind λ v s=>.ok (some v,U) s
 | none=>.B
def ay0 (F:Fns)(tg:Tg)(c e:E)(d:D)(U:Env)(s:Sto):R (Option D×Env):=match ae8 U tg d with
 | some U=>tru (ev F c U s) λ k s=>if k then(ev F e U s).bind λ v s=>.ok (some v,U) s else .ok (none,U) s
 | none=>.B
@[simp] theorem zO tg it e z :evL F (.comp tg it e z) U s=(evI F it U s).bind λ q s0=>if q.its.length<=LIM then ag4 (λ s=>chk s0 s q.src) (qt F tg e) q.its (zT U z) s0 else .B:=rfl
@[simp] theorem jf tg it c e z :evL F (.compIf tg it c e z) U s=(evI F it U s).bind λ q s0=>if q.its.length<=LIM then ag4 (λ s=>chk s0 s q.src) (ay0 F tg c e) q.its (zT U z) s0 else .B:=rfl
@[simp] theorem cw6 a z :ev F (.slU a z) U s=(ev F a U s).bind λ x s=>(ev F z U s).bind λ y s=>match y with|.int i=>slM x none (some i) s|_=>.B:=rfl
end
theorem zD (P:Env->Sto->Prop) f :∀ l U s ,P U s ->
  (∀ U s,P U s->ok s=true)->(∀ d∈l,∀ U s,P U s->∃ U' s',g d U s=.ok (f d,U') s'/\P U' s')->∃ U' s',ag4 ok g l U s=.ok (l.filterMap f) s'/\P U' s'
 | [],U,s,h,o,_=>⟨U,s,by unfold ag4;rw[if_pos (o U s h)];rfl,h⟩
 | d::l,U,s,h,o,st=>by
  obtain⟨U1,s1,e1,F⟩:=st d (ax ..) U s h;obtain⟨U2,s2,e2,z⟩:=zD P f l U1 s1 F o λ x hx=>st x (ak _ hx);refine⟨U2,s2,?_,z⟩;unfold ag4;rw[if_pos (o U s h),e1];simp only[R.bind_ok];rw[e2,bc];cases f d<;>rfl
def qc [Has P af8] n {s}{r}(hs:∃ b,s[r]?=some (zw b)) many (h0:0<many)(h:many<=10^90) :
  ∃(k:Nat) (b:Nat×Nat),(k:Int)<many/\(aa0 P (n+1)).call "_law_take" [.ref r,.int many] s=.ok (.int k) (s.set r (zw b)):=by
 obtain⟨b,hb⟩:=hs;have:=ct1 b (many:=many.toNat) (by omega);exact⟨(tk b many.toNat).1,(tk b many.toNat).2,by lia,br7 n b many h0 h s r hb⟩
def aq2 {k:Int}(h:k<=1000):k<=10^90:=Int.le_trans h (by decide)
def bm1 {s:Sto}(h:r<s.length):∃ z,(s.set r (zw b))[r]?=some (zw z):=⟨b,ak9 h⟩
def bC0 {s:Sto}(h:∃ b,s[r]?=some (zw b)):r<s.length:=by obtain⟨b,hb⟩:=h;exact(ae.mp hb).1
def bf6 (h:0<=k/\k<=1000000):qH .shl (.int 1) (.int k) s=.ok (.int (1*2^k.toNat)) s:=by
 show(if 0<=k/\k<=1000000/\(1:Int).natAbs<2^64 then _ else _:M D) s=_;rw[if_pos ⟨h.1,h.2,by decide⟩];rfl
def zd (h:∀ d∈l,∀ n,d.bnd n=true) n :D.bndL n l=true:=by
 induction l with
 | nil=>rfl
 | cons d l ih=>unfold D.bndL;rw[h d (ax ..),ih λ x hx=>h x (ak _ hx)];rfl
noncomputable def aH4 (bits:Nat):D->Option D
 | .int i=>if(bits:Int) / (1*2^i.toNat) % 2=1 then some (.int i)else none
 | _=>none
def bi8 {l:List D}:∀ d∈l.filterMap (aH4 z),∀ n,d.bnd n=true:=λ d hd n=>by
 obtain⟨x,hx,e⟩:=dC.mp hd;cases x with
 | int i =>
  simp only[aH4]at e;split at e
  .cases e;rfl
  .cases e
 | _=>cases e
def aX7 [Has P af8][Has P ag6] n {s}{r}(hs:∃ b,s[r]?=some (zw b)) k (h0:0<=k)(h:k<=5) :
  ∃ z   b ,(aa0 P (n+2)).call "_law_rooms" [.ref r,.int k] s=.ok (.tp ((ah8 0 k).filterMap (aH4 z))) (s.set r (zw b)):=by
 have e0:(aa0 P (n+2)).call "_law_rooms" [.ref r,.int k] s=_:=za ag6 rfl;have hr:=bC0 hs;have hp:(1:Int)*2^k.toNat<=32:=by
  have:k.toNat<=5:=by lia
  have G:(2:Nat)^k.toNat<=2^5:=e8 (by decide) this;have Z:((2^k.toNat:Nat):Int)<=32:=by exact_mod_cast G
  rw[iK];simpa using Z
 have Y:(0:Int)<1*2^k.toNat:=by rw[iK];exact Int.pow_pos (by decide)
 obtain⟨z,b,hb,eb⟩:=qc (P:=P) n hs (1*2^k.toNat) Y (aq2 (by lia));rw[e0];simp only[ag6,exs_cons,ex_asg,ev_call,evas_ex,evas_nil,ev_var,ev_bin,ev_cst,Cn_int,av,aP,aB,aF,getV_0,getV_s,R.bind_ok,bf6 ⟨h0,by lia⟩,eb,bindT_one];simp only[ah,setV_s,setV_0,gX,setC_some,R.bind_ok,qv,exs_cons,ex_ret,ev_mk,jf,evI_rng1,ev_var,getV_0,getV_s];rw[al6 (by unfold Ww62;lia) (by unfold Ww62;lia)];simp only[R.bind_ok];rw[if_pos (by simp[ah8];unfold LIM;lia)];have key:∃(U':Env) (s':Sto),ag4 (λ J=>chk (s.set r (zw b)) J []) (ay0 (aa0 P (n+1)) (.Y 0) (.Z .eq (.G .mod (.G .fdiv (.X 1) (.G .shl (.K (.int 1)) (.X 0))) (.K (.int 2))) (.K (.int 1))) (.X 0)) (ah8 0 k) (zT [some (.ref r),some (.int k),some (.int z)] [none,some 2]) (s.set r (zw b))=.ok ((ah8 0 k).filterMap (aH4 z)) s'/\(s'=s.set r (zw b)/\∃ x,U'=[x,some (D.int z)]):=by
  refine zD (λ U u=>u=s.set r (zw b)/\∃ x,U=[x,some (.int z)]) (aH4 z) (ah8 0 k) _ _ ⟨rfl,none,rfl⟩ (λ _ _ _=>rfl) ?_
  rintro d hd U u ⟨rfl,x,rfl⟩
  obtain⟨j,hj⟩:=kD hd;obtain⟨G,rfl⟩:=ao8 hj;refine⟨[some (.int (0+j)),some (.int z)],_,?_,rfl,_,rfl⟩;have a0:=by omega
  have a1:(1:Int)*2^((0:Int)+j).toNat<=32:=by
   have:((0:Int)+j).toNat<=5:=by lia
   have G:(2:Nat)^((0:Int)+j).toNat<=2^5:=e8 (by decide) this;have Z:((2^((0:Int)+j).toNat:Nat):Int)<=32:=by exact_mod_cast G
   rw[iK];simpa using Z
  have F:(0:Int)<1*2^((0:Int)+j).toNat:=by rw[iK];exact Int.pow_pos (by decide)
  unfold ay0;simp only[bindT_one,setV_0,ev_cmp,ev_bin,ev_var,ev_cst,Cn_int,getV_0,getV_s,R.bind_ok];rw[bf6 ⟨by lia,by lia⟩];simp only[R.bind_ok];rw[ay9 F (by lia)];simp only[R.bind_ok];rw[ap9 (by decide)];simp only[R.bind_ok,zV,tru_bl];simp[aH4];split<;>rfl
 obtain⟨U',s',e,h1⟩:=key;rw[e];obtain⟨rfl,_⟩:=h1;refine⟨z,b,?_⟩;simp only[R.bind_ok,mk,nxt_ret,fin_ret];exact al8 (λ m=>by unfold D.bnd;exact zd bi8 m) (by nofun) rfl
def cb5 {k:Nat}(h:k<3) s :ixM (.str [97,98,99]) (.int (k)) s=.ok (.str [97+k]) s:=by
 match k,h with
 | 0,_=>rfl
 | 1,_=>rfl
 | 2,_=>rfl
def aA9 [Has P af8] n {s t:Sto}{r}(hr:r<s.length) b many (h0:0<many)(h:many<=10^90) :
  ∃(k:Nat) (z:Nat×Nat),(k:Int)<many/\(aa0 P (n+1)).call "_law_take" [.ref r,.int many] (s.set r (zw b)++t)=.ok (.int k) (s.set r (zw z)++t):=by
 obtain⟨k,z,G,F⟩:=qc (P:=P) n ⟨b,qQ (ak9 hr)⟩ many h0 h;refine⟨k,z,G,?_⟩;rw[F,aL8 (by rw[bf];exact hr),fW]
def bW0 {s t:Sto}(h:l.length<LIM):meth .append (.ref s.length) [v] (s.set r (zw b)++(.J l::t))=.ok .N (s.set r (zw b)++(.J (l++[v])::t)):=by
 rw[av9 (by rw[aN (by simp)];simp) h]
 congr 1
 rw[eO,if_neg (by simp)];simp
def bb6 (h:a.length+b.length<=LIM):qH .add (.str a) (.str b) s=.ok (.str (a++b)) s:=by
 show(if a.length+b.length<=LIM then _ else _:M D) s=_;rw[if_pos h];rfl
def Lts (L:Nat)(w:List Nat):Prop:=∀ c∈w,97<=c/\c<97+L
theorem rep_len l :∀ n,(rep n l).length=l.length*n
 | 0=>by simp[rep]
 | n+1=>by simp[rep,rep_len l n,mO];omega
noncomputable def bY3 (L:Nat)(d:D):Bool:=match d with
 | .str w=>decide (w.length<=200)&&w.all λ c=>decide (97<=c/\c<97+L)
 | _=>false
def aA1 [HasC P x v]{n}{U}{s}:ev (aa0 P n) (.gl x) U s=.ok v s:=by
 show(match(aa0 P n).con x with|some d=>R.ok d s|none=>.B)=_;rw[aJ9 (v:=v)]
noncomputable abbrev ai5:List D:=[.str [97],.str [98],.str [99]]
def bQ9 {L:Nat}(h:L<=3) s :slM (.tp ai5) none (some (L)) s=.ok (.tp (ai5.take L)) s:=by
 match L,h with
 | 0,_=>rfl
 | 1,_=>rfl
 | 2,_=>rfl
 | 3,_=>rfl
def qA [Has P aa4][HasC P "LETTERS" (.tp ai5)] n {L:Nat}(h:L<=3) l  s :(aa0 P (n+1)).call "letters_of" [.tp (.int L::l)] s=.ok (.tp (ai5.take L)) s:=by
 refine(za aa4 rfl).trans ?_;have z:ixM (.tp (.int L::l)) (.int ((0:Nat))) s=.ok (.int L) s:=ix_tup rfl;simp -implicitDefEqProofs [aa4,aA1 (v:=.tp ai5)];rw[show(0)=((0:Nat):Int)from rfl,z];simp only[R.bind_ok];rw[bQ9 h];simp -implicitDefEqProofs
 match L,h with
 | 0,_=>exact zo (λ _=>rfl) (by nofun)
 | 1,_=>exact zo (λ _=>rfl) (by nofun)
 | 2,_=>exact zo (λ _=>rfl) (by nofun)
 | 3,_=>exact zo (λ _=>rfl) (by nofun)
def al9 :qC .isin a b s=(inM a b s).bind λ r s=>.ok (.T r) s:=rfl
def aS7 :qC .notin a b s=(inM a b s).bind λ r s=>.ok (.T (!r)) s:=rfl
@[simp] theorem cu8 a :ev F (.neg a) U s=(ev F a U s).bind λ x s=>match x with|.int i=>.ok (.int (-i)) s|_=>.B:=rfl
noncomputable def NR (Q:Env->Sto->Prop)(Z:D->Sto->Prop):R Ct->Prop
 | .ok (.next U) s=>Q U s
 | .ok (.cont U) s=>Q U s
 | .ok (.ret d) s=>Z d s
 | _=>False
def aJ4 (e:r=.ok (.next U) s)(h:Q U s):NR Q Z r:=by rw[e];exact h
def bB6 (e:r=.ok (.ret d) s)(h:Z d s):NR Q Z r:=by rw[e];exact h
theorem for_ret (P:Nat->Env->Sto->Prop) Z :∀ l k U s ,
  P k U s->(∀ j U s ,j<=l.length->P (k+j) U s->ok s=true)->(∀ j d U s ,l[j]?=some d->P (k+j) U s->NR (P (k+j+1)) Z (g d U s)) ->
  (∃ U' s',at6 ok g l U s=.ok (.next U') s'/\P (k+l.length) U' s')\/∃ d s',at6 ok g l U s=.ok (.ret d) s'/\Z d s'
 | [],k,U,s,h,o,_=>.inl ⟨U,s,by show(if ok s then _ else _)=_;rw[if_pos (o 0 U s (au _) h)],h⟩
 | d::l,k,U,s,h,o,t=>by
  have ho:=o 0 U s (b9 _) h;have h0:=t 0 d U s rfl h;have e:at6 ok g (d::l) U s=(g d U s).bind λ c s=>match c with
   | .next U=>at6 ok g l U s
   | .cont U=>at6 ok g l U s
   | .brk U=>.ok (.next U) s
   | .ret d=>.ok (.ret d) s:=by
   show(if ok s then _ else _)=_;rw[if_pos ho]<;>rfl
  have go:∀ U1 s1,P (k+0+1) U1 s1->(∃ U' s',at6 ok g l U1 s1=.ok (.next U') s'/\P (k+(d::l).length) U' s')\/∃ d s',at6 ok g l U1 s1=.ok (.ret d) s'/\Z d s':=λ U1 s1 z=>by
   have:=for_ret P Z l (k+1) U1 s1 z (λ j U' s' hj hp=>o (j+1) U' s' (by simpa using hj) (by rwa [show k+(j+1)=k+1+j by omega])) λ j d' U' s' hj hp=>by
    have:=t (j+1) d' U' s' (by simpa using hj) (by rwa [show k+(j+1)=k+1+j by omega])
    rwa [show k+(j+1)+1=k+1+j+1 by omega]at this
   rwa [aR,show k+(l.length+1)=k+1+l.length by omega]
  rw[e];cases hg:g d U s with
  | B=>rw[hg]at h0;exact h0.elim
  | exc a b=>rw[hg]at h0;exact h0.elim
  | ok c s1 =>
   rw[hg]at h0;cases c with
   | next U1=>exact go U1 s1 h0
   | cont U1=>exact go U1 s1 h0
   | brk U1=>exact h0.elim
   | ret v=>exact .inr ⟨v,s1,rfl,h0⟩
def aY5 {Ww:R α->Prop}(P:Nat->Env->Sto->Prop) Z (h:P 0 U s)
  (o:∀(j:Nat) (U:Env) (s:Sto),j<=l.length->P j U s->ok s=true) (step:∀(j:Nat) (d:D) (U:Env) (s:Sto),l[j]?=some d->P j U s->NR (P (j+1)) Z (g d U s))
  (hf:∀ U' s',P l.length U' s'->Ww (f (.next U') s')) (hz:∀ d s',Z d s'->Ww (f (.ret d) s')):Ww ((at6 ok g l U s).bind f):=by
 rcases for_ret P Z l 0 U s h (λ j U s hj hp=>o j U s hj (by rwa [cG]at hp)) (λ j d U s hj hp=>by
  rw[cG]at hp ⊢;exact step j d U s hj hp)with⟨U',s',e,q⟩|⟨d,s',e,q⟩
 .rw[e];rw[cG]at q;exact hf U' s' q
 .rw[e];exact hz d s' q
structure Dr where
 a:Nat
 l:Nat
 b:Nat
 t:Nat
noncomputable def Dr.d (x:Dr):D:=.tp [.int x.a,.str [x.l],.int x.b,.int x.t]
structure Mc where
 L:Nat
 R:Nat
 bg:List Nat
 en:List Nat
 ds:List Dr
noncomputable def zh (l:List Nat):List D:=l.map λ(k:Nat)=>D.int (k)
noncomputable def sg (w:List Nat):List D:=w.map λ c=>.str [c]
def Mc.ps (m:Mc):List D:=[.int m.L,.int m.R,.tp (zh m.bg),.tp (zh m.en),.tp (m.ds.map Dr.d)]
noncomputable def Mc.d (m:Mc):D:=.tp m.ps
structure Dr.Ok (m:Mc)(x:Dr):Prop where
 a:x.a<m.R
 l:97<=x.l/\x.l<97+m.L
 b:x.b<m.R
 t:x.t<4
structure Mc.Ok (m:Mc):Prop where
 L1:1<=m.L
 L3:m.L<=3
 R1:1<=m.R
 R5:m.R<=5
 bg:(∀ k∈m.bg,k<m.R)/\m.bg.Pairwise (· < ·)
 en:(∀ k∈m.en,k<m.R)/\m.en.Pairwise (· < ·)
 ds:(∀ x∈m.ds,x.Ok m)/\m.ds.length<=75
def zr :∀ d∈zh l,∀ n,d.bnd n=true:=λ d hd n=>by
 obtain⟨c,_,rfl⟩:=ay.mp hd;rfl
def qF {l:List Dr}:∀ d∈l.map Dr.d,∀ n,d.bnd n=true:=λ d hd n=>by
 obtain⟨c,_,rfl⟩:=ay.mp hd;rfl
def bJ1 {m:Mc}:∀ d∈m.ps,∀ n,d.bnd n=true:=λ d hd n=>by
 simp only[Mc.ps,az,cK,or_false]at hd;rcases hd with rfl|rfl|rfl|rfl|rfl
 .rfl
 .rfl
 .unfold D.bnd;exact zd zr n
 .unfold D.bnd;exact zd zr n
 .unfold D.bnd;exact zd qF n
def bz2 (m:Mc) n :m.d.bnd n=true:=by unfold Mc.d D.bnd;exact zd bJ1 n
noncomputable def aS8 (bits k:Nat):List Nat:=(bn k).filter λ i=>decide (bits / 2^i % 2=1)
def bj7 z k :(∀ i∈aS8 z k,i<k)/\(aS8 z k).Pairwise (· < ·) :=
 ⟨λ i F=>bR.mp (eJ.mp F).1,oy _ List.pairwise_lt_range⟩
def bp2 F (k:Nat):(ah8 0 (k)).filterMap (aH4 F)=zh (aS8 F k):=by
 unfold ah8 aS8 zh;simp only[oh,ce];rw[bK]
 induction (bn k)with
 | nil=>rfl
 | cons i l ih =>
  rw[bc,gk];have e:((F:Int) / (1*2^((0)+(i:Int)).toNat) % 2=1)↔(F / 2^i % 2=1):=by
   rw[iK,show((0)+(i:Int)).toNat=i by lia];have:((F) / 2^i % 2)=((F / 2^i % 2:Nat):Int):=by simp
   rw[this];omega
  simp only[cM,aH4];by_cases h:F / 2^i % 2=1
  .rw[if_pos (e.mpr h)];simp only[h,decide_true,if_true,av];rw[<-ih,lV]
  .rw[if_neg λ z=>h (e.mp z)];simp only[h];exact ih
def aP0 [Has P af8][Has P ag6] n {s}{r}(hs:∃ b,s[r]?=some (zw b)) k (h:k<=5) :
  ∃(l:List Nat) (b:Nat×Nat),((∀ i∈l,i<k)/\l.Pairwise (· < ·))/\(aa0 P (n+2)).call "_law_rooms" [.ref r,.int k] s=.ok (.tp (zh l)) (s.set r (zw b)):=by
 obtain⟨z,b,e⟩:=aX7 (P:=P) n hs k (by lia) (by lia);rw[bp2]at e;exact⟨_,b,bj7 z k,e⟩
section
variable {P:Pr}
def aq6 (j:Nat)(h:l[j]?=some d):ixM (.tp l) (.int (j)) s=.ok d s:=ix_tup h
def ixL (m:Mc) s :ixM m.d (.int 0) s=.ok (.int m.L) s:=aq6 0 rfl
def ixR (m:Mc) s :ixM m.d (.int 1) s=.ok (.int m.R) s:=aq6 1 rfl
def ixB (m:Mc) s :ixM m.d (.int 2) s=.ok (.tp (zh m.bg)) s:=aq6 2 rfl
def ixE (m:Mc) s :ixM m.d (.int 3) s=.ok (.tp (zh m.en)) s:=aq6 3 rfl
def ixD (m:Mc) s :ixM m.d (.int 4) s=.ok (.tp (m.ds.map Dr.d)) s:=aq6 4 rfl
def zm [Has P aa6] n (m:Mc) s :(aa0 P (n+1)).call "rooms_of" [m.d] s=.ok (.int m.R) s:=by
 refine(za aa6 rfl).trans ?_;simp -implicitDefEqProofs [aa6,ixR]
def qN (h:∀ d∈l,∀ n,d.bnd n=true):zt s (.tp l) s=.ok (.tp l) s:=zo (λ n=>by unfold D.bnd;exact zd h n) (by nofun)
def zu [Has P ab1] n (m:Mc) s :(aa0 P (n+1)).call "begins_of" [m.d] s=.ok (.tp (zh m.bg)) s:=by
 refine(za ab1 rfl).trans ?_;simp -implicitDefEqProofs [ab1,ixB,qN zr]
def zK [Has P ac1] n (m:Mc) s :(aa0 P (n+1)).call "ends_of" [m.d] s=.ok (.tp (zh m.en)) s:=by
 refine(za ac1 rfl).trans ?_;simp -implicitDefEqProofs [ac1,ixE,qN zr]
def zH [Has P aa5] n (m:Mc) s :(aa0 P (n+1)).call "doors_of" [m.d] s=.ok (.tp (m.ds.map Dr.d)) s:=by
 refine(za aa5 rfl).trans ?_;simp -implicitDefEqProofs [aa5,ixD,qN qF]
@[simp] theorem cs2 a b s :qC .ne (.str [a]) (.str [b]) s=.ok (.T (!decide (a=b))) s:=by
 show(match eqv s DEEP (.str [a]) (.str [b])with|some r=>R.ok (D.T (!r)) s|none=>.B)=_;have:eqv s DEEP (.str [a]) (.str [b])=some ([a]==[b]):=rfl;rw[this];have e:([a]==[b])=decide (a=b):=by rw[cD];simp
 rw[e]
@[simp] theorem aM7 a b s :qC .eq (.str [a]) (.str [b]) s=.ok (.T (decide (a=b))) s:=by
 show(match eqv s DEEP (.str [a]) (.str [b])with|some r=>R.ok (D.T r) s|none=>.B)=_;have:eqv s DEEP (.str [a]) (.str [b])=some ([a]==[b]):=rfl;rw[this];have e:([a]==[b])=decide (a=b):=by rw[cD];simp
 rw[e]
def cn0 (x:Dr) s :ixM x.d (.int 0) s=.ok (.int x.a) s:=aq6 0 rfl
def cq9 (x:Dr) s :ixM x.d (.int 1) s=.ok (.str [x.l]) s:=aq6 1 rfl
def cr0 (x:Dr) s :ixM x.d (.int 2) s=.ok (.int x.b) s:=aq6 2 rfl
def cs6 (x:Dr) s :ixM x.d (.int 3) s=.ok (.int x.t) s:=aq6 3 rfl
end
noncomputable def ah5 (S:Int->Prop):Option Int->Prop
 | none=>∀ c,¬ S c
 | some c=>S c/\∀ c',S c'->c<=c'
def ah5.congr {S }(h:ah5 S o)(e:∀ c,S c↔F c):ah5 F o:=by
 cases o with
 | none=>exact λ c hc=>h c ((e c).mpr hc)
 | some c=>exact⟨(e c).mp h.1,λ z hc=>h.2 z ((e z).mpr hc)⟩
noncomputable def minO:Option Int->Option Int->Option Int
 | none,x=>x
 | some a,none=>some a
 | some a,some b=>if b<a then some b else some a
noncomputable def Wk (ds:List Dr):List Nat->Nat->Nat->Int->Prop
 | [],p,q,c=>p=q/\c=0
 | x::w,p,q,c=>∃ d∈ds,d.a=p/\d.l=x/\∃ c',Wk ds w d.b q c'/\c=(d.t)+c'
noncomputable def Dr.turn (x:Dr):Dr:=⟨x.b,x.l,x.a,x.t⟩
def Mc.Wk (m:Mc)(w:List Nat)(c:Int):Prop:=∃ p∈m.bg,∃ q∈m.en,DV.Wk m.ds w p q c
def Mc.turn (m:Mc):Mc:=⟨m.L,m.R,m.en,m.bg,m.ds.map Dr.turn⟩
def zE (row:List (Option Int)):List D:=row.map qu
def aR7 row :(zE row).length=row.length:=aq ..
def bQ5 {k:Nat}(h:row[k]?=some o):(zE row)[k]?=some (qu o):=by unfold zE;rw[aQ,h];rfl
theorem aC5 {k:Nat}:∀ {l},inL s (.int k) (zh l)=some (decide (k∈l))
 | []=>rfl
 | a::l=>by
  have z:=aC5 (s:=s) (k:=k) (l:=l);have e:eqv s DEEP (.int (a)) (.int (k))=some ((a)==(k:Int)):=rfl;show(match eqv s DEEP (.int (a)) (.int (k)),inL s (.int k) (zh l)with|some a,some b=>some (a||b)|_,_=>none)=_;rw[e,z];show some (((a)==(k:Int))||decide (k∈l))=some _
  congr 1
  rw[cD];simp;constructor
  .rintro(h|h)
   .exact .inl (by lia)
   .exact .inr h
  .rintro(h|h)
   .exact .inl (by lia)
   .exact .inr h
def ai9 {k:Nat}:inM (.int k) (.tp (zh l)) s=.ok (decide (k∈l)) s:=by unfold inM;simp only[aC5]
theorem ax9:∀ l:List Int,qk (l.map D.int)=some l
 | []=>rfl
 | a::l=>by rw[av];unfold qk;rw[ax9 l];rfl
theorem aG1:∀(l:List Int) a ,(l.foldl min a=a\/l.foldl min a∈l)/\l.foldl min a<=a/\∀ y∈l,l.foldl min a<=y
 | [],a=>⟨.inl rfl,dP _,λ y hy=>by cases hy⟩
 | b::l,a=>by
  obtain⟨G,J,F⟩:=aG1 l (min a b);rw[cE];refine⟨?_,by omega,λ y hy=>?_⟩
  .rcases G with h|h
   .rw[h];rcases lS a b with z|z
    .left;omega
    .right;rw[show min a b=b by omega];exact ax ..
   .exact .inr (ak _ h)
  .rcases az.mp hy with z|z
   .rw[z];omega
   .exact F y z
def ax2 l :ah5 (λ c=>c∈l) (minI l):=by
 cases l with
 | nil=>exact λ c hc=>by cases hc
 | cons a l =>
  obtain⟨J,G,F⟩:=aG1 l a;refine⟨?_,λ y hy=>?_⟩
  .rcases J with h|h
   .rw[h];exact ax ..
   .exact ak _ h
  .rcases az.mp hy with z|z
   .rw[z];exact G
   .exact F y z
def bR9 l s :mkD .min (l.map D.int) .N s=.ok (qu (minI l)) s:=by
 unfold mkD;simp only[ax9];cases minI l<;>rfl
def co8 (S:Nat->Int->Prop)(x:Nat)(ds:List Dr)(k:Nat)(c:Int):Prop:=∃ d∈ds,d.l=x/\d.b=k/\∃ c',S d.a c'/\c=c'+(d.t)
theorem zx {α β:Type}{f g:α->Option β}:∀ {l:List α},(∀ x∈l,f x=g x)->l.filterMap f=l.filterMap g
 | [],_=>rfl
 | a::l,h=>by rw[bc,bc,h a (ax ..),zx λ x hx=>h x (ak _ hx)]
def good_of {L}(h:w.length<=200)(hw:Lts L w):bY3 L (.str w)=true:=by
 unfold bY3;simp only[h,decide_true,iX,aU,decide_eq_true_eq];exact hw
def two {l:List D}(h:l.length=2):∃ a b,l=[a,b]:=by
 match l,h with
 | [a,b],_=>exact⟨a,b,rfl⟩
def al5 [Has P ad4] n  i z F  s :(aa0 P (n+1)).call "_law_whole" [.int i,.int z,.int F] s=.ok (.T (decide (z<=i)&&decide (i<=F))) s:=by
 refine(za ad4 rfl).trans ?_;by_cases h:z<=i<;>simp [ad4,h]
def an5 [Has P ad4][Has P ad1] n {l}{k:Nat}(h:(∀ i∈l,i<k)/\l.Pairwise (· < ·)) s :(aa0 P (n+2)).call "_law_are_rooms" [.tp (zh l),.int k] s=.ok (.T true) s:=by
 have F:(aa0 P (n+2)).call "_law_are_rooms" [.tp (zh l),.int k] s=_:=za ad1 rfl;rw[F];have z:ai2 (.tp (zh l)) s=.ok ⟨zh l,[]⟩ s:=rfl;simp [ad1];refine aT3 (λ j U t=>t=s/\∃ a x ,U=[some (.tp (zh l)),some (.int k),some (.int a),x]/\(∀ i∈l.drop j,a<(i))) ⟨rfl,-1,none,rfl,λ i _=>by lia⟩ (λ _ _ _ _ _=>rfl) ?_ ?_
 .rintro j d U t hj ⟨rfl,a,x,rfl,ha⟩
  obtain⟨i,hi,rfl⟩:∃ i,l[j]?=some i/\d=.int (i):=by
   unfold zh at hj;rw[aQ]at hj;cases e:l[j]? with
   | none=>rw[e]at hj;cases hj
   | some i=>rw[e]at hj;cases hj;exact⟨i,rfl,rfl⟩
  have hlt:=(ae.mp hi).1;have hij:=(ae.mp hi).2;have hd:l.drop j=i::l.drop (j+1):=by rw[<-hij,fh hlt]
  have J:a+1<=(i):=by have:=ha i (by rw[hd];exact ax ..);lia
  have G:(i)<=(k:Int) - 1:=by have:=h.1 i (aE hi);lia
  refine aA3 (U:=[some (.tp (zh l)),some (.int k),some (.int i),some (.int i)]) ?_ ⟨rfl,i,_,rfl,λ y hy=>?_⟩
  .simp [turn,al5 (P:=P) n,J,G]
  .have hp:=h.2;rw[<-eT j l,e9]at hp;have:=hp.2.1;rw[hd,iw]at this;have:=this.1 y hy;lia
 .rintro U t ⟨rfl,a,x,rfl,_⟩
  simp
def aN3 [Has P ad4][Has P ad0] n {m}(hm:m.Ok){x:Dr}(hx:x.Ok m) s :(aa0 P (n+2)).call "_law_is_door" [x.d,.int m.L,.int m.R] s=.ok (.T true) s:=by
 have e0:(aa0 P (n+2)).call "_law_is_door" [x.d,.int m.L,.int m.R] s=_:=za ad0 (n:=n+1) rfl;rw[e0];have z:x.d=.tp [.int x.a,.str [x.l],.int x.b,.int x.t]:=rfl;have i0:=cn0 x;have J:=cq9 x;have Y:=cr0 x;have Z:=cs6 x;rw[z]at i0 J Y Z ⊢;have ha:=hx.a;have hb:=hx.b;have ht:=hx.t;have hl:=hx.l;have iS:bi .isStr [.str [x.l]] s=.ok (.T true) s:=rfl;have F:slM (.str [97,98,99]) none (some (m.L:Int)) s=.ok (.str ([97,98,99].take m.L)) s:=by
  have h3:=hm.L3;show R.ok (D.str (aI4 [97,98,99] none (some (m.L:Int)))) s=_;unfold aI4;simp only[loB,hiB,sbd,ir,Nat.sub_zero];rw[if_pos (by lia),ce];show R.ok (D.str (List.take (min m.L 3) [97,98,99])) s=_;rw[Nat.min_eq_left h3]
 have G:inM (.str [x.l]) (.str ([97,98,99].take m.L)) s=.ok true s:=by
  show R.ok (decide (x.l∈[97,98,99].take m.L)) s=_;have h1:=hm.L1;have h3:=hm.L3;have:x.l∈[97,98,99].take m.L:=by
   rcases(show m.L=1\/m.L=2\/m.L=3 by lia)with e|e|e<;>(rw[e]at hl ⊢;simp;lia)
  rw[decide_eq_true this]
 have q1:(x.a:Int)<=(m.R:Int) - 1:=by lia
 have q2:(x.b:Int)<=(m.R:Int) - 1:=by lia
 have q3:(x.t:Int)<=3:=by lia
 simp [ad0,i0,J,Y,Z,iS,al5 (P:=P) n,q1,q2,q3,F,al9,G]
def av1 [Has P ad4][Has P ad1][Has P ad0][Has P ac0] n {m:Mc}(hm:m.Ok) s :(aa0 P (n+3)).call "_law_is_machine" [m.d,.int m.L] s=.ok (.T true) s:=by
 have e0:(aa0 P (n+3)).call "_law_is_machine" [m.d,.int m.L] s=_:=za ac0 rfl;rw[e0];have iT:bi .isTup [m.d] s=.ok (.T true) s:=rfl;have lT:bi .len [m.d] s=.ok (.int 5) s:=rfl;have G:bi .isTup [.tp (m.ds.map Dr.d)] s=.ok (.T true) s:=rfl;have J:bi .len [.tp (m.ds.map Dr.d)] s=.ok (.int m.ds.length) s:=by rw[ba7,aq]
 have h1:=hm.R1;have h5:=hm.R5;have a0:=hm.ds.2;have q1:(1:Int)<=(m.R:Int):=by lia
 have q2:(m.R:Int)<=5:=by lia
 have q3:¬((75:Int)<(m.ds.length:Int)):=by lia
 have sD:ai2 (.tp (m.ds.map Dr.d)) s=.ok ⟨m.ds.map Dr.d,[]⟩ s:=rfl;obtain⟨U1,s1,e1,rfl,_⟩:=zD (ok:=λ F=>chk s F []) (g:=qt (aa0 P (n+2)) (.Y 0) (.call "_law_is_door" (.ex (.X 0) (.ex (.X 1) (.ex (.ix (.X 2) (.K (.int 1))) .nil))))) (λ U u=>u=s/\∃ a,U=[a,some (.int m.L),some m.d]) (λ _=>some (.T true)) (m.ds.map Dr.d) (zT [some m.d,some (.int m.L)] [none,some 1,some 0]) s ⟨rfl,none,rfl⟩ (λ _ _ _=>rfl) (by
  rintro d hd U u ⟨rfl,a,rfl⟩
  obtain⟨x,hx,rfl⟩:=ay.mp hd;exact⟨[some x.d,some (.int m.L),some m.d],u,by unfold qt;simp [ixR,aN3 (P:=P) n hm (hm.ds.1 x hx)],rfl,_,rfl⟩)
 have Z:(m.ds.map Dr.d).length<=LIM:=by rw[aq];unfold LIM;lia
 have z:ah2 ((m.ds.map Dr.d).filterMap λ _=>some (D.T true))=some (m.ds.map λ _=>true):=by
  rw[bK];generalize m.ds=l
  induction l with
  | nil=>rfl
  | cons a l ih=>rw[bc];simp only[cM];unfold ah2;rw[ih];rfl
 have Y:(m.ds.map λ _=>true).all id=true:=by simp
 simp only[ac0,exs_cons,exs_nil,av,aP,aB,aF,ah,ex_ite,ev_or,ev_not,ev_bi,evs_cons,evs_nil,ev_var,getV_0,getV_s,R.bind_ok,iT,tru_bl,fj,if_false,bE,ev_cmp,lT,ev_cst,Cn_int,ne_int,decide_true,ev_call,evas_ex,evas_nil,ev_ix,ixL,al5 (P:=P) (n+1),dP,iV,ixR,q1,q2,ixD,G,J,gt_int,q3,decide_false,ixB,ixE,an5 (P:=P) n hm.bg,an5 (P:=P) n hm.en,qv,ex_ret,ev_mk,zO,evI_seq,sD,Z,if_true,e1,mk,z,Y,nxt_ret,fin_ret,ai8]
def aK3 {S}(h:S[k]?=some (.J l))(hl:l.length+m.length<=LIM):bM2 (.ref k) m S=.ok .N (S.set k (.J (l++m))):=by
 simp only[bM2,h,hl,if_true]
end DV
end
noncomputable section
namespace DV
noncomputable def Dr.way (x:Dr):Nat×Nat×Nat:=(x.a,x.l,x.b)
noncomputable def Dr.wd (x:Dr):D:=.tp [.int x.a,.str [x.l],.int x.b]
noncomputable def Dr.en (x:Dr):D×D:=(x.wd,.int x.t)
def aS9 {x y:Dr}:y.wd=x.wd↔y.way=x.way:=by
 constructor
 .intro h;unfold Dr.wd at h;simp only[D.tp.injEq,List.cons.injEq,D.int.injEq,D.str.injEq,and_true]at h;unfold Dr.way;rw[show y.a=x.a by lia,h.2.1,show y.b=x.b by lia]
 .intro h;unfold Dr.way at h;simp only[kX]at h;unfold Dr.wd;rw[h.1,h.2.1,h.2.2]
theorem aM6 (x:Dr):∀ ds:List Dr,look x.wd (ds.map Dr.en)=(ds.find? λ y=>decide (y.way=x.way)).map λ y=>.int y.t
 | []=>rfl
 | y::ds=>by
  rw[av,cq];unfold look;show(if y.wd=x.wd then some (D.int y.t)else look x.wd (ds.map Dr.en))=_;by_cases h:y.way=x.way
  .rw[if_pos (aS9.mpr h),decide_eq_true h];rfl
  .rw[if_neg (λ z=>h (aS9.mp z)),decide_eq_false h,aM6 x ds]
noncomputable def aq4 (x:Dr)(ds:List Dr):Nat:=match ds.find? λ y=>decide (y.way=x.way)with
 | some y=>if y.t<x.t then y.t else x.t
 | none=>x.t
def bD9 (x:Dr)(ds:List Dr):List Dr:=match ds.find? λ y=>decide (y.way=x.way)with
 | some _=>ds.map λ z=>if z.way=x.way then⟨z.a,z.l,z.b,aq4 x ds⟩else z
 | none=>ds++[x]
def bF6 x ds :aI3 x.wd (.int (aq4 x ds)) (ds.map Dr.en)=(bD9 x ds).map Dr.en:=by
 unfold aI3;rw[aM6];unfold bD9;generalize hf:aq4 x ds=v;unfold aq4 at hf;cases e:ds.find? λ y=>decide (y.way=x.way)with
 | none =>
  rw[e]at hf;subst hf;simp only[fA];rfl
 | some y =>
  simp only[bU];refine g6 λ z _=>?_;show(if z.wd=x.wd then(z.wd,D.int v)else z.en)=_;simp only[cM];by_cases h:z.way=x.way
  .rw[if_pos (aS9.mpr h),if_pos h];rfl
  .rw[if_neg (λ q=>h (aS9.mp q)),if_neg h]
structure Br (pre ds:List Dr):Prop where
 sub:∀ y∈ds,y∈pre
 dom:∀ x∈pre,∃ y∈ds,y.way=x.way/\y.t<=x.t
 nd:ds.Pairwise λ x y=>x.way≠y.way
theorem Br.nil:Br [] []:=⟨λ y h=>(by cases h),λ y h=>(by cases h),List.Pairwise.nil⟩
def Br.step (h:Br pre ds) x :Br (pre++[x]) (bD9 x ds):=by
 unfold bD9;cases e:ds.find? λ y=>decide (y.way=x.way)with
 | none =>
  have hn:∀ y∈ds,y.way≠x.way:=λ y hy z=>by
   have:=iy.mp e y hy;simp[z]at this
  refine⟨λ y hy=>?_,λ d hd=>?_,?_⟩
  .rcases aW.mp hy with z|z
   .exact aY _ (h.sub y z)
   .exact aG _ z
  .rcases aW.mp hd with z|z
   .obtain⟨y,J,Z⟩:=h.dom d z;exact⟨y,aY _ J,Z⟩
   .rw[bA.mp z];exact⟨x,aG _ (bA.mpr rfl),rfl,au _⟩
  .rw[e9];exact⟨h.nd,List.pairwise_singleton _ _,λ a ha b hb=>by rw[bA.mp hb];exact hn a ha⟩
 | some y =>
  have hy:=List.mem_of_find?_eq_some e;have F:=by have:=List.find?_some e;simpa using this
  have hf:aq4 x ds=if y.t<x.t then y.t else x.t:=by unfold aq4;rw[e]
  have one:∀ z∈ds,z.way=x.way->z=y:=λ z hz q=>by
   have key:∀ l:List Dr,(l.Pairwise λ x y=>x.way≠y.way)->z∈l->y∈l->z=y:=by
    intro l
    induction l with
    | nil=>intro _ J;cases J
    | cons a l ih =>
     intro hp J Z;rw[iw]at hp;rcases az.mp J with z1|z1<;>rcases az.mp Z with z2|z2
     .rw[z1,z2]
     .exact absurd (by rw[<-z1,q,F]) (hp.1 y z2)
     .exact absurd (by rw[<-z2,q,F]) (hp.1 z z1)
     .exact ih hp.2 z1 z2
   exact key ds h.nd hz hy
  refine⟨λ d hd=>?_,λ d hd=>?_,?_⟩
  .obtain⟨z,hz,rfl⟩:=ay.mp hd;by_cases q:z.way=x.way
   .rw[if_pos q,one z hz q,hf];by_cases hlt:y.t<x.t
    .rw[if_pos hlt];exact aY _ (h.sub y hy)
    .rw[if_neg hlt];have:(⟨y.a,y.l,y.b,x.t⟩:Dr)=x:=by
      unfold Dr.way at F;simp only[kX]at F;rw[F.1,F.2.1,F.2.2]
     rw[this];exact aG _ (bA.mpr rfl)
   .rw[if_neg q];exact aY _ (h.sub z hz)
  .have Y:∀ z∈ds,∃ G∈ds.map (λ z=>if z.way=x.way then(⟨z.a,z.l,z.b,aq4 x ds⟩:Dr)else z),G.way=z.way/\G.t<=z.t/\(z.way=x.way->G.t<=x.t):=λ z hz=>by
    refine⟨_,aX hz,?_⟩;by_cases q:z.way=x.way
    .rw[if_pos q,one z hz q,hf];refine⟨rfl,?_,λ _=>?_⟩<;>simp only<;>split<;>lia
    .rw[if_neg q];exact⟨rfl,au _,λ z=>absurd z q⟩
   rcases aW.mp hd with z|z
   .obtain⟨y',J,Z,h3⟩:=h.dom d z;obtain⟨G,g1,g2,g3,_⟩:=Y y' J;exact⟨G,g1,g2.trans Z,ar g3 h3⟩
   .rw[bA.mp z];obtain⟨G,g1,g2,_,g4⟩:=Y y hy;exact⟨G,g1,g2.trans F,g4 F⟩
  .rw[fX];refine h.nd.imp λ {a b} q=>?_;have:∀ z:Dr,(if z.way=x.way then(⟨z.a,z.l,z.b,aq4 x ds⟩:Dr)else z).way=z.way:=λ z=>by split<;>rfl
   rw[this,this];exact q
def ah5.br {S }(Y:∀ c,F c->S c)(J:∀ c,S c->∃ z,F z/\z<=c)(h:ah5 F o):ah5 S o:=by
 cases o with
 | none=>exact λ c hc=>by obtain⟨z,G,_⟩:=J c hc;exact h z G
 | some a=>exact⟨Y a h.1,λ c hc=>by obtain⟨z,G,Z⟩:=J c hc;have:=h.2 z G;lia⟩
theorem Br.wk (h:Br pre ds):∀ {w} {p q} {c},(Wk ds w p q c->Wk pre w p q c)/\(Wk pre w p q c->∃ G,Wk ds w p q G/\G<=c)
 | [],p,q,c=>⟨λ z=>z,λ z=>⟨c,z,dP _⟩⟩
 | x::w,p,q,c=>by
  refine⟨?_,?_⟩
  .rintro⟨d,hd,ha,hl,G,hw,rfl⟩
   exact⟨d,h.sub d hd,ha,hl,G,h.wk.1 hw,rfl⟩
  .rintro⟨d,hd,ha,hl,G,hw,rfl⟩
   obtain⟨y,hy,F,ht⟩:=h.dom d hd;unfold Dr.way at F;simp only[kX]at F;obtain⟨J,Y,Z⟩:=h.wk.2 hw;exact⟨y.t+J,⟨y,hy,F.1.trans ha,F.2.1.trans hl,J,by rw[F.2.2];exact Y,rfl⟩,by lia⟩
def Br.least (h:Br pre ds){L R}(hl:ah5 (Mc.Wk ⟨L,R,bg,en,ds⟩ w) o):ah5 (Mc.Wk ⟨L,R,bg,en,pre⟩ w) o :=
 hl.br (λ c ⟨p,hp,q,hq,k⟩=>⟨p,hp,q,hq,h.wk.1 k⟩) λ c ⟨p,hp,q,hq,k⟩=>by
  obtain⟨z,G,F⟩:=h.wk.2 k;exact⟨z,⟨p,hp,q,hq,G⟩,F⟩
def Br.few (h:Br pre ds){L R:Nat}(hR:R<=5)(hL:L<=3)(hp:∀ x∈pre,x.a<R/\(97<=x.l/\x.l<97+L)/\x.b<R):ds.length<=75:=by
 have nd:(ds.map λ x:Dr=>x.a*15+(x.l - 97)*5+x.b).Nodup:=by
  show List.Pairwise _ _;rw[fX];refine nU (λ {a b} ha hb q z=>q ?_) h.nd;have J:=hp a (h.sub a ha);have G:=hp b (h.sub b hb);unfold Dr.way;have e1:a.a=b.a:=by lia
  have e2:a.l=b.l:=by lia
  have F:a.b=b.b:=by lia
  rw[e1,e2,F]
 have:=cu (l₂:=bn 75) nd (λ c hc=>by
  obtain⟨x,hx,rfl⟩:=ay.mp hc;have:=hp x (h.sub x hx);exact bR.mpr (by omega))
 simpa using this
@[simp] theorem cp9 :ev F .dicT U s=.ok (.ref s.length) (s++[.dit []]):=rfl
@[simp] theorem bS9 o k d :ev F (.get2 o k d) U s=(ev F o U s).bind λ x s=>(ev F k U s).bind λ y s=>(ev F d U s).bind λ z s=>bE5 x y z s:=rfl
@[simp] theorem bQ2 e :evL F (.itm e) U s=(ev F e U s).bind λ d s=>by1 d s:=rfl
def bk1 (x:Dr):x.wd.keyT=true:=rfl
def bW4 (ds:List Dr):(ds.map Dr.en).map cr8=ds.map Dr.d:=by rw[bU];rfl
def bN8 {s:Sto}(hk:k.keyT=true):bE5 (.ref s.length) k e (s++[.dit l])=.ok ((look k l).getD e) (s++[.dit l]):=by
 have h:(s++[O.dit l])[s.length]?=some (.dit l):=by simp
 simp only[bE5,h,hk,if_true]
def bH0 {s:Sto}(hk:k.keyT=true)(hl:l.length<LIM):setIx (.ref s.length) k e (s++[.dit l])=.ok () (s++[.dit (aI3 k e l)]):=by
 have h:(s++[O.dit l])[s.length]?=some (.dit l):=by simp
 simp only[setIx,h,hk,hl,decide_true,nV,if_true]
 congr 1
 simp
def bG5 {s:Sto}{ds:List Dr}(hl:ds.length<=LIM):by1 (.ref s.length) (s++[.dit (ds.map Dr.en)])=.ok (ds.map Dr.d) (s++[.dit (ds.map Dr.en)]):=by
 have h:(s++[O.dit (ds.map Dr.en)])[s.length]?=some (.dit (ds.map Dr.en)):=by simp
 simp only[by1,h,aq,hl,if_true,bW4]
def bM5 x ds s :bi .min2 [.int x.t,(look x.wd (ds.map Dr.en)).getD (.int x.t)] s=.ok (.int (aq4 x ds)) s:=by
 rw[aM6];unfold aq4;cases e:ds.find? λ y=>decide (y.way=x.way)with
 | none=>show R.ok (D.int (if(x.t:Int)<x.t then _ else _)) s=_;rw[if_neg (by lia)]
 | some y =>
  show R.ok (D.int (if(y.t:Int)<x.t then(y.t)else x.t)) s=_;by_cases h:y.t<x.t
  .rw[if_pos (by lia)];simp only[h,if_true]
  .rw[if_neg (by lia)];simp only[h,if_false]
def bv3 x ds :(bD9 x ds).length<=ds.length+1:=by
 unfold bD9;split
 .rw[aq];lia
 .rw[aA];exact au _
def BrR (m:Mc)(Rm:Int)(B E:List D)(ds:List Dr)(s:Sto)(x:R D):Prop:=∃ ds',Br ds ds'/\x=.ok (.tp [.int m.L,.int Rm,.tp B,.tp E,.tp (ds'.map Dr.d)]) s
def al2 [Has P aa4][HasC P "LETTERS" (.tp ai5)][Has P ad3] n {m:Mc}(hm:m.Ok) Rm {B E:List D}(hB:∀ d∈B,∀ n,d.bnd n=true)(hE:∀ d∈E,∀ n,d.bnd n=true){ds:List Dr}(a4:ds.length<=10000){s:Sto}{k:Nat}(hk:s[k]?=some (.J (ds.map Dr.d))) :
  BrR m Rm B E ds s ((aa0 P (n+2)).call "brought" [m.d,.int Rm,.tp B,.tp E,.ref k] s):=by
 have e0:(aa0 P (n+2)).call "brought" [m.d,.int Rm,.tp B,.tp E,.ref k] s=_:=za ad3 (n:=n+1) rfl;rw[e0];have sq:ai2 (.ref k) (s++[.dit []])=.ok ⟨ds.map Dr.d,[k]⟩ (s++[.dit []]):=by simp only[ai2,qQ hk]
 simp [ad3,sq];refine jg (Ww:=BrR m Rm B E ds s) (λ j U t=>∃(z:List Dr) (x6 x7 Z x9 G:Option D),Br (ds.take j) z/\z.length<=j/\j<=ds.length/\U=[some m.d,some (.int Rm),some (.tp B),some (.tp E),some (.ref k),some (.ref s.length),x6,x7,Z,x9,G]/\t=s++[.dit (z.map Dr.en)])
  ⟨[],_,_,_,_,_,by rw[kE];exact .nil,au _,b9 _,rfl,rfl⟩ (λ j U t _ ⟨_,_,_,_,_,_,_,_,_,_,ht⟩=>by rw[ht];simp[chk,qQ hk]) ?_ ?_
 .rintro j d U t hj ⟨z,x6,x7,Z,x9,G,hb,F,a3,rfl,rfl⟩
  obtain⟨x,hx,rfl⟩:∃ x,ds[j]?=some x/\d=x.d:=by
   rw[aQ]at hj;cases e:ds[j]? with
   | none=>rw[e]at hj;cases hj
   | some x=>rw[e]at hj;cases hj;exact⟨x,rfl,rfl⟩
  have hlt:j<ds.length:=(ae.mp hx).1;have a1:ds.take (j+1)=ds.take j++[x]:=by
   have e:ds[j]=x:=(ae.mp hx).2;rw[<-e,cZ]
  have g1:=bN8 (s:=s) (l:=z.map Dr.en) (e:=.int x.t) (bk1 x);have g2:=bM5 x z (s++[.dit (z.map Dr.en)]);have g3:=bH0 (s:=s) (l:=z.map Dr.en) (e:=.int (aq4 x z)) (bk1 x) (by rw[aq];unfold LIM;lia);rw[bF6]at g3;have il:=bv3 x z;refine aA3 (U:=[some m.d,some (.int Rm),some (.tp B),some (.tp E),some (.ref k),some (.ref s.length),some (.int x.a),some (.str [x.l]),some (.int x.b),some (.int x.t),some x.wd]) (s:=s++[.dit ((bD9 x z).map Dr.en)]) ?_ ⟨bD9 x z,_,_,_,_,_,by rw[a1];exact hb.step x,by lia,hlt,rfl,rfl⟩;have a0:x.d=.tp [.int x.a,.str [x.l],.int x.b,.int x.t]:=rfl;have Y:x.wd=.tp [.int x.a,.str [x.l],.int x.b]:=rfl;rw[Y]at g1 g2 g3 ⊢;simp only[exs_cons,exs_nil,ex_asg,ex_setIx,ev_var,ev_tup,ev_bi,evs_nil,evs_cons,R.bind_ok,bindT_one,bindT_tup,setVs_nil,setVs_cons,setV_s,setV_0,getV_0,getV_s,Option.map_some,Option.bind_some,setC_some,qv,turn,a0,bS9,g1,g2,g3]
 .rintro U t ⟨z,x6,x7,Z,x9,G,hb,F,a3,rfl,rfl⟩
  rw[aq,cY]at hb;rw[aq]at F;have hL:=qA (P:=P) n (L:=m.L) hm.L3 [.int m.R,.tp (zh m.bg),.tp (zh m.en),.tp (m.ds.map Dr.d)] (s++[.dit (z.map Dr.en)]);have a2:(aa0 P (n+1)).call "letters_of" [m.d] (s++[.dit (z.map Dr.en)])=.ok (.tp (ai5.take m.L)) _:=hL;have J:((ai5.take m.L).length:Int)=(m.L:Int):=by
   rw[bP];have:=hm.L3;show((min m.L 3:Nat):Int)=_;lia
  have g:=bG5 (s:=s) (ds:=z) (by unfold LIM;lia);refine⟨z,hb,?_⟩;simp only[exs_cons,ex_ret,ev_var,ev_tup,ev_call,ev_bi,ev_mk,evs_nil,evs_cons,evas_nil,evas_ex,R.bind_ok,getV_0,getV_s,qv,nxt_ret,fin_ret,qv,a2,ba7,J,bQ2,g,mk];refine zF (λ n=>?_) (by nofun);unfold D.bnd;refine zd (λ d hd n=>?_) n;simp only[az,cK,or_false]at hd;rcases hd with rfl|rfl|rfl|rfl|rfl
  .rfl
  .rfl
  .unfold D.bnd;exact zd hB n
  .unfold D.bnd;exact zd hE n
  .unfold D.bnd;exact zd qF n
noncomputable def Dr.mv (k:Nat)(x:Dr):Dr:=⟨x.a+k,x.l,x.b+k,x.t⟩
def zy (k:Nat)(ds es:List Dr):List Dr:=ds++es.map (Dr.mv k)
theorem jc (h:∀ d∈ds,d.a<k/\d.b<k):∀ {w} {p q} {c},p<k->(Wk (zy k ds es) w p q c↔Wk ds w p q c)
 | [],p,q,c,_=>Iff.rfl
 | x::w,p,q,c,hp=>by
  constructor
  .rintro⟨d,hd,ha,hl,F,hw,rfl⟩
   rcases aW.mp hd with z|z
   .exact⟨d,z,ha,hl,F,(jc h (h d z).2).mp hw,rfl⟩
   .obtain⟨e,_,rfl⟩:=ay.mp z;have:e.a+k=p:=ha;lia
  .rintro⟨d,hd,ha,hl,F,hw,rfl⟩
   exact⟨d,aY _ hd,ha,hl,F,(jc h (h d hd).2).mpr hw,rfl⟩
theorem qI (h:∀ d∈ds,d.a<k/\d.b<k):∀ {w} {p q} {c},(Wk (zy k ds es) w (p+k) q c↔∃ F,q=F+k/\Wk es w p F c)
 | [],p,q,c=>by
  constructor
  .rintro⟨rfl,rfl⟩;exact⟨p,rfl,rfl,rfl⟩
  .rintro⟨F,rfl,rfl,rfl⟩;exact⟨rfl,rfl⟩
 | x::w,p,q,c=>by
  constructor
  .rintro⟨d,hd,ha,hl,G,hw,rfl⟩
   rcases aW.mp hd with z|z
   .have:=(h d z).1;omega
   .obtain⟨e,J,rfl⟩:=ay.mp z;obtain⟨F,Z,Y⟩:=(qI h ).mp hw;exact⟨F,Z,e,J,by have:e.a+k=p+k:=ha;lia,hl,G,Y,rfl⟩
  .rintro⟨F,Z,e,J,ha,hl,G,Y,rfl⟩
   exact⟨e.mv k,aG _ (aX J),by show e.a+k=_;lia,hl,G,(qI h ).mpr ⟨F,Z,Y⟩,rfl⟩
theorem bk6 (h:∀ d∈ds,d.a<k/\d.b<k):∀ {w} {p q} {c},p<k->Wk ds w p q c->q<k
 | [],p,q,c,hp,⟨e,_⟩=>by lia
 | x::w,p,q,c,hp,⟨d,hd,_,_,c',hw,_⟩=>bk6 h (h d hd).2 hw
noncomputable def mvN (k:Nat)(l:List Nat):List Nat:=l.map (·+k)
def bM4 (m1 m2:Mc):Mc:=⟨m1.L,m1.R+m2.R,m1.bg++mvN m1.R m2.bg,m1.en++mvN m1.R m2.en,zy m1.R m1.ds m2.ds⟩
def Mc.Ok.low {m:Mc}(h:m.Ok):∀ d∈m.ds,d.a<m.R/\d.b<m.R:=λ d hd=>⟨(h.ds.1 d hd).a,(h.ds.1 d hd).b⟩
def be1 (F:m1.Ok) w c :(bM4 m1 m2).Wk w c↔m1.Wk w c\/m2.Wk w c:=by
 constructor
 .rintro⟨p,hp,q,hq,hw⟩
  rcases aW.mp hp with z|z
  .have G:=F.bg.1 p z;have J:=(jc F.low G).mp hw;have a1:=bk6 F.low G J;rcases aW.mp hq with y|y
   .exact .inl ⟨p,z,q,y,J⟩
   .obtain⟨q',_,e⟩:=ay.mp y;lia
  .obtain⟨p',a0,rfl⟩:=ay.mp z;obtain⟨q',rfl,Y⟩:=(qI F.low).mp hw;rcases aW.mp hq with y|y
   .have:=F.en.1 _ y;lia
   .obtain⟨q2,Z,e⟩:=ay.mp y;have:q2=q':=by simpa using e
    subst this;exact .inr ⟨p',a0,q2,Z,Y⟩
 .rintro(⟨p,hp,q,hq,hw⟩|⟨p,hp,q,hq,hw⟩)
  .exact⟨p,aY _ hp,q,aY _ hq,(jc F.low (F.bg.1 p hp)).mpr hw⟩
  .exact⟨p+m1.R,aG _ (aX (f:=(·+m1.R)) hp),q+m1.R,aG _ (aX (f:=(·+m1.R)) hq),(qI F.low).mpr ⟨q,rfl,hw⟩⟩
def ar2 (h:(∀ i∈l,i<k)/\l.Pairwise (· < ·))(h':(∀ i∈F,i<r)/\F.Pairwise (· < ·)):(∀ i∈l++mvN k F,i<k+r)/\(l++mvN k F).Pairwise (· < ·):=by
 refine⟨λ i G=>?_,?_⟩
 .rcases aW.mp G with z|z
  .have:=h.1 i z;lia
  .obtain⟨j,hj,rfl⟩:=ay.mp z;have:=h'.1 j hj
   skip;lia
 .rw[e9];refine⟨h.2,?_,λ a ha b hb=>?_⟩
  .unfold mvN;rw[fX];exact h'.2.imp λ q=>by lia
  .obtain⟨j,hj,rfl⟩:=ay.mp hb;have:=h.1 a ha
   skip;lia
def ax1 {L k r:Nat}{m1 m2:Mc}(J:m1.Ok)(G:m2.Ok)(hL:m1.L=m2.L):∀ x∈zy m1.R m1.ds m2.ds,x.a<m1.R+m2.R/\(97<=x.l/\x.l<97+m1.L)/\x.b<m1.R+m2.R/\x.t<4:=λ x hx=>by
 rcases aW.mp hx with z|z
 .have q:=J.ds.1 x z;have:=q.a;have:=q.b;exact⟨by lia,q.l,by lia,q.t⟩
 .obtain⟨y,hy,rfl⟩:=ay.mp z;have q:=G.ds.1 y hy;have Z:=q.a;have Y:=q.b;have F:=q.l;exact⟨by show y.a+m1.R<_;lia,by rw[hL];exact F,by show y.b+m1.R<_;lia,q.t⟩
def Br.okM {L R:Nat}{bg en:List Nat}{pre ds:List Dr}(hb:Br pre ds)(L1:1<=L)(L3:L<=3)(R1:1<=R)(R5:R<=5)(F:(∀ k∈bg,k<R)/\bg.Pairwise (· < ·))(z:(∀ k∈en,k<R)/\en.Pairwise (· < ·))
  (hp:∀ x∈pre,x.a<R/\(97<=x.l/\x.l<97+L)/\x.b<R/\x.t<4):(⟨L,R,bg,en,ds⟩:Mc).Ok :=
 ⟨L1,L3,R1,R5,F,z,λ x hx=>by
  have:=hp x (hb.sub x hx);exact⟨this.1,this.2.1,this.2.2.1,this.2.2.2⟩,hb.few R5 L3 λ x hx=>⟨(hp x hx).1,(hp x hx).2.1,(hp x hx).2.2.1⟩⟩
section
variable {P:Pr}
def by3 {L}(z:L<=3) s :qC .ne (.tp (ai5.take L)) (.tp (ai5.take L)) s=.ok (.T false) s:=by
 rcases(show L=0\/L=1\/L=2\/L=3 by lia)with e|e|e|e<;>subst e<;>rfl
def zI [Has P aa4][HasC P "LETTERS" (.tp ai5)][Has P aa7] n {m1 m2:Mc}(z:m1.Ok)(hL:m1.L=m2.L) s :(aa0 P (n+2)).call "check_pair" [m1.d,m2.d] s=.ok .N s:=by
 have F:(aa0 P (n+2)).call "check_pair" [m1.d,m2.d] s=_:=za aa7 (n:=n+1) rfl;rw[F];have J:(aa0 P (n+1)).call "letters_of" [m1.d] s=.ok (.tp (ai5.take m1.L)) s:=qA (P:=P) n z.L3 [.int m1.R,.tp (zh m1.bg),.tp (zh m1.en),.tp (m1.ds.map Dr.d)] s;have G:(aa0 P (n+1)).call "letters_of" [m2.d] s=.ok (.tp (ai5.take m1.L)) s:=by
  have:=qA (P:=P) n (L:=m2.L) (by rw[<-hL];exact z.L3) [.int m2.R,.tp (zh m2.bg),.tp (zh m2.en),.tp (m2.ds.map Dr.d)] s;rw[hL];exact this
 simp -implicitDefEqProofs only[exs_cons,exs_nil,ex_ite,ev_var,ev_cmp,ev_call,evas_nil,evas_ex,R.bind_ok,getV_0,getV_s,qv,fin_next,tru_bl,if_false,Bool.false_eq_true,aa7,av,aP,aB,aF,ah,J,G,by3 z.L3,qX]
def z6 [HasC P "MOST_ROOMS" (.int 5)][Has P aa8] n {r}(h:r<=5) s :(aa0 P (n+1)).call "check_rooms" [.int r] s=.ok .N s:=by
 have z:(aa0 P (n+1)).call "check_rooms" [.int r] s=_:=za aa8 rfl;rw[z];have hg:ev (aa0 P n) (.gl "MOST_ROOMS") [some (.int r)] s=.ok (.int 5) s:=by
  show(match(aa0 P n).con "MOST_ROOMS" with|some d=>R.ok d s|none=>.B)=_;rw[aJ9 (v:=.int 5)]
 have hn:¬((5)<r):=by lia
 simp -implicitDefEqProofs only[exs_cons,exs_nil,ex_ite,ev_var,ev_cmp,R.bind_ok,getV_0,qv,fin_next,gt_int,tru_bl,if_false,Bool.false_eq_true,decide_false,aa8,av,aP,aB,aF,ah,hg,hn,qX]
def aB0 [Has P ag2] n  l (hl:l.length<=1000)(k:Nat) s :(aa0 P (n+1)).call "moved" [.tp (zh l),.int k] s=.ok (.tp (zh (mvN k l))) s:=by
 have Y:(aa0 P (n+1)).call "moved" [.tp (zh l),.int k] s=_:=za ag2 rfl;rw[Y];have J:ai2 (.tp (zh l)) s=.ok ⟨zh l,[]⟩ s:=rfl;obtain⟨U1,s1,e1,rfl,_⟩:=zD (ok:=λ F=>chk s F []) (g:=qt (aa0 P n) (.Y 0) (.G .add (.X 0) (.X 1))) (λ U u=>u=s/\∃ a,U=[a,some (.int k)]) (λ d=>match d with|.int i=>some (.int (i+k))|_=>none) (zh l) (zT [some (.tp (zh l)),some (.int k)] [none,some 1]) s ⟨rfl,none,rfl⟩ (λ _ _ _=>rfl) (by
  rintro d hd U u ⟨rfl,a,rfl⟩
  obtain⟨i,_,rfl⟩:=ay.mp hd;exact⟨[some (.int i),some (.int k)],u,by unfold qt;simp,rfl,_,rfl⟩)
 have G:(zh l).filterMap (λ d=>match d with|.int i=>some (.int (i+k))|_=>none)=zh (mvN k l):=by
  unfold zh mvN;rw[bK,bU,<-cy];exact zx λ i _=>by simp[]
 rw[G]at e1;have z:(zh l).length<=LIM:=by unfold zh;rw[aq];unfold LIM;omega
 simp only[exs_cons,ex_ret,ev_var,ev_mk,evI_seq,R.bind_ok,getV_0,nxt_ret,fin_ret,if_true,ag2,av,aP,aB,aF,ah,zO,J,z,e1,mk];exact zo (λ n=>by unfold D.bnd;exact zd zr n) (by nofun)
def qW [Has P aa6][Has P aa5][Has P ab4] n {m1 m2:Mc}(h1:m1.Ok)(Y:m2.Ok) s :(aa0 P (n+2)).call "doors_beside" [m1.d,m2.d] s=.ok (.ref s.length) (s++[.J ((zy m1.R m1.ds m2.ds).map Dr.d)]):=by
 have e0:(aa0 P (n+2)).call "doors_beside" [m1.d,m2.d] s=_:=za ab4 (n:=n+1) rfl;rw[e0];have sD:ai2 (.tp (m2.ds.map Dr.d)) s=.ok ⟨m2.ds.map Dr.d,[]⟩ s:=rfl;obtain⟨U1,s1,e1,rfl,_⟩:=zD (ok:=λ G=>chk s G []) (g:=qt (aa0 P (n+1)) (.tp [0,1,2,3]) (.tp (.cons (.G .add (.X 0) (.X 4)) (.cons (.X 1) (.cons (.G .add (.X 2) (.X 4)) (.cons (.X 3) .nil)))))) (λ U u=>u=s/\∃ a b c d,U=[a,b,c,d,some (.int m1.R)]) (λ d=>match d with|.tp [.int a,b,.int c,d]=>some (.tp [.int (a+m1.R),b,.int (c+m1.R),d])|_=>none) (m2.ds.map Dr.d) (zT [some m1.d,some m2.d,some (.int m1.R),none] [none,none,none,none,some 2]) s ⟨rfl,none,none,none,none,rfl⟩ (λ _ _ _=>rfl) (by
  rintro d hd U u ⟨rfl,a,b,c,e,rfl⟩
  obtain⟨x,_,rfl⟩:=ay.mp hd;exact⟨[some (.int x.a),some (.str [x.l]),some (.int x.b),some (.int x.t),some (.int m1.R)],u,by unfold qt;simp -implicitDefEqProofs [show x.d=.tp [.int x.a,.str [x.l],.int x.b,.int x.t]from rfl],rfl,_,_,_,_,rfl⟩)
 have F:(m2.ds.map Dr.d).filterMap (λ d=>match d with|.tp [.int a,b,.int c,d]=>some (.tp [.int (a+m1.R),b,.int (c+m1.R),d])|_=>none)=(m2.ds.map (Dr.mv m1.R)).map Dr.d:=by
  rw[bK,bU,<-cy];exact zx λ x _=>by simp[cM,Dr.d,Dr.mv]
 rw[F]at e1;have J:(m2.ds.map Dr.d).length<=LIM:=by rw[aq];have:=Y.ds.2;unfold LIM;lia
 have Z:=zH (P:=P) n (m:=m2) (s:=s1);have d1:=λ u=>zH (P:=P) n (m:=m1) (s:=u);have r1:=zm (P:=P) n (m:=m1) (s:=s1);have ls:∀ u,bt0 (.tp (m1.ds.map Dr.d)) u=.ok (m1.ds.map Dr.d) u:=λ _=>rfl;have ad:qH .add (.ref (s1.length+1)) (.ref s1.length) (s1++[O.J ((m2.ds.map (Dr.mv m1.R)).map Dr.d)]++[O.J (m1.ds.map Dr.d)])=.ok (.ref (s1.length+2)) (s1++([O.J ((m2.ds.map (Dr.mv m1.R)).map Dr.d),O.J (m1.ds.map Dr.d)]++[.J ((zy m1.R m1.ds m2.ds).map Dr.d)])):=by
  have g1:(s1++[O.J ((m2.ds.map (Dr.mv m1.R)).map Dr.d)]++[O.J (m1.ds.map Dr.d)])[s1.length+1]?=some (.J (m1.ds.map Dr.d)):=by
   rw[aN (by simp)];simp
  have g2:(s1++[O.J ((m2.ds.map (Dr.mv m1.R)).map Dr.d)]++[O.J (m1.ds.map Dr.d)])[s1.length]?=some (.J ((m2.ds.map (Dr.mv m1.R)).map Dr.d)):=by
   rw[aS (by simp)];simp
  have hz:(m1.ds.map Dr.d).length+((m2.ds.map (Dr.mv m1.R)).map Dr.d).length<=LIM:=by
   simp only[aq];have:=h1.ds.2;have:=Y.ds.2;unfold LIM;lia
  rw[aU0 g1 g2 hz]
  congr 1
  .simp
  .simp[zy]
 have z:(s1++[O.J ((m2.ds.map (Dr.mv m1.R)).map Dr.d)]).length=s1.length+1:=by simp
 simp -implicitDefEqProofs only[exs_cons,ex_asg,ex_ret,ev_var,ev_bin,ev_call,ev_mk,evas_nil,evas_ex,evI_seq,evL_seq,R.bind_ok,bindT_one,setV_s,setV_0,getV_0,getV_s,Option.map_some,setC_some,qv,nxt_ret,fin_ret,alloc_eq,if_true,ab4,av,aP,aB,aF,ah,r1,Z,zO,sD,J,e1,mk,evL_seq,d1,ls,z,ad];exact aj5 (t:=[O.J ((m2.ds.map (Dr.mv m1.R)).map Dr.d),O.J (m1.ds.map Dr.d)]) (u:=[]) (by show D.bndL _ _=true;exact zd qF _)
end
section
variable {P:Pr}
def LsR (m1 m2:Mc)(s:Sto)(x:R D):Prop:=∃ m:Mc,m.Ok/\m.L=m1.L/\(∀ w o,ah5 (m.Wk w) o->ah5 (λ c=>m1.Wk w c\/m2.Wk w c) o)/\x=.ok m.d s
def bf4 [Has P aa4][HasC P "LETTERS" (.tp ai5)][HasC P "MOST_ROOMS" (.int 5)][Has P aa7][Has P aa8][Has P aa6][Has P ab1][Has P ac1][Has P aa5][Has P ag2][Has P ab4][Has P ad3][Has P af5] n {m1 m2}(z:m1.Ok)(F:m2.Ok)(hL:m1.L=m2.L)(hR:m1.R+m2.R<=5) s :LsR m1 m2 s ((aa0 P (n+3)).call "lesser" [m1.d,m2.d] s):=by
 have e0:(aa0 P (n+3)).call "lesser" [m1.d,m2.d] s=_:=za af5 rfl;rw[e0];have a1:=zI (P:=P) n z hL s;have a2:=zm (P:=P) (n+1) m1 s;have a3:=zm (P:=P) (n+1) m2 s;have a4:=z6 (P:=P) (n+1) (r:=(m1.R:Int)+m2.R) (by lia) s;have a5:=zu (P:=P) (n+1) m1 s;have a6:=zu (P:=P) (n+1) m2 s;have a7:=zK (P:=P) (n+1) m1 s;have a8:=zK (P:=P) (n+1) m2 s;have G:∀ {r:Nat} {l:List Nat},r<=5->(∀ i∈l,i<r)/\l.Pairwise (· < ·)->l.length<=5:=λ {r l} hr h=>by
  have:=cu (h.2.imp λ q=>aK q) λ i hi=>bR.mpr (h.1 i hi);rw[fU]at this;lia
 have l1:=G z.R5 z.bg;have l2:=G F.R5 F.bg;have Z:=G z.R5 z.en;have l4:=G F.R5 F.en;have Y:=aB0 (P:=P) (n+1) m2.bg (by lia) m1.R s;have b1:=aB0 (P:=P) (n+1) m2.en (by lia) m1.R s;have J:∀(x y:List Nat),x.length<=5->y.length<=5->qH .add (.tp (zh x)) (.tp (zh (mvN m1.R y))) s=.ok (.tp (zh (x++mvN m1.R y))) s:=λ x y hx hy=>by
  have:(zh x).length+(zh (mvN m1.R y)).length<=LIM:=by
   unfold zh mvN;simp only[aq];unfold LIM;lia
  rw[aT8 this]
  congr 1
  simp[zh]
 have b2:=qW (P:=P) n z F s;obtain⟨ds,hb,b3⟩:=al2 (P:=P) n z ((m1.R)+m2.R) (B:=zh (m1.bg++mvN m1.R m2.bg)) (E:=zh (m1.en++mvN m1.R m2.en)) zr zr (ds:=zy m1.R m1.ds m2.ds) (by
  unfold zy;rw[aA,aq];have:=z.ds.2;have:=F.ds.2;lia) (s:=s++[.J ((zy m1.R m1.ds m2.ds).map Dr.d)]) (k:=s.length) (by simp)
 refine⟨⟨m1.L,m1.R+m2.R,m1.bg++mvN m1.R m2.bg,m1.en++mvN m1.R m2.en,ds⟩,hb.okM z.L1 z.L3 (by have:=z.R1;lia) hR (ar2 z.bg F.bg) (ar2 z.en F.en) (ax1 (L:=0) (k:=0) (r:=0) z F hL),rfl,λ w o ho=>(hb.least ho).congr (be1 z w),?_⟩;have hM:(⟨m1.L,m1.R+m2.R,m1.bg++mvN m1.R m2.bg,m1.en++mvN m1.R m2.en,ds⟩:Mc).d=.tp [.int m1.L,.int ((m1.R:Int)+m2.R),.tp (zh (m1.bg++mvN m1.R m2.bg)),.tp (zh (m1.en++mvN m1.R m2.en)),.tp (ds.map Dr.d)]:=by
  show D.tp [.int m1.L,.int ((m1.R+m2.R:Nat):Int),_,_,_]=_;rw[mW]
 rw[hM];simp only[exs_cons,ex_asg,ex_ret,ex_ex,ev_var,ev_bin,ev_call,evas_nil,evas_ex,R.bind_ok,bindT_one,setV_s,setV_0,getV_0,getV_s,Option.map_some,setC_some,qv,nxt_ret,fin_ret,add_int,af5,av,aP,aB,aF,ah,a1,a2,a3,a4,a5,a6,a7,a8,Y,b1,J _ _ l1 l2,J _ _ Z l4,b2,b3];refine zF (λ n=>?_) (by nofun);unfold D.bnd;refine zd (λ d hd n=>?_) n;simp only[az,cK,or_false]at hd;rcases hd with rfl|rfl|rfl|rfl|rfl
 .rfl
 .rfl
 .unfold D.bnd;exact zd zr n
 .unfold D.bnd;exact zd zr n
 .unfold D.bnd;exact zd qF n
end
section
variable {P:Pr}
end
def cv0 { w:Nat}(hb:b<w)(hq:q<w)(h:a*w+b=p*w+q):a=p/\b=q:=by
 rcases fT a p with z|z|z
 .have:=c9 w (dR z);rw[dN]at this;omega
 .subst z;exact⟨rfl,by lia⟩
 .have:=c9 w (dR z);rw[dN]at this;omega
noncomputable def qK (w:Nat)(l l':List Nat):List Nat:=l.flatMap λ r=>l'.map λ q=>r*w+q
noncomputable def bs6 (w:Nat)(x y:Dr):Dr:=⟨x.a*w+y.a,x.l,x.b*w+y.b,x.t+y.t⟩
def qp (w:Nat)(ds es:List Dr):List Dr:=ds.flatMap λ x=>(es.filter λ y=>decide (y.l=x.l)).map (bs6 w x)
def ak5 :i∈qK w l z↔∃ r∈l,∃ q∈z,i=r*w+q:=by
 unfold qK;rw[gm];constructor
 .rintro⟨r,hr,h⟩
  obtain⟨q,hq,rfl⟩:=ay.mp h;exact⟨r,hr,q,hq,rfl⟩
 .rintro⟨r,hr,q,hq,rfl⟩
  exact⟨r,hr,aX hq⟩
def as7 :d∈qp w ds es↔∃ x∈ds,∃ y∈es,y.l=x.l/\d=bs6 w x y:=by
 unfold qp;rw[gm];constructor
 .rintro⟨r,hr,h⟩
  obtain⟨q,hq,rfl⟩:=ay.mp h;obtain⟨F,z⟩:=eJ.mp hq;exact⟨r,hr,q,F,of_decide_eq_true z,rfl⟩
 .rintro⟨r,hr,q,hq,hl,rfl⟩
  exact⟨r,hr,aX (eJ.mpr ⟨hq,decide_eq_true hl⟩)⟩
theorem aA8 (Z:∀ e∈es,e.a<w/\e.b<w):∀ {v} {p q r} {c},q<w->(Wk (qp w ds es) v (p*w+q) r c↔∃ Y J,∃ G F,r=Y*w+J/\J<w/\Wk ds v p Y G/\Wk es v q J F/\c=G+F)
 | [],p,q,r,c,hq=>by
  constructor
  .rintro⟨rfl,rfl⟩;exact⟨p,q,0,0,rfl,hq,⟨rfl,rfl⟩,⟨rfl,rfl⟩,rfl⟩
  .rintro⟨_,_,_,_,rfl,_,⟨rfl,rfl⟩,⟨rfl,rfl⟩,rfl⟩;exact⟨rfl,rfl⟩
 | z::v,p,q,r,c,hq=>by
  constructor
  .rintro⟨d,hd,ha,hl,c',hw,rfl⟩
   obtain⟨x,hx,y,hy,a1,rfl⟩:=as7.mp hd;obtain⟨rfl,rfl⟩:=cv0 (Z y hy).1 hq ha;obtain⟨Y,J,G,F,e1,e2,w1,w2,rfl⟩:=(aA8 Z (Z y hy).2).mp hw;exact⟨Y,J,x.t+G,y.t+F,e1,e2,⟨x,hx,rfl,hl,G,w1,rfl⟩,⟨y,hy,rfl,a1.trans hl,F,w2,rfl⟩,by show((x.t+y.t))+(G+F)=_;lia⟩
  .rintro⟨Y,J,_,_,e1,e2,⟨x,hx,rfl,hl,G,w1,rfl⟩,⟨y,hy,rfl,a0,F,w2,rfl⟩,rfl⟩
   exact⟨bs6 w x y,as7.mpr ⟨x,hx,y,hy,a0.trans hl.symm,rfl⟩,rfl,hl,G+F,(aA8 Z (Z y hy).2).mpr ⟨Y,J,G,F,e1,e2,w1,w2,rfl⟩,by show _=((x.t+y.t))+(G+F);lia⟩
def cz3 (m1 m2:Mc):Mc:=⟨m1.L,m1.R*m2.R,qK m2.R m1.bg m2.bg,qK m2.R m1.en m2.en,qp m2.R m1.ds m2.ds⟩
def bU2 (Y:m2.Ok) v c :(cz3 m1 m2).Wk v c↔∃ J G:Int,m1.Wk v J/\m2.Wk v G/\c=J+G:=by
 constructor
 .rintro⟨i,hi,j,hj,hw⟩
  obtain⟨p,hp,q,hq,rfl⟩:=ak5.mp hi;obtain⟨Z,F,q2,z,rfl⟩:=ak5.mp hj;obtain⟨p',q',J,G,e1,e2,w1,w2,rfl⟩:=(aA8 Y.low (Y.bg.1 q hq)).mp hw;obtain⟨rfl,rfl⟩:=cv0 (Y.en.1 q2 z) e2 e1;exact⟨J,G,⟨p,hp,Z,F,w1⟩,⟨q,hq,q2,z,w2⟩,rfl⟩
 .rintro⟨J,G,⟨p,hp,Z,F,w1⟩,⟨q,hq,q2,z,w2⟩,rfl⟩
  exact⟨_,ak5.mpr ⟨p,hp,q,hq,rfl⟩,_,ak5.mpr ⟨Z,F,q2,z,rfl⟩,(aA8 Y.low (Y.bg.1 q hq)).mpr ⟨Z,q2,J,G,rfl,Y.en.1 q2 z,w1,w2,rfl⟩⟩
theorem ak8 (h':(∀ i∈F,i<r)/\F.Pairwise (· < ·)):∀ {l},(∀ i∈l,i<k)/\l.Pairwise (· < ·)->(∀ i∈qK r l F,i<k*r)/\(qK r l F).Pairwise (· < ·)
 | [],_=>⟨λ i (G)=>absurd G cK,List.Pairwise.nil⟩
 | x::l,h=>by
  have hp:=iw.mp h.2;have J:=ak8 h' ⟨λ i G=>h.1 i (ak _ G),hp.2⟩;have hx:=h.1 x (ax ..);have e:qK r (x::l) F=(F.map λ q=>x*r+q)++qK r l F:=by unfold qK;rw[bJ]
  rw[e];refine⟨λ i G=>?_,?_⟩
  .rcases aW.mp G with z|z
   .obtain⟨q,hq,rfl⟩:=ay.mp z;have:=c9 r (dR hx);have:=h'.1 q hq;rw[dN]at *;omega
   .exact J.1 i z
  .rw[e9];refine⟨?_,J.2,λ a ha b hb=>?_⟩
   .rw[fX];exact h'.2.imp λ q=>by lia
   .obtain⟨q,hq,rfl⟩:=ay.mp ha;obtain⟨y,hy,q2,Y,rfl⟩:=ak5.mp hb;have:=c9 r (dR (hp.1 y hy));have:=h'.1 q hq;rw[dN]at *;omega
def aZ4 {m1 m2:Mc}(h1:m1.Ok)(Z:m2.Ok)(hL:m1.L=m2.L)(G:∀ d∈m1.ds,d.t<=M1)(F:∀ d∈m2.ds,d.t<=M2)(hM:M1+M2<=3):∀ x∈qp m2.R m1.ds m2.ds,x.a<m1.R*m2.R/\(97<=x.l/\x.l<97+m1.L)/\x.b<m1.R*m2.R/\x.t<4:=λ d hd=>by
 obtain⟨x,hx,y,hy,hl,rfl⟩:=as7.mp hd;have z:=h1.ds.1 x hx;have q2:=Z.ds.1 y hy;have J:=c9 m2.R (dR z.a);have Y:=c9 m2.R (dR z.b);rw[dN]at J Y;have:=q2.a;have:=q2.b;have:=G x hx;have:=F y hy;exact⟨by show x.a*m2.R+y.a<_;lia,z.l,by show x.b*m2.R+y.b<_;lia,by show x.t+y.t<4;lia⟩
theorem as3 w es :∀ ds:List Dr,(qp w ds es).length<=ds.length*es.length
 | []=>b9 _
 | x::ds=>by
  have e:qp w (x::ds) es=((es.filter λ y=>decide (y.l=x.l)).map (bs6 w x))++qp w ds es:=by unfold qp;rw[bJ]
  rw[e,aA,aq,aR,dN];have:=as3 w es ds;have:=f6 (λ y:Dr=>decide (y.l=x.l)) es;lia
theorem aA0 w z :∀ l:List Nat,(qK w l z).length=l.length*z.length
 | []=>by rw[fy,Nat.zero_mul];rfl
 | x::l=>by
  have e:qK w (x::l) z=(z.map λ q=>x*w+q)++qK w l z:=by unfold qK;rw[bJ]
  rw[e,aA,aq,aR,dN,aA0 w z l];lia
def bl6 w l z x :qK w (l++[x]) z=qK w l z++z.map λ q=>x*w+q:=by
 unfold qK;rw[d5,bJ,gr,bh]
def aX9 w ds es x :qp w (ds++[x]) es=qp w ds es++(es.filter λ y=>decide (y.l=x.l)).map (bs6 w x):=by
 unfold qp;rw[d5,bJ,gr,bh]
def McT (L Rm M:Nat)(s:Sto)(r:Nat)(x:R D):Prop:=∃(m:Mc) (b:Nat×Nat),m.Ok/\m.L=L/\m.R=Rm/\(∀ d∈m.ds,d.t<=M)/\x=.ok m.d (s.set r (zw b))
def aR5 [Has P af8][Has P ag6][Has P ai1] n {s}{r L Rm}(a3:1<=L)(a2:L<=3)(a4:1<=Rm)(a1:Rm<=5){M:Nat}(hM:M<=3)(hs:∃ b,s[r]?=some (zw b)):McT L Rm M s r ((aa0 P (n+3)).call "_law_sized" [.ref r,.int L,.int Rm,.int M] s):=by
 have e0:(aa0 P (n+3)).call "_law_sized" [.ref r,.int L,.int Rm,.int M] s=_:=za ai1 (n:=n+2) rfl;have hr:=bC0 hs;obtain⟨m1,b3,b6,e3⟩:=qc (P:=P) (n+1) hs 13 (by decide) (by decide);obtain⟨m2,b4,a7,e4⟩:=qc (P:=P) (n+1) (bm1 (b:=b3) hr) 8 (by decide) (by decide);rw[fW]at e4;obtain⟨m3,b5,a8,e5⟩:=qc (P:=P) (n+1) (bm1 (b:=b4) hr) 76 (by decide) (by decide);rw[fW]at e5;rw[e0];simp -implicitDefEqProofs [ai1,e3,e4];obtain⟨many,bb,hmany,hif⟩:∃(many:Nat) (bb:Nat×Nat),many<=75/\(if(m2:Int)=7 then
   ((aa0 P (n+2)).call "_law_take" [D.ref r,D.int 76] (List.set s r (zw b4))).bind λ d s =>
    R.ok
     (Ct.next [some (D.ref r),some (D.int L),some (D.int Rm),some (D.int M),some d,none,none,none,none]) s
   else
    R.ok
     (Ct.next
      [some (D.ref r),some (D.int L),some (D.int Rm),some (D.int M),some (D.int ↑m1),none,none,none,none])
     (List.set s r (zw b4)))=.ok (.next [some (.ref r),some (.int L),some (.int Rm),some (.int M),some (.int many),none,none,none,none]) (s.set r (zw bb)):=by
  by_cases h7:(m2:Int)=7
  .exact⟨m3,b5,by lia,by rw[if_pos h7,e5];rfl⟩
  .exact⟨m1,b4,by lia,by rw[if_neg h7]⟩
 rw[hif];simp -implicitDefEqProofs;rw[al6 (by unfold Ww62;lia) (by unfold Ww62;lia)];simp only[R.bind_ok];refine jg (Ww:=McT L Rm M s r) (λ j U u=>∃(b:Nat×Nat) (l:List Dr) (x y z:Option D),(∀ d∈l,d.Ok ⟨L,Rm,[],[],[]⟩/\d.t<=M)/\l.length=j/\U=[some (.ref r),some (.int L),some (.int Rm),some (.int M),some (.int many),some (.ref s.length),x,y,z]/\u=s.set r (zw b)++[.J (l.map Dr.d)]) ⟨bb,[],none,none,none,by simp,rfl,rfl,rfl⟩ (λ _ _ _ _ _=>rfl) ?_ ?_
 .rintro j d U u hj ⟨b,l,x,y,z,hl,F,rfl,rfl⟩
  obtain⟨b1,rfl⟩:=ao8 hj;obtain⟨k1,Z,a6,Y⟩:=aA9 (P:=P) (n+1) (t:=[.J (l.map Dr.d)]) hr b Rm (by lia) (aq2 (by lia));obtain⟨k2,G,b2,J⟩:=aA9 (P:=P) (n+1) (t:=[.J (l.map Dr.d)]) hr Z L (by lia) (aq2 (by lia));obtain⟨k3,c3,a9,f3⟩:=aA9 (P:=P) (n+1) (t:=[.J (l.map Dr.d)]) hr G Rm (by lia) (aq2 (by lia));obtain⟨k4,c4,b0,f4⟩:=aA9 (P:=P) (n+1) (t:=[.J (l.map Dr.d)]) hr c3 ((M:Int)+1) (by lia) (aq2 (by lia));refine aA3 (U:=[some (.ref r),some (.int L),some (.int Rm),some (.int M),some (.int many),some (.ref s.length),some (.int j),some (.int k1),some (.str [97+k2])]) (s:=s.set r (zw c4)++[.J ((l++[(⟨k1,97+k2,k3,k4⟩:Dr)]).map Dr.d)]) ?_ ⟨c4,l++[(⟨k1,97+k2,k3,k4⟩:Dr)],_,_,_,?_,?_,rfl,rfl⟩
  .simp -implicitDefEqProofs [turn,Y,J,f3,f4,cb5 (show k2<3 by lia)];rw[bW0 (by unfold LIM;simp;lia)];rfl
  .intro d hd;rcases aW.mp hd with h|h
   .exact hl d h
   .rw[bA.mp h];refine⟨?_,by show k4<=M;lia⟩;constructor<;>simp only<;>lia
  .simp[F]
 .rintro U u ⟨b,l,x,y,z,hl,F,rfl,rfl⟩
  obtain⟨l1,Z,g1,Y⟩:=aP0 (P:=P) n (s:=s.set r (zw b)++[.J (l.map Dr.d)]) (r:=r) ⟨b,qQ (ak9 hr)⟩ Rm (by omega);rw[aL8 (by rw[bf];exact hr),fW]at Y;obtain⟨l2,G,g2,J⟩:=aP0 (P:=P) n (s:=s.set r (zw Z)++[.J (l.map Dr.d)]) (r:=r) ⟨Z,qQ (ak9 hr)⟩ Rm (by omega);rw[aL8 (by rw[bf];exact hr),fW]at J;have a0:(s.set r (zw G)++[O.J (l.map Dr.d)])[s.length]?=some (.J (l.map Dr.d)):=by rw[aN (by simp)];simp
  have a5:l.length<=75:=by
   rw[F];simp[ah8];omega
  simp -implicitDefEqProofs [Y,J,bt0,a0,mk];refine⟨⟨L,Rm,l1,l2,l⟩,G,⟨a3,a2,a4,a1,g1,g2,λ x hx=>?_,a5⟩,rfl,rfl,λ d hd=>(hl d hd).2,?_⟩
  .have:=(hl x hx).1;exact⟨this.a,this.l,this.b,this.t⟩
  .exact aF1 (bz2 ⟨L,Rm,l1,l2,l⟩) (by nofun) rfl
def as8 {w:Nat}(hw:w<=5) a s :qH .mul (.int a) (.int w) s=.ok (.int (a*w)) s:=ag5 (am2 (by omega))
def bW2 a b c d s :ixM (.tp [a,b,c,d]) (.int 0) s=.ok a s:=rfl
def bY7 a b c d s :ixM (.tp [a,b,c,d]) (.int 1) s=.ok b s:=rfl
def bX2 a b c d s :ixM (.tp [a,b,c,d]) (.int 2) s=.ok c s:=rfl
def cf3 a b c d s :ixM (.tp [a,b,c,d]) (.int 3) s=.ok d s:=rfl
section
variable {P:Pr}
def GtR (M:Nat)(s:Sto)(x:R D):Prop:=∃ g:Int,g<=M/\x=.ok (.int g) s
theorem cj0 {M}:∀(l:List Int) a ,a<=M->(∀ y∈l,y<=M)->l.foldl max a<=M
 | [],a,h,_=>h
 | b::l,a,h,hl=>by
  rw[cE];exact cj0 l _ (by have:=hl b (ax ..);lia) λ y hy=>hl y (ak _ hy)
theorem aJ0:∀ ds:List Dr,qk (ds.map λ x=>D.int x.t)=some (ds.map λ x=>(x.t:Int))
 | []=>rfl
 | x::ds=>by rw[av,av];unfold qk;rw[aJ0 ds];rfl
def at9 [Has P aa5][Has P aa3] n {m:Mc}(hm:m.Ok){M:Nat}(Y:∀ d∈m.ds,d.t<=M) s :GtR M s ((aa0 P (n+2)).call "greatest_toll" [m.d] s):=by
 have e0:(aa0 P (n+2)).call "greatest_toll" [m.d] s=_:=za aa3 (n:=n+1) rfl;rw[e0];have Z:ai2 (.tp (m.ds.map Dr.d)) s=.ok ⟨m.ds.map Dr.d,[]⟩ s:=rfl;obtain⟨U1,s1,e1,rfl,_⟩:=zD (ok:=λ G=>chk s G []) (g:=qt (aa0 P (n+1)) (.Y 0) (.ix (.X 0) (.K (.int 3)))) (λ U u=>u=s/\∃ a,U=[a]) (λ d=>match d with|.tp [_,_,_,t]=>some t|_=>none) (m.ds.map Dr.d) [none] s ⟨rfl,none,rfl⟩ (λ _ _ _=>rfl) (by
  rintro d hd U u ⟨rfl,a,rfl⟩
  obtain⟨x,_,rfl⟩:=ay.mp hd;exact⟨[some x.d],u,rfl,rfl,_,rfl⟩)
 have F:(m.ds.map Dr.d).filterMap (λ d=>match d with|.tp [_,_,_,t]=>some t|_=>none)=m.ds.map λ x=>D.int x.t:=by
  rw[bK,<-cy];exact zx λ x _=>rfl
 rw[F]at e1;have J:(m.ds.map Dr.d).length<=LIM:=by rw[aq];have:=hm.ds.2;unfold LIM;omega
 have d1:=zH (P:=P) n (m:=m) (s:=s1);obtain⟨g,hg,mn⟩:∃ g:Int,g<=M/\mkD .max (m.ds.map λ x=>D.int x.t) (.int 0) s1=.ok (.int g) s1:=by
  unfold mkD;dsimp only;rw[aJ0];cases hd:m.ds with
  | nil=>exact⟨0,by lia,rfl⟩
  | cons x ds =>
   refine⟨_,cj0 _ _ ?_ λ y hy=>?_,rfl⟩
   .have:=Y x (by rw[hd];exact ax ..);show(x.t:Int)<=M;lia
   .obtain⟨z,hz,rfl⟩:=ay.mp hy;have:=Y z (by rw[hd];exact ak _ hz);show(z.t:Int)<=M;omega
 refine⟨g,hg,?_⟩;simp only[exs_cons,ex_ret,ev_var,ev_cst,ev_call,ev_mkD,evas_nil,evas_ex,evI_seq,Cn_int,R.bind_ok,getV_0,nxt_ret,fin_ret,if_true,aa3,av,aP,aB,aF,ah,zO,d1,Z,J,zT,e1,mn];exact zo (λ _=>rfl) (by nofun)
def au4 [HasC P "MOST_TOLL" (.int 3)][Has P aa5][Has P aa3][Has P ab9] n {m1 m2:Mc}(h1:m1.Ok)(J:m2.Ok){M1 M2:Nat}(z:∀ d∈m1.ds,d.t<=M1)(Y:∀ d∈m2.ds,d.t<=M2)(hM:M1+M2<=3) s :(aa0 P (n+3)).call "check_tolls" [m1.d,m2.d] s=.ok .N s:=by
 have F:(aa0 P (n+3)).call "check_tolls" [m1.d,m2.d] s=_:=za ab9 (n:=n+2) rfl;rw[F];have hg:ev (aa0 P (n+2)) (.gl "MOST_TOLL") [some m1.d,some m2.d] s=.ok (.int 3) s:=by
  show(match(aa0 P (n+2)).con "MOST_TOLL" with|some d=>R.ok d s|none=>.B)=_;rw[aJ9 (v:=.int 3)]
 obtain⟨g1,k1,G⟩:=at9 (P:=P) n h1 z s;obtain⟨Z,k2,f2⟩:=at9 (P:=P) n J Y s;have hn:¬((3:Int)<g1+Z):=by lia
 simp only[exs_cons,exs_nil,ex_ite,ev_var,ev_bin,ev_cmp,ev_call,evas_nil,evas_ex,R.bind_ok,getV_0,getV_s,qv,fin_next,add_int,gt_int,tru_bl,if_false,Bool.false_eq_true,decide_false,ab9,av,aP,aB,aF,ah,G,f2,hg,hn,qX]
def BoR (l:List Nat)(s:Sto)(x:R D):Prop:=x=.ok (.tp (zh l)) s
def aj2 [Has P ac4] n  l z (hl:l.length<=5)(J:z.length<=5){w}(hw:w<=5) s :BoR (qK w l z) s ((aa0 P (n+1)).call "both_rooms" [.tp (zh l),.tp (zh z),.int w] s):=by
 have e0:(aa0 P (n+1)).call "both_rooms" [.tp (zh l),.tp (zh z),.int w] s=_:=za ac4 rfl;rw[e0];have sq:ai2 (.tp (zh l)) (s++[.J []])=.ok ⟨zh l,[]⟩ (s++[.J []]):=rfl;simp [ac4];refine jg (Ww:=BoR (qK w l z) s) (λ j U t=>∃ x,j<=l.length/\U=[some (.tp (zh l)),some (.tp (zh z)),some (.int w),some (.ref s.length),x]/\t=s++[.J (zh (qK w (l.take j) z))])
  ⟨_,b9 _,rfl,rfl⟩ (λ _ _ _ _ _=>rfl) ?_ ?_
 .rintro j d U t hj ⟨x,a3,rfl,rfl⟩
  obtain⟨i,hi,rfl⟩:∃ i,l[j]?=some i/\d=.int i:=by
   unfold zh at hj;rw[aQ]at hj;cases e:l[j]? with
   | none=>rw[e]at hj;cases hj
   | some i=>rw[e]at hj;cases hj;exact⟨i,rfl,rfl⟩
  have hlt:j<l.length:=(ae.mp hi).1;have a1:l.take (j+1)=l.take j++[i]:=by
   have e:l[j]=i:=(ae.mp hi).2;rw[<-e,cZ]
  generalize hu:s++[O.J (zh (qK w (l.take j) z))]=u;have sD:ai2 (.tp (zh z)) u=.ok ⟨zh z,[]⟩ u:=rfl;obtain⟨U1,s1,e1,rfl,_⟩:=zD (ok:=λ a2=>chk u a2 []) (g:=qt (aa0 P n) (.Y 0) (.G .add (.G .mul (.X 1) (.X 2)) (.X 0))) (λ U v=>v=u/\∃ a,U=[a,some (.int i),some (.int w)]) (λ d=>match d with|.int q=>some (.int (i*w+q))|_=>none) (zh z) [none,some (.int i),some (.int w)] u ⟨rfl,none,rfl⟩ (λ _ _ _=>rfl) (by
   rintro d hd U v ⟨rfl,a,rfl⟩
   obtain⟨q,_,rfl⟩:=ay.mp hd;exact⟨[some (.int q),some (.int i),some (.int w)],v,by unfold qt;simp [as8 hw],rfl,_,rfl⟩)
  have a0:(zh z).filterMap (λ d=>match d with|.int q=>some (.int (i*w+q))|_=>none)=zh (z.map λ q=>i*w+q):=by
   unfold zh;rw[bK,bU,<-cy];exact zx λ q _=>by simp[cM]
  rw[a0]at e1;have F:(zh z).length<=LIM:=by unfold zh;rw[aq];unfold LIM;lia
  have Y:=aK3 (S:=s1) (k:=s.length) (l:=zh (qK w (l.take j) z)) (m:=zh (z.map λ q=>i*w+q)) (by rw[<-hu];simp) (by
   unfold zh;simp only[aq,aA0,bP];have:min j l.length*z.length<=5*5:=fc (by lia) J;unfold LIM;lia)
  have G:s1.set s.length (.J (zh (qK w (l.take j) z)++zh (z.map λ q=>i*w+q)))=s++[.J (zh (qK w (l.take (j+1)) z))]:=by
   rw[<-hu,a1,bl6];simp[zh]
  rw[G]at Y;refine aA3 (U:=[some (.tp (zh l)),some (.tp (zh z)),some (.int w),some (.ref s.length),some (.int i)]) (s:=s++[.J (zh (qK w (l.take (j+1)) z))]) ?_ ⟨_,hlt,rfl,rfl⟩;simp only[exs_cons,exs_nil,ex_ex,ev_var,evI_seq,R.bind_ok,bindT_one,setV_s,setV_0,getV_0,getV_s,Option.map_some,qv,if_true,turn,bl2,zO,sD,F,zT,av,aP,ed,d9,gu,gv,e1,Y]
 .rintro U t ⟨x,a3,rfl,rfl⟩
  have Z:(zh l).length=l.length:=by unfold zh;rw[aq]
  rw[Z,cY];have ls:bt0 (.ref s.length) (s++[.J (zh (qK w l z))])=.ok (zh (qK w l z)) (s++[.J (zh (qK w l z))]):=by simp[bt0]
  have F:(zh (qK w l z)).length<=LIM:=by
   unfold zh;rw[aq,aA0];have:l.length*z.length<=5*5:=fc hl J;unfold LIM;lia
  simp only[exs_cons,ex_ret,ev_var,ev_mk,evL_seq,R.bind_ok,getV_0,getV_s,qv,nxt_ret,fin_ret,qv,evL_seq,ls,mk,F];exact zF (λ n=>by unfold D.bnd;exact zd zr n) (by nofun)
def BdR (ds:List Dr)(s:Sto)(x:R D):Prop:=x=.ok (.ref s.length) (s++[.J (ds.map Dr.d)])
noncomputable def bdF (w:Nat)(x:Dr):D->Option D
 | .tp [.int a,.str [l],.int b,.int t]=>if l=x.l then some (.tp [.int (x.a*w+a),.str [x.l],.int (x.b*w+b),.int (x.t+t)])else none
 | _=>none
def bt9 :bdF w x (.tp [.int a,.str [l],.int b,.int t])=if l=x.l then some (.tp [.int (x.a*w+a),.str [x.l],.int (x.b*w+b),.int (x.t+t)])else none:=rfl
def az3 [Has P aa5][Has P ac3] n {m1 m2:Mc}(h1:m1.Ok)(h2:m2.Ok){w:Nat}(hw:w<=5) s :BdR (qp w m1.ds m2.ds) s ((aa0 P (n+2)).call "both_doors" [m1.d,m2.d,.int w] s):=by
 have e0:(aa0 P (n+2)).call "both_doors" [m1.d,m2.d,.int w] s=_:=za ac3 (n:=n+1) rfl;rw[e0];have sq:ai2 (.tp (m1.ds.map Dr.d)) (s++[.J []])=.ok ⟨m1.ds.map Dr.d,[]⟩ (s++[.J []]):=rfl;have d1:=zH (P:=P) n (m:=m1) (s:=s++[.J []]);simp [ac3,d1,sq];refine jg (Ww:=BdR (qp w m1.ds m2.ds) s) (λ j U t=>∃ x4 x5 Y x7,j<=m1.ds.length/\U=[some m1.d,some m2.d,some (.int w),some (.ref s.length),x4,x5,Y,x7]/\t=s++[.J ((qp w (m1.ds.take j) m2.ds).map Dr.d)])
  ⟨_,_,_,_,b9 _,rfl,rfl⟩ (λ _ _ _ _ _=>rfl) ?_ ?_
 .rintro j d U t hj ⟨x4,x5,Y,x7,a0,rfl,rfl⟩
  obtain⟨x,hx,rfl⟩:∃ x,m1.ds[j]?=some x/\d=x.d:=by
   rw[aQ]at hj;cases e:m1.ds[j]? with
   | none=>rw[e]at hj;cases hj
   | some x=>rw[e]at hj;cases hj;exact⟨x,rfl,rfl⟩
  have hlt:j<m1.ds.length:=(ae.mp hx).1;have a4:m1.ds.take (j+1)=m1.ds.take j++[x]:=by
   have e:m1.ds[j]=x:=(ae.mp hx).2;rw[<-e,cZ]
  generalize hu:s++[O.J ((qp w (m1.ds.take j) m2.ds).map Dr.d)]=u;have d2:=zH (P:=P) n (m:=m2) (s:=u);have sD:ai2 (.tp (m2.ds.map Dr.d)) u=.ok ⟨m2.ds.map Dr.d,[]⟩ u:=rfl;obtain⟨U1,s1,e1,rfl,_⟩:=zD (ok:=λ a5=>chk u a5 []) (g:=ay0 (aa0 P (n+1)) (.Y 0) (.Z .eq (.ix (.X 0) (.K (.int 1))) (.X 1)) (.tp (.cons (.G .add (.G .mul (.X 2) (.X 3)) (.ix (.X 0) (.K (.int 0)))) (.cons (.X 1) (.cons (.G .add (.G .mul (.X 4) (.X 3)) (.ix (.X 0) (.K (.int 2)))) (.cons (.G .add (.X 5) (.ix (.X 0) (.K (.int 3)))) .nil)))))) (λ U v=>v=u/\∃ a,U=[a,some (.str [x.l]),some (.int x.a),some (.int w),some (.int x.b),some (.int x.t)]) (bdF w x) (m2.ds.map Dr.d) [none,some (.str [x.l]),some (.int x.a),some (.int w),some (.int x.b),some (.int x.t)] u ⟨rfl,none,rfl⟩ (λ _ _ _=>rfl) (by
   rintro d hd U v ⟨rfl,a,rfl⟩
   obtain⟨y,_,rfl⟩:=ay.mp hd;refine⟨[some y.d,some (.str [x.l]),some (.int x.a),some (.int w),some (.int x.b),some (.int x.t)],v,?_,rfl,_,rfl⟩;have F:y.d=.tp [.int y.a,.str [y.l],.int y.b,.int y.t]:=rfl;unfold ay0;by_cases h:y.l=x.l
   .simp [bW2,bY7,bX2,cf3,as8 hw,h,F,bt9]
   .simp [bW2,bY7,bX2,cf3,as8 hw,h,F,bt9])
  have J:(m2.ds.map Dr.d).filterMap (bdF w x)=((m2.ds.filter λ y=>decide (y.l=x.l)).map (bs6 w x)).map Dr.d:=by
   rw[bK,bU];generalize m2.ds=es
   induction es with
   | nil=>rfl
   | cons y es ih =>
    rw[bc,gk];by_cases h:y.l=x.l
    .rw[decide_eq_true h,if_pos rfl,av,<-ih];simp[cM,Dr.d,bs6,h,bt9]
    .rw[decide_eq_false h,if_neg (by simp),<-ih];simp[cM,Dr.d,h,bt9]
  rw[J]at e1;have a6:(m2.ds.map Dr.d).length<=LIM:=by rw[aq];have:=h2.ds.2;unfold LIM;lia
  have G:=aK3 (S:=s1) (k:=s.length) (l:=(qp w (m1.ds.take j) m2.ds).map Dr.d) (m:=((m2.ds.filter λ y=>decide (y.l=x.l)).map (bs6 w x)).map Dr.d) (by rw[<-hu];simp) (by
   simp only[aq];have a1:=as3 w m2.ds (m1.ds.take j);have a2:(m1.ds.take j).length*m2.ds.length<=75*75:=fc (by rw[bP];have:=h1.ds.2;lia) h2.ds.2;have a3:=f6 (λ y:Dr=>decide (y.l=x.l)) m2.ds;have:=h2.ds.2;unfold LIM;lia)
  have z:s1.set s.length (.J ((qp w (m1.ds.take j) m2.ds).map Dr.d++((m2.ds.filter λ y=>decide (y.l=x.l)).map (bs6 w x)).map Dr.d))=s++[.J ((qp w (m1.ds.take (j+1)) m2.ds).map Dr.d)]:=by
   rw[<-hu,a4,aX9];simp
  rw[z]at G;refine aA3 (U:=[some m1.d,some m2.d,some (.int w),some (.ref s.length),some (.int x.a),some (.str [x.l]),some (.int x.b),some (.int x.t)]) (s:=s++[.J ((qp w (m1.ds.take (j+1)) m2.ds).map Dr.d)]) ?_ ⟨_,_,_,_,hlt,rfl,rfl⟩;have Z:x.d=.tp [.int x.a,.str [x.l],.int x.b,.int x.t]:=rfl;simp only[exs_cons,exs_nil,ex_ex,ev_var,ev_call,evas_nil,evas_ex,evI_seq,R.bind_ok,bindT_tup,setVs_nil,setVs_cons,setV_s,setV_0,getV_0,getV_s,Option.map_some,Option.bind_some,qv,if_true,turn,bl2,Z,jf,d2,sD,a6,zT,av,aP,ed,d9,gu,gv,e1,G]
 .rintro U t ⟨x4,x5,Y,x7,a0,rfl,rfl⟩
  rw[aq,cY];simp only[exs_cons,ex_ret,ev_var,R.bind_ok,getV_0,getV_s,qv,nxt_ret,fin_ret,qv];exact aj5 (t:=[]) (u:=[]) (by show D.bndL _ _=true;exact zd qF _)
end
section
variable {P:Pr}
def SmR (m1 m2:Mc)(s:Sto)(x:R D):Prop:=∃ m:Mc,m.Ok/\m.L=m1.L/\(∀ w o,ah5 (m.Wk w) o->ah5 (λ c=>∃ c1 c2:Int,m1.Wk w c1/\m2.Wk w c2/\c=c1+c2) o)/\x=.ok m.d s
def be0 [Has P aa4][HasC P "LETTERS" (.tp ai5)][HasC P "MOST_ROOMS" (.int 5)][HasC P "MOST_TOLL" (.int 3)][Has P aa7][Has P aa8][Has P ab9][Has P aa3][Has P aa6][Has P ab1][Has P ac1][Has P aa5][Has P ac4][Has P ac3][Has P ad3][Has P af6] n {m1 m2}(F:m1.Ok)(z:m2.Ok)(hL:m1.L=m2.L)(hR:m1.R*m2.R<=5){M1 M2}(t1:∀ d∈m1.ds,d.t<=M1)(t2:∀ d∈m2.ds,d.t<=M2)(J:M1+M2<=3) s :SmR m1 m2 s ((aa0 P (n+4)).call "summed" [m1.d,m2.d] s):=by
 have e0:(aa0 P (n+4)).call "summed" [m1.d,m2.d] s=_:=za af6 rfl;rw[e0];have a1:=zI (P:=P) (n+1) F hL s;have a2:=zm (P:=P) (n+2) m1 s;have a3:=zm (P:=P) (n+2) m2 s;have Y:(m1.R:Int)*m2.R<=5:=by rw[<-fx];lia
 have a4:=z6 (P:=P) (n+2) Y s;have Z:=au4 (P:=P) n F z t1 t2 J s;have a5:=zu (P:=P) (n+2) m1 s;have a6:=zu (P:=P) (n+2) m2 s;have a7:=zK (P:=P) (n+2) m1 s;have a8:=zK (P:=P) (n+2) m2 s;have mu:=as8 z.R5 (m1.R) s;have a0:=as8 z.R5 (m1.R) (s++[.J ((qp m2.R m1.ds m2.ds).map Dr.d)]);have G:∀ {r:Nat} {l:List Nat},r<=5->(∀ i∈l,i<r)/\l.Pairwise (· < ·)->l.length<=5:=λ {r l} hr h=>by
  have:=cu (l₂:=bn r) (h.2.imp λ q=>aK q) λ i hi=>bR.mpr (h.1 i hi);rw[fU]at this;lia
 have a9:(aa0 P (n+3)).call "both_rooms" [.tp (zh m1.bg),.tp (zh m2.bg),.int m2.R] s=_:=aj2 (P:=P) (n+2) m1.bg m2.bg (G F.R5 F.bg) (G z.R5 z.bg) z.R5 s;have b1:(aa0 P (n+3)).call "both_rooms" [.tp (zh m1.en),.tp (zh m2.en),.int m2.R] s=_:=aj2 (P:=P) (n+2) m1.en m2.en (G F.R5 F.en) (G z.R5 z.en) z.R5 s;have b2:(aa0 P (n+3)).call "both_doors" [m1.d,m2.d,.int m2.R] s=_:=az3 (P:=P) (n+1) F z z.R5 s;obtain⟨ds,hb,b3⟩:=al2 (P:=P) (n+1) F ((m1.R:Int)*m2.R) (B:=zh (qK m2.R m1.bg m2.bg)) (E:=zh (qK m2.R m1.en m2.en)) zr zr (ds:=qp m2.R m1.ds m2.ds) (by
  have x1:=as3 m2.R m2.ds m1.ds;have x2:m1.ds.length*m2.ds.length<=75*75:=fc F.ds.2 z.ds.2;lia) (s:=s++[.J ((qp m2.R m1.ds m2.ds).map Dr.d)]) (k:=s.length) (by simp)
 refine⟨⟨m1.L,m1.R*m2.R,qK m2.R m1.bg m2.bg,qK m2.R m1.en m2.en,ds⟩,hb.okM F.L1 F.L3 (Nat.mul_pos (by have:=F.R1;lia) (by have:=z.R1;lia)) hR (ak8 z.bg F.bg) (ak8 z.en F.en) (aZ4 F z hL t1 t2 J),rfl,λ w o ho=>(hb.least ho).congr (bU2 z w),?_⟩;have J:(⟨m1.L,m1.R*m2.R,qK m2.R m1.bg m2.bg,qK m2.R m1.en m2.en,ds⟩:Mc).d=.tp [.int m1.L,.int ((m1.R:Int)*m2.R),.tp (zh (qK m2.R m1.bg m2.bg)),.tp (zh (qK m2.R m1.en m2.en)),.tp (ds.map Dr.d)]:=by
  show D.tp [.int m1.L,.int ((m1.R*m2.R:Nat):Int),_,_,_]=_;rw[fx]
 rw[J];simp only[exs_cons,ex_asg,ex_ret,ex_ex,ev_var,ev_bin,ev_call,evas_nil,evas_ex,R.bind_ok,bindT_one,setV_s,setV_0,getV_0,getV_s,Option.map_some,setC_some,qv,nxt_ret,fin_ret,af6,av,aP,aB,aF,ah,a1,a2,a3,mu,a4,Z,a5,a6,a7,a8,a9,b1,b2,b3];refine zF (λ n=>?_) (by nofun);unfold D.bnd;refine zd (λ d hd n=>?_) n;simp only[az,cK,or_false]at hd;rcases hd with rfl|rfl|rfl|rfl|rfl
 .rfl
 .rfl
 .unfold D.bnd;exact zd zr n
 .unfold D.bnd;exact zd zr n
 .unfold D.bnd;exact zd qF n
end
noncomputable def zR (m1 m2:Mc)(es:List Dr):List Dr:=es.flatMap λ y=>if y.a∈m2.bg then m1.en.map λ r=>(⟨r,y.l,y.b+m1.R,y.t⟩)else[]
def aj8 :d∈zR m1 m2 es↔∃ y∈es,y.a∈m2.bg/\∃ r∈m1.en,d=⟨r,y.l,y.b+m1.R,y.t⟩:=by
 unfold zR;rw[gm];constructor
 .rintro⟨y,hy,h⟩
  by_cases hb:y.a∈m2.bg
  .rw[if_pos hb]at h;obtain⟨r,hr,rfl⟩:=ay.mp h;exact⟨y,hy,hb,r,hr,rfl⟩
  .rw[if_neg hb]at h;cases h
 .rintro⟨y,hy,hb,r,hr,rfl⟩
  exact⟨y,hy,by rw[if_pos hb];exact aX hr⟩
def ax4 m1 m2 es y :zR m1 m2 (es++[y])=zR m1 m2 es++if y.a∈m2.bg then m1.en.map λ r=>(⟨r,y.l,y.b+m1.R,y.t⟩)else[]:=by
 unfold zR;rw[d5,bJ,gr,bh]
theorem au0 :∀ {es},(zR m1 m2 es).length<=es.length*m1.en.length
 | []=>b9 _
 | y::es=>by
  have e:zR m1 m2 (y::es)=(if y.a∈m2.bg then m1.en.map λ r=>(⟨r,y.l,y.b+m1.R,y.t⟩)else[])++zR m1 m2 es:=by unfold zR;rw[bJ]
  have h:(if y.a∈m2.bg then m1.en.map λ r=>(⟨r,y.l,y.b+m1.R,y.t⟩:Dr)else[]).length<=m1.en.length:=by
   split
   .rw[aq];exact au _
   .exact b9 _
  have:=au0 (m1:=m1) (m2:=m2) (es:=es);rw[e,aA,aR,dN];lia
def bm9 (m1 m2:Mc):List Dr:=zy m1.R m1.ds m2.ds++zR m1 m2 m2.ds
noncomputable def aC2 (m1 m2:Mc):List Nat:=if m2.bg.any (λ b=>decide (b∈m2.en))then m1.en else[]
def cz7 (m1 m2:Mc):Mc:=⟨m1.L,m1.R+m2.R,m1.bg,aC2 m1 m2++mvN m1.R m2.en,bm9 m1 m2⟩
theorem ao3 (G:m1.Ok):∀ {w} {p q} {c},(Wk (bm9 m1 m2) w (p+m1.R) q c↔∃ F,q=F+m1.R/\Wk m2.ds w p F c)
 | [],p,q,c=>by
  constructor
  .rintro⟨rfl,rfl⟩;exact⟨p,rfl,rfl,rfl⟩
  .rintro⟨F,rfl,rfl,rfl⟩;exact⟨rfl,rfl⟩
 | x::w,p,q,c=>by
  constructor
  .rintro⟨d,hd,ha,hl,J,hw,rfl⟩
   rcases aW.mp hd with z|z
   .rcases aW.mp z with z|z
    .have:=(G.low d z).1;lia
    .obtain⟨e,Y,rfl⟩:=ay.mp z;obtain⟨F,e1,e2⟩:=(ao3 G ).mp hw;exact⟨F,e1,e,Y,by have:e.a+m1.R=p+m1.R:=ha;lia,hl,J,e2,rfl⟩
   .obtain⟨y,hy,hb,r,hr,rfl⟩:=aj8.mp z;have:=G.en.1 r hr;have:r=p+m1.R:=ha;lia
  .rintro⟨F,e1,e,Y,ha,hl,J,e2,rfl⟩
   exact⟨e.mv m1.R,aY _ (aG _ (aX Y)),by show e.a+m1.R=_;lia,hl,J,(ao3 G ).mpr ⟨F,e1,e2⟩,rfl⟩
def Acr (m1 m2:Mc)(w:List Nat)(p q:Nat)(c:Int):Prop:=∃(u v:List Nat) (x:Nat),w=u++x::v/\∃ r∈m1.en,∃ c1:Int,Wk m1.ds u p r c1/\∃ y∈m2.ds,y.a∈m2.bg/\y.l=x/\∃(q':Nat) (c2:Int),q=q'+m1.R/\Wk m2.ds v y.b q' c2/\c=c1+((y.t:Int)+c2)
def aL2 (h1:m1.Ok):∀ {w} {p q} {c},p<m1.R->(Wk (bm9 m1 m2) w p q c↔Wk m1.ds w p q c\/Acr m1 m2 w p q c):=by
 intro w
 induction w with
 | nil =>
  intro p q c hp;constructor
  .exact λ h=>.inl h
  .rintro(h|⟨u,v,x,e,_⟩)
   .exact h
   .cases u<;>cases e
 | cons x w ih =>
  intro p q c hp;constructor
  .rintro⟨d,hd,ha,hl,J,hw,rfl⟩
   rcases aW.mp hd with z|z
   .rcases aW.mp z with z|z
    .rcases(ih (h1.low d z).2).mp hw with k|⟨u,v,y,e,r,hr,c1,w1,F,hy,hb,G,Y,Z,e2,w2,rfl⟩
     .exact .inl ⟨d,z,ha,hl,J,k,rfl⟩
     .exact .inr ⟨x::u,v,y,by rw[e];rfl,r,hr,d.t+c1,⟨d,z,ha,hl,c1,w1,rfl⟩,F,hy,hb,G,Y,Z,e2,w2,by lia⟩
    .obtain⟨e,he,rfl⟩:=ay.mp z;have:e.a+m1.R=p:=ha;lia
   .obtain⟨y,hy,hb,r,hr,rfl⟩:=aj8.mp z;obtain⟨Y,e1,e2⟩:=(ao3 h1 ).mp hw;have a0:=ha;subst a0;exact .inr ⟨[],w,x,rfl,r,hr,0,⟨rfl,rfl⟩,y,hy,hb,hl,Y,J,e1,e2,by show(y.t)+J=_;lia⟩
  .rintro(⟨d,hd,ha,hl,J,hw,rfl⟩|⟨u,v,y,e,r,hr,c1,w1,F,hy,hb,G,Y,Z,e2,w2,rfl⟩)
   .exact⟨d,aY _ (aY _ hd),ha,hl,J,(ih (h1.low d hd).2).mpr (.inl hw),rfl⟩
   .cases u with
    | nil =>
     obtain⟨rfl,rfl⟩:=w1;cases e;exact⟨⟨p,F.l,F.b+m1.R,F.t⟩,aG _ (aj8.mpr ⟨F,hy,hb,p,hr,rfl⟩),rfl,G,Z,(ao3 h1 ).mpr ⟨Y,e2,w2⟩,by show _=(F.t)+Z;lia⟩
    | cons z u =>
     cases e;obtain⟨d,hd,ha,hl,J,hw,rfl⟩:=w1;exact⟨d,aY _ (aY _ hd),ha,hl,J+(F.t+Z),(ih (h1.low d hd).2).mpr (.inr ⟨u,v,y,rfl,r,hr,J,hw,F,hy,hb,G,Y,Z,e2,w2,rfl⟩),by lia⟩
def cw9 (m1 m2:Mc)(w:List Nat)(c:Int):Prop:=∃ i,i<=w.length/\∃ c1 c2,m1.Wk (w.take i) c1/\m2.Wk (w.drop i) c2/\c=c1+c2
def bX9 (J:m1.Ok) w c :(cz7 m1 m2).Wk w c↔cw9 m1 m2 w c:=by
 constructor
 .rintro⟨p,hp,q,hq,hw⟩
  have G:=J.bg.1 p hp;rcases(aL2 J G).mp hw with k|⟨u,v,x,rfl,r,hr,c1,Z,y,hy,hb,hl,Y,c2,rfl,w2,rfl⟩
  .have a1:=bk6 J.low G k;have F:q∈aC2 m1 m2:=by
    rcases aW.mp hq with z|z
    .exact z
    .obtain⟨Y,_,e⟩:=ay.mp z;omega
   unfold aC2 at F;by_cases hc:m2.bg.any (λ b=>decide (b∈m2.en))=true
   .rw[if_pos hc]at F;obtain⟨b,hb,hbe⟩:=d7.mp hc;exact⟨w.length,au _,c,0,by rw[cY];exact⟨p,hp,q,F,k⟩,by rw[List.drop_length];exact⟨b,hb,b,of_decide_eq_true hbe,rfl,rfl⟩,by lia⟩
   .rw[if_neg hc]at F;cases F
  .have F:Y∈m2.en:=by
    rcases aW.mp hq with z|z
    .have:=by
      unfold aC2 at z;split at z
      .exact z
      .cases z
     have:=J.en.1 _ this;lia
    .obtain⟨q2,a0,e⟩:=ay.mp z;have:=by simpa using e
     rw[<-this];exact a0
   exact⟨u.length,by rw[aA];lia,c1,y.t+c2,by rw[List.take_left];exact⟨p,hp,r,hr,Z⟩,by rw[List.drop_left];exact⟨y.a,hb,Y,F,y,hy,rfl,hl,c2,w2,rfl⟩,rfl⟩
 .rintro⟨i,hi,c1,c2,⟨p,hp,r,hr,Z⟩,⟨a,ha,q,hq,w2⟩,rfl⟩
  have G:=J.bg.1 p hp;have hw:=(eT i w).symm;generalize w.take i=u at Z hw;generalize w.drop i=v at w2 hw;subst hw;cases v with
  | nil =>
   obtain⟨rfl,rfl⟩:=w2;refine⟨p,hp,r,aY _ ?_,(aL2 J G).mpr (.inl ?_)⟩
   .unfold aC2;rw[if_pos (d7.mpr ⟨a,ha,decide_eq_true hq⟩)];exact hr
   .rw[bh];have:c1+0=c1:=by lia
    rw[this];exact Z
  | cons x v =>
   obtain⟨y,hy,rfl,hl,c',w3,rfl⟩:=w2;exact⟨p,hp,q+m1.R,aG _ (aX hq),(aL2 J G).mpr (.inr ⟨u,v,x,rfl,r,hr,c1,Z,y,hy,ha,hl,q,c',rfl,w3,rfl⟩)⟩
def bn5 (G:m1.Ok)(F:m2.Ok)(hL:m1.L=m2.L):∀ x∈bm9 m1 m2,x.a<m1.R+m2.R/\(97<=x.l/\x.l<97+m1.L)/\x.b<m1.R+m2.R/\x.t<4:=λ x hx=>by
 rcases aW.mp hx with z|z
 .exact ax1 (L:=0) (k:=0) (r:=0) G F hL x z
 .obtain⟨y,hy,hb,r,hr,rfl⟩:=aj8.mp z;have q:=F.ds.1 y hy;have:=G.en.1 r hr;have Y:=q.b;have J:=q.l;exact⟨by show r<_;lia,by rw[hL];exact J,by show y.b+m1.R<_;lia,q.t⟩
theorem cx4 :∀ l:List Nat,ah2 (l.map λ b=>D.T (f b))=some (l.map f)
 | []=>rfl
 | b::l=>by rw[av];unfold ah2;rw[cx4 l];rfl
section
variable {P:Pr}
def cy4 (m:Mc)(s:Sto)(x:R D):Prop:=x=.ok (.T (m.bg.any λ b=>decide (b∈m.en))) s
def bL3 [Has P ab1][Has P ac1][Has P aa2] n {m}(hm:m.Ok)(Z:m.bg.length<=5) s :cy4 m s ((aa0 P (n+2)).call "lets_the_empty_word_by" [m.d] s):=by
 have Y:(aa0 P (n+2)).call "lets_the_empty_word_by" [m.d] s=_:=za aa2 rfl;rw[Y];have b1:=zu (P:=P) n m s;have b2:=zK (P:=P) n m s;have sD:ai2 (.tp (zh m.bg)) s=.ok ⟨zh m.bg,[]⟩ s:=rfl;obtain⟨U1,s1,e1,rfl,_⟩:=zD (ok:=λ F=>chk s F []) (g:=qt (aa0 P (n+1)) (.Y 0) (.Z .isin (.X 0) (.call "ends_of" (.ex (.X 1) .nil)))) (λ U u=>u=s/\∃ a,U=[a,some m.d]) (λ d=>match d with|.int i=>some (.T (decide (i.toNat∈m.en)))|_=>none) (zh m.bg) [none,some m.d] s ⟨rfl,none,rfl⟩ (λ _ _ _=>rfl) (by
  rintro d hd U u ⟨rfl,a,rfl⟩
  obtain⟨i,_,rfl⟩:=ay.mp hd;refine⟨[some (.int i),some m.d],u,?_,rfl,_,rfl⟩;unfold qt;simp [b2,al9,ai9])
 have G:(zh m.bg).filterMap (λ d=>match d with|.int i=>some (.T (decide (i.toNat∈m.en)))|_=>none)=m.bg.map λ b=>D.T (decide (b∈m.en)):=by
  unfold zh;rw[bK,<-cy];exact zx λ i _=>by simp[]
 rw[G]at e1;have z:(zh m.bg).length<=LIM:=by unfold zh;rw[aq];unfold LIM;lia
 have J:mk .any (m.bg.map λ b=>D.T (decide (b∈m.en))) s1=.ok (.T (m.bg.any λ b=>decide (b∈m.en))) s1:=by
  show(match ah2 (m.bg.map λ b=>D.T (decide (b∈m.en)))with|some bs=>R.ok (D.T (bs.any id)) s1|none=>.B)=_;rw[cx4];simp[cM]
 simp only[exs_cons,ex_ret,ev_var,ev_call,ev_mk,evas_nil,evas_ex,evI_seq,R.bind_ok,getV_0,nxt_ret,fin_ret,if_true,aa2,av,aP,aB,aF,ah,zO,b1,sD,z,zT,gu,ed,gv,e1,J];exact ai8
def AcR (ds:List Dr)(s:Sto)(x:R D):Prop:=x=.ok (.ref s.length) (s++[.J (ds.map Dr.d)])
def ar1 [Has P aa6][Has P ab1][Has P ac1][Has P aa5][Has P ab8] n {m1 m2}(h1:m1.Ok)(h2:m2.Ok)(a0:m1.en.length<=5) s :AcR (zR m1 m2 m2.ds) s ((aa0 P (n+2)).call "doors_across" [m1.d,m2.d] s):=by
 have e0:(aa0 P (n+2)).call "doors_across" [m1.d,m2.d] s=_:=za ab8 rfl;rw[e0];have r1:=zm (P:=P) n m1 s;have sq:ai2 (.tp (m2.ds.map Dr.d)) (s++[.J []])=.ok ⟨m2.ds.map Dr.d,[]⟩ (s++[.J []]):=rfl;have d1:=zH (P:=P) n ;simp [ab8,r1,d1,sq];refine jg (Ww:=AcR (zR m1 m2 m2.ds) s) (λ j U t=>∃ x4 x5 x6 x7,j<=m2.ds.length/\U=[some m1.d,some m2.d,some (.int m1.R),some (.ref s.length),x4,x5,x6,x7]/\t=s++[.J ((zR m1 m2 (m2.ds.take j)).map Dr.d)])
  ⟨_,_,_,_,b9 _,rfl,rfl⟩ (λ _ _ _ _ _=>rfl) ?_ ?_
 .rintro j d U t hj ⟨x4,x5,x6,x7,a5,rfl,rfl⟩
  obtain⟨x,hx,rfl⟩:∃ x,m2.ds[j]?=some x/\d=x.d:=by
   rw[aQ]at hj;cases e:m2.ds[j]? with
   | none=>rw[e]at hj;cases hj
   | some x=>rw[e]at hj;cases hj;exact⟨x,rfl,rfl⟩
  have hlt:j<m2.ds.length:=(ae.mp hx).1;have Y:m2.ds.take (j+1)=m2.ds.take j++[x]:=by
   have e:m2.ds[j]=x:=(ae.mp hx).2;rw[<-e,cZ]
  have G:x.d=.tp [.int x.a,.str [x.l],.int x.b,.int x.t]:=rfl;by_cases hb:x.a∈m2.bg
  .generalize hu:s++[O.J ((zR m1 m2 (m2.ds.take j)).map Dr.d)]=u;have b2:=zu (P:=P) n m2 u;have b3:=zK (P:=P) n m1 u;have sD:ai2 (.tp (zh m1.en)) u=.ok ⟨zh m1.en,[]⟩ u:=rfl;have z:=ai9 (s:=u) (k:=x.a) (l:=m2.bg);rw[decide_eq_true hb]at z;obtain⟨U1,s1,e1,rfl,_⟩:=zD (ok:=λ a3=>chk u a3 []) (g:=qt (aa0 P (n+1)) (.Y 0) (.tp (.cons (.X 0) (.cons (.X 1) (.cons (.G .add (.X 2) (.X 3)) (.cons (.X 4) .nil)))))) (λ U v=>v=u/\∃ a,U=[a,some (.str [x.l]),some (.int x.b),some (.int m1.R),some (.int x.t)]) (λ d=>match d with|.int r=>some (.tp [.int r,.str [x.l],.int (x.b+m1.R),.int x.t])|_=>none) (zh m1.en) [none,some (.str [x.l]),some (.int x.b),some (.int m1.R),some (.int x.t)] u ⟨rfl,none,rfl⟩ (λ _ _ _=>rfl) (by
    rintro d hd U v ⟨rfl,a,rfl⟩
    obtain⟨r,_,rfl⟩:=ay.mp hd;exact⟨[some (.int r),some (.str [x.l]),some (.int x.b),some (.int m1.R),some (.int x.t)],v,by unfold qt;simp,rfl,_,rfl⟩)
   have Z:(zh m1.en).filterMap (λ d=>match d with|.int r=>some (.tp [.int r,.str [x.l],.int (x.b+m1.R),.int x.t])|_=>none)=(m1.en.map λ r=>(⟨r,x.l,x.b+m1.R,x.t⟩:Dr)).map Dr.d:=by
    unfold zh;rw[bK,bU,<-cy];exact zx λ q _=>by simp[cM,Dr.d]
   rw[Z]at e1;have a4:(zh m1.en).length<=LIM:=by unfold zh;rw[aq];unfold LIM;lia
   have J:=aK3 (S:=s1) (k:=s.length) (l:=(zR m1 m2 (m2.ds.take j)).map Dr.d) (m:=(m1.en.map λ r=>(⟨r,x.l,x.b+m1.R,x.t⟩:Dr)).map Dr.d) (by rw[<-hu];simp) (by
    simp only[aq];have a1:=au0 (m1:=m1) (m2:=m2) (es:=m2.ds.take j);have a2:(m2.ds.take j).length*m1.en.length<=75*5:=fc (by rw[bP];have:=h2.ds.2;lia) a0;unfold LIM;lia)
   have F:s1.set s.length (.J ((zR m1 m2 (m2.ds.take j)).map Dr.d++(m1.en.map λ r=>(⟨r,x.l,x.b+m1.R,x.t⟩:Dr)).map Dr.d))=s++[.J ((zR m1 m2 (m2.ds.take (j+1))).map Dr.d)]:=by
    rw[<-hu,Y,ax4,if_pos hb];simp
   rw[F]at J;refine aA3 (U:=[some m1.d,some m2.d,some (.int m1.R),some (.ref s.length),some (.int x.a),some (.str [x.l]),some (.int x.b),some (.int x.t)]) (s:=s++[.J ((zR m1 m2 (m2.ds.take (j+1))).map Dr.d)]) ?_ ⟨_,_,_,_,hlt,rfl,rfl⟩;simp only[exs_cons,exs_nil,ex_ite,ex_ex,ev_var,ev_cmp,ev_call,evas_nil,evas_ex,evI_seq,R.bind_ok,bindT_tup,setVs_nil,setVs_cons,setV_s,setV_0,getV_0,getV_s,Option.map_some,Option.bind_some,qv,tru_bl,if_true,turn,bl2,G,b2,al9,z,zO,b3,sD,a4,zT,av,aP,ed,d9,gu,gv,e1,J]
  .have b2:=zu (P:=P) n m2 (s++[O.J ((zR m1 m2 (m2.ds.take j)).map Dr.d)]);have z:=ai9 (s:=s++[O.J ((zR m1 m2 (m2.ds.take j)).map Dr.d)]) (k:=x.a) (l:=m2.bg);rw[decide_eq_false hb]at z;refine aA3 (U:=[some m1.d,some m2.d,some (.int m1.R),some (.ref s.length),some (.int x.a),some (.str [x.l]),some (.int x.b),some (.int x.t)]) (s:=s++[.J ((zR m1 m2 (m2.ds.take j)).map Dr.d)]) ?_ ⟨_,_,_,_,hlt,rfl,by rw[Y,ax4,if_neg hb,bh]⟩;simp only[exs_cons,exs_nil,ex_ite,ex_ex,ev_var,ev_cmp,ev_call,evas_nil,evas_ex,R.bind_ok,bindT_tup,setVs_nil,setVs_cons,setV_s,setV_0,getV_0,getV_s,Option.map_some,Option.bind_some,qv,tru_bl,if_false,Bool.false_eq_true,turn,G,b2,al9,z]
 .rintro U t ⟨x4,x5,x6,x7,a5,rfl,rfl⟩
  rw[aq,cY];simp only[exs_cons,ex_ret,ev_var,R.bind_ok,getV_0,getV_s,qv,nxt_ret,fin_ret,qv];exact aj5 (t:=[]) (u:=[]) (by show D.bndL _ _=true;exact zd qF _)
def BhR (m1 m2:Mc)(s:Sto)(x:R D):Prop:=∃ m:Mc,m.Ok/\m.L=m1.L/\(∀ w o,ah5 (m.Wk w) o->ah5 (cw9 m1 m2 w) o)/\x=.ok m.d s
def behind_ok [Has P aa4][HasC P "LETTERS" (.tp ai5)][HasC P "MOST_ROOMS" (.int 5)][Has P aa7][Has P aa8][Has P aa6][Has P ab1][Has P ac1][Has P aa5][Has P ag2][Has P ab4][Has P ab8][Has P aa2][Has P ad3][Has P af1] n {m1 m2}(z:m1.Ok)(G:m2.Ok)(hL:m1.L=m2.L)(hR:m1.R+m2.R<=5) s :BhR m1 m2 s ((aa0 P (n+3)).call "behind" [m1.d,m2.d] s):=by
 have e0:(aa0 P (n+3)).call "behind" [m1.d,m2.d] s=_:=za af1 rfl;rw[e0];have a1:=zI (P:=P) n z hL s;have a2:=zm (P:=P) (n+1) m1 s;have a3:=zm (P:=P) (n+1) m2;have a4:=z6 (P:=P) (n+1) (r:=(m1.R:Int)+m2.R) (by omega) s;have a5:=zu (P:=P) (n+1) m1;have a7:=zK (P:=P) (n+1) m1 s;have a8:=zK (P:=P) (n+1) m2 s;have lb:∀ {r:Nat} {l:List Nat},r<=5->(∀ i∈l,i<r)/\l.Pairwise (· < ·)->l.length<=5:=λ {r l} hr h=>by
  have:=cu (h.2.imp λ q=>aK q) λ i J=>bR.mpr (h.1 i J);rw[fU]at this;omega
 have l2:=lb G.R5 G.bg;have l3:=lb z.R5 z.en;have l4:=lb G.R5 G.en;have b1:=aB0 (P:=P) (n+1) m2.en (by omega) m1.R s;have b4:(aa0 P (n+2)).call "lets_the_empty_word_by" [m2.d] s=_:=bL3 n G l2 s;have ad:∀(x y:List Nat),x.length<=5->y.length<=5->qH .add (.tp (zh x)) (.tp (zh (mvN m1.R y))) s=.ok (.tp (zh (x++mvN m1.R y))) s:=λ x y hx hy=>by
  have:(zh x).length+(zh (mvN m1.R y)).length<=LIM:=by
   unfold zh mvN;simp only[aq];unfold LIM;omega
  rw[aT8 this]
  congr 1
  simp[zh]
 have b2:=qW (P:=P) n z G s;have Z:(aa0 P (n+2)).call "doors_across" [m1.d,m2.d] (s++[.J ((zy m1.R m1.ds m2.ds).map Dr.d)])=.ok (.ref (s++[O.J ((zy m1.R m1.ds m2.ds).map Dr.d)]).length) (s++[O.J ((zy m1.R m1.ds m2.ds).map Dr.d)]++[.J ((zR m1 m2 m2.ds).map Dr.d)]):=ar1 n z G l3 (s++[O.J ((zy m1.R m1.ds m2.ds).map Dr.d)]);have xl:(zR m1 m2 m2.ds).length<=75*5:=ar au0 (fc G.ds.2 l3);have yl:(zy m1.R m1.ds m2.ds).length<=150:=by unfold zy;rw[aA,aq];have:=z.ds.2;have:=G.ds.2;lia
 have F:(s++[O.J ((zy m1.R m1.ds m2.ds).map Dr.d)]).length=s.length+1:=by simp
 have b6:qH .add (.ref s.length) (.ref (s.length+1)) (s++[O.J ((zy m1.R m1.ds m2.ds).map Dr.d)]++[O.J ((zR m1 m2 m2.ds).map Dr.d)])=.ok (.ref (s.length+2)) (s++([O.J ((zy m1.R m1.ds m2.ds).map Dr.d),O.J ((zR m1 m2 m2.ds).map Dr.d),O.J ((bm9 m1 m2).map Dr.d)])):=by
  have g1:(s++[O.J ((zy m1.R m1.ds m2.ds).map Dr.d)]++[O.J ((zR m1 m2 m2.ds).map Dr.d)])[s.length+1]?=some (.J ((zR m1 m2 m2.ds).map Dr.d)):=by
   rw[aN (by simp)];simp
  have g2:(s++[O.J ((zy m1.R m1.ds m2.ds).map Dr.d)]++[O.J ((zR m1 m2 m2.ds).map Dr.d)])[s.length]?=some (.J ((zy m1.R m1.ds m2.ds).map Dr.d)):=by
   rw[aS (by simp)];simp
  have hz:((zy m1.R m1.ds m2.ds).map Dr.d).length+((zR m1 m2 m2.ds).map Dr.d).length<=LIM:=by
   simp only[aq];unfold LIM;lia
  rw[aU0 g2 g1 hz]
  congr 1
  .simp
  .simp[bm9]
 obtain⟨ds,hb,Y⟩:=al2 (P:=P) n z ((m1.R:Int)+m2.R) (B:=zh m1.bg) (E:=zh (aC2 m1 m2++mvN m1.R m2.en)) zr zr (ds:=bm9 m1 m2) (by
  unfold bm9;rw[aA];lia) (s:=s++[O.J ((zy m1.R m1.ds m2.ds).map Dr.d),O.J ((zR m1 m2 m2.ds).map Dr.d),O.J ((bm9 m1 m2).map Dr.d)]) (k:=s.length+2) (by
   rw[aN (by lia)];simp)
 have a0:(∀ i∈aC2 m1 m2,i<m1.R)/\(aC2 m1 m2).Pairwise (· < ·):=by
  unfold aC2;split
  .exact z.en
  .exact⟨λ i J=>absurd J cK,List.Pairwise.nil⟩
 refine⟨⟨m1.L,m1.R+m2.R,m1.bg,aC2 m1 m2++mvN m1.R m2.en,ds⟩,hb.okM z.L1 z.L3 (by have:=z.R1;lia) hR ⟨λ i J=>by have:=z.bg.1 i J;lia,z.bg.2⟩ (ar2 a0 G.en) (bn5 z G hL),rfl,λ w o ho=>(hb.least ho).congr (bX9 z w),?_⟩;have hM:(⟨m1.L,m1.R+m2.R,m1.bg,aC2 m1 m2++mvN m1.R m2.en,ds⟩:Mc).d=.tp [.int m1.L,.int ((m1.R:Int)+m2.R),.tp (zh m1.bg),.tp (zh (aC2 m1 m2++mvN m1.R m2.en)),.tp (ds.map Dr.d)]:=by
  show D.tp [.int m1.L,.int ((m1.R+m2.R:Nat):Int),_,_,_]=_;rw[mW]
 have done:zt s (⟨m1.L,m1.R+m2.R,m1.bg,aC2 m1 m2++mvN m1.R m2.en,ds⟩:Mc).d (s++[O.J ((zy m1.R m1.ds m2.ds).map Dr.d),O.J ((zR m1 m2 m2.ds).map Dr.d),O.J ((bm9 m1 m2).map Dr.d)])=.ok (⟨m1.L,m1.R+m2.R,m1.bg,aC2 m1 m2++mvN m1.R m2.en,ds⟩:Mc).d s:=zF (bz2 _) (by nofun);rw[hM]at done ⊢;by_cases hc:m2.bg.any (λ b=>decide (b∈m2.en))=true
 .have hl:aC2 m1 m2=m1.en:=by unfold aC2;rw[if_pos hc]
  rw[hc]at b4;rw[hl]at Y done ⊢;rw[F]at Z;simp only[exs_cons,exs_nil,ex_asg,ex_ite,ex_ret,ex_ex,ev_var,ev_bin,ev_call,evas_nil,evas_ex,R.bind_ok,bindT_one,setV_s,setV_0,getV_0,getV_s,Option.map_some,setC_some,qv,nxt_ret,fin_ret,add_int,tru_bl,if_true,af1,av,aP,aB,aF,ah,a1,a2,a3,a4,a5,a7,a8,b1,b4,ad _ _ l3 l4,b2,Z,b6,Y,qv];exact done
 .have hl:aC2 m1 m2=[]:=by unfold aC2;rw[if_neg hc]
  have a6:m2.bg.any (λ b=>decide (b∈m2.en))=false:=by simpa using hc
  rw[a6]at b4;rw[hl,aF]at Y done ⊢;rw[F]at Z;simp only[exs_cons,exs_nil,ex_asg,ex_ite,ex_ret,ex_ex,ev_var,ev_bin,ev_call,evas_nil,evas_ex,R.bind_ok,bindT_one,setV_s,setV_0,getV_0,getV_s,Option.map_some,setC_some,qv,nxt_ret,fin_ret,add_int,tru_bl,if_false,Bool.false_eq_true,af1,av,aP,aB,aF,ah,a1,a2,a3,a4,a5,a7,a8,b1,b4,b2,Z,b6,Y,qv];exact done
end
noncomputable def row (m:Nat)(f:Nat->Int):List D:=(bn m).map λ j=>.int (f j)
@[simp] theorem cr4 :(row m f).length=m:=by unfold row;simp
def aM9 s :ai2 (.tp l) s=.ok ⟨l,[]⟩ s:=rfl
def aT5 (P:Env->Sto->Prop) f l U s (h:P U s)
  (o:∀ U s,P U s->ok s=true) (st:∀ d∈l,∀ U s,P U s->∃ U' s',g d U s=.ok (some (f d),U') s'/\P U' s'):∃ U' s',ag4 ok g l U s=.ok (l.map f) s'/\P U' s':=by
 obtain⟨U',s',e,p⟩:=zD P (λ d=>some (f d)) l U s h o st;refine⟨U',s',?_,p⟩;rw[e];congr 1;induction l<;>simp_all
def aQ4 (P:Env->Sto->Prop) f (n:Nat) U s (h:P U s)
  (o:∀ U s,P U s->ok s=true) (st:∀ j,j<n->∀ U s,P U s->∃ U' s',g (.int (j:Int)) U s=.ok (some (f j),U') s'/\P U' s'):∃ U' s',ag4 ok g (ah8 0 (n)) U s=.ok ((bn n).map f) s'/\P U' s':=by
 obtain⟨U',s',e,p⟩:=aT5 (g:=g) P (λ d=>match d with|.int i=>f i.toNat|d=>d) (ah8 0 (n)) U s h o λ d hd U s hp=>by
  obtain⟨j,hj⟩:=kD hd;obtain⟨z,rfl⟩:=ao8 hj;obtain⟨U',s',e,p⟩:=st j (by lia) U s hp;refine⟨U',s',?_,p⟩;rw[lV,e];rfl
 refine⟨U',s',?_,p⟩;rw[e]
 congr 1
 unfold ah8;rw[bU,show((n:Int) - 0).toNat=n by lia];exact g6 λ j _=>by
  show f ((0)+(j:Int)).toNat=f j
  congr 1;omega
def aP6 (n:Nat):(ah8 0 (n)).length=n:=by simp[ah8]
noncomputable def prN (f g:Nat->Nat->Int)(i j:Nat):Nat->Int
 | 0=>3
 | k+1=>if f i k<3 then(let b:=(if g k j > f i k then g k j else f i k);if b<prN f g i j k then b else prN f g i j k)else prN f g i j k
def pr (m:Nat)(f g:Nat->Nat->Int)(i j:Nat):Int:=prN f g i j m
def cb0 (m:Nat)(f:Nat->Nat->Int):Sto:=(bn m).map λ i=>.J (row m (f i))
@[simp] theorem ch2 :(cb0 m f).length=m:=by unfold cb0;simp
def ix_str {j :Nat}(hj:l[j]?=some c):ixM (.str l) (.int (j)) s=.ok (.str [c]) s:=by
 have hl:=(ae.mp hj).1;have e:=(ae.mp hj).2;simp[ixM,ixn,hl,e]
noncomputable def shN (f:Nat->Nat->Int)(i j:Nat):Nat->Int
 | 0=>3
 | k+1=>let b:=max (max (f i k) (if f k k=1 then 2 else f k k)) (f k j);if b<shN f i j k then b else shN f i j k
def sh (m:Nat)(f:Nat->Nat->Int)(i j:Nat):Int:=shN f i j m
inductive Stp where
 | let_ (c:Nat)|pair (i j:Nat)|sharp (i:Nat)
noncomputable abbrev Stp.ctorIdx (x:Stp):Nat:=Stp.casesOn x (λ _=>0) (λ _ _=>1) (λ _=>2)
noncomputable def Stp.d:Stp->D
 | .let_ c=>.tp [.str [108,101,116,116,101,114],.str [c]]
 | .pair i j=>.tp [.str [112,97,105,114],.int i,.int j]
 | .sharp i=>.tp [.str [115,104,97,114,112],.int i]
section
variable {s:Sto} {r:Nat} {b:Int} {A B Cc:List D} {T:Sto}
end
section
variable {m:Nat} {f:Nat->Nat->Int} {x:Int}
end
noncomputable def co5 (a c:Int)(vs:List Int):Stp->Int
 | .let_ _=>a
 | .pair i j=>vs.getD i 0+vs.getD j 0
 | .sharp i=>vs.getD i 0*c
def vl (a c:Int)(l:List Stp):List Int:=l.foldl (λ vs x=>vs++[co5 a c vs x]) []
section
variable {F:Fns} {U:Env} {s:Sto}
end
noncomputable def Stp.t (c:Int):Stp->D
 | .sharp i=>.tp [.str [116,105,109,101,115],.int i,.int c]
 | x=>x.d
section
variable {P:Pr} [Has P bC1] [Has P av4] [HasL P al7]
end
noncomputable def addO:Option Int->Option Int->Option Int
 | some a,some b=>some (a+b)
 | _,_=>none
theorem ar7:∀ l:List (Option Int),(zE l).filterMap (λ d=>if d=D.N then none else some d)=(l.filterMap id).map D.int
 | []=>rfl
 | o::l=>by
  have z:=ar7 l;unfold zE at z ⊢;cases o with
  | none=>rw[av,bc,bc];simpa using z
  | some i=>rw[av,bc,bc];simpa using z
def aS5 [Has P ae3] n {s}{q}{l}(hq:s[q]?=some (.J (zE l)))(hl:l.length<=1000):(aa0 P (n+1)).call "least" [.ref q] s=.ok (qu (minI (l.filterMap id))) s:=by
 have z:(aa0 P (n+1)).call "least" [.ref q] s=_:=za ae3 rfl;rw[z,show(gN some [D.ref q]++ah ae3.vs none)=[some (D.ref q)]from rfl];have F:ai2 (.ref q) s=.ok ⟨zE l,[q]⟩ s:=by simp only[ai2,hq]
 obtain⟨U1,s1,e1,rfl,_⟩:=zD (ok:=λ s1=>chk s s1 [q]) (g:=ay0 (aa0 P n) (.Y 0) (.notN (.X 0)) (.X 0)) (λ U u=>u=s/\∃ x,U=[x]) (λ d=>if d=D.N then none else some d) (zE l) [none] s ⟨rfl,none,rfl⟩ (λ _ u h=>by obtain⟨rfl,_⟩:=h;simp[chk]) (by
  rintro d hd U u ⟨rfl,x,rfl⟩
  refine⟨[some d],u,?_,rfl,_,rfl⟩;unfold ay0;by_cases hn:d=.N
  .simp only[ev_var,ev_notN,R.bind_ok,bindT_one,setV_0,getV_0,tru_bl,if_true,if_false,Bool.false_eq_true,decide_true,Bool.not_true,hn]
  .simp only[ev_var,ev_notN,R.bind_ok,bindT_one,setV_0,getV_0,tru_bl,if_true,if_false,decide_false,Bool.not_false,hn])
 rw[ar7]at e1;simp only[ae3];simp only[exs_cons,ex_ret,ev_var,ev_cst,ev_mkD,evI_seq,Cn_non,R.bind_ok,getV_0,nxt_ret,fin_ret,jf,F,if_pos (show(zE l).length<=LIM by rw[aR7];unfold LIM;lia),show zT [some (D.ref q)] [none]=[none]from rfl,e1,bR9];exact aW0
def bp0 [Has P ae4] n  a b  s :(aa0 P (n+1)).call "added" [qu a,qu b] s=.ok (qu (addO a b)) s:=by
 have z:(aa0 P (n+1)).call "added" [qu a,qu b] s=_:=za ae4 rfl;rw[z,show(gN some [qu a,qu b]++ah ae4.vs none)=[some (qu a),some (qu b)]from rfl];simp only[ae4];cases a with
 | none=>simp only[exs_cons,exs_nil,ex_ite,ex_ret,ev_var,ev_cst,ev_or,ev_isN,Cn_non,R.bind_ok,getV_0,getV_s,nxt_ret,fin_ret,tru_bl,if_true,decide_true,qT,eq_self _];exact qX
 | some a=>cases b with
  | none=>simp only[exs_cons,exs_nil,ex_ite,ex_ret,ev_var,ev_cst,ev_or,ev_isN,Cn_non,R.bind_ok,getV_0,getV_s,nxt_ret,fin_ret,tru_bl,if_true,if_false,Bool.false_eq_true,decide_true,decide_false,qT,qB,eq_self _,show(D.int a=D.N)=False from eq_false (by nofun)];exact qX
  | some b=>simp only[exs_cons,exs_nil,ex_ite,ex_ret,ev_var,ev_cst,ev_bin,ev_or,ev_isN,Cn_non,R.bind_ok,getV_0,getV_s,qv,nxt_ret,fin_ret,add_int,tru_bl,if_false,Bool.false_eq_true,decide_false,qB,show(D.int a=D.N)=False from eq_false (by nofun),show(D.int b=D.N)=False from eq_false (by nofun)];exact bg9
section
variable {P:Pr} [Has P bC1]
end
noncomputable def qw (m:Mc):List (Option Int):=(bn m.R).map λ k=>if k∈m.bg then some 0 else none
def bT7 (m:Mc)(row:List (Option Int))(x b:Nat):Option Int:=minI (((m.ds.filter λ d=>decide (d.l=x)&&decide (d.b=b)).map λ d=>addO (row.getD d.a none) (some (d.t))).filterMap id)
def aQ0 (m:Mc)(row:List (Option Int))(x:Nat):List (Option Int):=(bn m.R).map (bT7 m row x)
def aY9 (m:Mc)(row:List (Option Int)):Option Int:=minI (m.en.filterMap λ q=>row.getD q none)
def ao4 {row}:∀ d∈zE row,∀ n,d.bnd n=true:=λ d hd n=>by
 obtain⟨o,_,rfl⟩:=ay.mp hd;exact ao2 _ n
def bh5 {row:List (Option Int)}(h:k<row.length) s :ixM (.tp (zE row)) (.int (k)) s=.ok (qu (row.getD k none)) s:=by
 refine ix_tup (bQ5 ?_);rw[ai h];simp[h]
def by9 q s :mk .tuple q s=.ok (.tp q) s:=rfl
def bE6 q s :mk .list q s=.ok (.ref s.length) (s++[.J q]):=rfl
def an3 [Has P ab1][Has P aa6][Has P ac7] n {m}(hm:m.Ok) s :(aa0 P (n+2)).call "first_row" [m.d] s=.ok (.tp (zE (qw m))) s:=by
 have z:(aa0 P (n+2)).call "first_row" [m.d] s=_:=za ac7 rfl;have G:=hm.R5;rw[z,show(gN some [m.d]++ah ac7.vs none)=[some m.d,none]from rfl];obtain⟨U1,s1,e1,rfl,_⟩:=aQ4 (ok:=λ s1=>chk s s1 []) (g:=qt (aa0 P (n+1)) (.Y 0) (.ite (.Z .isin (.X 0) (.X 1)) (.K (.int 0)) (.K .N))) (λ U u=>u=s/\∃ x,U=[x,some (.tp (zh m.bg))]) (λ k=>qu (if k∈m.bg then some 0 else none)) m.R [none,some (.tp (zh m.bg))] s ⟨rfl,none,rfl⟩ (λ _ _ _=>rfl) (by
  rintro k hk U u ⟨rfl,x,rfl⟩
  refine⟨[some (.int k),some (.tp (zh m.bg))],u,?_,rfl,_,rfl⟩;unfold qt;by_cases hb:k∈m.bg
  .simp -implicitDefEqProofs only[ev_var,ev_cst,ev_cmp,ev_ite,Cn_int,Cn_non,R.bind_ok,bindT_one,setV_0,getV_0,getV_s,tru_bl,if_true,decide_true,al9,ai9,hb,qB]
  .simp -implicitDefEqProofs only[ev_var,ev_cst,ev_cmp,ev_ite,Cn_int,Cn_non,R.bind_ok,bindT_one,setV_0,getV_0,getV_s,tru_bl,if_false,Bool.false_eq_true,decide_false,al9,ai9,hb,qT])
 have F:((bn m.R).map λ k=>qu (if k∈m.bg then some 0 else none))=zE (qw m):=by unfold zE qw;rw[bU];rfl
 rw[F]at e1;simp -implicitDefEqProofs only[ac7];simp -implicitDefEqProofs only[exs_cons,ex_asg,ex_ret,ev_var,ev_call,ev_mk,evas_nil,evas_ex,evI_rng1,R.bind_ok,bindT_one,setV_s,setV_0,getV_0,Option.map_some,setC_some,qv,nxt_ret,fin_ret,zu n,zm n,zO,al6 (i:=(m.R:Int)) (by unfold Ww62;lia) (by unfold Ww62;lia),if_pos (show(ah8 0 (m.R)).length<=LIM by rw[aP6];unfold LIM;lia),show zT [some m.d,some (.tp (zh m.bg))] [none,some 1]=[none,some (.tp (zh m.bg))]from rfl,e1,by9];exact qN ao4
def bv7 (row:List (Option Int))(x b:Nat):D->Option D
 | .tp [.int a,.str [l],.int c,.int t]=>if l=x/\c=(b)then some (qu (addO (row.getD a.toNat none) (some t)))else none
 | _=>none
theorem bg7 row x b :∀ ds:List Dr,(ds.map Dr.d).filterMap (bv7 row x b)=zE ((ds.filter λ d=>decide (d.l=x)&&decide (d.b=b)).map λ d=>addO (row.getD d.a none) (some (d.t)))
 | []=>rfl
 | d::ds=>by
  have F:=bg7 row x b ds;rw[av,bc];have e:bv7 row x b d.d=if d.l=x/\(d.b)=(b:Int)then some (qu (addO (row.getD (d.a:Int).toNat none) (some (d.t))))else none:=rfl;rw[e,ce];by_cases h:d.l=x/\d.b=b
  .rw[if_pos ⟨h.1,by lia⟩,gk,if_pos (by simp[h]),av];rw[F];rfl
  .rw[if_neg (λ z=>h ⟨z.1,by lia⟩),gk,if_neg (by simpa using h)];exact F
def ay6 [Has P ae3][Has P ae4][Has P aa5][Has P ab6] n {m}(hm:m.Ok){row}(hr:row.length=m.R)(x b:Nat) s :
  (aa0 P (n+2)).call "least_into" [m.d,.tp (zE row),.str [x],.int (b)] s=.ok (qu (bT7 m row x b)) s:=by
 have Z:(aa0 P (n+2)).call "least_into" [m.d,.tp (zE row),.str [x],.int (b:Int)] s=_:=za ab6 rfl;have hd:=hm.ds.2;rw[Z,show(gN some [m.d,D.tp (zE row),.str [x],.int (b:Int)]++ah ab6.vs none)=[some m.d,some (D.tp (zE row)),some (.str [x]),some (.int (b:Int))]from rfl];obtain⟨U1,s1,e1,rfl,_⟩:=zD (ok:=λ s1=>chk s s1 []) (g:=ay0 (aa0 P (n+1)) (.tp [0,1,2,3]) (.and (.Z .eq (.X 1) (.X 4)) (.Z .eq (.X 2) (.X 5))) (.call "added" (.ex (.ix (.X 6) (.X 0)) (.ex (.X 3) .nil)))) (λ U u=>u=s/\∃ y0 y1 y2 J,U=[y0,y1,y2,J,some (.str [x]),some (.int (b)),some (D.tp (zE row))]) (bv7 row x b) (m.ds.map Dr.d) [none,none,none,none,some (.str [x]),some (.int (b)),some (D.tp (zE row))] s ⟨rfl,none,none,none,none,rfl⟩ (λ _ _ _=>rfl) (by
  rintro d hd U u ⟨rfl,y0,y1,y2,J,rfl⟩
  obtain⟨z,hz,rfl⟩:=ay.mp hd;have ok:=hm.ds.1 z hz;have ei:bv7 row x b z.d=if z.l=x/\(z.b:Int)=(b:Int)then some (qu (addO (row.getD (z.a:Int).toNat none) (some (z.t:Int))))else none:=rfl;have G:=bp0 (P:=P) n (row.getD z.a none) (some (z.t)) u;rw[qB]at G;refine⟨[some (.int z.a),some (.str [z.l]),some (.int z.b),some (.int z.t),some (.str [x]),some (.int (b)),some (D.tp (zE row))],u,?_,rfl,_,_,_,_,rfl⟩;rw[ei,ce];unfold ay0;rw[show z.d=.tp [.int z.a,.str [z.l],.int z.b,.int z.t]from rfl];by_cases h1:z.l=x
  .by_cases h2:(z.b)=(b:Int)
   .rw[if_pos ⟨h1,h2⟩];simp only[ev_var,ev_cmp,ev_and,ev_ix,ev_call,evas_nil,evas_ex,R.bind_ok,bindT_tup,setVs_nil,setVs_cons,setV_s,setV_0,getV_0,getV_s,Option.map_some,Option.bind_some,zV,tru_bl,if_true,decide_true,aM7,h1,h2,bh5 (by rw[hr];exact ok.a),G]
   .rw[if_neg (λ q=>h2 q.2)];simp only[ev_var,ev_cmp,ev_and,ev_ix,ev_call,evas_nil,evas_ex,R.bind_ok,bindT_tup,setVs_nil,setVs_cons,setV_s,setV_0,getV_0,getV_s,Option.map_some,Option.bind_some,zV,tru_bl,if_true,if_false,Bool.false_eq_true,decide_true,decide_false,aM7,h1,h2]
  .rw[if_neg (λ q=>h1 q.1)];simp only[ev_var,ev_cmp,ev_and,ev_ix,ev_call,evas_nil,evas_ex,R.bind_ok,bindT_tup,setVs_nil,setVs_cons,setV_s,setV_0,getV_0,getV_s,Option.map_some,Option.bind_some,zV,tru_bl,if_false,Bool.false_eq_true,decide_false,aM7,h1])
 rw[bg7]at e1;have F:((m.ds.filter λ d=>decide (d.l=x)&&decide (d.b=b)).map λ d=>addO (row.getD d.a none) (some (d.t:Int))).length<=1000:=by
  rw[aq];exact ar (f6 _ _) (by lia)
 have Y:=aS5 (P:=P) n (s:=s1++[O.J (zE ((m.ds.filter λ d=>decide (d.l=x)&&decide (d.b=b)).map λ d=>addO (row.getD d.a none) (some (d.t:Int))))]) (by rw[aN (au _)];simp) F;simp only[ab6];simp only[exs_cons,ex_ret,ev_var,ev_call,ev_mk,evas_nil,evas_ex,evI_seq,R.bind_ok,getV_0,nxt_ret,fin_ret,zH n,aM9,jf,if_pos (show(m.ds.map Dr.d).length<=LIM by rw[aq];unfold LIM;lia),show zT [some m.d,some (D.tp (zE row)),some (.str [x]),some (.int (b:Int))] [none,none,none,none,some 2,some 3,some 1]=[none,none,none,none,some (.str [x]),some (.int (b:Int)),some (D.tp (zE row))]from rfl,e1,bE6,Y];exact zF (ao2 _) (az5 _)
def bB5 [Has P ae3][Has P ae4][Has P aa5][Has P aa6][Has P an9][Has P ab6][Has P aq9] n {m}(hm:m.Ok){row}(hr:row.length=m.R) k x s :
  (aa0 P (n+3)).call "led" [m.d,.int k,.tp (zE row),.str [x]] s=.ok (.tp (zE ((aQ0 m row x).map (cutO k)))) s:=by
 have z:(aa0 P (n+3)).call "led" [m.d,.int k,.tp (zE row),.str [x]] s=_:=za aq9 rfl;have G:=hm.R5;rw[z,show(gN some [m.d,.int k,D.tp (zE row),.str [x]]++ah aq9.vs none)=[some m.d,some (.int k),some (D.tp (zE row)),some (.str [x])]from rfl];obtain⟨U1,s1,e1,rfl,_⟩:=aQ4 (ok:=λ s1=>chk s s1 []) (g:=qt (aa0 P (n+2)) (.Y 0) (.call "cut" (.ex (.call "least_into" (.ex (.X 1) (.ex (.X 2) (.ex (.X 3) (.ex (.X 0) .nil))))) (.ex (.X 4) .nil)))) (λ U u=>u=s/\∃ y,U=[y,some m.d,some (D.tp (zE row)),some (.str [x]),some (.int k)]) (λ b=>qu (cutO k (bT7 m row x b))) m.R [none,some m.d,some (D.tp (zE row)),some (.str [x]),some (.int k)] s ⟨rfl,none,rfl⟩ (λ _ _ _=>rfl) (by
  rintro b hb U u ⟨rfl,y,rfl⟩
  refine⟨[some (.int b),some m.d,some (D.tp (zE row)),some (.str [x]),some (.int k)],u,?_,rfl,_,rfl⟩;unfold qt;simp -implicitDefEqProofs only[ev_var,ev_call,evas_nil,evas_ex,R.bind_ok,bindT_one,setV_0,getV_0,getV_s,ay6 n hm hr x b u,bV1 (n+1) (bT7 m row x b) k u])
 have F:((bn m.R).map λ b=>qu (cutO k (bT7 m row x b)))=zE ((aQ0 m row x).map (cutO k)):=by unfold zE aQ0;rw[bU,bU];rfl
 rw[F]at e1;simp -implicitDefEqProofs only[aq9];simp -implicitDefEqProofs only[exs_cons,ex_ret,ev_var,ev_call,ev_mk,evas_nil,evas_ex,evI_rng1,R.bind_ok,getV_0,nxt_ret,fin_ret,zm (n+1),zO,al6 (i:=(m.R:Int)) (by unfold Ww62;lia) (by unfold Ww62;lia),if_pos (show(ah8 0 (m.R)).length<=LIM by rw[aP6];unfold LIM;lia),show zT [some m.d,some (.int k),some (D.tp (zE row)),some (.str [x])] [none,some 0,some 2,some 3,some 1]=[none,some m.d,some (D.tp (zE row)),some (.str [x]),some (.int k)]from rfl,e1,by9];exact qN ao4
def ci7 {m:Mc}(hm:m.Ok):m.en.length<=5:=by
 have z:=hm.R5;have nd:=hm.en.2.imp (λ h=>aK h);have:=cu nd (λ x hx=>bR.mpr (hm.en.1 x hx));simp at this;lia
def aD2 [Has P ae3][Has P ac1][Has P ae7] n {m}(hm:m.Ok){row}(hr:row.length=m.R) s :
  (aa0 P (n+2)).call "end_of" [m.d,.tp (zE row)] s=.ok (qu (aY9 m row)) s:=by
 have F:(aa0 P (n+2)).call "end_of" [m.d,.tp (zE row)] s=_:=za ae7 rfl;have Y:=ci7 hm;rw[F,show(gN some [m.d,D.tp (zE row)]++ah ae7.vs none)=[some m.d,some (D.tp (zE row))]from rfl];obtain⟨U1,s1,e1,rfl,_⟩:=aT5 (ok:=λ s1=>chk s s1 []) (g:=qt (aa0 P (n+1)) (.Y 0) (.ix (.X 1) (.X 0))) (λ U u=>u=s/\∃ y,U=[y,some (D.tp (zE row))]) (λ d=>match d with|.int i=>qu (row.getD i.toNat none)|d=>d) (zh m.en) [none,some (D.tp (zE row))] s ⟨rfl,none,rfl⟩ (λ _ _ _=>rfl) (by
  rintro d hd U u ⟨rfl,y,rfl⟩
  obtain⟨q,hq,rfl⟩:=ay.mp hd;refine⟨[some (.int q),some (D.tp (zE row))],u,?_,rfl,_,rfl⟩;unfold qt;simp only[ev_var,ev_ix,R.bind_ok,bindT_one,setV_0,getV_0,getV_s,bh5 (by rw[hr];exact hm.en.1 q hq),ce])
 have G:(zh m.en).map (λ d=>match d with|.int i=>qu (row.getD i.toNat none)|d=>d)=zE (m.en.map λ q=>row.getD q none):=by unfold zh zE;rw[bU,bU];rfl
 rw[G]at e1;have z:=aS5 (P:=P) n (s:=s1++[O.J (zE (m.en.map λ q=>row.getD q none))]) (l:=m.en.map λ q=>row.getD q none) (by rw[aN (au _)];simp) (by rw[aq];lia);have J:minI ((m.en.map λ q=>row.getD q none).filterMap id)=aY9 m row:=by unfold aY9;rw[bK];rfl
 rw[J]at z;simp only[ae7];simp only[exs_cons,ex_ret,ev_var,ev_call,ev_mk,evas_nil,evas_ex,evI_seq,R.bind_ok,getV_0,nxt_ret,fin_ret,zK n,aM9,zO,if_pos (show(zh m.en).length<=LIM by unfold zh;rw[aq];unfold LIM;lia),show zT [some m.d,some (D.tp (zE row))] [none,some 1]=[none,some (D.tp (zE row))]from rfl,e1,bE6,z];exact zF (ao2 _) (az5 _)
section
variable {U:Type}
inductive Cov:(U->Prop)->List (List Nat×U)->List (List Nat×U)->Prop
 | nil {S}:Cov S [] []
 | skip {S w r L Ww}:S r->Cov S L Ww->Cov S L ((w,r)::Ww)
 | keep {S w r L Ww}:¬ S r->Cov (λ q=>q=r\/S q) L Ww->Cov S ((w,r)::L) ((w,r)::Ww)
def an6 (S:U->Prop)(L:List (List Nat×U)):U->Prop:=λ q=>(∃ e∈L,e.2=q)\/S q
def Cov.congr {S }{L :List (List Nat×U)}(h:Cov S L Ww)(e:∀ q,S q↔z q):Cov z L Ww:=by
 have:=funext λ q=>propext (e q)
 rwa [<-this]
def ap0 (S:U->Prop):an6 S []=S:=by funext q;simp[an6]
def qZ S w r (L:List (List Nat×U)):an6 (λ q=>q=r\/S q) L=an6 S ((w,r)::L):=by
 funext q
 simp only[an6,az,eq_iff_iff];constructor
 .rintro(⟨e,z,rfl⟩|rfl|h)
  .exact .inl ⟨e,.inr z,rfl⟩
  .exact .inl ⟨(w,q),.inl rfl,rfl⟩
  .exact .inr h
 .rintro(⟨e,rfl|z,rfl⟩|h)
  .exact .inr (.inl rfl)
  .exact .inl ⟨e,z,rfl⟩
  .exact .inr (.inr h)
def bx6 S (L M:List (List Nat×U)):an6 (an6 S L) M=an6 S (L++M):=by
 funext q
 simp only[an6,aW,eq_iff_iff];constructor
 .rintro(⟨e,z,rfl⟩|⟨e,z,rfl⟩|h)
  .exact .inl ⟨e,.inr z,rfl⟩
  .exact .inl ⟨e,.inl z,rfl⟩
  .exact .inr h
 .rintro(⟨e,z|z,rfl⟩|h)
  .exact .inr (.inl ⟨e,z,rfl⟩)
  .exact .inl ⟨e,z,rfl⟩
  .exact .inr (.inr h)
def Cov.append {S}{L :List (List Nat×U)}(h:Cov S L Ww)(h':Cov (an6 S L) L' Ww'):Cov S (L++L') (Ww++Ww'):=by
 induction h with
 | nil=>rw[ap0]at h';exact h'
 | skip hs _ ih=>exact .skip hs (ih h')
 | @keep S w r L Ww hs _ ih=>exact .keep hs (ih (by rw[qZ _ w];exact h'))
noncomputable def ao5 (p:U->Bool)(l:List (List Nat×U)):Option (List Nat):=(l.find? λ e=>p e.2).map (·.1)
def Cov.first {S}{L :List (List Nat×U)} p (h:Cov S L Ww):(∀ q,S q->p q=false)->ao5 p L=ao5 p Ww/\(ao5 p L=none->∀ q,an6 S L q->p q=false):=by
 induction h with
 | nil=>intro hp;exact⟨rfl,λ _ q hq=>by rw[ap0]at hq;exact hp q hq⟩
 | @skip S w r L Ww hs _ ih =>
  intro hp;have:=ih hp;refine⟨?_,this.2⟩;rw[this.1];unfold ao5;rw[cq,hp r hs]
 | @keep S w r L Ww hs _ ih =>
  intro hp;by_cases hr:p r=true
  .have e:∀ M:List (List Nat×U),ao5 p ((w,r)::M)=some w:=λ M=>by unfold ao5;rw[cq,hr];rfl
   rw[e,e];exact⟨rfl,by nofun⟩
  .have hr:=by simpa using hr
   have e:∀ M:List (List Nat×U),ao5 p ((w,r)::M)=ao5 p M:=λ M=>by unfold ao5;rw[cq,hr]
   have:=ih (λ q hq=>hq.elim (λ z=>by rw[z];exact hr) (hp q));rw[e,e];exact⟨this.1,λ hn q hq=>this.2 hn q (by rw[qZ _ w];exact hq)⟩
variable (f:U->Nat->U) (ls:List Nat)
noncomputable def al0 (e:List Nat×U):List (List Nat×U):=ls.map λ x=>(e.1++[x],f e.2 x)
theorem Cov.skips {L}:∀ {X:List (List Nat×U)},(∀ e∈X,T e.2)->Cov T L Y->Cov T L (X++Y)
 | [],_,c=>c
 | (w,r)::X,h,c=>.skip (h (w,r) (ax ..)) (Cov.skips (λ e z=>h e (ak _ z)) c)
def Cov.step {S}{L }(h:Cov S L Ww):∀ {T} {L'},(∀ r,S r->∀ x∈ls,T (f r x))->Cov T L' (L.flatMap (al0 f ls))->Cov T L' (Ww.flatMap (al0 f ls))/\∀ r,an6 S L r->∀ x∈ls,an6 T L' (f r x):=by
 induction h with
 | nil =>
  intro T L' hc c;exact⟨c,λ r hr x hx=>by rw[ap0]at hr;exact .inr (hc r hr x hx)⟩
 | @skip S w r L Ww hs _ ih =>
  intro T L' hc c;have:=ih hc c;refine⟨?_,this.2⟩;rw[bJ];refine Cov.skips (λ e z=>?_) this.1;obtain⟨x,hx,rfl⟩:=ay.mp z;exact hc r hs x hx
 | @keep S w r L Ww hs _ ih =>
  intro T L' hc c;rw[bJ]at c ⊢;have split:∀ {X Y} {T} {L':List (List Nat×U)},Cov T L' (X++Y)->∃ A B,L'=A++B/\Cov T A X/\Cov (an6 T A) B Y:=by
   intro X
   induction X with
   | nil=>intro Y T L' c;exact⟨[],L',rfl,.nil,by rw[ap0];exact c⟩
   | cons e X ihX =>
    intro Y T L' c;obtain⟨v,q⟩:=e;rw[aB]at c;cases c with
    | skip ht t=>obtain⟨A,B,e1,e2,G⟩:=ihX t;exact⟨A,B,e1,.skip ht e2,G⟩
    | keep hn t=>obtain⟨A,B,e1,e2,G⟩:=ihX t;exact⟨(v,q)::A,B,by rw[e1];rfl,.keep hn e2,by rw[<-qZ];exact G⟩
  obtain⟨A,B,rfl,Z,cB⟩:=split c;have J:∀ {X A} {T:U->Prop},Cov T A X->∀ e∈X,an6 T A e.2:=by
   intro X A T c
   induction c with
   | nil=>intro e z;cases z
   | skip ht _ ih =>
    intro e z;rcases az.mp z with rfl|z
    .exact .inr ht
    .exact ih e z
   | @keep T v q A X hn _ ih =>
    intro e z;rw[<-qZ];rcases az.mp z with rfl|z
    .exact .inr (.inl rfl)
    .exact ih e z
  have st:=ih (λ r' F x hx=>by
   rcases F with rfl|F
   .exact J Z _ (ay.mpr ⟨x,hx,rfl⟩)
   .exact .inr (hc r' F x hx)) cB
  refine⟨Z.append st.1,λ q hq x hx=>?_⟩;rw[<-bx6];exact st.2 q (by rw[qZ _ w];exact hq) x hx
end
def Sr (row:List (Option Int))(k:Nat)(c:Int):Prop:=row.getD k none=some c
def aY2 m row x b :ah5 (co8 (Sr row) x m.ds b) (bT7 m row x b):=by
 refine(ax2 _).congr λ c=>?_;simp only[dC,id_eq,exists_eq_right,ay,eJ,aj,decide_eq_true_eq];constructor
 .rintro⟨d,⟨hd,hl,hb⟩,e⟩
  cases hr:row.getD d.a none with
  | none=>rw[hr]at e;cases e
  | some i =>
   rw[hr]at e;cases e;exact⟨d,hd,hl,hb,i,hr,rfl⟩
 .rintro⟨d,hd,hl,hb,i,hr,rfl⟩
  exact⟨d,⟨hd,hl,hb⟩,by rw[hr];rfl⟩
noncomputable def bt5 (t:Int)(a b:Option Int):Bool:=match b with
 | none=>false
 | some j=>match a with
  | none=>true
  | some i=>decide (t*j<i)
def aG4 [Has P ac6] n  a b {t}(F:∀ j,b=some j->mulOk t j=true) s :(aa0 P (n+1)).call "is_dearer" [qu a,qu b,.int t] s=.ok (.T (bt5 t a b)) s:=by
 have z:(aa0 P (n+1)).call "is_dearer" [qu a,qu b,.int t] s=_:=za ac6 rfl;rw[z,show(gN some [qu a,qu b,.int t]++ah ac6.vs none)=[some (qu a),some (qu b),some (.int t)]from rfl];simp only[ac6];cases b with
 | none=>simp only[exs_cons,exs_nil,ex_ite,ex_ret,ev_var,ev_cst,ev_isN,Cn_bl,R.bind_ok,getV_0,getV_s,nxt_ret,fin_ret,tru_bl,if_true,decide_true,qT];exact ai8
 | some j =>
  cases a with
  | none=>simp only[exs_cons,exs_nil,ex_ite,ex_ret,ev_var,ev_cst,ev_bin,ev_cmp,ev_or,ev_isN,Cn_bl,R.bind_ok,getV_0,getV_s,qv,nxt_ret,fin_ret,tru_bl,if_true,if_false,Bool.false_eq_true,decide_true,decide_false,qT,qB,show(D.int j=D.N)=False from eq_false (by nofun)];exact ai8
  | some i=>simp only[exs_cons,exs_nil,ex_ite,ex_ret,ev_var,ev_cst,ev_bin,ev_cmp,ev_or,ev_isN,Cn_bl,R.bind_ok,getV_0,getV_s,qv,nxt_ret,fin_ret,gt_int,tru_bl,if_false,Bool.false_eq_true,decide_false,qB,show(D.int j=D.N)=False from eq_false (by nofun),show(D.int i=D.N)=False from eq_false (by nofun),ag5 (F j rfl)];exact ai8
def cm9 {s:Sto}:(s++[o])[s.length]?=some o:=by rw[aN (au _)];simp
def Cov.old {S}{L :List (List Nat×U)}(c:Cov S L X)(h:an6 S L r):Cov S L (X++[(w,r)]):=by
 have:=c.append (Ww':=[(w,r)]) (.skip h .nil)
 rwa [bh]at this
def Cov.new {S}{L :List (List Nat×U)}(c:Cov S L X)(h:¬ an6 S L r):Cov S (L++[(w,r)]) (X++[(w,r)]) :=
 c.append (.keep h .nil)
def Cov.len {S}{L :List (List Nat×U)}(c:Cov S L X):L.length<=X.length:=by
 induction c with
 | nil=>exact au _
 | skip _ _ ih=>rw[aR];lia
 | keep _ _ ih=>rw[aR,aR];lia
def Cov.sub {S}{L :List (List Nat×U)}(c:Cov S L X):∀ e∈L,e∈X:=by
 induction c with
 | nil=>intro e z;exact z
 | skip _ _ ih=>intro e z;exact ak _ (ih e z)
 | keep _ _ ih =>
  intro e z;rcases az.mp z with rfl|z
  .exact ax ..
  .exact ak _ (ih e z)
abbrev Rr:=List (Option Int)×List (Option Int)
def qE (r:Rr):D:=.tp [.tp (zE r.1),.tp (zE r.2)]
def lvD (l:List (List Nat×Rr)):List D:=l.map λ e=>.tp [.str e.1,qE e.2]
def zN (K:List Rr):List (D×D):=K.map λ r=>(qE r,.T true)
def zS (A B:Mc)(r:Rr)(x:Nat):Rr:=(aQ0 A r.1 x,aQ0 B r.2 x)
noncomputable def jj (L:Nat):List Nat:=(bn L).map (97+·)
def ci2:∀ {L},L<=3->ai5.take L=sg (jj L)
 | 0,_=>rfl
 | 1,_=>rfl
 | 2,_=>rfl
 | 3,_=>rfl
 | n+4,h=>by lia
def bv6:∀ {a b},qu a=qu b->a=b
 | none,none,_=>rfl
 | none,some _,h=>by cases h
 | some _,none,h=>by cases h
 | some a,some b,h=>by cases h;rfl
theorem aB8:∀ {a b},zE a=zE b->a=b
 | [],[],_=>rfl
 | [],_::_,h=>by cases h
 | _::_,[],h=>by cases h
 | x::a,y::b,h=>by
  have h:=h;injection h with h1 h2;rw[bv6 h1,aB8 h2]
def bv9 (h:qE a=qE b):a=b:=by
 have h:=h;injection h with h;injection h with h1 h2;injection h2 with h2 _;injection h1 with h1;injection h2 with h2;exact lD (aB8 h1) (aB8 h2)
def aR6 {row}(F:1<=row.length)(z:row.length<=1000):(D.tp (zE row)).keyS=true:=by
 show(D.hdI (zE row)&&((zE row).all D.keyF&&decide ((zE row).length<=1000)))=true;rw[aj,aj];refine⟨?_,?_,by rw[aR7];exact decide_eq_true z⟩
 .cases row with
  | nil=>cases F
  | cons o r=>cases o<;>rfl
 .rw[aU];intro d hd;obtain⟨o,_,rfl⟩:=ay.mp hd;cases o<;>rfl
def ShP (A B:Mc)(r:Rr):Prop:=r.1.length=A.R/\r.2.length=B.R
def ay3 (hA:A.Ok)(hB:B.Ok)(h:ShP A B r):(qE r).keyT=true:=by
 have z:=hA.R1;have a5:=hA.R5;have b1:=hB.R1;have F:=hB.R5;have k1:=aR6 (by rw[h.1];exact z) (by rw[h.1];lia);have k2:=aR6 (by rw[h.2];exact b1) (by rw[h.2];lia);show(true&&((([D.tp (zE r.1),D.tp (zE r.2)]).all D.keyS)&&decide (2<=1000)))=true;rw[cz,cz,k1,k2];rfl
def aT0 r n :(qE r).bnd n=true:=by
 unfold qE D.bnd;refine zd (λ d hd n=>?_) n;rcases az.mp hd with rfl|hd
 .unfold D.bnd;exact zd ao4 n
 .rcases az.mp hd with rfl|hd
  .unfold D.bnd;exact zd ao4 n
  .cases hd
theorem at4 r :∀ K:List Rr,(look (qE r) (zN K)).isSome=decide (r∈K)
 | []=>by simp[zN,look]
 | a::K=>by
  have F:=at4 r K;show(if qE a=qE r then some (D.T true)else look (qE r) (zN K)).isSome=_;by_cases h:a=r
  .subst h;rw[if_pos rfl];simp
  .rw[if_neg (λ z=>h (bv9 z)),F];simp[dk h,eq_comm]
def bw6 (h:r ∉ K):aI3 (qE r) (.T true) (zN K)=zN (K++[r]):=by
 unfold aI3;rw[at4,decide_eq_false h,if_neg (by nofun)];unfold zN;rw[fA];rfl
def bH8 (hA:A.Ok)(hB:B.Ok)(h:ShP A B r)(g:s[q]?=some (.dit (zN K))):inM (qE r) (.ref q) s=.ok (decide (r∈K)) s:=by
 unfold inM;simp only[g,ay3 hA hB h,if_true,at4]
def bq6 (hA:A.Ok)(hB:B.Ok)(h:ShP A B r)(g:s[q]?=some (.dit (zN K)))(hn:r ∉ K)(hl:K.length<LIM):setIx (.ref q) (qE r) (.T true) s=.ok () (s.set q (.dit (zN (K++[r])))):=by
 unfold setIx;simp only[g,ay3 hA hB h,show(zN K).length<LIM by unfold zN;rw[aq];exact hl,decide_true,nV,if_true,bw6 hn]
def aU1 m row x :(aQ0 m row x).length=m.R:=by unfold aQ0;simp
def aB5 A B r x :ShP A B (zS A B r x):=⟨aU1 ..,aU1 ..⟩
def bW9 :(O.J (lvD l)).bnd n=true:=by
 unfold O.bnd;refine zd (λ d hd n=>?_) n;obtain⟨e,_,rfl⟩:=ay.mp hd;unfold D.bnd;refine zd (λ d hd n=>?_) n;rcases az.mp hd with rfl|hd
 .rfl
 .rcases az.mp hd with rfl|hd
  .exact aT0 _ n
  .cases hd
def bw1 :(O.dit (zN K)).bnd n=true:=by
 unfold O.bnd;rw[aj];constructor
 .refine zd (λ d hd n=>?_) n;unfold zN at hd;rw[bU]at hd;obtain⟨e,_,rfl⟩:=ay.mp hd;exact aT0 _ n
 .refine zd (λ d hd n=>?_) n;unfold zN at hd;rw[bU]at hd;obtain⟨e,_,rfl⟩:=ay.mp hd;rfl
def aX3 {o :O}(F:z.bnd s.length=true)(ho:o.bnd s.length=true):zt s (.ref s.length) (s.set q z++[o])=.ok (.ref s.length) (s.set q z++[o]):=by
 unfold zt;rw[aH1 s [o] q z F,if_pos rfl];have e:(s.set q z++[o]).take s.length=s.set q z:=by rw[gM (by simp),fS (by simp)]
 have g:(s.set q z++[o])[s.length]?=some o:=by rw[aN (by simp),bf,eF];rfl
 simp only[bG,if_false,g,ho,if_true,e]
def aB3 {L:List (List Nat×Rr)}:r∈K++L.map (·.2)↔an6 (·∈K) L r:=by
 simp only[aW,ay];exact or_comm
def bD3 {L}{j:Nat}(h:(lvD L)[j]?=some d):∃ e,L[j]?=some e/\d=.tp [.str e.1,qE e.2]:=by
 unfold lvD at h;rw[aQ]at h;cases e:L[j]? with
 | none=>rw[e]at h;cases h
 | some x=>rw[e]at h;cases h;exact⟨x,rfl,rfl⟩
def ba3 {α:Type}{l:List α}{x}(h:l[j]?=some x):l.take (j+1)=l.take j++[x]:=by
 have hlt:=(ae.mp h).1;have e:=(ae.mp h).2;rw[<-e,cZ]
def aI1 {e:List Nat×Rr}(h:z[i]?=some x):(al0 f z e).take (i+1)=(al0 f z e).take i++[(e.1++[x],f e.2 x)]:=by
 refine ba3 ?_;unfold al0;rw[aQ,h];rfl
def aT7 r s :ixM (qE r) (.int 0) s=.ok (.tp (zE r.1)) s:=aq6 0 rfl
def aQ8 r s :ixM (qE r) (.int 1) s=.ok (.tp (zE r.2)) s:=aq6 1 rfl
def cs5 (A B:Mc)(k:Int)(ls:List Nat)(r:Rr):Prop:=∀ x∈ls,(aQ0 A r.1 x).map (cutO k)=aQ0 A r.1 x/\(aQ0 B r.2 x).map (cutO k)=aQ0 B r.2 x
section
variable {P:Pr} [Has P ae3] [Has P ae4] [Has P aa5] [Has P aa6] [Has P an9] [Has P ab6] [Has P aq9] [Has P aa4] [HasC P "LETTERS" (.tp ai5)] [Has P ab3]
def ar4 n (hA:A.Ok)(hB:B.Ok){L}(gp:s[p]?=some (.J (lvD L)))(gq:s[q]?=some (.dit (zN K)))
  (hL:L.length<=300) (hK:K.length<=10000) (hw:∀ e∈L,e.1.length<=100/\ShP A B e.2/\cs5 A B k (jj A.L) e.2) :
  ∃ L',Cov (·∈K) L' (L.flatMap (al0 (zS A B) (jj A.L)))/\(aa0 P (n+4)).call "level_behind" [A.d,B.d,.int k,.ref p,.ref q] s=.ok (.ref s.length) (s.set q (.dit (zN (K++L'.map (·.2))))++[.J (lvD L')]):=by
 have e0:(aa0 P (n+4)).call "level_behind" [A.d,B.d,.int k,.ref p,.ref q] s=_:=za ab3 rfl;have b2:p≠q:=λ e=>by subst e;rw[gp]at gq;cases gq
 have hp:p<s.length:=(ae.mp gp).1;have hq:q<s.length:=(ae.mp gq).1;have a1:=hA.L3;have b1:s.set q (.dit (zN K))=s:=by
  rw[<-(ae.mp gq).2,jX]
 have a3:∀ S:Sto,(aa0 P (n+3)).call "letters_of" [A.d] S=.ok (.tp (sg (jj A.L))) S:=λ S=>by
  have:=qA (P:=P) (n+2) (L:=A.L) a1 [.int A.R,.tp (zh A.bg),.tp (zh A.en),.tp (A.ds.map Dr.d)] S;rw[ci2 a1]at this;exact this
 have a7:(L.flatMap (al0 (zS A B) (jj A.L))).length<=900:=by
  have:∀ M:List (List Nat×Rr),(M.flatMap (al0 (zS A B) (jj A.L))).length<=3*M.length:=λ M=>by
   induction M with
   | nil=>exact au _
   | cons e M ih =>
    rw[bJ,aA,aR];have:(al0 (zS A B) (jj A.L) e).length=A.L:=by unfold al0 jj;simp
    lia
  have:=this L;lia
 suffices H:∃ L':List (List Nat×Rr),Cov (·∈K) L' (L.flatMap (al0 (zS A B) (jj A.L)))/\∃(G J F y9:Option D),at6 (λ u=>chk (s++[O.J []]) u [p]) (turn (aa0 P (n+3)) (.tp [6,7]) (.cons (.fo (.Y 8) (.seq (.call "letters_of" (.ex (.X 0) .nil))) (.cons (.A (.Y 9) (.tp (.cons (.call "led" (.ex (.X 0) (.ex (.X 2) (.ex (.ix (.X 7) (.K (.int 0))) (.ex (.X 8) .nil))))) (.cons (.call "led" (.ex (.X 1) (.ex (.X 2) (.ex (.ix (.X 7) (.K (.int 1))) (.ex (.X 8) .nil))))) .nil)))) (.cons (.ite (.Z .notin (.X 9) (.X 4)) (.cons (.setIx (.X 4) (.X 9) (.K (.T true))) (.cons (.ex (.me .append (.X 5) (.cons (.tp (.cons (.G .add (.X 6) (.X 8)) (.cons (.X 9) .nil))) .nil))) .nil)) .nil) .nil))) .nil)) (lvD L) [some A.d,some B.d,some (.int k),some (.ref p),some (.ref q),some (.ref s.length),none,none,none,none] (s++[O.J []])=.ok (.next [some A.d,some B.d,some (.int k),some (.ref p),some (.ref q),some (.ref s.length),G,J,F,y9]) (s.set q (.dit (zN (K++L'.map (·.2))))++[.J (lvD L')])by
  obtain⟨L',c,G,J,F,y9,e⟩:=H;refine⟨L',c,?_⟩;have sq:ai2 (.ref p) (s++[O.J []])=.ok ⟨lvD L,[p]⟩ (s++[O.J []]):=by simp only[ai2,qQ gp]
  rw[e0,show(gN some [A.d,B.d,.int k,.ref p,.ref q]++ah ab3.vs none)=[some A.d,some B.d,some (.int k),some (.ref p),some (.ref q),none,none,none,none,none]from rfl];simp only[ab3];simp only[exs_cons,ex_asg,ex_ret,ex_for,ev_var,ev_lst,evs_nil,evI_seq,R.bind_ok,bindT_one,setV_s,setV_0,getV_0,getV_s,Option.map_some,setC_some,qv,nxt_ret,fin_ret,alloc_eq,sq,e];exact aX3 bw1 bW9
 have key:=am0 (ok:=λ u=>chk (s++[O.J []]) u [p]) (g:=turn (aa0 P (n+3)) (.tp [6,7]) (.cons (.fo (.Y 8) (.seq (.call "letters_of" (.ex (.X 0) .nil))) (.cons (.A (.Y 9) (.tp (.cons (.call "led" (.ex (.X 0) (.ex (.X 2) (.ex (.ix (.X 7) (.K (.int 0))) (.ex (.X 8) .nil))))) (.cons (.call "led" (.ex (.X 1) (.ex (.X 2) (.ex (.ix (.X 7) (.K (.int 1))) (.ex (.X 8) .nil))))) .nil)))) (.cons (.ite (.Z .notin (.X 9) (.X 4)) (.cons (.setIx (.X 4) (.X 9) (.K (.T true))) (.cons (.ex (.me .append (.X 5) (.cons (.tp (.cons (.G .add (.X 6) (.X 8)) (.cons (.X 9) .nil))) .nil))) .nil)) .nil) .nil))) .nil))
  (λ j U u=>∃(L1:List (List Nat×Rr)) (G J F y9:Option D),Cov (·∈K) L1 ((L.take j).flatMap (al0 (zS A B) (jj A.L)))/\u=s.set q (.dit (zN (K++L1.map (·.2))))++[.J (lvD L1)]/\U=[some A.d,some B.d,some (.int k),some (.ref p),some (.ref q),some (.ref s.length),G,J,F,y9])
  (lvD L) 0 [some A.d,some B.d,some (.int k),some (.ref p),some (.ref q),some (.ref s.length),none,none,none,none] (s++[O.J []]) ⟨[],none,none,none,none,.nil,by rw[aP,bh,b1];rfl,rfl⟩ (λ j U u _ h=>?_) (λ j d U u hj h=>?_)
 .obtain⟨U',s',e,L',G,J,F,y9,c,rfl,rfl⟩:=key;refine⟨L',?_,G,J,F,y9,e⟩;rw[cG,show(lvD L).length=L.length from aq ..,cY]at c;exact c
 .obtain⟨L1,_,_,_,_,_,rfl,_⟩:=h;have z:(s.set q (.dit (zN (K++L1.map (·.2))))++[O.J (lvD L1)])[p]?=(s++[O.J []])[p]?:=by
   rw[aS (by rw[bf];exact hp),aS hp,bH (dk b2)]
  simp only[chk,cz,og,iV,z,decide_true]
 .rw[cG]at h;obtain⟨L1,G,J,F,y9,c,rfl,rfl⟩:=h;obtain⟨e,he,rfl⟩:=bD3 hj;obtain⟨b4,a6,a2⟩:=hw e (aE he);have ki:=am0 (ok:=λ u=>chk (s.set q (.dit (zN (K++L1.map (·.2))))++[O.J (lvD L1)]) u []) (g:=turn (aa0 P (n+3)) (.Y 8) (.cons (.A (.Y 9) (.tp (.cons (.call "led" (.ex (.X 0) (.ex (.X 2) (.ex (.ix (.X 7) (.K (.int 0))) (.ex (.X 8) .nil))))) (.cons (.call "led" (.ex (.X 1) (.ex (.X 2) (.ex (.ix (.X 7) (.K (.int 1))) (.ex (.X 8) .nil))))) .nil)))) (.cons (.ite (.Z .notin (.X 9) (.X 4)) (.cons (.setIx (.X 4) (.X 9) (.K (.T true))) (.cons (.ex (.me .append (.X 5) (.cons (.tp (.cons (.G .add (.X 6) (.X 8)) (.cons (.X 9) .nil))) .nil))) .nil)) .nil) .nil)))
   (λ i U u=>∃(L2:List (List Nat×Rr)) (F y9:Option D),Cov (·∈K) L2 ((L.take j).flatMap (al0 (zS A B) (jj A.L))++(al0 (zS A B) (jj A.L) e).take i)/\u=s.set q (.dit (zN (K++L2.map (·.2))))++[.J (lvD L2)]/\U=[some A.d,some B.d,some (.int k),some (.ref p),some (.ref q),some (.ref s.length),some (.str e.1),some (qE e.2),F,y9])
   (sg (jj A.L)) 0 [some A.d,some B.d,some (.int k),some (.ref p),some (.ref q),some (.ref s.length),some (.str e.1),some (qE e.2),F,y9] (s.set q (.dit (zN (K++L1.map (·.2))))++[O.J (lvD L1)]) ⟨L1,F,y9,by rw[kE,bh];exact c,rfl,rfl⟩ (λ _ _ _ _ _=>rfl) (λ i d U u Z h=>?_)
  .obtain⟨U',s',ei,L2,z8,z9,Y,rfl,rfl⟩:=ki;refine⟨_,_,.inl ?_,L2,some (.str e.1),some (qE e.2),z8,z9,?_,rfl,rfl⟩
   .simp only[exs_cons,exs_nil,ex_for,ev_var,ev_call,evas_nil,evas_ex,evI_seq,R.bind_ok,bindT_tup,setVs_nil,setVs_cons,setV_s,setV_0,getV_0,Option.map_some,Option.bind_some,qv,turn,a3,aM9,ei]
   .have a9:(sg (jj A.L)).length=(al0 (zS A B) (jj A.L) e).length:=by unfold sg al0;simp
    rw[cG,a9,cY]at Y;rw[show 0+j+1=j+1 by lia,ba3 he,d5,bJ,gr,bh];exact Y
  .rw[cG]at h;obtain⟨L2,z8,z9,Y,rfl,rfl⟩:=h;obtain⟨x,hx,rfl⟩:∃ x,(jj A.L)[i]?=some x/\d=.str [x]:=by
    unfold sg at Z;rw[aQ]at Z;cases ee:(jj A.L)[i]? with
    | none=>rw[ee]at Z;cases Z
    | some x=>rw[ee]at Z;cases Z;exact⟨x,rfl,rfl⟩
   have a8:=aE hx;obtain⟨cA,cB⟩:=a2 x a8;generalize hU:s.set q (.dit (zN (K++L2.map (·.2))))++[O.J (lvD L2)]=Uu;have gU:Uu[q]?=some (.dit (zN (K++L2.map (·.2)))):=by rw[<-hU];exact qQ (ak9 hq)
   have gF:Uu[s.length]?=some (.J (lvD L2)):=by rw[<-hU,aN (by simp),bf,eF];rfl
   have lA:=bB5 (P:=P) n hA a6.1 k x Uu;have lB:=bB5 (P:=P) n hB a6.2 k x Uu;rw[cA]at lA;rw[cB]at lB;have hP:D.tp [.tp (zE (aQ0 A e.2.1 x)),.tp (zE (aQ0 B e.2.2 x))]=qE (zS A B e.2 x):=rfl;have a4:=bH8 hA hB (aB5 A B e.2 x) gU;have b3:=Y.len;have hX:((L.take j).flatMap (al0 (zS A B) (jj A.L))++(al0 (zS A B) (jj A.L) e).take i).length<=900:=by
    refine ar ?_ a7;have hd:L=L.take j++e::L.drop (j+1):=by
     have hlt:j<L.length:=(ae.mp he).1;have ee:L[j]=e:=(ae.mp he).2;rw[<-ee,jI,eT]
    conv=>rhs;rw[hd]
    rw[d5,bJ,aA,aA,aA];have:((al0 (zS A B) (jj A.L) e).take i).length<=(al0 (zS A B) (jj A.L) e).length:=by rw[bP];lia
    lia
   by_cases hm:zS A B e.2 x∈K++L2.map (·.2)
   .refine⟨_,_,.inl (?_:_=R.ok (Ct.next [some A.d,some B.d,some (.int k),some (.ref p),some (.ref q),some (.ref s.length),some (.str e.1),some (qE e.2),some (.str [x]),some (qE (zS A B e.2 x))]) Uu),L2,_,_,?_,hU.symm,rfl⟩
    .simp only[exs_cons,exs_nil,ex_asg,ex_ite,ex_setIx,ev_var,ev_cst,ev_cmp,ev_tup,ev_ix,ev_call,evs_nil,evs_cons,evas_nil,evas_ex,Cn_bl,Cn_int,R.bind_ok,bindT_one,setV_s,setV_0,getV_0,getV_s,Option.map_some,setC_some,qv,tru_bl,if_false,Bool.false_eq_true,decide_true,Bool.not_true,turn,aT7,aQ8,lA,lB,hP,aS7,a4,hm]
    .rw[show 0+i+1=i+1 by lia,aI1 hx,<-dh];exact Y.old (aB3.mp hm)
   .have a0:=bq6 hA hB (aB5 A B e.2 x) gU hm (by rw[aA,aq];unfold LIM;lia);have b0:(Uu.set q (.dit (zN (K++L2.map (·.2)++[zS A B e.2 x]))))[s.length]?=some (.J (lvD L2)):=by rw[bH (by lia)];exact gF
    have a5:=av9 (v:=.tp [.str (e.1++[x]),qE (zS A B e.2 x)]) b0 (by rw[show(lvD L2).length=L2.length from aq ..];unfold LIM;lia);refine⟨_,_,.inl (?_:_=R.ok (Ct.next [some A.d,some B.d,some (.int k),some (.ref p),some (.ref q),some (.ref s.length),some (.str e.1),some (qE e.2),some (.str [x]),some (qE (zS A B e.2 x))]) ((Uu.set q (.dit (zN (K++L2.map (·.2)++[zS A B e.2 x])))).set s.length (.J (lvD L2++[.tp [.str (e.1++[x]),qE (zS A B e.2 x)]])))),L2++[(e.1++[x],zS A B e.2 x)],_,_,?_,?_,rfl⟩
    .simp only[exs_cons,exs_nil,ex_asg,ex_ite,ex_ex,ex_setIx,ev_var,ev_cst,ev_bin,ev_cmp,ev_tup,ev_ix,ev_call,ev_meth,evs_nil,evs_cons,evas_nil,evas_ex,Cn_bl,Cn_int,R.bind_ok,bindT_one,setV_s,setV_0,getV_0,getV_s,Option.map_some,setC_some,qv,tru_bl,if_true,decide_false,Bool.not_false,turn,aT7,aQ8,lA,lB,hP,aS7,a4,hm,a0,bb6 (a:=e.1) (b:=[x]) (show e.1.length+[x].length<=LIM by unfold LIM;simp;lia),a5]
    .rw[show 0+i+1=i+1 by omega,aI1 hx,<-dh];exact Y.new λ z=>hm (aB3.mpr z)
    .rw[<-hU,eO,if_pos (by rw[bf];exact hq),fW,eO,if_neg (by rw[bf];lia),bf,eF,fA,<-dh];unfold lvD;rw[fA];rfl
end
def Wn (A B:Mc):Nat->List (List Nat×Rr)
 | 0=>[([],(qw A,qw B))]
 | j+1=>(Wn A B j).flatMap (al0 (zS A B) (jj A.L))
def Bd (B:Int)(row:List (Option Int)):Prop:=∀ k c,row.getD k none=some c->0<=c/\c<=B
def aS6 {α:Type}{f}{c:α}(h:((bn n).map f).getD k none=some c):f k=some c:=by
 rw[n4,aQ]at h;by_cases hk:k<n
 .rw[dZ hk]at h;exact h
 .rw[cV (by simp;lia)]at h;cases h
def bh3 m :Bd 0 (qw m):=λ k c h=>by
 have h:=aS6 h;split at h
 .cases h;lia
 .cases h
def aS1 (hm:m.Ok){row}(h:Bd B row) x :Bd (B+3) (aQ0 m row x):=λ k c hc=>by
 have hc:=aS6 hc;have hl:=aY2 m row x k;rw[hc]at hl;obtain⟨d,hd,_,_,i,z,rfl⟩:=hl.1;have:=h d.a i z;have F:=(hm.ds.1 d hd).t;lia
def cc1 {row}(h:Bd B row)(hk:B<=k):row.map (cutO k)=row:=by
 refine(g6 λ o ho=>?_).trans (List.map_id _);obtain⟨j,hj,e⟩:=ci.mp ho;cases o with
 | none=>rfl
 | some c =>
  have:=h j c (by rw[n4,ai hj,e];rfl);show(if c<=k then some c else some (k+1))=some c;rw[if_pos (by lia)]
def ci3 {row}(h:Bd B row)(z:aY9 m row=some c):0<=c/\c<=B:=by
 have hl:=ax2 (m.en.filterMap λ q=>row.getD q none);rw[show minI (m.en.filterMap λ q=>row.getD q none)=some c from z]at hl;obtain⟨q,_,hq⟩:=dC.mp hl.1;exact h q c hq
structure WOk (A B:Mc)(j:Nat)(e:List Nat×Rr):Prop where
 len:e.1.length=j
 sh:ShP A B e.2
 b1:Bd (3*j) e.2.1
 b2:Bd (3*j) e.2.2
theorem bT0 (hA:A.Ok)(hB:B.Ok):∀ j,∀ e∈Wn A B j,WOk A B j e
 | 0,e,he=>by
  cases bA.mp he;exact⟨rfl,⟨by unfold qw;simp,by unfold qw;simp⟩,bh3 A,bh3 B⟩
 | j+1,e,he=>by
  obtain⟨e',z,hk⟩:=gm.mp he;obtain⟨x,_,rfl⟩:=ay.mp hk;have w:=bT0 hA hB j e' z;have F:(3*((j+1:Nat)))=3*(j:Int)+3:=by lia
  exact⟨by skip;rw[aA,w.len];rfl,aB5 ..,by rw[F];exact aS1 hA w.b1 x,by rw[F];exact aS1 hB w.b2 x⟩
theorem aC0 (hA:A.Ok):∀ M:List (List Nat×Rr),(M.flatMap (al0 (zS A B) (jj A.L))).length<=3*M.length
 | []=>au _
 | e::M=>by
  have z:=aC0 (B:=B) hA M;have F:=hA.L3;rw[bJ,aA,aR];have:(al0 (zS A B) (jj A.L) e).length=A.L:=by unfold al0 jj;simp
  lia
theorem bh4 (hA:A.Ok):∀ j,(Wn A B j).length<=3^j
 | 0=>au _
 | j+1=>by
  have z:=bh4 (B:=B) hA j;have:=aC0 (B:=B) hA (Wn A B j);show((Wn A B j).flatMap (al0 (zS A B) (jj A.L))).length<=3^(j+1);rw[lU];lia
def cw3 (p:U->Bool)(Ww:Nat->List (List Nat×U))(long:Nat)(d:D):Prop :=
 (∃ j w,j<=long/\(∀ i,i<j->ao5 p (Ww i)=none)/\ao5 p (Ww j)=some w/\d=.str w)\/(∀ i,i<=long->ao5 p (Ww i)=none)/\d=.N
def bx5 {l:List (List Nat×U)}(h:∀ e∈l,p e.2=false):ao5 p l=none:=by
 unfold ao5;rw[iy.mpr λ e z=>by rw[h e z];nofun];rfl
def cg1 {e:List Nat×U}(z:l[i]?=some e)(h:∀ e∈l.take i,p e.2=false)(hp:p e.2=true):ao5 p l=some e.1:=by
 have hd:l=l.take i++e::l.drop (i+1):=by
  have hlt:=(ae.mp z).1;have F:=(ae.mp z).2;rw[<-F,jI,eT]
 unfold ao5;rw[hd,List.find?_append,iy.mpr λ e z=>by rw[h e z];nofun,Option.none_or,cq,hp];rfl
@[simp] theorem bE7 k v :ev F (.dicU k v) U s=(ev F k U (s++[.dit []])).bind λ kd s1=>(ev F v U s1).bind λ z s2=>if kd.keyT=true/\s2[s.length]?=some (.dit [])then .ok (.ref s.length) (s2.set s.length (.dit [(kd,z)]))else .B:=rfl
def bF9 (x:D):M Sq:=λ s=>match x with|.int i=>if 0<=i/\i<1048576 then .ok ⟨am1 i,[]⟩ s else .B|_=>.B
@[simp] theorem bo0 a :evI F (.rngD a) U s=(ev F a U s).bind λ x s=>bF9 x s:=rfl
def bJ3 (h:0<=i/\i<1048576):bF9 (.int i) s=.ok ⟨am1 i,[]⟩ s:=by unfold bF9;simp only[h,and_self,if_true]
def bu5 {n :Nat}(h:(am1 (n:Int))[j]?=some d):j<=n/\d=.int ((n) - (j)):=by
 unfold am1 at h;rw[aQ]at h;by_cases hj:j<((n:Int)+1).toNat
 .rw[dZ hj]at h;cases h;exact⟨by lia,by show D.int ((n)+(j)*(-1))=_;rw[show(n)+(j)*(-1)=(n) - (j:Int)by lia]⟩
 .rw[cV (by simp;lia)]at h;cases h
def bp7 (n:Nat):(am1 (n)).length=n+1:=by unfold am1;simp
def prD (A B:Mc)(t:Int)(r:Rr):Bool:=bt5 t (aY9 A r.1) (aY9 B r.2)
section
variable {P:Pr} [Has P ae3] [Has P ae4] [Has P aa5] [Has P aa6] [Has P ab1] [Has P ac1] [Has P an9] [Has P ac7] [Has P ab6] [Has P aq9] [Has P ae7] [Has P aa4] [HasC P "LETTERS" (.tp ai5)] [HasC P "MOST_TOLL" (.int 3)] [Has P aa7] [Has P ac6] [Has P ab3] [Has P af3]
def look_level n (hA:A.Ok)(hB:B.Ok)(ht:0<=t/\t<=10^30){L}(hw:∀ e∈L,WOk A B j e)(hj:j<=5) :
  (∃ z9 z10,ao5 (prD A B t) L=none/\at6 (λ J=>chk u J [p]) (turn (aa0 P (n+3)) (.tp [9,10]) (.cons (.ite (.call "is_dearer" (.ex (.call "end_of" (.ex (.X 0) (.ex (.ix (.X 10) (.K (.int 0))) .nil))) (.ex (.call "end_of" (.ex (.X 1) (.ex (.ix (.X 10) (.K (.int 1))) .nil))) (.ex (.X 2) .nil)))) (.cons (.ret (.X 9)) .nil) .nil) .nil)) (lvD L) [some A.d,some B.d,some (.int t),a3,a4,a5,some (.ref p),a7,a8,y9,y10] u=.ok (.next [some A.d,some B.d,some (.int t),a3,a4,a5,some (.ref p),a7,a8,z9,z10]) u) \/
  ∃ w,ao5 (prD A B t) L=some w/\at6 (λ J=>chk u J [p]) (turn (aa0 P (n+3)) (.tp [9,10]) (.cons (.ite (.call "is_dearer" (.ex (.call "end_of" (.ex (.X 0) (.ex (.ix (.X 10) (.K (.int 0))) .nil))) (.ex (.call "end_of" (.ex (.X 1) (.ex (.ix (.X 10) (.K (.int 1))) .nil))) (.ex (.X 2) .nil)))) (.cons (.ret (.X 9)) .nil) .nil) .nil)) (lvD L) [some A.d,some B.d,some (.int t),a3,a4,a5,some (.ref p),a7,a8,y9,y10] u=.ok (.ret (.str w)) u:=by
 have key:=for_ret (ok:=λ J=>chk u J [p]) (g:=turn (aa0 P (n+3)) (.tp [9,10]) (.cons (.ite (.call "is_dearer" (.ex (.call "end_of" (.ex (.X 0) (.ex (.ix (.X 10) (.K (.int 0))) .nil))) (.ex (.call "end_of" (.ex (.X 1) (.ex (.ix (.X 10) (.K (.int 1))) .nil))) (.ex (.X 2) .nil)))) (.cons (.ret (.X 9)) .nil) .nil) .nil))
  (λ i U v=>v=u/\(∀ e∈L.take i,prD A B t e.2=false)/\∃ z9 z10,U=[some A.d,some B.d,some (.int t),a3,a4,a5,some (.ref p),a7,a8,z9,z10]) (λ d v=>v=u/\∃ w,ao5 (prD A B t) L=some w/\d=.str w) (lvD L) 0 [some A.d,some B.d,some (.int t),a3,a4,a5,some (.ref p),a7,a8,y9,y10] u
  ⟨rfl,(λ e G=>by rw[kE]at G;cases G),_,_,rfl⟩ (λ i U v _ h=>by rw[h.1];simp[chk]) (λ i d U v hi h=>by
   rw[cG]at h;obtain⟨rfl,hn,z9,z10,rfl⟩:=h;obtain⟨e,G,rfl⟩:=bD3 hi;have w:=hw e (aE G);have eA:=aD2 (P:=P) (n+1) hA w.sh.1 v;have eB:=aD2 (P:=P) (n+1) hB w.sh.2 v;have eD:=aG4 (P:=P) (n+2) (aY9 A e.2.1) (aY9 B e.2.2) (t:=t) (λ j' Y=>am2 (by have:=ci3 w.b2 Y;lia)) v;cases hp:prD A B t e.2 with
   | true =>
    have F:bt5 t (aY9 A e.2.1) (aY9 B e.2.2)=true:=hp;refine bB6 (d:=.str e.1) (s:=v) ?_ ⟨rfl,e.1,cg1 G hn hp,rfl⟩;simp only[exs_cons,exs_nil,ex_ite,ex_ret,ev_var,ev_cst,ev_ix,ev_call,evas_nil,evas_ex,Cn_int,R.bind_ok,bindT_tup,setVs_nil,setVs_cons,setV_s,setV_0,getV_0,getV_s,Option.map_some,Option.bind_some,nxt_ret,tru_bl,if_true,turn,aT7,aQ8,eA,eB,eD,F]
   | false =>
    have F:bt5 t (aY9 A e.2.1) (aY9 B e.2.2)=false:=hp;refine aJ4 (U:=[some A.d,some B.d,some (.int t),a3,a4,a5,some (.ref p),a7,a8,some (.str e.1),some (qE e.2)]) (s:=v) ?_ ⟨rfl,?_,_,_,rfl⟩
    .simp only[exs_cons,exs_nil,ex_ite,ex_ret,ev_var,ev_cst,ev_ix,ev_call,evas_nil,evas_ex,Cn_int,R.bind_ok,bindT_tup,setVs_nil,setVs_cons,setV_s,setV_0,getV_0,getV_s,Option.map_some,Option.bind_some,qv,nxt_ret,tru_bl,if_false,Bool.false_eq_true,turn,aT7,aQ8,eA,eB,eD,F]
    .rw[show 0+i+1=i+1 by lia,ba3 G];intro e' Z;rcases aW.mp Z with z|z
     .exact hn e' z
     .rw[bA.mp z];exact hp)
 rcases key with⟨U',s',e,rfl,hn,z9,z10,rfl⟩|⟨d,s',e,rfl,w,hw',rfl⟩
 .refine .inl ⟨z9,z10,bx5 ?_,e⟩;rw[cG,show(lvD L).length=L.length from aq ..,cY]at hn;exact hn
 .exact .inr ⟨w,hw',e⟩
def bc3 n (hA:A.Ok)(hB:B.Ok)(b3:A.L=B.L)(ht:0<=t/\t<=10^30)(hl:long<=5) s :
  ∃ d,cw3 (prD A B t) (Wn A B) long d/\(aa0 P (n+5)).call "dearer" [A.d,B.d,.int t,.int (long)] s=.ok d s:=by
 have e0:(aa0 P (n+5)).call "dearer" [A.d,B.d,.int t,.int (long:Int)] s=_:=za af3 rfl;have c1:=zI (P:=P) (n+2) hA b3 s;have f1:=an3 (P:=P) (n+2) hA;have f2:=an3 (P:=P) (n+2) hB;have a1:D.tp [.tp (zE (qw A)),.tp (zE (qw B))]=qE (qw A,qw B):=rfl;have w0:=bT0 hA hB 0 ([],(qw A,qw B)) (bA.mpr rfl);have a0:=ay3 hA hB w0.sh;have a9:∀ U S,ev (aa0 P (n+4)) (.gl "MOST_TOLL") U S=.ok (.int 3) S:=λ U S=>aA1;have a6:∀ S,qH .mul (.int 3) (.int (long:Int)) S=.ok (.int (3*(long:Int))) S:=λ S=>ag5 (bi7 (by decide));rw[e0,show(gN some [A.d,B.d,.int t,.int (long:Int)]++ah af3.vs none)=[some A.d,some B.d,some (.int t),some (.int (long:Int)),none,none,none,none,none,none,none]from rfl];have g1:(s++[O.J [D.tp [.str [],qE (qw A,qw B)]]]++[O.dit []])[(s++[O.J [D.tp [.str [],qE (qw A,qw B)]]]).length]?=some (.dit []):=cm9;have g2:(s++[O.J [D.tp [.str [],qE (qw A,qw B)]]]++[O.dit []]).set (s++[O.J [D.tp [.str [],qE (qw A,qw B)]]]).length (.dit [(qE (qw A,qw B),.T true)])=s++[O.J (lvD [([],(qw A,qw B))]),.dit (zN [(qw A,qw B)])]:=by
  rw[eO,if_neg (by lia),eF,dh];rfl
 have g3:(s++[O.J [D.tp [.str [],qE (qw A,qw B)]]]).length=s.length+1:=by simp
 rw[g3]at g1 g2;simp -implicitDefEqProofs only[af3];simp -implicitDefEqProofs only[exs_cons,ex_asg,ex_ex,ex_for,ev_var,ev_cst,ev_bin,ev_tup,ev_lst,ev_call,evs_nil,evs_cons,evas_nil,evas_ex,Cn_bl,Cn_str,R.bind_ok,bindT_one,setV_s,setV_0,getV_0,getV_s,Option.map_some,setC_some,qv,alloc_eq,if_true,c1,true_and,a9,a6,f1,f2,a1,bE7,a0,g1,and_self,g2,g3,bo0,bJ3 (i:=(long:Int)) ⟨by lia,by lia⟩];refine aY5 (Ww:=λ r=>∃ d,cw3 (prD A B t) (Wn A B) long d/\r.bind (fin s)=.ok d s)
  (λ j U u=>(∀ i,i<j->ao5 (prD A B t) (Wn A B i)=none)/\(∃ T,u=s++T)/\(j<=long->∃(S:Rr->Prop) (L:List (List Nat×Rr)) (K:List Rr) (p:Nat) (y8 y9 y10:Option D),u[p]?=some (.J (lvD L))/\u[s.length+1]?=some (.dit (zN K))/\Cov S L (Wn A B j)/\(∀ r,S r->∀ x∈jj A.L,an6 S L (zS A B r x))/\(∀ r,S r->prD A B t r=false)/\(∀ r,r∈K↔an6 S L r)/\K.length<=300*(j+1) /\
   U=[some A.d,some B.d,some (.int t),some (.int (long)),some (.int (3*(long))),some (qE (qw A,qw B)),some (.ref p),some (.ref (s.length+1)),y8,y9,y10]))
  (λ d u=>(∃ T,u=s++T)/\∃ j w,j<=long/\(∀ i,i<j->ao5 (prD A B t) (Wn A B i)=none)/\ao5 (prD A B t) (Wn A B j)=some w/\d=.str w) ?_ (λ _ _ _ _ _=>rfl) ?_ ?_ ?_
 .refine⟨λ i hi=>absurd hi (jJ _),⟨_,rfl⟩,λ _=>⟨λ _=>False,[([],(qw A,qw B))],[(qw A,qw B)],s.length,none,none,none,?_,?_,.keep (λ z=>z) (.nil),λ r hr=>hr.elim,λ r hr=>hr.elim,λ r=>?_,by simp,rfl⟩⟩
  .rw[aN (au _),eF];rfl
  .rw[aN (by lia),show s.length+1 - s.length=1 by lia];rfl
  .simp[an6,eq_comm]
 .rintro j d U u hj ⟨G,⟨T,hT⟩,big⟩
  obtain⟨Z,rfl⟩:=bu5 hj;obtain⟨S,L,K,p,y8,y9,y10,gp,gq,F,a2,non,mem,hK,rfl⟩:=big Z;have hw:∀ e∈L,WOk A B j e:=λ e he=>bT0 hA hB j e (F.sub e he);have b4:L.length<=243:=ar F.len (ar (bh4 hA j) (e8 (by decide) (show j<=5 by lia)));have first:=F.first (prD A B t) non
  have sq:ai2 (.ref p) u=.ok ⟨lvD L,[p]⟩ u:=by simp only[ai2,gp]
  rcases look_level (P:=P) (n+1) hA hB ht hw (by lia) (u:=u) (p:=p) (a3:=some (.int (long:Int))) (a4:=some (.int (3*(long:Int)))) (a5:=some (qE (qw A,qw B))) (a7:=some (.ref (s.length+1))) (a8:=some (.int ((long:Int) - (j:Int)))) (y9:=y9) (y10:=y10)with⟨z9,z10,hn,ei⟩|⟨w,hw',ei⟩
  .have b0:ao5 (prD A B t) (Wn A B j)=none:=by rw[<-first.1];exact hn
   have J:∀ i,i<j+1->ao5 (prD A B t) (Wn A B i)=none:=λ i hi=>by
    rcases jG i j with z|z
    .exact G i z
    .rw[show i=j by lia];exact b0
   by_cases hlt:j<long
   .obtain⟨L',c',el⟩:=ar4 (P:=P) n hA hB (k:=3*(long:Int)) gp gq (by lia) (by lia) (λ e he=>by
     have w:=hw e he;refine⟨by rw[w.len];lia,w.sh,λ x _=>⟨cc1 (aS1 hA w.b1 x) (by lia),cc1 (aS1 hB w.b2 x) (by omega)⟩⟩)
    have Y:u.set (s.length+1) (.dit (zN (K++L'.map (·.2))))++[O.J (lvD L')]=s++(T.set 1 (.dit (zN (K++L'.map (·.2))))++[O.J (lvD L')]):=by
     rw[hT,eO,if_neg (by lia),show s.length+1 - s.length=1 by lia,dh]
    have hq:s.length+1<u.length:=(ae.mp gq).1;have c2:Cov (an6 S L) L' (L.flatMap (al0 (zS A B) (jj A.L))):=c'.congr mem;have st:=F.step (zS A B) (jj A.L) a2 c2;refine aJ4 (U:=[some A.d,some B.d,some (.int t),some (.int (long:Int)),some (.int (3*(long:Int))),some (qE (qw A,qw B)),some (.ref u.length),some (.ref (s.length+1)),some (.int ((long:Int) - (j:Int))),z9,z10]) (s:=u.set (s.length+1) (.dit (zN (K++L'.map (·.2))))++[O.J (lvD L')]) ?_ ⟨J,⟨_,Y⟩,λ _=>⟨an6 S L,L',K++L'.map (·.2),u.length,_,_,_,?_,qQ (ak9 hq),st.1,st.2,first.2 hn,λ r=>?_,?_,rfl⟩⟩
    .simp -implicitDefEqProofs only[exs_cons,exs_nil,ex_asg,ex_ite,ex_for,ev_var,ev_cst,ev_cmp,ev_call,evas_nil,evas_ex,evI_seq,Cn_int,R.bind_ok,bindT_one,setV_s,setV_0,getV_0,getV_s,Option.map_some,setC_some,qv,gt_int,tru_bl,if_true,decide_true,turn,sq,ei,show((0:Int)<(long:Int) - (j:Int))=True from eq_true (by lia),el]
    .rw[aN (by simp),bf,eF];rfl
    .rw[aB3];have:(λ q=>q∈K)=an6 S L:=funext λ q=>propext (mem q);rw[this]
    .have:=c'.len;have h2:(L.flatMap (al0 (zS A B) (jj A.L))).length<=3^(j+1):=by
      have k1:=aC0 (B:=B) hA L;have k2:=ar F.len (bh4 hA j);rw[lU];lia
     have h3:3^(j+1)<=3^5:=e8 (by decide) (by lia);rw[aA,aq];lia
   .refine aJ4 (U:=[some A.d,some B.d,some (.int t),some (.int (long:Int)),some (.int (3*(long:Int))),some (qE (qw A,qw B)),some (.ref p),some (.ref (s.length+1)),some (.int ((long:Int) - (j:Int))),z9,z10]) (s:=u) ?_ ⟨J,⟨T,hT⟩,λ h=>by lia⟩;simp -implicitDefEqProofs only[exs_cons,exs_nil,ex_asg,ex_ite,ex_for,ev_var,ev_cst,ev_cmp,ev_call,evas_nil,evas_ex,evI_seq,Cn_int,R.bind_ok,bindT_one,setV_s,setV_0,getV_0,getV_s,Option.map_some,setC_some,qv,gt_int,tru_bl,if_false,Bool.false_eq_true,decide_false,turn,sq,ei,show((0:Int)<(long:Int) - (j:Int))=False from eq_false (by lia)]
  .refine bB6 (d:=.str w) (s:=u) ?_ ⟨⟨T,hT⟩,j,w,Z,G,by rw[<-first.1];exact hw',rfl⟩;simp -implicitDefEqProofs only[exs_cons,ex_for,ev_var,evI_seq,R.bind_ok,bindT_one,setV_s,setV_0,getV_0,getV_s,Option.map_some,nxt_ret,turn,sq,ei]
 .rintro U u ⟨G,⟨T,rfl⟩,_⟩
  rw[bp7]at G;refine⟨.N,.inr ⟨λ i hi=>G i (by lia),rfl⟩,?_⟩;simp -implicitDefEqProofs only[exs_cons,ex_ret,ev_cst,Cn_non,R.bind_ok,qv,nxt_ret,fin_ret];exact zF (λ _=>rfl) (by nofun)
 .rintro d u ⟨⟨T,rfl⟩,j,w,hj,h1,h2,rfl⟩
  refine⟨.str w,.inl ⟨j,w,hj,h1,h2,rfl⟩,?_⟩;simp -implicitDefEqProofs only[R.bind_ok,nxt_ret,fin_ret];exact zF (λ _=>rfl) (by nofun)
end
class HasX (P:Pr)(f:String)(d:Xf):Prop where
 at_:P.xf f=some d
class HasT (P:Pr)(f:String)(d:Tf):Prop where
 no:P.df f=none
 at_:P.tf f=some d
class HasE (P:Pr)(c:String)(ts:List String):Prop where
 at_:P.xc c=true
 ts:∀ t∈ts,P.xt t=true
def qi d [h:HasX P f d](hl:l.length=d.ps):(aa0 P (n+1)).xcall f l s=xB (aa0 P n) d.body (l.map some++ah d.vs none) s:=by
 show(match P.xf f with|some d=>if l.length=d.ps then xB (aa0 P n) d.body (l.map some++ah d.vs none) s else none|none=>none)=_;rw[h.at_];exact if_pos hl
def bG3 d [h:HasT P f d](hl:l.length=d.ps):(aa0 P (n+1)).call f l s=bo7 (aa0 P n) d l s:=by
 have e:(aa0 P (n+1)).call f l s=match P.df f with
   | some d=>if l.length=d.ps then(exs (aa0 P n) d.body (l.map some++ah d.vs none) s).bind λ c s'=>match c with
     | .ret v=>zt s v s'
     | .next _=>zt s .N s'
     | _=>.B else .B
   | none=>match P.tf f with
    | some d=>if l.length=d.ps then bo7 (aa0 P n) d l s else .B
    | none=>.B:=rfl
 rw[e,h.no];rw[h.at_];exact if_pos hl
def bs5 (h:d.pre=.nil):bo7 F d l s=aX0 F d s (l.map some++ah d.vs none) s:=by
 unfold bo7;rw[h];rfl
def bb1 :(aa0 P n).xc=P.xc/\(aa0 P n).xt=P.xt:=by cases n<;>exact⟨rfl,rfl⟩
def bg8 (h:xB F a U s=none):xB F (.alt a b) U s=xB F b U s:=by
 show(match xB F a U s with|some r=>some r|none=>xB F b U s)=_;rw[h]
def bj6 (h:xB F a U s=some r):xB F (.alt a b) U s=some r:=by
 show(match xB F a U s with|some r=>some r|none=>xB F b U s)=_;rw[h]
def an7 (h:ev F c U s=.ok (.T b) s1):xB F (.iteT c a r) U s=if b=true then xB F a U s1 else xB F r U s1:=by
 show(match ev F c U s with|.ok (.T b) s1=>if b then xB F a U s1 else xB F r U s1|_=>none)=_;rw[h]
def qS (h:ai4 F z U s=.ok l s1):xB F (.call f z) U s=F.xcall f l s1:=by
 show(match ai4 F z U s with|.ok l s1=>F.xcall f l s1|_=>none)=_;rw[h]
def bl8 (h:ex F st U s=.ok (.next U1) s1):xB F (.seq st b) U s=xB F b U1 s1:=by
 show(match ex F st U s with|.ok (.next U1) s1=>xB F b U1 s1|_=>none)=_;rw[h]
def bj3 (h:F.xc c=true):xB F (.rais c) U s=some (c,s):=by
 show(if F.xc c=true then some (c,s)else none)=_;rw[if_pos h]
noncomputable def gtI (m:Mc):Int:=(m.ds.map λ x=>(x.t)).foldl max 0
theorem aL4:∀(l:List Int) a ,a<=l.foldl max a/\∀ y∈l,y<=l.foldl max a
 | [],a=>⟨dP _,λ y h=>by cases h⟩
 | b::l,a=>by
  rw[cE];obtain⟨F,z⟩:=aL4 l (max a b);refine⟨by omega,λ y hy=>?_⟩;rcases az.mp hy with rfl|hy
  .lia
  .exact z y hy
def bA0 :∀ d∈m.ds,d.t<=(gtI m).toNat:=λ d hd=>by
 have:=(aL4 (m.ds.map λ x=>(x.t)) 0).2 d.t (ay.mpr ⟨d,hd,rfl⟩);unfold gtI;lia
def bC4 m :0<=gtI m:=(aL4 _ 0).1
def cd6 m s :mkD .max (m.ds.map λ x=>D.int x.t) (.int 0) s=.ok (.int (gtI m)) s:=by
 unfold mkD gtI;rw[aJ0];cases m.ds with
 | nil=>rfl
 | cons x ds =>
  show R.ok (D.int ((ds.map λ x=>(x.t)).foldl max (x.t))) s=_;rw[av,cE,show max (0) (x.t:Int)=x.t by lia]
def bh8 F {m:Mc}(hm:m.Ok) s :(m.ds.map Dr.d).length<=LIM/\ag4 (λ z=>chk s z []) (qt F (.Y 0) (.ix (.X 0) (.K (.int 3)))) (m.ds.map Dr.d) [none] s=.ok (m.ds.map λ x=>D.int x.t) s:=by
 refine⟨by rw[aq];have:=hm.ds.2;unfold LIM;omega,?_⟩;obtain⟨U1,s1,e1,rfl,_⟩:=zD (g:=qt F (.Y 0) (.ix (.X 0) (.K (.int 3)))) (λ U u=>u=s/\∃ a,U=[a]) (λ d=>match d with|.tp [_,_,_,t]=>some t|_=>none) (m.ds.map Dr.d) [none] s ⟨rfl,none,rfl⟩ (λ _ _ _=>rfl) (by
  rintro d hd U u ⟨rfl,a,rfl⟩
  obtain⟨x,_,rfl⟩:=ay.mp hd;exact⟨[some x.d],u,rfl,rfl,_,rfl⟩)
 have G:(m.ds.map Dr.d).filterMap (λ d=>match d with|.tp [_,_,_,t]=>some t|_=>none)=m.ds.map λ x=>D.int x.t:=by
  rw[bK,<-cy];exact zx λ x _=>rfl
 rw[G]at e1;exact e1
section
variable {P:Pr}
def bE2 [Has P aa5][Has P aa3] n {m}(hm:m.Ok) s :(aa0 P (n+2)).call "greatest_toll" [m.d] s=.ok (.int (gtI m)) s:=by
 have F:(aa0 P (n+2)).call "greatest_toll" [m.d] s=_:=za aa3 rfl;rw[F];have G:ai2 (.tp (m.ds.map Dr.d)) s=.ok ⟨m.ds.map Dr.d,[]⟩ s:=rfl;obtain⟨z,e1⟩:=bh8 (aa0 P (n+1)) hm s;have d1:=zH (P:=P) n ;simp only[exs_cons,ex_ret,ev_var,ev_cst,ev_call,ev_mkD,evas_nil,evas_ex,evI_seq,Cn_int,R.bind_ok,getV_0,nxt_ret,fin_ret,if_true,aa3,av,aP,aB,aF,ah,zO,d1,G,z,zT,e1,cd6];exact zo (λ _=>rfl) (by nofun)
def bE4 [Has P ad6] n {m}(hm:m.Ok) s :(aa0 P (n+1)).call "_law_greatest" [m.d] s=.ok (.int (gtI m)) s:=by
 have F:(aa0 P (n+1)).call "_law_greatest" [m.d] s=_:=za ad6 rfl;rw[F];have G:ai2 (.tp (m.ds.map Dr.d)) s=.ok ⟨m.ds.map Dr.d,[]⟩ s:=rfl;obtain⟨z,e1⟩:=bh8 (aa0 P n) hm s;have d1:ixM m.d (.int 4) s=.ok (.tp (m.ds.map Dr.d)) s:=rfl;simp only[exs_cons,ex_ret,ev_var,ev_cst,ev_ix,ev_mkD,evI_seq,Cn_int,R.bind_ok,getV_0,nxt_ret,fin_ret,if_true,ad6,av,aP,aB,aF,ah,zO,d1,G,z,zT,e1,cd6];exact zo (λ _=>rfl) (by nofun)
def bG4 (ha:1<=a/\a<=3)(hb:1<=b/\b<=3)(h:a≠b) s :qC .ne (.tp (ai5.take a)) (.tp (ai5.take b)) s=.ok (.T true) s:=by
 rcases(show a=1\/a=2\/a=3 by lia)with e|e|e<;>rcases(show b=1\/b=2\/b=3 by omega)with f|f|f<;>subst e<;>subst f<;>first|exact absurd rfl h|rfl
noncomputable def ab2:Xf:=⟨2,0,.iteT (.Z .ne (.call "letters_of" (.ex (.X 0) .nil)) (.call "letters_of" (.ex (.X 1) .nil))) (.rais "NoPair") .no⟩
noncomputable def aa9:Xf:=⟨1,0,.iteT (.Z .gt (.X 0) (.gl "MOST_ROOMS")) (.rais "TooMuch") .no⟩
noncomputable def ab5:Xf:=⟨2,0,.iteT (.Z .gt (.G .add (.call "greatest_toll" (.ex (.X 0) .nil)) (.call "greatest_toll" (.ex (.X 1) .nil))) (.gl "MOST_TOLL")) (.rais "TooMuch") .no⟩
noncomputable def ae6:Xf:=⟨2,3,.alt (.call "check_pair" (.ex (.X 0) (.ex (.X 1) .nil))) (.seq (.ex (.call "check_pair" (.ex (.X 0) (.ex (.X 1) .nil)))) (.seq (.A (.Y 2) (.call "rooms_of" (.ex (.X 1) .nil))) (.alt (.call "check_rooms" (.ex (.G .mul (.call "rooms_of" (.ex (.X 0) .nil)) (.X 2)) .nil)) (.seq (.ex (.call "check_rooms" (.ex (.G .mul (.call "rooms_of" (.ex (.X 0) .nil)) (.X 2)) .nil))) (.call "check_tolls" (.ex (.X 0) (.ex (.X 1) .nil)))))))⟩
noncomputable def ac2:Xf:=⟨2,3,.alt (.call "check_pair" (.ex (.X 0) (.ex (.X 1) .nil))) (.seq (.ex (.call "check_pair" (.ex (.X 0) (.ex (.X 1) .nil)))) (.seq (.A (.Y 2) (.call "rooms_of" (.ex (.X 0) .nil))) (.call "check_rooms" (.ex (.G .add (.X 2) (.call "rooms_of" (.ex (.X 1) .nil))) .nil))))⟩
noncomputable def ae5:Xf:=⟨4,7,.call "check_pair" (.ex (.X 0) (.ex (.X 1) .nil))⟩
noncomputable def ak3:Xf:=⟨3,0,.iteT (.Z .eq (.X 0) (.K (.int 0))) (.call "summed" (.ex (.X 1) (.ex (.X 2) .nil))) (.iteT (.Z .eq (.X 0) (.K (.int 1))) (.call "lesser" (.ex (.X 1) (.ex (.X 2) .nil))) (.call "behind" (.ex (.X 1) (.ex (.X 2) .nil))))⟩
noncomputable def am5:Xf:=⟨1,1,.kind⟩
noncomputable def ab7:Tf:=⟨3,2,(.cons (.ite (.Z .eq (.X 0) (.K (.int 3))) (.cons (.ex (.call "dearer" (.ex (.X 1) (.ex (.X 2) (.ex (.K (.int 2)) (.ex (.K (.int 1)) .nil)))))) (.cons (.ret (.K (.str [109,97,100,101]))) .nil)) .nil) (.cons (.A (.Y 3) (.call "_law_made" (.ex (.X 0) (.ex (.X 1) (.ex (.X 2) .nil))))) .nil)),.iteT (.Z .eq (.X 0) (.K (.int 3))) (.call "dearer" (.ex (.X 1) (.ex (.X 2) (.ex (.K (.int 2)) (.ex (.K (.int 1)) .nil))))) (.call "_law_made" (.ex (.X 0) (.ex (.X 1) (.ex (.X 2) .nil)))), "TooMuch",4,.sup "TollError" (.kin "_law_kind" false),(.cons (.ret (.ix (.J (.cons (.K (.str [97,110,111,116,104,101,114])) (.cons (.K (.str [109,97,100,101])) .nil))) (.bi .int (.cons (.call "_law_is_machine" (.ex (.X 3) (.ex (.ix (.X 1) (.K (.int 0))) .nil))) .nil)))) .nil),.nil⟩
noncomputable abbrev K10:List String:=["NoMaking", "NoName", "NoPair", "NoPaper", "NoRow", "NoText", "NotSteady", "TollError", "TooLong", "TooMuch"]
def bB0 [Has P aa4][HasC P "LETTERS" (.tp ai5)] n {m:Mc}(hm:m.Ok) s :(aa0 P (n+1)).call "letters_of" [m.d] s=.ok (.tp (ai5.take m.L)) s:=qA n hm.L3 [.int m.R,.tp (zh m.bg),.tp (zh m.en),.tp (m.ds.map Dr.d)] s
noncomputable def rsd (s:Sto)(o:Option String):Option (String×Sto):=o.map λ c=>(c,s)
noncomputable def au9 (m1 m2:Mc):Option String:=if m1.L=m2.L then none else some "NoPair"
def av7 (m1 m2:Mc):Option String:=if m1.L=m2.L then(if(m1.R:Int)*m2.R<=5 then(if gtI m1+gtI m2<=3 then none else some "TooMuch")else some "TooMuch")else some "NoPair"
noncomputable def av5 (m1 m2:Mc):Option String:=if m1.L=m2.L then(if(m1.R:Int)+m2.R<=5 then none else some "TooMuch")else some "NoPair"
def bL8 [Has P aa4][HasC P "LETTERS" (.tp ai5)][HasX P "check_pair" ab2][hp:HasE P "NoPair" K10] n {m1 m2}(z:m1.Ok)(G:m2.Ok) s :(aa0 P (n+2)).xcall "check_pair" [m1.d,m2.d] s=rsd s (au9 m1 m2):=by
 rw[qi ab2 rfl];have J:=bB0 (P:=P) n z s;have F:=bB0 (P:=P) n G s;unfold au9;by_cases h:m1.L=m2.L
 .have c:ev (aa0 P (n+1)) (.Z .ne (.call "letters_of" (.ex (.X 0) .nil)) (.call "letters_of" (.ex (.X 1) .nil))) ([m1.d,m2.d].map some++ah 0 none) s=.ok (.T false) s:=by
   rw[<-h]at F;simp only[ev_var,ev_cmp,ev_call,evas_nil,evas_ex,R.bind_ok,getV_0,getV_s,av,aP,aB,aF,ah,J,F,by3 z.L3]
  rw[if_pos h];exact an7 c
 .have c:ev (aa0 P (n+1)) (.Z .ne (.call "letters_of" (.ex (.X 0) .nil)) (.call "letters_of" (.ex (.X 1) .nil))) ([m1.d,m2.d].map some++ah 0 none) s=.ok (.T true) s:=by
   simp only[ev_var,ev_cmp,ev_call,evas_nil,evas_ex,R.bind_ok,getV_0,getV_s,av,aP,aB,aF,ah,J,F,bG4 ⟨z.L1,z.L3⟩ ⟨G.L1,G.L3⟩ h]
  rw[if_neg h];exact((an7 c).trans (if_pos rfl)).trans (bj3 (by rw[bb1.1];exact hp.at_))
def bD2 [HasC P "MOST_ROOMS" (.int 5)][HasX P "check_rooms" aa9][hp:HasE P "TooMuch" K10] n  r  s :(aa0 P (n+1)).xcall "check_rooms" [.int r] s=rsd s (if r<=5 then none else some "TooMuch"):=by
 rw[qi aa9 rfl];have hg:ev (aa0 P n) (.gl "MOST_ROOMS") [some (.int r)] s=.ok (.int 5) s:=aA1;by_cases h:r<=5
 .have c:ev (aa0 P n) (.Z .gt (.X 0) (.gl "MOST_ROOMS")) ([.int r].map some++ah 0 none) s=.ok (.T false) s:=by
   have hn:¬((5)<r):=by omega
   simp only[ev_var,ev_cmp,R.bind_ok,getV_0,gt_int,decide_false,av,aP,aB,aF,ah,hg,hn]
  rw[if_pos h];exact an7 c
 .have c:ev (aa0 P n) (.Z .gt (.X 0) (.gl "MOST_ROOMS")) ([.int r].map some++ah 0 none) s=.ok (.T true) s:=by
   have hn:(5)<r:=by lia
   simp only[ev_var,ev_cmp,R.bind_ok,getV_0,gt_int,decide_true,av,aP,aB,aF,ah,hg,hn]
  rw[if_neg h];exact((an7 c).trans (if_pos rfl)).trans (bj3 (by rw[bb1.1];exact hp.at_))
def cj4 [HasC P "MOST_TOLL" (.int 3)][Has P aa5][Has P aa3][HasX P "check_tolls" ab5][hp:HasE P "TooMuch" K10] n {m1 m2}(J:m1.Ok)(G:m2.Ok) s :(aa0 P (n+3)).xcall "check_tolls" [m1.d,m2.d] s=rsd s (if gtI m1+gtI m2<=3 then none else some "TooMuch"):=by
 rw[qi ab5 rfl];have hg:ev (aa0 P (n+2)) (.gl "MOST_TOLL") [some m1.d,some m2.d] s=.ok (.int 3) s:=aA1;have z:=bE2 (P:=P) n J s;have F:=bE2 (P:=P) n G s;by_cases h:gtI m1+gtI m2<=3
 .have c:ev (aa0 P (n+2)) (.Z .gt (.G .add (.call "greatest_toll" (.ex (.X 0) .nil)) (.call "greatest_toll" (.ex (.X 1) .nil))) (.gl "MOST_TOLL")) ([m1.d,m2.d].map some++ah 0 none) s=.ok (.T false) s:=by
   have hn:¬((3)<gtI m1+gtI m2):=by lia
   simp only[ev_var,ev_bin,ev_cmp,ev_call,evas_nil,evas_ex,R.bind_ok,getV_0,getV_s,add_int,gt_int,decide_false,av,aP,aB,aF,ah,z,F,hg,hn]
  rw[if_pos h];exact an7 c
 .have c:ev (aa0 P (n+2)) (.Z .gt (.G .add (.call "greatest_toll" (.ex (.X 0) .nil)) (.call "greatest_toll" (.ex (.X 1) .nil))) (.gl "MOST_TOLL")) ([m1.d,m2.d].map some++ah 0 none) s=.ok (.T true) s:=by
   have hn:(3)<gtI m1+gtI m2:=by lia
   simp only[ev_var,ev_bin,ev_cmp,ev_call,evas_nil,evas_ex,R.bind_ok,getV_0,getV_s,add_int,gt_int,decide_true,av,aP,aB,aF,ah,z,F,hg,hn]
  rw[if_neg h];exact((an7 c).trans (if_pos rfl)).trans (bj3 (by rw[bb1.1];exact hp.at_))
end
section
variable {P:Pr}
def bK9 [Has P aa4][HasC P "LETTERS" (.tp ai5)][HasC P "MOST_ROOMS" (.int 5)][HasC P "MOST_TOLL" (.int 3)][Has P aa7][Has P aa8][Has P aa3][Has P aa6][Has P aa5][HasX P "check_pair" ab2][HasX P "check_rooms" aa9][HasX P "check_tolls" ab5][HasX P "summed" ae6][HasE P "NoPair" K10][HasE P "TooMuch" K10] n {m1 m2}(G:m1.Ok)(F:m2.Ok) s :(aa0 P (n+4)).xcall "summed" [m1.d,m2.d] s=rsd s (av7 m1 m2):=by
 rw[qi ae6 rfl];have J:∀ x y z,ai4 (aa0 P (n+3)) (.ex (.X 0) (.ex (.X 1) .nil)) [some m1.d,some m2.d,x,y,z] s=.ok [m1.d,m2.d] s:=λ x y z=>by simp only[ev_var,evas_nil,evas_ex,R.bind_ok,getV_0,getV_s]
 have k1:xB (aa0 P (n+3)) (.call "check_pair" (.ex (.X 0) (.ex (.X 1) .nil))) [some m1.d,some m2.d,none,none,none] s=_:=(qS (J _ _ _)).trans (bL8 (n+1) G F s);unfold au9 at k1;unfold av7;by_cases hL:m1.L=m2.L
 .rw[if_pos hL]at k1 ⊢;have a1:=zI (P:=P) (n+1) G hL s;have Y:=zm (P:=P) (n+2) m1 s;have a3:=zm (P:=P) (n+2) m2 s;have mu:=as8 F.R5 (m1.R) s;have e1:ex (aa0 P (n+3)) (.ex (.call "check_pair" (.ex (.X 0) (.ex (.X 1) .nil)))) [some m1.d,some m2.d,none,none,none] s=.ok (.next [some m1.d,some m2.d,none,none,none]) s:=by simp only[ex_ex,ev_var,ev_call,evas_nil,evas_ex,R.bind_ok,getV_0,getV_s,a1]
  have e2:ex (aa0 P (n+3)) (.A (.Y 2) (.call "rooms_of" (.ex (.X 1) .nil))) [some m1.d,some m2.d,none,none,none] s=.ok (.next [some m1.d,some m2.d,some (.int m2.R),none,none]) s:=by simp only[ex_asg,ev_var,ev_call,evas_nil,evas_ex,R.bind_ok,bindT_one,setV_s,setV_0,getV_0,getV_s,Option.map_some,setC_some,a3]
  have eb:ai4 (aa0 P (n+3)) (.ex (.G .mul (.call "rooms_of" (.ex (.X 0) .nil)) (.X 2)) .nil) [some m1.d,some m2.d,some (.int m2.R),none,none] s=.ok [.int ((m1.R)*m2.R)] s:=by simp only[ev_var,ev_bin,ev_call,evas_nil,evas_ex,R.bind_ok,getV_0,getV_s,Y,mu]
  have k2:=(qS eb).trans (bD2 (n+2) _ s);refine(bg8 k1).trans ((bl8 e1).trans ((bl8 e2).trans ?_));by_cases hR:(m1.R:Int)*m2.R<=5
  .rw[if_pos hR]at k2 ⊢;have a4:=z6 (P:=P) (n+2) hR s;have Z:ex (aa0 P (n+3)) (.ex (.call "check_rooms" (.ex (.G .mul (.call "rooms_of" (.ex (.X 0) .nil)) (.X 2)) .nil))) [some m1.d,some m2.d,some (.int m2.R),none,none] s=.ok (.next [some m1.d,some m2.d,some (.int m2.R),none,none]) s:=by simp only[ex_ex,ev_var,ev_bin,ev_call,evas_nil,evas_ex,R.bind_ok,getV_0,getV_s,Y,mu,a4]
   exact(bg8 k2).trans ((bl8 Z).trans ((qS (J _ _ _)).trans (cj4 n G F s)))
  .rw[if_neg hR]at k2 ⊢;exact bj6 k2
 .rw[if_neg hL]at k1 ⊢;exact bj6 k1
def cd3  f [Has P aa4][HasC P "LETTERS" (.tp ai5)][HasC P "MOST_ROOMS" (.int 5)][Has P aa7][Has P aa6][HasX P "check_pair" ab2][HasX P "check_rooms" aa9][HasX P f ac2][HasE P "NoPair" K10][HasE P "TooMuch" K10] n {m1 m2}(z:m1.Ok)(J:m2.Ok) s :(aa0 P (n+3)).xcall f [m1.d,m2.d] s=rsd s (av5 m1 m2):=by
 rw[qi ac2 rfl];have F:ai4 (aa0 P (n+2)) (.ex (.X 0) (.ex (.X 1) .nil)) [some m1.d,some m2.d,none,none,none] s=.ok [m1.d,m2.d] s:=by simp only[ev_var,evas_nil,evas_ex,R.bind_ok,getV_0,getV_s]
 have k1:=(qS F).trans (bL8 n z J s);unfold au9 at k1;unfold av5;by_cases hL:m1.L=m2.L
 .rw[if_pos hL]at k1 ⊢;have Z:=zI (P:=P) n z hL s;have G:=zm (P:=P) (n+1) m1 s;have a3:=zm (P:=P) (n+1) m2 s;have e1:ex (aa0 P (n+2)) (.ex (.call "check_pair" (.ex (.X 0) (.ex (.X 1) .nil)))) [some m1.d,some m2.d,none,none,none] s=.ok (.next [some m1.d,some m2.d,none,none,none]) s:=by simp only[ex_ex,ev_var,ev_call,evas_nil,evas_ex,R.bind_ok,getV_0,getV_s,Z]
  have e2:ex (aa0 P (n+2)) (.A (.Y 2) (.call "rooms_of" (.ex (.X 0) .nil))) [some m1.d,some m2.d,none,none,none] s=.ok (.next [some m1.d,some m2.d,some (.int m1.R),none,none]) s:=by simp only[ex_asg,ev_var,ev_call,evas_nil,evas_ex,R.bind_ok,bindT_one,setV_s,setV_0,getV_0,Option.map_some,setC_some,G]
  have Y:ai4 (aa0 P (n+2)) (.ex (.G .add (.X 2) (.call "rooms_of" (.ex (.X 1) .nil))) .nil) [some m1.d,some m2.d,some (.int m1.R),none,none] s=.ok [.int ((m1.R)+m2.R)] s:=by simp only[ev_var,ev_bin,ev_call,evas_nil,evas_ex,R.bind_ok,getV_0,getV_s,add_int,a3]
  exact(bg8 k1).trans ((bl8 e1).trans ((bl8 e2).trans ((qS Y).trans (bD2 (n+1) _ s))))
 .rw[if_neg hL]at k1 ⊢;exact bj6 k1
def ct7 [Has P aa4][HasC P "LETTERS" (.tp ai5)][HasX P "check_pair" ab2][HasX P "dearer" ae5][HasE P "NoPair" K10] n {m1 m2}(G:m1.Ok)(F:m2.Ok) a b  s :(aa0 P (n+3)).xcall "dearer" [m1.d,m2.d,a,b] s=rsd s (au9 m1 m2):=by
 rw[qi ae5 rfl];have z:ai4 (aa0 P (n+2)) (.ex (.X 0) (.ex (.X 1) .nil)) ([m1.d,m2.d,a,b].map some++ah 7 none) s=.ok [m1.d,m2.d] s:=by simp only[ev_var,evas_nil,evas_ex,R.bind_ok,getV_0,getV_s,av,aP,aB,aF,ah]
 exact(qS z).trans (bL8 n G F s)
def aC9 (k:Nat)(m1 m2:Mc):Option String:=if k=3 then au9 m1 m2 else if k=0 then av7 m1 m2 else av5 m1 m2
def bZ4 (k:Nat)(m1 m2:Mc):List Nat:=match aC9 k m1 m2 with|none=>[109,97,100,101]|some c=>ag0 c
section
variable [Has P aa4] [HasC P "LETTERS" (.tp ai5)] [HasC P "MOST_ROOMS" (.int 5)] [HasC P "MOST_TOLL" (.int 3)] [Has P aa7] [Has P aa8] [Has P aa3] [Has P aa6] [Has P aa5]
 [HasX P "check_pair" ab2] [HasX P "check_rooms" aa9] [HasX P "check_tolls" ab5] [HasX P "summed" ae6] [HasX P "lesser" ac2] [HasX P "behind" ac2] [HasX P "dearer" ae5] [HasX P "_law_made" ak3] [hp:HasE P "NoPair" K10] [ht:HasE P "TooMuch" K10]
def eqk F i j (U:Env) s :ev F (.Z .eq (.X 0) (.K (.int j))) (some (.int i)::U) s=.ok (.T (decide (i=j))) s:=by
 simp only[ev_var,ev_cst,ev_cmp,Cn_int,R.bind_ok,getV_0,zV,zV]
def co2 (n k:Nat)(hk:k<3)(Z:m1.Ok)(G:m2.Ok) s :(aa0 P (n+5)).xcall "_law_made" [.int k,m1.d,m2.d] s=rsd s (if k=0 then av7 m1 m2 else av5 m1 m2):=by
 rw[qi ak3 rfl];have F:ai4 (aa0 P (n+4)) (.ex (.X 1) (.ex (.X 2) .nil)) [some (.int k),some m1.d,some m2.d] s=.ok [m1.d,m2.d] s:=by simp only[ev_var,evas_nil,evas_ex,R.bind_ok,getV_0,getV_s]
 have Y:=eqk (aa0 P (n+4)) k 0 [some m1.d,some m2.d] s;have J:=eqk (aa0 P (n+4)) k 1 [some m1.d,some m2.d] s;by_cases z:k=0
 .rw[if_pos z];subst z;exact((an7 Y).trans (if_pos rfl)).trans ((qS F).trans (bK9 n Z G s))
 .rw[if_neg z];rw[decide_eq_false (by lia)]at Y;refine(an7 Y).trans ?_;rw[if_neg (by decide)];by_cases y:k=1
  .subst y;exact((an7 J).trans (if_pos rfl)).trans ((qS F).trans (cd3 "lesser" (n+1) Z G s))
  .rw[decide_eq_false (by lia)]at J;exact(an7 J).trans ((qS F).trans (cd3 "behind" (n+1) Z G s))
def cz1 (n k:Nat)(hk:k<4)(Y:m1.Ok)(J:m2.Ok) s :xB (aa0 P (n+5)) ab7.xb [some (.int k),some m1.d,some m2.d,none,none] s=rsd s (aC9 k m1 m2):=by
 have G:=eqk (aa0 P (n+5)) k 3 [some m1.d,some m2.d,none,none] s;unfold aC9;by_cases z:k=3
 .rw[if_pos z];subst z;have F:ai4 (aa0 P (n+5)) (.ex (.X 1) (.ex (.X 2) (.ex (.K (.int 2)) (.ex (.K (.int 1)) .nil)))) [some (.int (3)),some m1.d,some m2.d,none,none] s=.ok [m1.d,m2.d,.int 2,.int 1] s:=by simp only[ev_var,ev_cst,evas_nil,evas_ex,Cn_int,R.bind_ok,getV_0,getV_s]
  exact((an7 G).trans (if_pos rfl)).trans ((qS F).trans (ct7 (n+2) Y J _ _ s))
 .rw[if_neg z];rw[decide_eq_false (by lia)]at G;have F:ai4 (aa0 P (n+5)) (.ex (.X 0) (.ex (.X 1) (.ex (.X 2) .nil))) [some (.int k),some m1.d,some m2.d,none,none] s=.ok [.int k,m1.d,m2.d] s:=by simp only[ev_var,evas_nil,evas_ex,R.bind_ok,getV_0,getV_s]
  exact(an7 G).trans ((qS F).trans (co2 n k (by lia) Y J s))
end
end
def cz4 [h:HasX P f am5]:(aa0 P n).kd f=true:=by
 have e:(aa0 P n).kd=bT6 P:=by cases n<;>rfl
 rw[e];unfold bT6;rw[h.at_];rfl
def bO8 (m:Mc) n :m.d.bnd n=true:=by
 show D.bnd n (.tp [.int m.L,.int m.R,.tp (zh m.bg),.tp (zh m.en),.tp (m.ds.map Dr.d)])=true;unfold D.bnd;refine zd (λ d hd n=>?_) n;simp only[az,cK,or_false]at hd;rcases hd with rfl|rfl|rfl|rfl|rfl
 .rfl
 .rfl
 .unfold D.bnd;exact zd zr n
 .unfold D.bnd;exact zd zr n
 .unfold D.bnd;exact zd qF n
section
variable {P:Pr} [Has P aa4] [HasC P "LETTERS" (.tp ai5)] [HasC P "MOST_ROOMS" (.int 5)] [HasC P "MOST_TOLL" (.int 3)] [Has P aa7] [Has P aa8] [Has P aa3] [Has P aa6] [Has P aa5]
 [HasX P "check_pair" ab2] [HasX P "check_rooms" aa9] [HasX P "check_tolls" ab5] [HasX P "summed" ae6] [HasX P "lesser" ac2] [HasX P "behind" ac2] [HasX P "dearer" ae5] [HasX P "_law_made" ak3] [hp:HasE P "NoPair" K10] [ht:HasE P "TooMuch" K10]
 [Has P ab9] [Has P ab1] [Has P ac1] [Has P ac4] [Has P ac3] [Has P ad3] [Has P af6] [Has P ag2] [Has P ab4] [Has P af5] [Has P ab8] [Has P aa2] [Has P af1]
 [Has P ae3] [Has P ae4] [Has P an9] [Has P ac7] [Has P ab6] [Has P aq9] [Has P ae7] [Has P ac6] [Has P ab3] [Has P af3]
 [Has P ad4] [Has P ad1] [Has P ad0] [Has P ac0] [Has P af2] [HasX P "_law_kind" am5] [HasT P "_law_outcome" ab7] [Has P ad6] [Has P ac8]
def bK4 (n k:Nat)(hk:k<3)(Z:m1.Ok)(Y:m2.Ok)(hf:(if k=0 then av7 m1 m2 else av5 m1 m2)=none) s :∃ m:Mc,m.Ok/\m.L=m1.L/\(aa0 P (n+5)).call "_law_made" [.int k,m1.d,m2.d] s=.ok m.d s:=by
 have J:(aa0 P (n+5)).call "_law_made" [.int k,m1.d,m2.d] s=_:=za af2 rfl;have hL:m1.L=m2.L:=by
  by_cases z:m1.L=m2.L
  .exact z
  .unfold av7 av5 at hf;rw[if_neg z,if_neg z]at hf;split at hf<;>cases hf
 have fin:∀ m:Mc,zt s m.d s=.ok m.d s:=λ m=>zo (bO8 m) (by nofun);by_cases z:k=0
 .subst z;rw[if_pos rfl]at hf;unfold av7 at hf;rw[if_pos hL]at hf;have hR:(m1.R:Int)*m2.R<=5:=by
   by_cases y:(m1.R:Int)*m2.R<=5
   .exact y
   .rw[if_neg y]at hf;cases hf
  rw[if_pos hR]at hf;have hG:gtI m1+gtI m2<=3:=by
   by_cases y:gtI m1+gtI m2<=3
   .exact y
   .rw[if_neg y]at hf;cases hf
  have g1:=bC4 m1;have g2:=bC4 m2;obtain⟨m,hm,F,_,G⟩:=be0 (P:=P) n Z Y hL (by rw[<-fx]at hR;lia) bA0 bA0 (by lia) s;refine⟨m,hm,F,?_⟩;rw[J];simp only[exs_cons,exs_nil,ex_ite,ex_ret,ev_var,ev_cst,ev_cmp,ev_call,evas_nil,evas_ex,Cn_int,R.bind_ok,getV_0,getV_s,nxt_ret,zV,tru_bl,af2,av,aP,aB,aF,ah,zV,G];exact fin m
 .rw[if_neg z]at hf;unfold av5 at hf;rw[if_pos hL]at hf;have hR:(m1.R:Int)+m2.R<=5:=by
   by_cases y:(m1.R:Int)+m2.R<=5
   .exact y
   .rw[if_neg y]at hf;cases hf
  have z0:¬((k:Int)=0):=by lia
  by_cases y:k=1
  .obtain⟨m,hm,F,_,G⟩:=bf4 (P:=P) (n+1) Z Y hL (by lia) s;refine⟨m,hm,F,?_⟩;have c0:decide ((k:Int)=0)=false:=decide_eq_false z0;have c1:decide ((k:Int)=1)=true:=decide_eq_true (by lia);rw[J];simp only[exs_cons,exs_nil,ex_ite,ex_ret,ev_var,ev_cst,ev_cmp,ev_call,evas_nil,evas_ex,Cn_int,R.bind_ok,getV_0,getV_s,qv,nxt_ret,fin_ret,zV,tru_bl,if_true,if_false,Bool.false_eq_true,af2,av,aP,aB,aF,ah,zV,c0,c1,G];exact fin m
  .obtain⟨m,hm,F,_,G⟩:=behind_ok (P:=P) (n+1) Z Y hL (by omega) s;refine⟨m,hm,F,?_⟩;have z1:¬((k:Int)=1):=by lia
   rw[J];simp only[exs_cons,exs_nil,ex_ite,ex_ret,ev_var,ev_cst,ev_cmp,ev_call,evas_nil,evas_ex,Cn_int,R.bind_ok,getV_0,getV_s,qv,nxt_ret,fin_ret,zV,tru_bl,if_false,Bool.false_eq_true,decide_false,af2,av,aP,aB,aF,ah,zV,z0,z1,G];exact fin m
def failC (h:aC9 k m1 m2=some c):c = "NoPair"\/c = "TooMuch":=by
 unfold aC9 au9 av7 av5 at h
 repeat' split at h
 all_goals cases h
 all_goals first|exact .inl rfl|exact .inr rfl
def bn7 (n k:Nat)(hk:k<4){m1 m2:Mc}(h1:m1.Ok)(Z:m2.Ok)(s:Sto):(aa0 P (n+6)).call "_law_outcome" [.int k,m1.d,m2.d] s=.ok (.str (bZ4 k m1 m2)) s:=by
 have F:(aa0 P (n+6)).call "_law_outcome" [.int k,m1.d,m2.d] s=_:=bG3 ab7 (n:=n+5) rfl;rw[bs5 rfl]at F;have xe:xB (aa0 P (n+5)) ab7.xb ([D.int k,m1.d,m2.d].map some++ah ab7.vs none) s=_:=cz1 (P:=P) n k hk h1 Z s;unfold aX0 at F;rw[xe]at F;unfold bZ4;cases hf:aC9 k m1 m2 with
 | some c =>
  rw[hf]at F;have hk:ab7.h.ok (aa0 P (n+5)).xt=true:=by
   rw[bb1.2];have a:=λ x hx=>ht.ts x hx;show(P.xt "TollError"&&ac9.all P.xt)=true;rw[a "TollError" (by decide),iX,aU];intro x hx;exact a x (by revert x;decide)
  have hc:ab7.tk c=true/\(aa0 P (n+5)).xc c=true/\ab7.h.ok (aa0 P (n+5)).xt=true/\ab7.h.kok (aa0 P (n+5)).kd=true:=by
   refine⟨?_,?_,hk,cz4 (P:=P) (f := "_law_kind")⟩
   .rcases failC hf with rfl|rfl<;>decide
   .rw[bb1.1];rcases failC hf with rfl|rfl
    .exact hp.at_
    .exact ht.at_
  have F:(aa0 P (n+6)).call "_law_outcome" [.int k,m1.d,m2.d] s=if ab7.tk c=true/\(aa0 P (n+5)).xc c=true/\ab7.h.ok (aa0 P (n+5)).xt=true/\ab7.h.kok (aa0 P (n+5)).kd=true then ab7.h.out c s s else .B:=F;rw[if_pos hc]at F;rw[F];exact zG
 | none =>
  rw[hf]at F;unfold aC9 at hf;have F:(aa0 P (n+6)).call "_law_outcome" [.int k,m1.d,m2.d] s=(exs (aa0 P (n+5)) ab7.body [some (.int k),some m1.d,some m2.d,none,none] s).bind λ c s1=>match c with
   | .ret v=>zt s v s1
   | .next U=>(exs (aa0 P (n+5)) ab7.tl U s1).bind λ c s2=>match c with
    | .ret v=>zt s v s2
    | .next _=>zt s .N s2
    | _=>.B
   | _=>.B:=F
  rw[F];by_cases z:k=3
  .rw[if_pos z]at hf;have hL:m1.L=m2.L:=by
    by_cases z:m1.L=m2.L
    .exact z
    .unfold au9 at hf;rw[if_neg z]at hf;cases hf
   subst z;obtain⟨d,_,G⟩:=bc3 (P:=P) n h1 Z hL (t:=2) ⟨by decide,by decide⟩ (long:=1) (by decide) s;have G:(aa0 P (n+5)).call "dearer" [m1.d,m2.d,.int 2,.int 1] s=.ok d s:=G;have c3:decide (((3:Nat):Int)=3)=true:=rfl;have hb:exs (aa0 P (n+5)) ab7.body [some (.int (3:Nat)),some m1.d,some m2.d,none,none] s=.ok (.ret (.str [109,97,100,101])) s:=by simp only[exs_cons,exs_nil,ex_ite,ex_ret,ex_ex,ev_var,ev_cst,ev_cmp,ev_call,evas_nil,evas_ex,Cn_int,Cn_str,R.bind_ok,getV_0,getV_s,qv,nxt_ret,zV,tru_bl,if_true,ab7,zV,c3,G]
   rw[hb];exact zG
  .rw[if_neg z]at hf;obtain⟨m,hm,J,G⟩:=bK4 (P:=P) n k (by omega) h1 Z hf s;have z3:¬((k:Int)=3):=by lia
   have hb:exs (aa0 P (n+5)) ab7.body [some (.int k),some m1.d,some m2.d,none,none] s=.ok (.next [some (.int k),some m1.d,some m2.d,some m.d,none]) s:=by simp only[exs_cons,exs_nil,ex_asg,ex_ite,ex_ex,ev_var,ev_cst,ev_cmp,ev_call,evas_nil,evas_ex,Cn_int,R.bind_ok,bindT_one,setV_s,setV_0,getV_0,getV_s,Option.map_some,setC_some,qv,zV,tru_bl,if_false,Bool.false_eq_true,decide_false,ab7,zV,z3,G]
   have ix:ixM m1.d (.int 0) (s++[.J [.str [97,110,111,116,104,101,114],.str [109,97,100,101]]])=.ok (.int m1.L) (s++[.J [.str [97,110,111,116,104,101,114],.str [109,97,100,101]]]):=rfl;have f2:=av1 (P:=P) (n+2) hm (s++[.J [.str [97,110,111,116,104,101,114],.str [109,97,100,101]]]);rw[J]at f2;have i1:bi .int [.T true] (s++[.J [.str [97,110,111,116,104,101,114],.str [109,97,100,101]]])=.ok (.int 1) (s++[.J [.str [97,110,111,116,104,101,114],.str [109,97,100,101]]]):=rfl;have i2:ixM (.ref s.length) (.int 1) (s++[.J [.str [97,110,111,116,104,101,114],.str [109,97,100,101]]])=.ok (.str [109,97,100,101]) (s++[.J [.str [97,110,111,116,104,101,114],.str [109,97,100,101]]]):=bU9 (j:=1) (l:=[.str [97,110,111,116,104,101,114],.str [109,97,100,101]]) cm9 rfl;have Y:exs (aa0 P (n+5)) ab7.tl [some (.int k),some m1.d,some m2.d,some m.d,none] s=.ok (.ret (.str [109,97,100,101])) (s++[.J [.str [97,110,111,116,104,101,114],.str [109,97,100,101]]]):=by simp only[exs_cons,ex_ret,ev_var,ev_cst,ev_lst,ev_ix,ev_call,ev_bi,evs_nil,evs_cons,evas_nil,evas_ex,Cn_int,Cn_str,R.bind_ok,getV_0,getV_s,nxt_ret,alloc_eq,ab7,ix,f2,i1,i2]
   rw[hb];show(exs (aa0 P (n+5)) ab7.tl [some (.int k),some m1.d,some m2.d,some m.d,none] s).bind _=_;rw[Y];exact zF (λ _=>rfl) (by nofun)
end
section
variable {P:Pr} [Has P ad6] [Has P ac8]
def bx8 (n k:Nat)(hk:k<4)(h1:m1.Ok)(h2:m2.Ok) s :(aa0 P (n+2)).call "_law_due" [.int k,m1.d,m2.d] s=.ok (.str (bZ4 k m1 m2)) s:=by
 have e0:(aa0 P (n+2)).call "_law_due" [.int k,m1.d,m2.d] s=_:=za ac8 rfl;have J:ixM m1.d (.int 0) s=.ok (.int m1.L) s:=rfl;have G:ixM m2.d (.int 0) s=.ok (.int m2.L) s:=rfl;have Z:ixM m1.d (.int 1) s=.ok (.int m1.R) s:=rfl;have j1:ixM m2.d (.int 1) s=.ok (.int m2.R) s:=rfl;have g1:=bE4 (P:=P) n h1 s;have g2:=bE4 (P:=P) n h2 s;have mu:=as8 h2.R5 (m1.R) s;have kp:ag0 "NoPair"=[112,97,105,114]:=by decide
 have kt:ag0 "TooMuch"=[109,117,99,104]:=by decide
 rw[e0];unfold bZ4 aC9;by_cases hL:m1.L=m2.L
 .have hl:decide ((m1.L:Int)=m2.L)=true:=decide_eq_true (by lia);by_cases z:k=0
  .have Y:decide ((k:Int)=0)=true:=decide_eq_true (by lia);rw[if_neg (by lia),if_pos z];unfold av7;rw[if_pos hL];by_cases hR:(m1.R:Int)*m2.R<=5
   .have hr:decide (5<(m1.R:Int)*m2.R)=false:=decide_eq_false (by lia);rw[if_pos hR];by_cases hG:gtI m1+gtI m2<=3
    .have hg:decide (3<gtI m1+gtI m2)=false:=decide_eq_false (by lia);have F:decide ((k:Int)=1)=false:=decide_eq_false (by lia);have c2:decide ((k:Int)=2)=false:=decide_eq_false (by lia);rw[if_pos hG];simp only[exs_cons,exs_nil,ex_ite,ex_ret,ev_var,ev_cst,ev_bin,ev_cmp,ev_and,ev_or,ev_ix,ev_call,evas_nil,evas_ex,Cn_int,Cn_str,R.bind_ok,getV_0,getV_s,qv,nxt_ret,fin_ret,add_int,gt_int,zV,ne_int,tru_bl,if_true,if_false,Bool.false_eq_true,Bool.not_true,ac8,av,aP,aB,aF,ah,J,G,ne_int,hl,zV,Y,F,c2,Z,j1,mu,hr,g1,g2,hg];exact zG
    .have hg:decide (3<gtI m1+gtI m2)=true:=decide_eq_true (by lia);rw[if_neg hG];simp only[exs_cons,exs_nil,ex_ite,ex_ret,ev_var,ev_cst,ev_bin,ev_cmp,ev_and,ev_or,ev_ix,ev_call,evas_nil,evas_ex,Cn_int,Cn_str,R.bind_ok,getV_0,getV_s,qv,nxt_ret,fin_ret,add_int,gt_int,zV,ne_int,tru_bl,if_true,if_false,Bool.false_eq_true,Bool.not_true,ac8,av,aP,aB,aF,ah,J,G,ne_int,hl,zV,Y,Z,j1,mu,hr,g1,g2,hg,kt];exact zG
   .have hr:decide (5<(m1.R:Int)*m2.R)=true:=decide_eq_true (by lia);rw[if_neg hR];simp only[exs_cons,exs_nil,ex_ite,ex_ret,ev_var,ev_cst,ev_bin,ev_cmp,ev_and,ev_or,ev_ix,ev_call,evas_nil,evas_ex,Cn_int,Cn_str,R.bind_ok,getV_0,getV_s,qv,nxt_ret,fin_ret,gt_int,zV,ne_int,tru_bl,if_true,if_false,Bool.false_eq_true,Bool.not_true,ac8,av,aP,aB,aF,ah,J,G,ne_int,hl,zV,Y,Z,j1,mu,hr,kt];exact zG
  .have Y:decide ((k:Int)=0)=false:=decide_eq_false (by omega);by_cases y:k=3
   .have F:decide ((k:Int)=1)=false:=decide_eq_false (by lia);have c2:decide ((k:Int)=2)=false:=decide_eq_false (by lia);rw[if_pos y];unfold au9;rw[if_pos hL];simp only[exs_cons,exs_nil,ex_ite,ex_ret,ev_var,ev_cst,ev_bin,ev_cmp,ev_and,ev_or,ev_ix,ev_call,evas_nil,evas_ex,Cn_int,Cn_str,R.bind_ok,getV_0,getV_s,qv,nxt_ret,fin_ret,zV,ne_int,tru_bl,if_false,Bool.false_eq_true,Bool.not_true,ac8,av,aP,aB,aF,ah,J,G,ne_int,hl,zV,Y,F,c2];exact zG
   .rw[if_neg y,if_neg z];unfold av5;rw[if_pos hL];have a0:decide ((k:Int)=1)=true\/(decide ((k:Int)=1)=false/\decide ((k:Int)=2)=true):=by
     by_cases x:k=1
     .exact .inl (decide_eq_true (by lia))
     .exact .inr ⟨decide_eq_false (by lia),decide_eq_true (by lia)⟩
    by_cases hR:(m1.R:Int)+m2.R<=5
    .have hr:decide (5<(m1.R:Int)+m2.R)=false:=decide_eq_false (by lia);rw[if_pos hR];rcases a0 with F|⟨F,c2⟩
     .simp only[exs_cons,exs_nil,ex_ite,ex_ret,ev_var,ev_cst,ev_bin,ev_cmp,ev_and,ev_or,ev_ix,ev_call,evas_nil,evas_ex,Cn_int,Cn_str,R.bind_ok,getV_0,getV_s,qv,nxt_ret,fin_ret,add_int,gt_int,zV,ne_int,tru_bl,if_true,if_false,Bool.false_eq_true,Bool.not_true,ac8,av,aP,aB,aF,ah,J,G,ne_int,hl,zV,Y,F,Z,j1,hr];exact zG
     .simp only[exs_cons,exs_nil,ex_ite,ex_ret,ev_var,ev_cst,ev_bin,ev_cmp,ev_and,ev_or,ev_ix,ev_call,evas_nil,evas_ex,Cn_int,Cn_str,R.bind_ok,getV_0,getV_s,qv,nxt_ret,fin_ret,add_int,gt_int,zV,ne_int,tru_bl,if_true,if_false,Bool.false_eq_true,Bool.not_true,ac8,av,aP,aB,aF,ah,J,G,ne_int,hl,zV,Y,F,c2,Z,j1,hr];exact zG
    .have hr:decide (5<(m1.R:Int)+m2.R)=true:=decide_eq_true (by lia);rw[if_neg hR];rcases a0 with F|⟨F,c2⟩
     .simp only[exs_cons,exs_nil,ex_ite,ex_ret,ev_var,ev_cst,ev_bin,ev_cmp,ev_and,ev_or,ev_ix,ev_call,evas_nil,evas_ex,Cn_int,Cn_str,R.bind_ok,getV_0,getV_s,qv,nxt_ret,fin_ret,add_int,gt_int,zV,ne_int,tru_bl,if_true,if_false,Bool.false_eq_true,Bool.not_true,ac8,av,aP,aB,aF,ah,J,G,ne_int,hl,zV,Y,F,Z,j1,hr,kt];exact zG
     .simp only[exs_cons,exs_nil,ex_ite,ex_ret,ev_var,ev_cst,ev_bin,ev_cmp,ev_and,ev_or,ev_ix,ev_call,evas_nil,evas_ex,Cn_int,Cn_str,R.bind_ok,getV_0,getV_s,qv,nxt_ret,fin_ret,add_int,gt_int,zV,ne_int,tru_bl,if_true,if_false,Bool.false_eq_true,Bool.not_true,ac8,av,aP,aB,aF,ah,J,G,ne_int,hl,zV,Y,F,c2,Z,j1,hr,kt];exact zG
 .have hl:decide ((m1.L:Int)=m2.L)=false:=decide_eq_false (by lia);unfold au9 av7 av5;rw[if_neg hL,if_neg hL,if_neg hL,ite_self,ite_self];simp only[exs_cons,exs_nil,ex_ite,ex_ret,ev_var,ev_cst,ev_cmp,ev_ix,Cn_int,Cn_str,R.bind_ok,getV_0,getV_s,nxt_ret,fin_ret,ne_int,tru_bl,if_true,Bool.not_false,ac8,av,aP,aB,aF,ah,J,G,ne_int,hl,zV,kp];exact zG
end
noncomputable abbrev ce1:Ss:=(.cons (.ite (.Z .ne (.call "_law_outcome" (.ex (.X 7) (.ex (.X 5) (.ex (.X 6) .nil)))) (.call "_law_due" (.ex (.X 7) (.ex (.X 5) (.ex (.X 6) .nil))))) (.cons (.ret (.K (.T false))) .nil) .nil) .nil)
abbrev co9:S:=(.fo (.tp [5,6]) (.seq (.J (.cons (.tp (.cons (.X 3) (.cons (.X 4) .nil))) (.cons (.tp (.cons (.X 4) (.cons (.X 3) .nil))) (.cons (.tp (.cons (.X 3) (.cons (.X 3) .nil))) (.cons (.tp (.cons (.X 4) (.cons (.X 4) .nil))) (.cons (.tp (.cons (.X 3) (.cons (.X 4) .nil))) .nil))))))) (.cons (.fo (.Y 7) (.rg (.K (.int 4))) ce1) .nil))
noncomputable abbrev ci4:S:=(.A (.Y 1) (.call "_law_bag" (.ex (.X 0) (.ex (.K (.int 0)) .nil))))
noncomputable abbrev bS8:S:=(.A (.Y 2) (.G .add (.K (.int 1)) (.call "_law_take" (.ex (.X 1) (.ex (.K (.int 3)) .nil)))))
noncomputable abbrev cb1 (i:Nat):S:=(.A (.Y i) (.call "_law_sized" (.ex (.X 1) (.ex (.X 2) (.ex (.G .add (.K (.int 1)) (.call "_law_take" (.ex (.X 1) (.ex (.K (.int 5)) .nil)))) (.ex (.call "_law_take" (.ex (.X 1) (.ex (.K (.int 4)) .nil))) .nil))))))
noncomputable abbrev cf2:S:=(.A (.Y 1) (.call "_law_bag" (.ex (.X 0) (.ex (.K (.int 1)) .nil))))
abbrev bF3:S:=(.ite (.Z .eq (.call "_law_take" (.ex (.X 1) (.ex (.K (.int 3)) .nil))) (.K (.int 0))) (.cons bS8 .nil) .nil)
def az0 (h:ex F st U s=.ok (.next U1) s1):exs F (.cons st z) U s=exs F z U1 s1:=by rw[exs_cons,h];rfl
def cb9 s a :qC .ne (.str a) (.str a) s=.ok (.T false) s:=by
 show R.ok (D.T (!(a==a))) s=_;simp
def cf4:ae0.body=(.cons ci4 (.cons bS8 (.cons (cb1 3) (.cons cf2 (.cons bF3 (.cons (cb1 4) (.cons co9 (.cons (.ret (.K (.T true))) .nil)))))))):=rfl
section
variable {P:Pr} [Has P aa4] [HasC P "LETTERS" (.tp ai5)] [HasC P "MOST_ROOMS" (.int 5)] [HasC P "MOST_TOLL" (.int 3)] [Has P aa7] [Has P aa8] [Has P aa3] [Has P aa6] [Has P aa5]
 [HasX P "check_pair" ab2] [HasX P "check_rooms" aa9] [HasX P "check_tolls" ab5] [HasX P "summed" ae6] [HasX P "lesser" ac2] [HasX P "behind" ac2] [HasX P "dearer" ae5] [HasX P "_law_made" ak3] [hp:HasE P "NoPair" K10] [ht:HasE P "TooMuch" K10]
 [Has P ab9] [Has P ab1] [Has P ac1] [Has P ac4] [Has P ac3] [Has P ad3] [Has P af6] [Has P ag2] [Has P ab4] [Has P af5] [Has P ab8] [Has P aa2] [Has P af1]
 [Has P ae3] [Has P ae4] [Has P an9] [Has P ac7] [Has P ab6] [Has P aq9] [Has P ae7] [Has P ac6] [Has P ab3] [Has P af3]
 [Has P ad4] [Has P ad1] [Has P ad0] [Has P ac0] [Has P af2] [HasX P "_law_kind" am5] [HasT P "_law_outcome" ab7] [Has P ad6] [Has P ac8]
def bW5 n {m1 m2:Mc}(J:m1.Ok)(G:m2.Ok) a b c d e x s :∃ z,ex (aa0 P (n+6)) (.fo (.Y 7) (.rg (.K (.int 4))) ce1) [a,b,c,d,e,some m1.d,some m2.d,x] s=.ok (.next [a,b,c,d,e,some m1.d,some m2.d,z]) s:=by
 have key:=am0 (ok:=λ F=>chk s F []) (g:=turn (aa0 P (n+6)) (.Y 7) ce1) (λ j U u=>u=s/\∃ z,U=[a,b,c,d,e,some m1.d,some m2.d,z]) (ah8 0 4) 0 [a,b,c,d,e,some m1.d,some m2.d,x] s ⟨rfl,x,rfl⟩ (λ _ _ _ _ _=>rfl) (by
  rintro j i U u hj ⟨rfl,z,rfl⟩
  obtain⟨h4,rfl⟩:=ao8 hj;have o1:=bn7 (P:=P) n j (by lia) J G u;have o2:=bx8 (P:=P) (n+4) j (by omega) J G u;have Z:=cb9 u (bZ4 j m1 m2);rw[lV];refine⟨[a,b,c,d,e,some m1.d,some m2.d,some (.int j)],u,.inl ?_,rfl,_,rfl⟩;simp only[exs_cons,exs_nil,ex_ite,ex_ret,ev_var,ev_cst,ev_cmp,ev_call,evas_nil,evas_ex,Cn_bl,R.bind_ok,bindT_one,setV_s,setV_0,getV_0,getV_s,Option.map_some,qv,nxt_ret,tru_bl,if_false,Bool.false_eq_true,turn,o1,o2,Z])
 obtain⟨U',s',e1,rfl,z,rfl⟩:=key;refine⟨z,?_⟩;have Y:=al6 (s:=s') (i:=4) (by decide) (by decide);simp only[ex_for,ev_cst,evI_rng1,Cn_int,R.bind_ok,Y,e1]
def bS7 n {m1 m2:Mc}(h1:m1.Ok)(Z:m2.Ok) a b c x y z s :∃ G J F T,ex (aa0 P (n+6)) co9 [a,b,c,some m1.d,some m2.d,x,y,z] s=.ok (.next [a,b,c,some m1.d,some m2.d,G,J,F]) (s++T):=by
 have key:=am0 (ok:=λ a0=>chk (s++[.J [.tp [m1.d,m2.d],.tp [m2.d,m1.d],.tp [m1.d,m1.d],.tp [m2.d,m2.d],.tp [m1.d,m2.d]]]) a0 [s.length]) (g:=turn (aa0 P (n+6)) (.tp [5,6]) (.cons (.fo (.Y 7) (.rg (.K (.int 4))) ce1) .nil)) (λ j U u=>u=s++[.J [.tp [m1.d,m2.d],.tp [m2.d,m1.d],.tp [m1.d,m1.d],.tp [m2.d,m2.d],.tp [m1.d,m2.d]]]/\∃ G J F,U=[a,b,c,some m1.d,some m2.d,G,J,F]) [.tp [m1.d,m2.d],.tp [m2.d,m1.d],.tp [m1.d,m1.d],.tp [m2.d,m2.d],.tp [m1.d,m2.d]] 0 [a,b,c,some m1.d,some m2.d,x,y,z] _ ⟨rfl,x,y,z,rfl⟩ (λ _ _ _ _ h=>by rw[h.1];simp[chk]) (by
  rintro j d U u hj ⟨rfl,G,J,F,rfl⟩
  obtain⟨mA,Y,hA,hB,rfl⟩:∃ mA Y:Mc,mA.Ok/\Y.Ok/\d=.tp [mA.d,Y.d]:=by
   have:=aE hj;simp only[az,cK,or_false]at this;rcases this with rfl|rfl|rfl|rfl|rfl
   .exact⟨m1,m2,h1,Z,rfl⟩
   .exact⟨m2,m1,Z,h1,rfl⟩
   .exact⟨m1,m1,h1,h1,rfl⟩
   .exact⟨m2,m2,Z,Z,rfl⟩
   .exact⟨m1,m2,h1,Z,rfl⟩
  obtain⟨x2,e1⟩:=bW5 (P:=P) n hA hB a b c (some m1.d) (some m2.d) F (s++[.J [.tp [m1.d,m2.d],.tp [m2.d,m1.d],.tp [m1.d,m1.d],.tp [m2.d,m2.d],.tp [m1.d,m2.d]]]);refine⟨_,_,.inl ?_,rfl,some mA.d,some Y.d,x2,rfl⟩;show exs (aa0 P (n+6)) (.cons (.fo (.Y 7) (.rg (.K (.int 4))) ce1) .nil) [a,b,c,some m1.d,some m2.d,some mA.d,some Y.d,F] _=_;rw[az0 e1];rfl)
 obtain⟨U',s',e1,rfl,G,J,F,rfl⟩:=key;refine⟨G,J,F,[.J [.tp [m1.d,m2.d],.tp [m2.d,m1.d],.tp [m1.d,m1.d],.tp [m2.d,m2.d],.tp [m1.d,m2.d]]],?_⟩;have sq:ai2 (.ref s.length) (s++[.J [.tp [m1.d,m2.d],.tp [m2.d,m1.d],.tp [m1.d,m1.d],.tp [m2.d,m2.d],.tp [m1.d,m2.d]]])=.ok ⟨[.tp [m1.d,m2.d],.tp [m2.d,m1.d],.tp [m1.d,m1.d],.tp [m2.d,m2.d],.tp [m1.d,m2.d]],[s.length]⟩ (s++[.J [.tp [m1.d,m2.d],.tp [m2.d,m1.d],.tp [m1.d,m1.d],.tp [m2.d,m2.d],.tp [m1.d,m2.d]]]):=by simp only[ai2,cm9]
 simp only[ex_for,ev_var,ev_tup,ev_lst,evs_nil,evs_cons,evI_seq,R.bind_ok,getV_0,getV_s,alloc_eq,sq,e1]
def co6 [Has P ae0][Has P aG6][Has P af8][Has P ag6][Has P ai1] n :cs3 P (n+7):=by
 intro ns hl;have e0:(aa0 P (n+7)).call "law" [.ref 0] [.ro (ns.map D.int)]=_:=za ae0 rfl;rw[e0,cf4];have a3:([.ro (ns.map D.int)]:Sto)[0]?=some (.ro (ns.map D.int)):=rfl;have Y:=bD6 (P:=P) (n+5) ns 0 [.ro (ns.map D.int)] 0 a3 hl;generalize bS3 ns 0=b0 at Y;obtain⟨a,b1,ha,e1⟩:=qc (P:=P) (n+5) (s:=[.ro (ns.map D.int),zw b0]) (r:=1) ⟨b0,rfl⟩ 3 (by decide) (by decide);obtain⟨c,b2,hc,e2⟩:=qc (P:=P) (n+5) (s:=[.ro (ns.map D.int),zw b1]) (r:=1) ⟨b1,rfl⟩ 5 (by decide) (by decide);obtain⟨g,a1,a2,J⟩:=qc (P:=P) (n+5) (s:=[.ro (ns.map D.int),zw b2]) (r:=1) ⟨b2,rfl⟩ 4 (by decide) (by decide);obtain⟨m1,F,a4,a6,a7,a5,e3⟩:=aR5 (P:=P) (n+3) (L:=a+1) (Rm:=c+1) (M:=g) (s:=[.ro (ns.map D.int),zw a1]) (r:=1) (by lia) (by lia) (by lia) (by lia) (by lia) ⟨a1,rfl⟩;rw[show((a+1:Nat):Int)=1+(a:Int)by lia,show((c+1:Nat):Int)=1+(c:Int)by lia]at e3;have G:=bD6 (P:=P) (n+5) ns 1 [.ro (ns.map D.int),zw F] 0 rfl hl;generalize bS3 ns 1=b4 at G;obtain⟨f,b5,hf,e4⟩:=qc (P:=P) (n+5) (s:=[.ro (ns.map D.int),zw F,zw b4]) (r:=2) ⟨b4,rfl⟩ 3 (by decide) (by decide);obtain⟨a',b6,a8,e5⟩:=qc (P:=P) (n+5) (s:=[.ro (ns.map D.int),zw F,zw b5]) (r:=2) ⟨b5,rfl⟩ 3 (by decide) (by decide);simp at Y G e1 e2 J e3 e4 e5;have q:∀(L:Nat) (Z:Nat×Nat) (x3 x5 x6 x7:Option D),L<3->∃ m2:Mc,∃ b,m2.Ok/\ex (aa0 P (n+6)) (cb1 4) [some (.ref 0),some (.ref 2),some (.int (1+(L:Int))),x3,none,x5,x6,x7] [.ro (ns.map D.int),zw F,zw Z]=.ok (.next [some (.ref 0),some (.ref 2),some (.int (1+(L:Int))),x3,some m2.d,x5,x6,x7]) [.ro (ns.map D.int),zw F,zw b]:=λ L Z x3 x5 x6 x7 hL=>by
  obtain⟨c,c2,hc,e2⟩:=qc (P:=P) (n+5) (s:=[.ro (ns.map D.int),zw F,zw Z]) (r:=2) ⟨Z,rfl⟩ 5 (by decide) (by decide);obtain⟨g,c3,a2,J⟩:=qc (P:=P) (n+5) (s:=[.ro (ns.map D.int),zw F,zw c2]) (r:=2) ⟨c2,rfl⟩ 4 (by decide) (by decide);obtain⟨m2,c4,a0,_,_,_,e3⟩:=aR5 (P:=P) (n+3) (L:=L+1) (Rm:=c+1) (M:=g) (s:=[.ro (ns.map D.int),zw F,zw c3]) (r:=2) (by lia) (by lia) (by lia) (by lia) (by lia) ⟨c3,rfl⟩;rw[show((L+1:Nat):Int)=1+(L:Int)by lia,show((c+1:Nat):Int)=1+(c:Int)by lia]at e3;simp at e2 J e3;exact⟨m2,c4,a0,by simp only[ex_asg,ev_var,ev_cst,ev_bin,ev_call,evas_nil,evas_ex,Cn_int,R.bind_ok,bindT_one,setV_s,setV_0,getV_0,getV_s,Option.map_some,setC_some,add_int,e2,J,e3]⟩
 have fin:∀(L:Nat) (Z:Nat×Nat),L<3->Yes ((exs (aa0 P (n+6)) (.cons (cb1 4) (.cons co9 (.cons (.ret (.K (.T true))) .nil))) [some (.ref 0),some (.ref 2),some (.int (1+(L:Int))),some m1.d,none,none,none,none] [.ro (ns.map D.int),zw F,zw Z]).bind λ c s'=>match c with
   | .ret v=>zt [.ro (ns.map D.int)] v s'
   | .next _=>zt [.ro (ns.map D.int)] .N s'
   | _=>.B):=λ L Z hL=>by
  obtain⟨m2,b,a0,f1⟩:=q L Z (some m1.d) none none none hL;obtain⟨x',y',z',T,f2⟩:=bS7 (P:=P) n a4 a0 (some (.ref 0)) (some (.ref 2)) (some (.int (1+(L:Int)))) none none none [.ro (ns.map D.int),zw F,zw b];rw[az0 f1,az0 f2];exact ba2 _ _
 have q1:ex (aa0 P (n+6)) ci4 [some (.ref 0),none,none,none,none,none,none,none] [.ro (ns.map D.int)]=.ok (.next [some (.ref 0),some (.ref 1),none,none,none,none,none,none]) [.ro (ns.map D.int),zw b0]:=by simp only[ex_asg,ev_var,ev_cst,ev_call,evas_nil,evas_ex,Cn_int,R.bind_ok,bindT_one,setV_s,setV_0,getV_0,Option.map_some,setC_some,Y]
 have q2:ex (aa0 P (n+6)) bS8 [some (.ref 0),some (.ref 1),none,none,none,none,none,none] [.ro (ns.map D.int),zw b0]=.ok (.next [some (.ref 0),some (.ref 1),some (.int (1+(a:Int))),none,none,none,none,none]) [.ro (ns.map D.int),zw b1]:=by simp only[ex_asg,ev_var,ev_cst,ev_bin,ev_call,evas_nil,evas_ex,Cn_int,R.bind_ok,bindT_one,setV_s,setV_0,getV_0,getV_s,Option.map_some,setC_some,add_int,e1]
 have q3:ex (aa0 P (n+6)) (cb1 3) [some (.ref 0),some (.ref 1),some (.int (1+(a:Int))),none,none,none,none,none] [.ro (ns.map D.int),zw b1]=.ok (.next [some (.ref 0),some (.ref 1),some (.int (1+(a:Int))),some m1.d,none,none,none,none]) [.ro (ns.map D.int),zw F]:=by simp only[ex_asg,ev_var,ev_cst,ev_bin,ev_call,evas_nil,evas_ex,Cn_int,R.bind_ok,bindT_one,setV_s,setV_0,getV_0,getV_s,Option.map_some,setC_some,add_int,e2,J,e3]
 have q4:ex (aa0 P (n+6)) cf2 [some (.ref 0),some (.ref 1),some (.int (1+(a:Int))),some m1.d,none,none,none,none] [.ro (ns.map D.int),zw F]=.ok (.next [some (.ref 0),some (.ref 2),some (.int (1+(a:Int))),some m1.d,none,none,none,none]) [.ro (ns.map D.int),zw F,zw b4]:=by simp only[ex_asg,ev_var,ev_cst,ev_call,evas_nil,evas_ex,Cn_int,R.bind_ok,bindT_one,setV_s,setV_0,getV_0,Option.map_some,setC_some,G]
 show Yes ((exs (aa0 P (n+6)) _ [some (.ref 0),none,none,none,none,none,none,none] [.ro (ns.map D.int)]).bind _);rw[az0 q1,az0 q2,az0 q3,az0 q4];by_cases z:f=0
 .have c0:decide ((f:Int)=0)=true:=decide_eq_true (by lia);have q5:ex (aa0 P (n+6)) bF3 [some (.ref 0),some (.ref 2),some (.int (1+(a:Int))),some m1.d,none,none,none,none] [.ro (ns.map D.int),zw F,zw b4]=.ok (.next [some (.ref 0),some (.ref 2),some (.int (1+(a':Int))),some m1.d,none,none,none,none]) [.ro (ns.map D.int),zw F,zw b6]:=by simp only[exs_cons,exs_nil,ex_asg,ex_ite,ev_var,ev_cst,ev_bin,ev_cmp,ev_call,evas_nil,evas_ex,Cn_int,R.bind_ok,bindT_one,setV_s,setV_0,getV_0,getV_s,Option.map_some,setC_some,qv,add_int,zV,tru_bl,if_true,e4,zV,c0,e5]
  rw[az0 q5];exact fin a' b6 (by lia)
 .have c0:decide ((f:Int)=0)=false:=decide_eq_false (by lia);have q5:ex (aa0 P (n+6)) bF3 [some (.ref 0),some (.ref 2),some (.int (1+(a:Int))),some m1.d,none,none,none,none] [.ro (ns.map D.int),zw F,zw b4]=.ok (.next [some (.ref 0),some (.ref 2),some (.int (1+(a:Int))),some m1.d,none,none,none,none]) [.ro (ns.map D.int),zw F,zw b5]:=by simp only[exs_cons,exs_nil,ex_asg,ex_ite,ev_var,ev_cst,ev_bin,ev_cmp,ev_call,evas_nil,evas_ex,Cn_int,R.bind_ok,bindT_one,setV_s,setV_0,getV_0,getV_s,Option.map_some,setC_some,zV,tru_bl,if_false,Bool.false_eq_true,e4,zV,c0]
  rw[az0 q5];exact fin a b5 (by lia)
end
end DV
end
noncomputable section
namespace My
open PySem L2
noncomputable def top (i:Nat):Stmt:=PySem.Challenge.pw_leasttolls_k57_pairs_refused.main.body.getD i (.Pass ⟨0,0,0,0⟩)
noncomputable def ad7:List Str:=[]
abbrev s_letters_of:Stmt:=top 15
abbrev aw4:Stmt:=top 16
abbrev as9:Stmt:=top 17
abbrev aG8:Stmt:=top 18
abbrev ax8:Stmt:=top 19
abbrev ae9:Stmt:=top 21
abbrev ad9:Stmt:=top 22
abbrev ae2:Stmt:=top 23
abbrev ah3:Stmt:=top 24
abbrev aE9:Stmt:=top 25
abbrev aj0:Stmt:=top 26
abbrev am6:Stmt:=top 27
abbrev an1:Stmt:=top 28
abbrev ba5:Stmt:=top 29
abbrev ah9:Stmt:=top 30
abbrev ai7:Stmt:=top 31
abbrev ai6:Stmt:=top 32
abbrev s_lets_the_empty_word_by:Stmt:=top 33
abbrev ah7:Stmt:=top 34
abbrev bc2:Stmt:=top 36
abbrev bc5:Stmt:=top 37
abbrev cc7:Stmt:=top 39
abbrev at0:Stmt:=top 40
abbrev an4:Stmt:=top 41
abbrev cb6:Stmt:=top 42
abbrev aO5:Stmt:=top 43
abbrev ak0:Stmt:=top 45
abbrev at3:Stmt:=top 46
abbrev ai0:Stmt:=top 47
abbrev ax5:Stmt:=top 49
abbrev as5:Stmt:=top 50
abbrev an0:Stmt:=top 51
abbrev am4:Stmt:=top 52
abbrev am9:Stmt:=top 53
abbrev ag8:Stmt:=top 54
abbrev ah6:Stmt:=top 55
abbrev ag3:Stmt:=top 56
abbrev ai3:Stmt:=top 57
abbrev af4:Stmt:=top 58
abbrev af9:Stmt:=top 59
abbrev ah1:Stmt:=top 60
abbrev ax6:Stmt:=top 61
abbrev aC7:Stmt:=top 62
def tb:List (String×pX×Stmt):=[("letters_of",DV.aa4,s_letters_of),("rooms_of",DV.aa6,aw4),("begins_of",DV.ab1,as9),("ends_of",DV.ac1,aG8),("doors_of",DV.aa5,ax8),("check_pair",DV.aa7,ae9),("check_rooms",DV.aa8,ad9),("check_tolls",DV.ab9,ae2),("greatest_toll",DV.aa3,ah3),("brought",DV.ad3,aE9),("summed",DV.af6,aj0),("both_rooms",DV.ac4,am6),("both_doors",DV.ac3,an1),("moved",DV.ag2,ba5),("doors_beside",DV.ab4,ah9),("lesser",DV.af5,ai7),("behind",DV.af1,ai6),("lets_the_empty_word_by",DV.aa2,s_lets_the_empty_word_by),("doors_across",DV.ab8,ah7),("least",DV.ae3,bc2),("added",DV.ae4,bc5),("cut",DV.an9,cc7),("first_row",DV.ac7,at0),("least_into",DV.ab6,an4),("led",DV.aq9,cb6),("end_of",DV.ae7,aO5),("dearer",DV.af3,ak0),("is_dearer",DV.ac6,at3),("level_behind",DV.ab3,ai0),("_law_bag",DV.aG6,ax5),("_law_take",DV.af8,as5),("_law_rooms",DV.ag6,an0),("_law_sized",DV.ai1,am4),("_law_whole",DV.ad4,am9),("_law_are_rooms",DV.ad1,ag8),("_law_is_door",DV.ad0,ah6),("_law_is_machine",DV.ac0,ag3),("_law_made",DV.af2,af4),("_law_greatest",DV.ad6,ah1),("_law_due",DV.ac8,ax6),("law",DV.ae0,aC7)]
noncomputable def cp0:List (String×oD):=[("LETTERS",.tp [.str [97],.str [98],.str [99]]),("MOST_ROOMS",.int (5)),("MOST_TOLL",.int (3))]
noncomputable def cy0:List (String×DV.Lm):=[]
noncomputable def tbl:List (String×pX):=tb.map λ p=>(p.1,p.2.1)
def xtb:List (String×DV.Xf):=[("check_pair",DV.ab2),("check_rooms",DV.aa9),("check_tolls",DV.ab5),("summed",DV.ae6),("lesser",DV.ac2),("behind",DV.ac2),("dearer",DV.ae5),("_law_made",DV.ak3),("_law_kind",DV.am5)]
def ttb:List (String×rQ):=[("_law_outcome",DV.ab7)]
def dl:List (String×Stmt):=[("check_pair",ae9),("check_rooms",ad9),("check_tolls",ae2),("summed",aj0),("lesser",ai7),("behind",ai6),("dearer",ak0),("_law_made",af4),("_law_kind",ai3),("_law_outcome",af9)]
noncomputable def xcs:List String:=["NoPair", "TooMuch"]
noncomputable def xts:List String:=["NoMaking", "NoName", "NoPair", "NoPaper", "NoRow", "NoText", "NotSteady", "TollError", "TooLong", "TooMuch"]
noncomputable def P:oU:=⟨λ f=>tbl.lookup f,λ f=>cy0.lookup f,λ x=>cp0.lookup x,λ f=>xtb.lookup f,λ f=>ttb.lookup f,λ c=>xcs.contains c,λ c=>xts.contains c,λ _=>none⟩
instance:DV.HasX P "check_pair" DV.ab2:=⟨rfl⟩
instance:DV.HasX P "check_rooms" DV.aa9:=⟨rfl⟩
instance:DV.HasX P "check_tolls" DV.ab5:=⟨rfl⟩
instance:DV.HasX P "summed" DV.ae6:=⟨rfl⟩
instance:DV.HasX P "lesser" DV.ac2:=⟨rfl⟩
instance:DV.HasX P "behind" DV.ac2:=⟨rfl⟩
instance:DV.HasX P "dearer" DV.ae5:=⟨rfl⟩
instance:DV.HasX P "_law_made" DV.ak3:=⟨rfl⟩
instance:DV.HasX P "_law_kind" DV.am5:=⟨rfl⟩
instance:DV.HasT P "_law_outcome" DV.ab7:=⟨rfl,rfl⟩
instance:DV.HasE P "NoPair" ["NoMaking", "NoName", "NoPair", "NoPaper", "NoRow", "NoText", "NotSteady", "TollError", "TooLong", "TooMuch"]:=⟨rfl,by decide⟩
instance:DV.HasE P "TooMuch" ["NoMaking", "NoName", "NoPair", "NoPaper", "NoRow", "NoText", "NotSteady", "TollError", "TooLong", "TooMuch"]:=⟨rfl,by decide⟩
instance:DV.HasC P "LETTERS" (.tp [.str [97],.str [98],.str [99]]):=⟨rfl⟩
instance:DV.HasC P "MOST_ROOMS" (.int (5)):=⟨rfl⟩
instance:DV.HasC P "MOST_TOLL" (.int (3)):=⟨rfl⟩
instance:DV.Has P DV.aa4:=⟨rfl⟩
instance:DV.Has P DV.aa6:=⟨rfl⟩
instance:DV.Has P DV.ab1:=⟨rfl⟩
instance:DV.Has P DV.ac1:=⟨rfl⟩
instance:DV.Has P DV.aa5:=⟨rfl⟩
instance:DV.Has P DV.aa7:=⟨rfl⟩
instance:DV.Has P DV.aa8:=⟨rfl⟩
instance:DV.Has P DV.ab9:=⟨rfl⟩
instance:DV.Has P DV.aa3:=⟨rfl⟩
instance:DV.Has P DV.ad3:=⟨rfl⟩
instance:DV.Has P DV.af6:=⟨rfl⟩
instance:DV.Has P DV.ac4:=⟨rfl⟩
instance:DV.Has P DV.ac3:=⟨rfl⟩
instance:DV.Has P DV.ag2:=⟨rfl⟩
instance:DV.Has P DV.ab4:=⟨rfl⟩
instance:DV.Has P DV.af5:=⟨rfl⟩
instance:DV.Has P DV.af1:=⟨rfl⟩
instance:DV.Has P DV.aa2:=⟨rfl⟩
instance:DV.Has P DV.ab8:=⟨rfl⟩
instance:DV.Has P DV.ae3:=⟨rfl⟩
instance:DV.Has P DV.ae4:=⟨rfl⟩
instance:DV.Has P DV.an9:=⟨rfl⟩
instance:DV.Has P DV.ac7:=⟨rfl⟩
instance:DV.Has P DV.ab6:=⟨rfl⟩
instance:DV.Has P DV.aq9:=⟨rfl⟩
instance:DV.Has P DV.ae7:=⟨rfl⟩
instance:DV.Has P DV.af3:=⟨rfl⟩
instance:DV.Has P DV.ac6:=⟨rfl⟩
instance:DV.Has P DV.ab3:=⟨rfl⟩
instance:DV.Has P DV.aG6:=⟨rfl⟩
instance:DV.Has P DV.af8:=⟨rfl⟩
instance:DV.Has P DV.ag6:=⟨rfl⟩
instance:DV.Has P DV.ai1:=⟨rfl⟩
instance:DV.Has P DV.ad4:=⟨rfl⟩
instance:DV.Has P DV.ad1:=⟨rfl⟩
instance:DV.Has P DV.ad0:=⟨rfl⟩
instance:DV.Has P DV.ac0:=⟨rfl⟩
instance:DV.Has P DV.af2:=⟨rfl⟩
instance:DV.Has P DV.ad6:=⟨rfl⟩
instance:DV.Has P DV.ac8:=⟨rfl⟩
instance:DV.Has P DV.ae0:=⟨rfl⟩
def aH3:DT ad7 P "letters_of" DV.aa4 s_letters_of:=⟨["machine"],["machine"],Zsc,rfl,rfl,λ _ _ _ _ _ _=>bd1 (λ _=>rfl),.inl (by decide +kernel)⟩
def aW1:DT ad7 P "rooms_of" DV.aa6 aw4:=⟨["machine"],["machine"],Zsc,rfl,rfl,λ _ _ _ _ _ _=>bd1 (λ _=>rfl),.inl (by decide +kernel)⟩
def aM5:DT ad7 P "begins_of" DV.ab1 as9:=⟨["machine"],["machine"],Zsc,rfl,rfl,λ _ _ _ _ _ _=>bd1 (λ _=>rfl),.inl (by decide +kernel)⟩
def bg2:DT ad7 P "ends_of" DV.ac1 aG8:=⟨["machine"],["machine"],Zsc,rfl,rfl,λ _ _ _ _ _ _=>bd1 (λ _=>rfl),.inl (by decide +kernel)⟩
def aV9:DT ad7 P "doors_of" DV.aa5 ax8:=⟨["machine"],["machine"],Zsc,rfl,rfl,λ _ _ _ _ _ _=>bd1 (λ _=>rfl),.inl (by decide +kernel)⟩
def aE7:DT ad7 P "check_pair" DV.aa7 ae9:=⟨["one", "other"],["one", "other"],Zsc,rfl,rfl,λ _ _ _ _ _ _=>bd2 (λ _ _=>rfl),.inl (by decide +kernel)⟩
def az7:DT ad7 P "check_rooms" DV.aa8 ad9:=⟨["rooms"],["rooms"],Zsc,rfl,rfl,λ _ _ _ _ _ _=>bd1 (λ _=>rfl),.inl (by decide +kernel)⟩
def ay7:DT ad7 P "check_tolls" DV.ab9 ae2:=⟨["one", "other"],["one", "other"],Zsc,rfl,rfl,λ _ _ _ _ _ _=>bd2 (λ _ _=>rfl),.inl (by decide +kernel)⟩
def as1:DT ad7 P "greatest_toll" DV.aa3 ah3:=⟨["machine"],["machine"],Zsc,rfl,rfl,λ _ _ _ _ _ _=>bd1 (λ _=>rfl),.inl (by decide +kernel)⟩
def bd6:DT ad7 P "brought" DV.ad3 aE9:=⟨["one", "rooms", "begins", "ends", "doors", "fees", "start", "letter", "goal", "fee", "way"],["one", "rooms", "begins", "ends", "doors"],Zsc,rfl,rfl,λ _ _ _ _ _ _=>bd5 (λ _ _ _ _ _=>rfl),.inl (by decide +kernel)⟩
def bt7:DT ad7 P "summed" DV.af6 aj0:=⟨["one", "other", "wide", "begins", "ends"],["one", "other"],Zsc,rfl,rfl,λ _ _ _ _ _ _=>bd2 (λ _ _=>rfl),.inl (by decide +kernel)⟩
def aE1:DT ad7 P "both_rooms" DV.ac4 am6:=⟨["rooms", "other_rooms", "wide", "found", "room"],["rooms", "other_rooms", "wide"],Zsc,rfl,rfl,λ _ _ _ _ _ _=>bd3 (λ _ _ _=>rfl),.inl (by decide +kernel)⟩
def aF9:DT ad7 P "both_doors" DV.ac3 an1:=⟨["one", "other", "wide", "found", "start", "letter", "goal", "fee"],["one", "other", "wide"],Zsc,rfl,rfl,λ _ _ _ _ _ _=>bd3 (λ _ _ _=>rfl),.inl (by decide +kernel)⟩
def bF4:DT ad7 P "moved" DV.ag2 ba5:=⟨["rooms", "by"],["rooms", "by"],Zsc,rfl,rfl,λ _ _ _ _ _ _=>bd2 (λ _ _=>rfl),.inl (by decide +kernel)⟩
def au6:DT ad7 P "doors_beside" DV.ab4 ah9:=⟨["one", "other", "by", "moved_doors"],["one", "other"],Zsc,rfl,rfl,λ _ _ _ _ _ _=>bd2 (λ _ _=>rfl),.inl (by decide +kernel)⟩
def bu9:DT ad7 P "lesser" DV.af5 ai7:=⟨["one", "other", "by", "begins", "ends"],["one", "other"],Zsc,rfl,rfl,λ _ _ _ _ _ _=>bd2 (λ _ _=>rfl),.inl (by decide +kernel)⟩
def br3:DT ad7 P "behind" DV.af1 ai6:=⟨["one", "other", "by", "ends", "doors"],["one", "other"],Zsc,rfl,rfl,λ _ _ _ _ _ _=>bd2 (λ _ _=>rfl),.inl (by decide +kernel)⟩
def qD:DT ad7 P "lets_the_empty_word_by" DV.aa2 s_lets_the_empty_word_by:=⟨["machine"],["machine"],Zsc,rfl,rfl,λ _ _ _ _ _ _=>bd1 (λ _=>rfl),.inl (by decide +kernel)⟩
def av6:DT ad7 P "doors_across" DV.ab8 ah7:=⟨["one", "other", "by", "found", "start", "letter", "goal", "fee"],["one", "other"],Zsc,rfl,rfl,λ _ _ _ _ _ _=>bd2 (λ _ _=>rfl),.inl (by decide +kernel)⟩
def bP6:DT ad7 P "least" DV.ae3 bc2:=⟨["prices"],["prices"],Zsc,rfl,rfl,λ _ _ _ _ _ _=>bd1 (λ _=>rfl),.inl (by decide +kernel)⟩
def bH2:DT ad7 P "added" DV.ae4 bc5:=⟨["one", "other"],["one", "other"],Zsc,rfl,rfl,λ _ _ _ _ _ _=>bd2 (λ _ _=>rfl),.inl (by decide +kernel)⟩
def ct3:DT ad7 P "cut" DV.an9 cc7:=⟨["price", "k"],["price", "k"],Zsc,rfl,rfl,λ _ _ _ _ _ _=>bd2 (λ _ _=>rfl),.inl (by decide +kernel)⟩
def aJ5:DT ad7 P "first_row" DV.ac7 at0:=⟨["machine", "begins"],["machine"],Zsc,rfl,rfl,λ _ _ _ _ _ _=>bd1 (λ _=>rfl),.inl (by decide +kernel)⟩
def aI2:DT ad7 P "least_into" DV.ab6 an4:=⟨["machine", "row", "letter", "room"],["machine", "row", "letter", "room"],Zsc,rfl,rfl,λ _ _ _ _ _ _=>bd4 (λ _ _ _ _=>rfl),.inl (by decide +kernel)⟩
def ct9:DT ad7 P "led" DV.aq9 cb6:=⟨["machine", "k", "row", "letter"],["machine", "k", "row", "letter"],Zsc,rfl,rfl,λ _ _ _ _ _ _=>bd4 (λ _ _ _ _=>rfl),.inl (by decide +kernel)⟩
def bs9:DT ad7 P "end_of" DV.ae7 aO5:=⟨["machine", "row"],["machine", "row"],Zsc,rfl,rfl,λ _ _ _ _ _ _=>bd2 (λ _ _=>rfl),.inl (by decide +kernel)⟩
def bp1:DT ad7 P "dearer" DV.af3 ak0:=⟨["one", "other", "times", "long", "most", "start", "level", "seen", "left", "word", "rows"],["one", "other", "times", "long"],Zsc,rfl,rfl,λ _ _ _ _ _ _=>bd4 (λ _ _ _ _=>rfl),.inl (by decide +kernel)⟩
def aJ2:DT ad7 P "is_dearer" DV.ac6 at3:=⟨["price", "other_price", "times"],["price", "other_price", "times"],Zsc,rfl,rfl,λ _ _ _ _ _ _=>bd3 (λ _ _ _=>rfl),.inl (by decide +kernel)⟩
def av0:DT ad7 P "level_behind" DV.ab3 ai0:=⟨["one", "other", "most", "level", "seen", "found", "word", "rows", "letter", "fresh"],["one", "other", "most", "level", "seen"],Zsc,rfl,rfl,λ _ _ _ _ _ _=>bd5 (λ _ _ _ _ _=>rfl),.inl (by decide +kernel)⟩
def aY3:DT ad7 P "_law_bag" DV.aG6 ax5:=⟨["_law_script", "_law_at", "_law_cell", "_law_mix", "_law_k"],["_law_script", "_law_at"],Zsc,rfl,rfl,λ _ _ _ _ _ _=>bd2 (λ _ _=>rfl),.inl (by decide +kernel)⟩
def aM2:DT ad7 P "_law_take" DV.af8 as5:=⟨["_law_bag_here", "_law_many", "_law_digit", "_law_number", "_law_room"],["_law_bag_here", "_law_many"],Zsc,rfl,rfl,λ _ _ _ _ _ _=>bd2 (λ _ _=>rfl),.inl (by decide +kernel)⟩
def aD4:DT ad7 P "_law_rooms" DV.ag6 an0:=⟨["_law_bag_here", "_law_many", "_law_bits"],["_law_bag_here", "_law_many"],Zsc,rfl,rfl,λ _ _ _ _ _ _=>bd2 (λ _ _=>rfl),.inl (by decide +kernel)⟩
def aC8:DT ad7 P "_law_sized" DV.ai1 am4:=⟨["_law_bag_here", "_law_letters", "_law_rooms_here", "_law_most", "_law_many", "_law_doors", "_law_k", "_law_start", "_law_letter"],["_law_bag_here", "_law_letters", "_law_rooms_here", "_law_most"],Zsc,rfl,rfl,λ _ _ _ _ _ _=>bd4 (λ _ _ _ _=>rfl),.inl (by decide +kernel)⟩
def aD9:DT ad7 P "_law_whole" DV.ad4 am9:=⟨["_law_thing", "_law_low", "_law_high"],["_law_thing", "_law_low", "_law_high"],Zsc,rfl,rfl,λ _ _ _ _ _ _=>bd3 (λ _ _ _=>rfl),.inl (by decide +kernel)⟩
def an8:DT ad7 P "_law_are_rooms" DV.ad1 ag8:=⟨["_law_thing", "_law_rooms_here", "_law_ahead", "_law_room"],["_law_thing", "_law_rooms_here"],Zsc,rfl,rfl,λ _ _ _ _ _ _=>bd2 (λ _ _=>rfl),.inl (by decide +kernel)⟩
def av8:DT ad7 P "_law_is_door" DV.ad0 ah6:=⟨["_law_thing", "_law_letters", "_law_rooms_here"],["_law_thing", "_law_letters", "_law_rooms_here"],Zsc,rfl,rfl,λ _ _ _ _ _ _=>bd3 (λ _ _ _=>rfl),.inl (by decide +kernel)⟩
def al4:DT ad7 P "_law_is_machine" DV.ac0 ag3:=⟨["_law_thing", "_law_letters"],["_law_thing", "_law_letters"],Zsc,rfl,rfl,λ _ _ _ _ _ _=>bd2 (λ _ _=>rfl),.inl (by decide +kernel)⟩
def aN2:DT ad7 P "_law_made" DV.af2 af4:=⟨["_law_way", "_law_one", "_law_other"],["_law_way", "_law_one", "_law_other"],Zsc,rfl,rfl,λ _ _ _ _ _ _=>bd3 (λ _ _ _=>rfl),.inl (by decide +kernel)⟩
def as0:DT ad7 P "_law_greatest" DV.ad6 ah1:=⟨["_law_machine"],["_law_machine"],Zsc,rfl,rfl,λ _ _ _ _ _ _=>bd1 (λ _=>rfl),.inl (by decide +kernel)⟩
def aV3:DT ad7 P "_law_due" DV.ac8 ax6:=⟨["_law_way", "_law_one", "_law_other"],["_law_way", "_law_one", "_law_other"],Zsc,rfl,rfl,λ _ _ _ _ _ _=>bd3 (λ _ _ _=>rfl),.inl (by decide +kernel)⟩
def bA3:FnScope ["_law_script", "_law_bag_here", "_law_letters", "_law_one", "_law_other", "_law_mine", "_law_yours", "_law_way"] ["_law_script"] (defScope aC7):=Zsc
def cg4:mSs ⟨["_law_script", "_law_bag_here", "_law_letters", "_law_one", "_law_other", "_law_mine", "_law_yours", "_law_way"],defScope aC7,λ _ _ _=>false⟩ DV.ae0.body (zB aC7)=true:=by decide +kernel
def bU7:cx3 "law" aC7 ["_law_script"]:=λ _ _ _ _ _ _=>bd1 λ _=>rfl
def ct0:DT ad7 P "law" DV.ae0 aC7:=⟨_,_,bA3,rfl,rfl,bU7,.inl cg4⟩
def aE6:DTB ad7 P "check_pair" DV.ab2.ps DV.ab2.vs (λ z S=>mX z DV.ab2.body S) ae9:=⟨["one", "other"],["one", "other"],Zsc,rfl,rfl,λ _ _ _ _ _ _=>bd2 (λ _ _=>rfl),.inl (by decide +kernel)⟩
def ay2:DTB ad7 P "check_rooms" DV.aa9.ps DV.aa9.vs (λ z S=>mX z DV.aa9.body S) ad9:=⟨["rooms"],["rooms"],Zsc,rfl,rfl,λ _ _ _ _ _ _=>bd1 (λ _=>rfl),.inl (by decide +kernel)⟩
def aA6:DTB ad7 P "check_tolls" DV.ab5.ps DV.ab5.vs (λ z S=>mX z DV.ab5.body S) ae2:=⟨["one", "other"],["one", "other"],Zsc,rfl,rfl,λ _ _ _ _ _ _=>bd2 (λ _ _=>rfl),.inl (by decide +kernel)⟩
def bt2:DTB ad7 P "summed" DV.ae6.ps DV.ae6.vs (λ z S=>mX z DV.ae6.body S) aj0:=⟨["one", "other", "wide", "begins", "ends"],["one", "other"],Zsc,rfl,rfl,λ _ _ _ _ _ _=>bd2 (λ _ _=>rfl),.inl (by decide +kernel)⟩
def bt3:DTB ad7 P "lesser" DV.ac2.ps DV.ac2.vs (λ z S=>mX z DV.ac2.body S) ai7:=⟨["one", "other", "by", "begins", "ends"],["one", "other"],Zsc,rfl,rfl,λ _ _ _ _ _ _=>bd2 (λ _ _=>rfl),.inl (by decide +kernel)⟩
def bt1:DTB ad7 P "behind" DV.ac2.ps DV.ac2.vs (λ z S=>mX z DV.ac2.body S) ai6:=⟨["one", "other", "by", "ends", "doors"],["one", "other"],Zsc,rfl,rfl,λ _ _ _ _ _ _=>bd2 (λ _ _=>rfl),.inl (by decide +kernel)⟩
def bx2:DTB ad7 P "dearer" DV.ae5.ps DV.ae5.vs (λ z S=>mX z DV.ae5.body S) ak0:=⟨["one", "other", "times", "long", "most", "start", "level", "seen", "left", "word", "rows"],["one", "other", "times", "long"],Zsc,rfl,rfl,λ _ _ _ _ _ _=>bd4 (λ _ _ _ _=>rfl),.inl (by decide +kernel)⟩
def aN0:DTB ad7 P "_law_made" DV.ak3.ps DV.ak3.vs (λ z S=>mX z DV.ak3.body S) af4:=⟨["_law_way", "_law_one", "_law_other"],["_law_way", "_law_one", "_law_other"],Zsc,rfl,rfl,λ _ _ _ _ _ _=>bd3 (λ _ _ _=>rfl),.inl (by decide +kernel)⟩
def aJ3:DTB ad7 P "_law_kind" DV.am5.ps DV.am5.vs (λ z S=>mX z DV.am5.body S) ai3:=⟨["_law_e", "_law_kinds"],["_law_e"],Zsc,rfl,rfl,λ _ _ _ _ _ _=>bd1 (λ _=>rfl),.inl (ch3 ⟨_,_,_,_,_,_,_,_,_,_,_,_,_,_,_,_,_,_,_,_,_,_,_,_,_,_,_,_,_,_,_,_,_,_,_,_,_,_,_,_,_,_,_,_,_,_,_,_,rfl,rfl,by decide +kernel⟩)⟩
def au7:DTB ad7 P "_law_outcome" DV.ab7.ps DV.ab7.vs (λ z S=>mT z DV.ab7 S) af9:=⟨["_law_way", "_law_one", "_law_other", "_law_found", "_law_e"],["_law_way", "_law_one", "_law_other"],Zsc,rfl,rfl,λ _ _ _ _ _ _=>bd3 (λ _ _ _=>rfl),.inl (by decide +kernel)⟩
def fmc {α:Type}{P:α->Prop}{a}{l}(h:P a)(t:∀ x∈l,P x):∀ x∈a::l,P x:=List.forall_mem_cons.mpr ⟨h,t⟩
def fmn {α:Type}{P:α->Prop}:∀ x∈([]),P x:=λ _ h=>nomatch h
def cn5:∀ p∈tb,DT ad7 P p.1 p.2.1 p.2.2:=by
 unfold tb;exact fmc aH3 (fmc aW1 (fmc aM5 (fmc bg2 (fmc aV9 (fmc aE7 (fmc az7 (fmc ay7 (fmc as1 (fmc bd6 (fmc bt7 (fmc aE1 (fmc aF9 (fmc bF4 (fmc au6 (fmc bu9 (fmc br3 (fmc qD (fmc av6 (fmc bP6 (fmc bH2 (fmc ct3 (fmc aJ5 (fmc aI2 (fmc ct9 (fmc bs9 (fmc bp1 (fmc aJ2 (fmc av0 (fmc aY3 (fmc aM2 (fmc aD4 (fmc aC8 (fmc aD9 (fmc an8 (fmc av8 (fmc al4 (fmc aN2 (fmc as0 (fmc aV3 (fmc ct0 fmn))))))))))))))))))))))))))))))))))))))))
def bT9 {l:eG}{mg:yC}(X:K.In h)(G:h.Ns bu mg)(a5:mg "law"=some (.ref fa))(hD:∀ p∈tb,cm1 K p.1 p.2.2)(hz:∀ x∈bNames,cR K bu x=some none)
  {a3:yI} {a2:yE} (gc_LETTERS:cR K bu "LETTERS"=some (some (.ref z))) (gl_LETTERS:K.lookup z=some ⟨.type "tuple",a3,.seq #[.str ⟨#[97]⟩ Z,.str ⟨#[98]⟩ a1,.str ⟨#[99]⟩ a0] a4,a2⟩)
  (gc_MOST_ROOMS:cR K bu "MOST_ROOMS"=some (some (.int (5) J)))
  (gc_MOST_TOLL:cR K bu "MOST_TOLL"=some (some (.int (3) Y)))
  (hT:∀ x∈ad7,(bN K x).isSome=true) (tnd:decide (((bR2 ad7 K).map (·.1)).Nodup)=true) (hDx:∀ p∈dl,cm1 K p.1 p.2) (hcl:bN2 K xcs xts=true)
  : ∃ fd:cw,(∀(s:ag) (v:Value),mY s fd ⟨[v],[]⟩ [("_law_script",v)])/\∀ base:Heap,K.In base->base.Ns bu mg->BM mg base->bO2 K ad7 base->FnOk l.prog w K mg base CX0 45 fa fd ["_law_script"] (spB ad7 K):=by
 have hP:PrOk (bP1 ad7 P K) (ci5 ad7 K) P mg w:=by
  refine⟨λ f d h=>aT2 (tbl:=tbl) (λ p hp=>?_) f d h,λ x d h=>bm0 (tbl:=cp0) ?_ x d h,λ x hx=>lC X G (hz x hx),ct6 X G,trivial,of_decide_eq_true tnd,aL1 (tbl:=xtb) (λ p hp=>?_),aL1 (tbl:=ttb) (λ p hp=>?_),(ar8 X G hcl).1,(ar8 X G hcl).2.1,(ar8 X G hcl).2.2.1,(ar8 X G hcl).2.2.2.1,(ar8 X G hcl).2.2.2.2.1,(ar8 X G hcl).2.2.2.2.2.1,(ar8 X G hcl).2.2.2.2.2.2,λ _ _ h=>(by cases h)⟩
  .obtain⟨r,hr,rfl⟩:=ay.mp hp;exact good_of X G hT (hD r hr) (cn5 r hr)
  .unfold cp0;refine fmc ?_ (fmc ?_ (fmc ?_ fmn))
   .exact bL5 (cL X G gc_LETTERS) gl_LETTERS rfl rfl (show 3<=1000 by decide) (.cons (.str _ _ (by decide)) (.cons (.str _ _ (by decide)) (.cons (.str _ _ (by decide)) (.nil))))
   .exact bj9 (cL X G gc_MOST_ROOMS)
   .exact bj9 (cL X G gc_MOST_TOLL)
  .revert p hp;unfold xtb;exact fmc (ae1 X G hT (hDx ("check_pair",ae9) (aE (i:=0) rfl)) aE6) (fmc (ae1 X G hT (hDx ("check_rooms",ad9) (aE (i:=1) rfl)) ay2) (fmc (ae1 X G hT (hDx ("check_tolls",ae2) (aE (i:=2) rfl)) aA6) (fmc (ae1 X G hT (hDx ("summed",aj0) (aE (i:=3) rfl)) bt2) (fmc (ae1 X G hT (hDx ("lesser",ai7) (aE (i:=4) rfl)) bt3) (fmc (ae1 X G hT (hDx ("behind",ai6) (aE (i:=5) rfl)) bt1) (fmc (ae1 X G hT (hDx ("dearer",ak0) (aE (i:=6) rfl)) bx2) (fmc (ae1 X G hT (hDx ("_law_made",af4) (aE (i:=7) rfl)) aN0) (fmc (ae1 X G hT (hDx ("_law_kind",ai3) (aE (i:=8) rfl)) aJ3) fmn))))))))
  .revert p hp;unfold ttb;exact fmc (ae1 X G hT (hDx ("_law_outcome",af9) (aE (i:=9) rfl)) au7) fmn
 obtain⟨f,od,an,sl,oc,kV,dc,pm,cd,ct,a,l0,c,k⟩:=hD ("law",DV.ae0,aC7) (aE (i:=40) rfl);have e:=a5.symm.trans (cL X G a);cases e;have F:=bA2 (st:=aC7) l0 c k;refine⟨_,λ s v=>.of_eq rfl,λ base _ _ bm hk=>(bU1 hP (by7 hT bm hk) 13 (bG6 hP (by7 hT bm hk) 13) (d:=DV.ae0) (f := "law") rfl ⟨F,cL X G a,F.binds bU7⟩ bA3 rfl rfl cg4 bk9).imp (λ vs H Q E q=>bY0 (λ ns h=>DV.co6 (P:=P) 7 ns h) vs H Q E (bq3 hT q))⟩
end My
end
end
end
end Internal
open Internal
open PySem PySem.W PyProof.Rows
set_option maxRecDepth 100000 in
set_option maxHeartbeats 0 in
theorem PySem.Challenge.cw_leasttolls_k57_pairs_refused_holds : PySem.Challenge.rw_leasttolls_k57_pairs_refused.Holds := by
 refine My.GT0.2.2.2 My.left2 My.left5 ?_
 delta My.GT0
 dsimp only
 k_fill
 refine L2.bk4 (l:=PySem.Challenge.rw_leasttolls_k57_pairs_refused) (n:=63) (k:=45) (x := "_law_script") (sp:=L2.spB My.ad7) My.ad7 rfl (by decide) rfl ⟨rfl,by decide,by decide⟩ (ts:=[]) (λ w h Y=>⟨PySem.W.kIn_of Y,λ _ hP=>absurd hP (cK)⟩) (λ w=>?R) (λ w=>?NT) ?F (λ K H a ns hl hB hS hF=>L2.cd4 hl hB hS hF)
 case R=>kernel_rfl
 case NT=>kernel_rfl
 case F =>
  intro w mg fa h KX G hmg
  refine' My.bT9 KX G hmg ?hD ?hz ?gc_LETTERS ?gl_LETTERS ?gc_MOST_ROOMS ?gc_MOST_TOLL ?hT ?tnd ?hDx ?hcl
  case hD=>unfold My.tb;repeat' first|exact My.fmn|refine My.fmc ?_ ?_|(dsimp only;exact ⟨_,_,_,_,_,_,_,_,_,_,by k_is,by k_is,by k_is,by k_is⟩)
  case hz=>unfold L2.bNames;repeat' first|exact My.fmn|refine My.fmc ?_ ?_|k_is
  (case gc_LETTERS=>k_is)
  (case gl_LETTERS=>k_is)
  (case gc_MOST_ROOMS=>k_is)
  (case gc_MOST_TOLL=>k_is)
  case hT =>
   intro x hx;cases hx
  (case tnd=>kernel_rfl)
  case hDx=>unfold My.dl;repeat' first|exact My.fmn|refine My.fmc ?_ ?_|(dsimp only;exact ⟨_,_,_,_,_,_,_,_,_,_,by k_is,by k_is,by k_is,by k_is⟩)
  (case hcl=>kernel_rfl)
